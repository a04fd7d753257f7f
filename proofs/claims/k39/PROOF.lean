import PyProof.Rows.All
import Wide.All
import OpenK.AllK
import Wide.FinOn
import Lean
import PyProof.EqAt
import PyProof.EqKinds
import PyProof.TupleCall
import PyProof.P3Eq
import PyProof.NeKinds
import PyProof.NeData
import PyProof.ZipIter
import PyProof.EnumMake
import PyProof.EnumFor
import OpenK.KTop
import PyProof.IsRules
import PyProof.AttrMissHeap
import PyProof.DictUpdate
import KE.KDictOf
import PyProof.Rows.SortStr
import PyProof.FString5
import PyProof.StrOps
import PyProof.ListRange
import PyProof.TupleOfGen
import PyProof.Rows.SumAny
import PyProof.Rows.CallKwBuiltin
import PyProof.StrLoop
import PyProof.StrWalks
import PyProof.StrOps2
import PyProof.SliceStr2
import PyProof.StrBlockI
import PyProof.StrLaws
import PyProof.StrBlock
import PyProof.StrBlockL
import PyProof.StrCalls2
import KE.KStrOpen
import KE.KDictList
import PyProof.DictValues
import PyProof.DictTruth
import PySem.Challenge.RW_swellways_k39_stories
set_option Elab.async false
set_option linter.all false
set_option maxRecDepth 100000
set_option maxHeartbeats 4000000
def zzS (t:String):Lean.MacroM (Lean.TSyntax `tactic):=do
 let a←(t.splitOn " ").toArray.mapM fun s=>if s.startsWith "↓" then `(Lean.Parser.Tactic.simpLemma| ↓ $(Lean.mkIdent (s.drop 1).toString.toName):term) else `(Lean.Parser.Tactic.simpLemma| $(Lean.mkIdent s.toName):term)
 `(tactic| try simp only [$a,*])
open PySem.Str renaming ofString → OF
open PySem.W renaming Frag → UH, mg_of → V6, mg_none_of → Wi, kia_one → WN, kia_tup → Xq, fnOf → XQ, keepIn → Yp, methodObj → Zk, kitx_list → Zm, cellsFrom_some → Z0, OpenLaw → zad, codeIn → zau, kitx_tuple → zbg, kitx_none → zby, kitx_bool → zbz, plainGet → zbR, kitx_int → zbV, kitx_str → zbW, instObj → zcd, kitOne → zcu, kitAny → zcB, WalkO → zcI, mg_of → zcJ, nsIn → zcS
open PySem renaming wpAny_bind → UI, Value → UK, Shared → UN, wpAny_pure → UQ, starEach → UX, FuncData → U8, wpAny → U9, model → Vb, Expr → Ve, Program → Vn, foldedSetIterable → Vx, World → VB, wpAny_field → VD, wpAny_setField_rec → VI, wpAny_callSpecial?_slot → VO, wpAny_newObj_type → VR, Around → VX, eval → V8, wpAny_mono → V9, wpAny_seqItems → Wa, bootBuiltins → Wc, mem_of_lookup → Wf, mainGlobals → Wo, wpAny_call_entry → Wq, backTo → Wu, assignEach → Wv, IsPair → Wz, wpAny_truthy_bool → WK, wpAny_passesOwn → W4, IsZip → W6, plainId_quiet → Xb, swapsWith → Xd, binaryOp → Xe, compareOp → Xf, wpAny_rule → Xk, behindInMarks → Xs, wpAny_holding → Xt, wpAny_pyIter_list → Xx, codeAny → Xy, sysModules → XA, wpAny_updateSeq_pair → XE, wpAny_letGo → XF, wpAny_tryCatch → XI, wpAny_updateSeq → X4, pyNext → X6, wpAny_Call_Name_kw → X8, keywordEach → Ye, sliceBounds → Yg, Keyword → Yq, argBest → Yx, attributeBase → YI, Builtin → YJ, NameKind → YK, intItems → YS, wpAny_execs_nil → YT, letOwnedTupleGo → YU, wpAny_loadPart' → Y1, getItem → Y3, rawInt → Za, call_meets → Ze, Paired → Zt, swapsWithSole → Zu, swappedStores → Zv, wpAny_standAt → Zw, intBits_le_64 → Zx, wpAny_attempt → ZA, wpAny_onRaise → ZC, backToKw → ZG, noFill_tuple_add → ZI, holding → ZY, wpAny_pyNext_list_item → ZZ, concat_meets → Z1, callerA → Z4, IsEnum → zaa, codeAny_builtin → zaj, wpAny_pyNext_list_end → zam, wpAny_loadName_local → zaq, assign → zar, Operator → zas, sizeLine_eq → zat, subscripted → zav, field → zaw, tupleKind → zaK, seqIndex? → zaL, valueAt → zaM, seqItems? → zaN, wpAny_loadName_cell → zaO, call → zaP, assignInOrder → zaW, seq_tuple_add → zaX, tupleKind_room_in1 → zbf, wpAny_pyIter_tuple → zbi, getattributeRaised → zbl, BindsTo → zbs, codeAny_mono → zbt, wpAny_sequenceKey → zbu, slot_list_getitem → zbv, wpAny_pyIter_enum → zbN, wpAny_execs_cons → zbP, PassesOwn → zbQ, Result → zbS, wpAny_pyIter_zip → zbZ, atKey → zb5, wpAny_of_eq → zb7, numAt → zb9, builtinsNs → zcj, wpAny_Name → zck, bindName → zcl, bindL → zcn, bindC → zco, typeLookup → zcp, Params → zcr, call → zcs, compEnvC → zcv, compPost → zcw
open PySem.Heap renaming get?_push_of_some → UJ, lt_size → U1, get?_push_size → U3, get?_update_other → VY, size_push → XG, SameBut → XM, get?_update_self → YA, ExtBut → zb6
open List renaming length_map → UL, mem_map → UP, map_map → UR, length_append → US, map_cons → UT, zip → UW, getElem?_eq_getElem → UY, mem_cons → UZ, mem_cons_self → U0, size_toArray → U4, mem_cons_of_mem → U7, of_mem_zip → Va, range → Vd, map_congr_left → Vf, length_cons → Vg, getElem?_eq_some_iff → Vh, append_nil → Vk, mem_append_right → Vp, map_append → Vq, not_mem_nil → Vr, mem_append → Vu, sum_cons → VE, zipWith → VH, filterMap_append → VL, mem_filter → VM, nodup_cons → VN, filter_cons → VQ, length_zipWith → V4, find?_cons → Wb, drop_eq_getElem_cons → We, flatMap_append → Wh, replicate → Ww, getElem?_map → Wx, length → WC, foldl_cons → WD, lookup_cons → WE, drop_length → WG, getElem_mem → WH, length_filterMap_le → WJ, count_append → WL, count_cons → WR, filterMap_cons → WS, mem_range → WW, mem_singleton → WX, getD_eq_getElem?_getD → WZ, filter_append → W0, length_filter_le → W2, getElem?_set_ne → W5, flatMap_cons → W7, getElem_of_mem → Xc, all_eq_true → Xg, mem_flatMap → Xj, take_of_length_le → Xn, zip_map_right → Xo, filter_filter → Xp, any_cons → Xu, mem_append_left → XB, getElem?_append_right → XC, mem_of_getElem? → XD, length_take → XO, length_drop → XR, map_nil → XS, getElem?_append_left → XT, getElem?_eq_none_iff → XW, nil_append → X3, range_succ → X5, mem_filterMap → X7, pairwise_cons → Yb, getElem?_cons_zero → Yh, getElem?_cons_succ → Yi, findIdx?_eq_some_iff_getElem → Yl, getElem?_set_self → Yo, range_succ_eq_map → Yv, length_replicate → Yy, getElem?_zipWith → YB, filterMap_eq_map → YC, take_append_drop → YD, range'_succ → YH, length_nil → YV, forIn_cons → YW, filter_map → Y2, nodup_iff_pairwise_ne → Zg, mem_of_find?_eq_some → Zj, pairwise_map → Zo, length_range → Zq, append_assoc → Zs, sublist_append_left → ZD, filterMap_cons_none → ZE, filterMap_cons_some → ZF, getElem?_replicate → ZH, cons_append → ZM, any_eq_true → ZQ, map_zipWith → ZT, filter_cons_of_neg → ZU, getElem_zip → ZV, getElem_map → ZW, filter_eq_nil_iff → zac, foldr_cons → zal, mem_iff_getElem → zaz, filter → zaH, mem_of_mem_take → zaI, getElem?_range → zaS, map_eq_nil_iff → zaU, length_zipIdx → zbo, count_pos_iff → zbp, map → zbB, nodup_append → zbH, getElem_inj → zbO, zipIdx_cons → zbY, zipWith_map → zb1, flatMap_map → zb2, map_flatMap → zb3, append → zca, not_lt → zcb, range' → zcc, zipIdx_nil → zch, forIn_nil → zcx, count → zcF, map_take → zcO, map_drop → zcP, set → zc1
open Iff renaming rfl → UM
open False renaming elim → UO
open PySem.PyData renaming strOk → UU, eqv → W9, eqvAll → Zz, canLayAll0 → zbx, depthAll → zcg, canLay0 → zct
open Nat renaming le_refl → U2, lt_of_lt_of_le → U6, ne_of_lt → Vc, le_trans → VA, zero_le → Wj, lt_irrefl → W8, ne_of_gt → Xm, le_of_lt → Yn, le_succ → YL, succ_lt_succ_iff → YM, succ_le_succ → ZJ, min_eq_right → ZL, reduceLeDiff → ZN, zero_lt_succ → ZO, le_of_eq → Z5, min_le_left → zae, min_eq_left → zaf, zero_lt_one → zag, lt_add_one → zay, reduceSub → za1, reduceAdd → za2, mod_lt → zbn, lt_trans → zbw, sub_self → zbC, reduceLT → zbD, le_of_dvd → zcN, le_total → zcT
open Int renaming mul_le_mul_of_nonneg_right → U5, gcd → Vi, le_refl → Vy, toNat_of_nonneg → V5, mul_comm → Wm, mul_ediv_mul_of_pos_left → Wn, mul_pos → Wr, le_ediv_iff_mul_le → WA, gcd_pos_of_ne_zero_right → WQ, ediv_eq_of_eq_mul_right → WT, dvd_gcd_mul_iff_dvd_mul → WU, mul_fdiv_cancel_left → Xa, mul_nonneg → Xi, ediv_le_of_le_mul → Xv, mul_lt_mul_of_pos_right → Xz, eq_of_mul_eq_mul_right → XH, le_of_mul_le_mul_right → XJ, mul_neg_of_pos_of_neg → XX, lt_of_mul_lt_mul_left → XY, natCast_nonneg → Ya, eq_ofNat_of_zero_le → Yj, toNat_natCast → Ys, lt_trichotomy → Yw, mul_le_mul_of_nonneg_left → YR, lt_of_mul_lt_mul_right → Zf, gcd_ediv_gcd_ediv_gcd → Zh, le_of_mul_le_mul_left → Zi, sub_mul → Zn, gcd_comm → Z7, le_of_lt → Z8, reduceToNat → zah, ediv_mul_le → zak, natAbs_dvd_natAbs → zao, one_mul → zaC, add_mul → zaD, reducePow → za4, reduceNeg → za5, reduceSub → za6, reduceAdd → za7, reduceMul → za8, natAbs_natCast → zbj, gcd_zero_right → zbk, reduceEq → zbE, gcd_dvd_right → zbF, mul_left_comm → zbG, gcd_dvd_left → zb0, neg_mul_neg → zci, natAbs_mul → zcA, mul_le_mul → zcD, mul_assoc → zcK
open Bool renaming and_eq_true → Vj, false_ne_true → Xl, false_eq_true → X9, beq_eq_decide_eq → Yz, not_false → zax, and_false → zaA, false_or → zaZ, not_true → za3, and_self → za9, and_true → zba, true_and → zbb, false_and → zcm, or_false → zcH, true_or → zcR
open PySem.Builtin.SmallTypes renaming nextOf → Vm, ownedTupleIsFree → VC, ownedTupleHandOut → Wg
open Ne renaming symm → Vo
open PySem.Value renaming ref → Vs, none → WM, isStrOf → Xr, int → Yc, str → Y6, bool → Y7, type → ZX, isInt → zcW
open Option.some renaming inj → Vt
open PySem.PassesOwn renaming never → Vv
open PyProof.Rows renaming slot_tuple_getitem → VJ, callWith_type1 → V7, IntsAre → X2, kindOf → YE, seqObj → YZ, assignInOrder_cons → Y9, envOfC → Zb, AllBare → Zl, intBits_le → ZK, subscriptTail_builtinR → Z2, entry_tuple_getitem → zaQ, subscriptTail → zaY, args_tuple_getitem → zbe, assignInOrder_nil → zbq, callWith_builtin1 → zbT, IsTup → zb4, Subscript_ → zcq, sortedHeap → zcE, iadd_int → zcV
open True renaming intro → VP
open PySem.Builtin.Tuple renaming tupleExact → V0, tupleItemsOf → Zd, tupleIsExact → zcy
open PySem.Builtin.List renaming listTooLong → Wl
open PySem.NameKind renaming free → WI, cell → za0
open ForInStep renaming yield → WO
open PySem.F renaming plain_max_loop → WV, slot_tuple_iterator_next → WY, plainAttrs_list → Xh, slot_enumerate_next → Xw, args_tuple_add_2 → X0, slot_list_getattribute → X1, entry_tuple_add → Yf, slot_tuple_add → Yr, args_tuple_iterator_next_1 → YX, slot_zip_next → YY, entry_tuple_iterator_next → Y4, args_enumerate_next_1 → ZR, entry_max_loop → ZS, entry_enumerate_next → zab, args_list_extend_2 → zaB, called_tuple → zaF, args_object_init_2 → zaG, entry_list_extend → zaT, slot_list_extend → zbm, args_zip_next_1 → zbA, plain_list_iadd → zbL, plain_tuple_new → zbM, entry_zip_next → zbX
open PySem.Builtin.Slice renaming slicePlaces → W3, sliceAdjust → XU, sliceApplied → Zc, slicePartIndex → zce, sliceFields → zcG
open Array renaming length_toList → XZ, mem_iff_getElem → zan, toArray_toList → zaE, append_assoc → zbc, size_append → zbI, toList → zcQ
open PySem.Builtin.Range renaming rangeSize → Yd, small → zc2
open Classical renaming propDecidable → Yk
open Sum renaming inr → Ym, inl → zaJ
open Or renaming inl → Yt, inr → Yu
open Option renaming getD_some → YF, isSome_iff_exists → Zy, map_eq_some_iff → Z6, map_some → zai, getD_none → zbU, none → zcZ
open PySem.AutoSeq1 renaming sub_tuple_tuple → YG, sub_tuple_list → YO, sub_list_tuple → YQ, sub_list_list → Y0, idx_int → Z9
open PySem.Around renaming under_plainId → YN
open PySem.Builtin.Builtins renaming bindParams → Y5
open PySem.Calls renaming Name_function_global → Y8, spliced_cons → zbd, spliced_nil → zbr
open List.Pairwise renaming map → Zr, nil → zc6
open PySem.Builtin.Dict renaming updateFrom → ZP, addKeywords → zcL, selfAndRest → zcM, pairItems → zcU
open PySem.Obj renaming mapSeq → Z3, data_mapFields → zbh
open List.Perm renaming append_left → zap
open PySem.Heap.SameBut renaming update → zaR
open PySem.Paired renaming length → zaV, snoc → zc0
open List.Sublist renaming refl → zbJ, map → zc7
open Function renaming comp_def → zbK
open PySem.Shared renaming heap → zb8
open PySem.Heap.DictOf renaming new → zcf
open Prod renaming fst → zcz
open PySem.SeqAt renaming EqAt → zcC
open Sum.inr renaming inj → zcX
open PySem.IsRange renaming new → zcY
open PySem.Heap.IsSliceOf renaming new → zc3
open PySem.W.WShape renaming has → zc4
open PySem.Walks renaming list → zc5
namespace L2
open PySem PySem.Spec PyProof.Rows
abbrev Key:=Sum Int Str
def sX:Key->UK->Bool
 | .inl k,v=>zcW k v
 | .inr x,v=>Xr x v
def T6 (w:VB):Key->Int
 | .inl k=>hashInt k
 | .inr x=>hashStr w x
theorem cx:∀ {k:Key} {v:UK},sX k v=true->(∃ i t,k=zaJ i/\v=Yc i t)∨(∃ x t,k=Ym x/\v=Y6 x t)
 | .inl i,v,h=>by
  obtain ⟨t,e⟩:=Value.isInt_shape (k:=i) (v:=v) h
  exact .inl ⟨i,t,rfl,e⟩
 | .inr x,v,h=>by
  obtain ⟨t,e⟩:=Value.isStrOf_shape (x:=x) (v:=v) h
  exact .inr ⟨x,t,rfl,e⟩
theorem Eg (i:Int)(t:Tok):sX (.inl i) (.int i t)=true:=by simp[sX,zcW]
theorem DB (x:Str)(t:Tok):sX (.inr x) (.str x t)=true:=by simp[sX,Xr]
theorem PM (a b:Int):decide ((zaJ a:Key)=zaJ b)=(a == b):=by
 by_cases e:a=b
 ·subst e;simp
 ·have h:¬ (zaJ a:Key)=zaJ b:=λq=>e (Sum.inl.inj q)
  rw[decide_eq_false h]
  exact (beq_eq_false_iff_ne.mpr e).symm
theorem QC (a b:Str):decide ((Ym a:Key)=Ym b)=decide (a=b):=by
 by_cases e:a=b
 ·subst e;simp
 ·have h:¬ (Ym a:Key)=Ym b:=λq=>e (zcX q)
  rw[decide_eq_false h,decide_eq_false e]
theorem OI (a:Int)(b:Str):decide ((zaJ a:Key)=Ym b)=false:=decide_eq_false (λq=>nomatch q)
theorem OA (a:Str)(b:Int):decide ((Ym a:Key)=zaJ b)=false:=decide_eq_false (λq=>nomatch q)
def cp (prog:Vn)(w:VB):PySem.KeyKind prog w Key where
 is:=sX
 hash:=T6 w
 inj:=λv a b ha hb=>by
  rcases cx ha with ⟨i,t,rfl,rfl⟩ | ⟨x,t,rfl,rfl⟩
  ·rcases cx hb with ⟨j,u,rfl,e⟩ | ⟨y,u,rfl,e⟩
   ·injection e with e1 _;rw[e1]
   ·exact nomatch e
  ·rcases cx hb with ⟨j,u,rfl,e⟩ | ⟨y,u,rfl,e⟩
   ·exact nomatch e
   ·injection e with e1 _;rw[e1]
 byValue:=λk v h=>by
  rcases cx h with ⟨i,t,rfl,rfl⟩ | ⟨x,t,rfl,rfl⟩ <;> rfl
 pyHash:=λhv h=>by
  rcases cx hv with ⟨i,t,rfl,rfl⟩ | ⟨x,t,rfl,rfl⟩
  ·exact wpAny_pyHash_int h
  ·exact wpAny_pyHash_str h
 eqBool:=λhu hv h=>by
  rcases cx hu with ⟨i,t,rfl,rfl⟩ | ⟨x,t,rfl,rfl⟩
  ·rcases cx hv with ⟨j,u,rfl,rfl⟩ | ⟨y,u,rfl,rfl⟩
   ·rw[PM] at h;exact wpAny_eqBool_int h
   ·rw[OI] at h;exact SeqAt.EqAt.int_str i t y u _ _ _ _ h
  ·rcases cx hv with ⟨j,u,rfl,rfl⟩ | ⟨y,u,rfl,rfl⟩
   ·rw[OA] at h;exact SeqAt.EqAt.str_int x t j u _ _ _ _ h
   ·rw[QC] at h;exact wpAny_eqBool_str h
 «strs»:=λk x t v h=>by
  rcases cx h with ⟨i,u,rfl,e⟩ | ⟨y,u,rfl,e⟩
  ·exact nomatch e
  ·injection e with e1 _
   subst e1
   cases v<;>rfl
theorem yq (prog:Vn)(w:VB)(i:Int)(t:Tok):(cp prog w).is (.inl i) (.int i t)=true:=Eg i t
theorem wG (prog:Vn)(w:VB)(x:Str)(t:Tok):(cp prog w).is (.inr x) (.str x t)=true:=DB x t
end L2
namespace L2
open PySem PySem.Spec PyProof.Rows
inductive V where
 | non | bl (b:Bool) | int (i:Int) | str (x:Str) | byt (b:Array UInt8) | flt (b:UInt64) | ref (a:Addr) | ty (n:String)
 deriving DecidableEq
def RelV:V->UK->Prop
 | .non,u=>u=WM
 | .bl b,u=>u=Y7 b
 | .int i,u=>∃ t,u=Yc i t
 | .str x,u=>∃ t,u=Y6 x t
 | .byt b,u=>∃ t,u=Value.bytes b t
 | .flt b,u=>∃ t,u=Value.float b t
 | .ref a,u=>u=Vs a
 | .ty n,u=>u=ZX n
abbrev Vals:List V->List UK->Prop:=Zt RelV
theorem Vals.length {xs:List V}{us:List UK}(r:Vals xs us):xs.length=us.length:=zaV r
theorem Vals.get:∀ {xs:List V} {us:List UK} {i:Nat} {x:V},Vals xs us->xs[i]? = some x->∃ u,us[i]? = some u/\RelV x u
 | _,_,_,_,.nil,e=>by simp at e
 | _,_,0,_,.cons r _,e=>by simp at e;subst e;exact ⟨_,rfl,r⟩
 | _,_,i+1,x,.cons _ t,e=>by
  obtain ⟨u,h1,h2⟩:=Vals.get (i:=i) (x:=x) t (by simpa using e)
  exact ⟨u,by simpa using h1,h2⟩
theorem Vals.set {x:V}{u:UK}(r:RelV x u):∀ {xs:List V} {us:List UK} (i:Nat),Vals xs us->Vals (xs.set i x) (us.set i u)
 | _,_,_,.nil=>.nil
 | _,_,0,.cons _ t=>.cons r t
 | _,_,i+1,.cons q t=>.cons q (Vals.set r i t)
theorem Vals.append:∀ {xs ys:List V} {us ws:List UK},Vals xs us->Vals ys ws->Vals (xs++ys) (us++ws)
 | _,_,_,_,.nil,s=>s
 | _,_,_,_,.cons r t,s=>.cons r (Vals.append t s)
theorem Vals.take:∀ {xs:List V} {us:List UK} (n:Nat),Vals xs us->Vals (xs.take n) (us.take n)
 | _,_,0,_=>.nil
 | _,_,_+1,.nil=>.nil
 | _,_,n+1,.cons r t=>.cons r (Vals.take n t)
theorem Vals.drop:∀ {xs:List V} {us:List UK} (n:Nat),Vals xs us->Vals (xs.drop n) (us.drop n)
 | _,_,0,r=>r
 | _,_,_+1,.nil=>.nil
 | _,_,n+1,.cons _ t=>Vals.drop n t
def nQ:Option V->Option UK->Prop
 | some v,some u=>RelV v u
 | none,none=>True
 | _,_=>False
def KV {κ:Type}:List (κ×V)->List (κ×UK)->Prop:=Zt λ(p:κ×V) (q:κ×UK)=>p.1=q.1/\RelV p.2 q.2
def kV:Key->V
 | .inl i=>.int i
 | .inr x=>.str x
inductive HO where
  | lst (xs:List V)
  | tup (xs:List V)
  | dK (kvs:List (Key×V)) | dT (kvs:List (List Key×V))
  | set (S:Int->Bool) (n:Nat)
  | ins (C dx:Addr) (fs:List (Str×V))
  | own (x:Addr)
  | xd (fs:List (Str×V))
  | met (f x:Addr)
  | rng (lo hi:Int)
  | frz (o:Obj) (u:HO)
  | tbl (ps:Array UK)
  | ext (φ:Heap->Prop)
abbrev Hp:=Addr->Option HO
def upd (H:Hp)(a:Addr)(o:HO):Hp:=λb=>if b=a then some o else H b
theorem aK {H:Hp}{a:Addr}{o:HO}:upd H a o a=some o:=by unfold upd;rw[if_pos rfl]
theorem aM {H:Hp}{a b:Addr}{o:HO}(h:b≠a):upd H a o b=H b:=by unfold upd;rw[if_neg h]
theorem uc {H:Hp}{a:Addr}{o u:HO}:upd (upd H a o) a u=upd H a u:=by
 funext b;unfold upd;split<;>rfl
theorem Su {H:Hp}{a b:Addr}{o u:HO}(h:H a=some o)(h':H b=some u)(d:o≠u):a≠b:=by
 intro e;subst e;rw[h] at h';exact d (Vt h')
theorem ba {H:Hp}{a b:Addr}{o:HO}(h:H a=some o)(h':H b=none):a≠b:=by
 intro e;subst e;rw[h] at h';cases h'
def vk (h:Heap)(a:Addr)(items:Array UK):Prop:=∃ n,h.get? a=some { cls:=.type "tuple", data:=.seq items n }
theorem vk.tup {h:Heap}{a:Addr}{items:Array UK}(p:vk h a items):zb4 h a items:=by obtain ⟨n,e⟩:=p;exact ⟨_,e,rfl,n,rfl⟩
theorem vk.new (h:Heap)(items:Array UK):vk (h.push { cls:=.type "tuple", data:=.seq items }) h.objs.size items:=⟨_,U3 _ rfl⟩
section
variable (P:Vn) (w:VB)
def cW (H:Hp)(h:Heap)(a:Addr):HO->Prop
 | .lst xs=>xs.length<=sizeLine/\∃ (its:List UK) (n:Nat),Vals xs its/\h.get? a=some { cls:=.type "list", data:=.seq its.toArray n }
 | .tup xs=>xs.length<=sizeLine/\∃ its:List UK,Vals xs its/\vk h a its.toArray
 | .dK kvs=>kvs.length<=sizeLine/\(a == XA)=false/\∃ vs,KV kvs vs/\h.DictOf (cp P w) a vs
 | .dT kvs=>kvs.length<=sizeLine/\(a == XA)=false/\∃ xs:List (List Key×Addr×UK),
   Zt (λ(p:List Key×V) (q:List Key×Addr×UK)=>p.1=q.1/\H q.2.1=some (.tup (p.1.map kV))/\RelV p.2 q.2.2) kvs xs/\
   ∃ o es ep,h.get? a=some o/\o.ExactDict/\o.data=.dict es ep/\es.toList=xs.map (entryOfKey (zaK (cp P w)))/\(xs.map (·.1)).Nodup
 | .set S n=>h.SetOf (intKind P w) a S n
 | .ins C dx fs=>H dx=some (.own a)/\fs.length<=1000/\dx≠a/\h.get? a=some (zcd C dx)/\
   ∃ mA,h.Ns1 dx mA/\(∀ f,nQ (fs.lookup f) (mA f))/\PySem.Within mA (fs.map (·.1))
 | .own _=>∃ o,h.get? a=some o
 | .xd fs=>∃ mA,h.Ns1 a mA/\∀ f,nQ (fs.lookup f) (mA f)
 | .rng lo hi=>∃ t u v,h.get? a=some { cls:=.type "range", data:=.fields #[.int lo t,.int hi u,.int 1 v] }
 | .frz o u=>h.get? a=some o/\cW H h a u
 | .tbl ps=>h.get? a=some { cls:=.none,data:=.fields ps }
 | .met f x=>h.get? a=some (Zk (.ref f) (.ref x))
 | .ext φ=>φ h/\(∃ o,h.get? a=some o)/\∀ h1 h2:Heap,φ h1->(∀ o,h1.get? a=some o->h2.get? a=some o)->φ h2
def HOk (H:Hp)(h:Heap):Prop:=∀ a o,H a=some o->cW P w H h a o
end
section
variable {P:Vn} {w:VB} {H H':Hp} {h h':Heap} {a:Addr} {o:HO}
theorem cW.lt (x:cW P w H h a o):a < h.objs.size:=by
 cases o with
 | lst xs=>obtain ⟨_,_,_,_,e⟩:=x;exact U1 e
 | tup xs=>obtain ⟨_,_,_,p⟩:=x;exact p.tup.lt
 | dK kvs=>obtain ⟨_,_,_,_,o,_,_,e,_⟩:=x;exact U1 e
 | dT kvs=>obtain ⟨_,_,_,_,o,_,_,e,_⟩:=x;exact U1 e
 | set S n=>obtain ⟨o,_,_,_,e,_⟩:=x;exact U1 e
 | ins C dx fs=>obtain ⟨_,_,_,e,_⟩:=x;exact U1 e
 | own y=>obtain ⟨_,e⟩:=x;exact U1 e
 | xd fs=>obtain ⟨_,⟨_,_,_,e,_⟩,_⟩:=x;exact U1 e
 | rng lo hi=>obtain ⟨_,_,_,e⟩:=x;exact U1 e
 | frz ob u=>obtain ⟨e,_⟩:=x;exact U1 e
 | tbl ps=>exact U1 (show h.get? a=some _ from x)
 | met f y=>exact U1 (show h.get? a=some _ from x)
 | ext φ=>obtain ⟨_,⟨_,e⟩,_⟩:=x;exact U1 e
theorem Zt.Qp {α β:Type}{F G:α->β->Prop}:∀ {l₁:List α} {l₂:List β},Zt F l₁ l₂->(∀ a b,F a b->G a b)->Zt G l₁ l₂
 | _,_,.nil,_=>.nil
 | _,_,.cons r t,f=>.cons (f _ _ r) (Zt.Qp t f)
theorem cW.lO (x:cW P w H h a o)(k:∀ b u,(b=a∨H b=some (.own a))->h.get? b=some u->h'.get? b=some u)
  (ho:∀ b,H b=some (.own a)->H' b=some (.own a)) (ht:∀ b xs,H b=some (.tup xs)->H' b=some (.tup xs)):cW P w H' h' a o:=by
 induction o with
 | lst xs=>obtain ⟨z,its,n,r,e⟩:=x;exact ⟨z,its,n,r,k _ _ (.inl rfl) e⟩
 | tup xs=>obtain ⟨z,its,r,m,e⟩:=x;exact ⟨z,its,r,m,k _ _ (.inl rfl) e⟩
 | dK kvs=>obtain ⟨z,y,vs,r,ob,es,ep,e,c⟩:=x;exact ⟨z,y,vs,r,ob,es,ep,k _ _ (.inl rfl) e,c⟩
 | dT kvs=>
  obtain ⟨z,y,xs,r,ob,es,ep,e,c⟩:=x
  exact ⟨z,y,xs,Zt.Qp r λp q z=>⟨z.1,ht _ _ z.2.1,z.2.2⟩,ob,es,ep,k _ _ (.inl rfl) e,c⟩
 | set S n=>obtain ⟨ob,es,ep,t,e,c⟩:=x;exact ⟨ob,es,ep,t,k _ _ (.inl rfl) e,c⟩
 | ins C dx fs=>
  obtain ⟨d,z,ne,e,mA,⟨od,es,ep,e2,c⟩,r⟩:=x
  exact ⟨ho _ d,z,ne,k _ _ (.inl rfl) e,mA,⟨od,es,ep,k _ _ (.inr d) e2,c⟩,r⟩
 | own y=>obtain ⟨ob,e⟩:=x;exact ⟨ob,k _ _ (.inl rfl) e⟩
 | xd fs=>obtain ⟨mA,⟨od,es,ep,e,c⟩,r⟩:=x;exact ⟨mA,⟨od,es,ep,k _ _ (.inl rfl) e,c⟩,r⟩
 | rng lo hi=>obtain ⟨t,u,v,e⟩:=x;exact ⟨t,u,v,k _ _ (.inl rfl) e⟩
 | frz ob u ih=>obtain ⟨e,q⟩:=x;exact ⟨k _ _ (.inl rfl) e,ih q⟩
 | tbl ps=>
  have e:h.get? a=some { cls:=.none,data:=.fields ps }:=x
  show h'.get? a=some { cls:=.none,data:=.fields ps }
  exact k a _ (.inl rfl) e
 | met f y=>
  have e:h.get? a=some (Zk (.ref f) (.ref y)):=x
  show h'.get? a=some (Zk (.ref f) (.ref y))
  exact k a _ (.inl rfl) e
 | ext φ=>obtain ⟨p,⟨o,e⟩,st⟩:=x;exact ⟨st _ _ p λo q=>k _ _ (.inl rfl) q,⟨o,k _ _ (.inl rfl) e⟩,st⟩
theorem HOk.lt (x:HOk P w H h)(e:H a=some o):a < h.objs.size:=(x a o e).lt
theorem HOk.fresh (x:HOk P w H h)(e:h.objs.size<=a):H a=none:=by
 cases q:H a with
 | none=>rfl
 | some u=>exact absurd (U6 (x.lt q) e) (W8 _)
theorem HOk.kept (x:HOk P w H h)(k:∀ b u,h.get? b=some u->h'.get? b=some u):HOk P w H h':=λa o e=>
 (x a o e).lO (λb u _ q=>k b u q) (λ_ q=>q) λ_ _ q=>q
theorem HOk.laid (x:HOk P w H h)(k:∀ b u,h.get? b=some u->h'.get? b=some u)(hp:h.objs.size<=a)(new:cW P w (upd H a o) h' a o):HOk P w (upd H a o) h':=λb u e=>by
 have hn:=x.fresh hp
 by_cases hb:b=a
 ·subst hb;rw[aK] at e;cases e;exact new
 ·rw[aM hb] at e
  exact (x b u e).lO (λc v _ q=>k c v q) (λc q=>by rw[aM (ba q hn)];exact q) λc xs q=>by rw[aM (ba q hn)];exact q
end
def Rd (H:Hp)(a:Addr)(u:HO):Prop:=H a=some u∨∃ o,H a=some (.frz o u)
theorem Rd.ok {P:Vn}{w:VB}{H:Hp}{h:Heap}{a:Addr}{u:HO}(r:Rd H a u)(x:HOk P w H h):cW P w H h a u:=by
 rcases r with r | ⟨o,r⟩
 ·exact x a u r
 ·obtain ⟨_,q⟩:=x a _ r
  exact q
def Mut:Option HO->Prop
 | some (.lst _)=>True
 | some (.dK _)=>True
 | some (.dT _)=>True
 | some (.set _ _)=>True
 | some (.ins _ _ _)=>True
 | some (.ext _)=>True
 | _=>False
section
variable {P:Vn} {w:VB} {H:Hp} {h h':Heap} {x e:Addr} {o':HO}
theorem HOk.write (ok:HOk P w H h)(mu:Mut (H x))(he:e=x∨H e=some (.own x))(k:∀ b u,b≠e->h.get? b=some u->h'.get? b=some u)(heo:∃ u,h'.get? e=some u)
  (new:cW P w (upd H x o') h' x o'):HOk P w (upd H x o') h':=λb u q=>by
 have QU:∀ c y,H c=some (.own y)->c≠x:=λc y r z=>by subst z;rw[r] at mu;exact mu
 have TU:∀ c xs,H c=some (.tup xs)->c≠x:=λc xs r z=>by subst z;rw[r] at mu;exact mu
 by_cases hb:b=x
 ·subst hb;rw[aK] at q;cases q;exact new
 ·rw[aM hb] at q
  by_cases hbe:b=e
  ·have q':H b=some (.own x):=by
    rcases he with z | z
    ·exact absurd (hbe.trans z) hb
    ·rw[hbe];exact z
   rw[q] at q';cases q'
   obtain ⟨v,hv⟩:=heo
   exact ⟨v,by rw[hbe];exact hv⟩
  ·refine (ok b u q).lO (λc v hc r=>k c v ?_ r) (λc r=>by rw[aM (QU c b r)];exact r) λc xs r=>by rw[aM (TU c xs r)];exact r
   rcases hc with rfl | hc
   ·exact hbe
   ·rintro rfl
    rcases he with z | z
    ·exact QU c b hc z
    ·rw[hc] at z;cases z;exact hb rfl
end
structure Un (fs ex:List Addr) (H H':Hp) (h h':Heap):Prop where
 keep:∀ b o,h.get? b=some o->H b=none->b ∉ fs->b ∉ ex->h'.get? b=some o
 slot:∀ b o,h.get? b=some o->H b=none->b∈fs->b ∉ ex->∃ sl,h'.get? b=some { o with slots:=sl }
 free:∀ b o,h.get? b=some o->H b=none->b ∉ ex->H' b=none
 there:∀ b o,h.get? b=some o->b ∉ ex->∃ o',h'.get? b=some o'
 oB:∀ b xs,H b=some (.tup xs)->H' b=some (.tup xs)
 mq:∀ b o u,H b=some (.frz o u)->H' b=some (.frz o u)
 nN:∀ b ps,H b=some (.tbl ps)->∃ more,H' b=some (.tbl (ps++more))
section
variable {fs fs' ex ex':List Addr} {H H1 H2:Hp} {h h1 h2 h':Heap} {a x e:Addr} {o:HO}
theorem Un.any (u:Un fs ex H H1 h h1){b:Addr}{ob:Obj}(q:h.get? b=some ob)(n:H b=none)(hx:b ∉ ex):∃ sl,h1.get? b=some { ob with slots:=sl }:=by
 by_cases hb:b∈fs
 ·exact u.slot b ob q n hb hx
 ·exact ⟨ob.slots,u.keep b ob q n hb hx⟩
theorem Un.trans (a:Un fs ex H H1 h h1)(b:Un fs ex H1 H2 h1 h2):Un fs ex H H2 h h2 where
 keep:=λc ob q n hc hx=>b.keep c ob (a.keep c ob q n hc hx) (a.free c ob q n hx) hc hx
 slot:=λc ob q n hc hx=>by
  obtain ⟨sl,e1⟩:=a.slot c ob q n hc hx
  obtain ⟨sl',e2⟩:=b.slot c _ e1 (a.free c ob q n hx) hc hx
  exact ⟨sl',e2⟩
 free:=λc ob q n hx=>by
  obtain ⟨o',e1⟩:=a.there c ob q hx
  exact b.free c o' e1 (a.free c ob q n hx) hx
 there:=λc ob q hx=>by
  obtain ⟨o',e1⟩:=a.there c ob q hx
  exact b.there c o' e1 hx
 oB:=λc xs q=>b.oB c xs (a.oB c xs q)
 mq:=λc ob xs q=>b.mq c ob xs (a.mq c ob xs q)
 nN:=λc ps q=>by
  obtain ⟨m1,e1⟩:=a.nN c ps q
  obtain ⟨m2,e2⟩:=b.nN c _ e1
  exact ⟨m1++m2,by rw[e2,zbc]⟩
theorem Un.kept (k:∀ b u,h.get? b=some u->h'.get? b=some u):Un fs ex H H h h':=
 ⟨λb ob q _ _ _=>k b ob q,λb ob q _ _ _=>⟨ob.slots,k b ob q⟩,λ_ _ _ n _=>n,λb ob q _=>⟨ob,k b ob q⟩,λ_ _ q=>q,λ_ _ _ q=>q,λ_ ps q=>⟨#[],by rw[q];simp⟩⟩
theorem Un.refl:Un fs ex H H h h:=Un.kept λ_ _ q=>q
theorem Un.laid (k:∀ b u,h.get? b=some u->h'.get? b=some u)(hp:h.objs.size<=a)(hn:H a=none):Un fs ex H (upd H a o) h h' where
 keep:=λb u q _ _ _=>k b u q
 slot:=λb u q _ _ _=>⟨u.slots,k b u q⟩
 free:=λb u q n _=>by rw[aM (Vc (U6 (U1 q) hp))];exact n
 there:=λb u q _=>⟨u,k b u q⟩
 oB:=λb xs q=>by rw[aM (ba q hn)];exact q
 mq:=λb u xs q=>by rw[aM (ba q hn)];exact q
 nN:=λb ps q=>⟨#[],by rw[aM (ba q hn),q];simp⟩
theorem Un.write (mu:Mut (H x))(he:e=x∨H e=some (.own x))(k:∀ b u,b≠e->h.get? b=some u->h'.get? b=some u)(heo:∃ u,h'.get? e=some u):Un fs ex H (upd H x o) h h':=by
 have hx:∀ b,H b=none->b≠x:=λb n z=>by subst z;rw[n] at mu;exact mu
 have hb:∀ b,H b=none->b≠e:=λb n z=>by
  subst z
  rcases he with r | r
  ·exact hx b n r
  ·rw[n] at r;cases r
 have hm:∀ b u,H b=some u->¬ Mut (some u)->b≠x:=λb u q nm z=>by subst z;rw[q] at mu;exact nm mu
 refine ⟨λb u q n _ _=>k b u (hb b n) q,λb u q n _ _=>⟨u.slots,k b u (hb b n) q⟩,λb u q n _=>by rw[aM (hx b n)];exact n,λb u q _=>?_,
  λb xs q=>by rw[aM (hm b _ q λz=>z)];exact q,λb u xs q=>by rw[aM (hm b _ q λz=>z)];exact q,λb ps q=>⟨#[],by rw[aM (hm b _ q λz=>z),q];simp⟩⟩
 by_cases hbe:b=e
 ·subst hbe;exact heo
 ·exact ⟨u,k b u hbe q⟩
theorem Un.mono (u:Un fs ex H H1 h h1)(hs:∀ b∈fs,b∈fs')(hx:∀ b∈ex,b∈ex'):Un fs' ex' H H1 h h1:=
 ⟨λb ob q n hb he=>u.keep b ob q n (λz=>hb (hs b z)) λz=>he (hx b z),λ_ _ q n _ he=>u.any q n λz=>he (hx _ z),λb ob q n he=>u.free b ob q n λz=>he (hx b z),λb ob q he=>u.there b ob q λz=>he (hx b z),u.oB,u.mq,u.nN⟩
end
def trk (h:Heap)(H:Hp):List Addr:=(Vd h.objs.size).filter λa=>(H a).isSome
def vz (h:Heap)(H:Hp):Heap:=PySem.W.hideAll h (trk h H)
theorem C7 (h:Heap)(H:Hp):(vz h H).objs.size=h.objs.size:=PySem.W.hideAll_size _ _
theorem GN {h:Heap}{H:Hp}{b:Addr}{o:Obj}(e:h.get? b=some o)(n:H b=none):(vz h H).get? b=some o:=
 PySem.W.hideAll_get _ e λhm=>by
  have q:(H b).isSome=true:=(VM.mp hm).2
  rw[n] at q;simp at q
theorem Mn {h:Heap}{H:Hp}{b:Addr}{o:Obj}(e:(vz h H).get? b=some o):h.get? b=some o/\H b=none:=by
 have e':h.get? b=some o:=PySem.W.of_hideAll (trk h H) e
 refine ⟨e',?_⟩
 cases q:H b with
 | none=>rfl
 | some x=>
  have hm:b∈trk h H:=VM.mpr ⟨WW.mpr (U1 e'),by simp[q]⟩
  have z:(vz h H).get? b=none:=PySem.W.hideAll_none (trk h H) hm
  rw[z] at e;cases e
def JH (g h:Heap)(L:Addr):List (Addr×Obj):=(Vd h.objs.size).filterMap λa=>if a=L∨(g.get? a).isSome=true then none else (h.get? a).map λo=>(a,o)
def rest (g h:Heap)(L d:Addr):List (Addr×Obj):=(JH g h L).filter λp=>decide (p.1≠d)
end L2
namespace L2
open PySem PySem.Spec PyProof.Rows
structure Mod (K:UH) (mg:Str->Option UK) (base:Heap):Prop where
 kin:K.In base
 glob:base.Ns Wo mg
 blt:∃ mb,base.Ns zcj mb/\∀ x:Str,x ≠ "__name__" -> mb x=Wc x
 nolimit:base.NoLimit
structure Cx where
 prog:Vn
 w:VB
 K:UH
 mg:Str->Option UK
 base:Heap
 A:VX
 N:List Str
 s₀:UN
 H₀:Hp
 env:Env
 outer:List Env
 stack:List Env
 ex:List Addr
 fn:Str->Bool
 calm:Bool
 pn:List (Addr×Obj)
 xe:UK->UN->Prop
def frs (l:List Env):List Addr:=l.filterMap (·.frame)
abbrev Cx.fs (X:Cx):List Addr:=frs X.outer
def Vis (sc:Scope)(x:Str):Prop:=sc.names.lookup x=some .local∨sc.names.lookup x=some .cell∨sc.names.lookup x=some .free
def Loc (sc:Scope)(x:Str):Prop:=sc.names.lookup x=some .local∨sc.names.lookup x=some .cell
def Look (env:Env)(h:Heap)(m:Str->Option UK)(x:Str)(u:UK):Prop:=
 (env.kindOf x=some .local/\m x=some u)∨((env.kindOf x=some .cell∨env.kindOf x=some .free)/\∃ c,env.cells.lookup x=some c/\h.IsCell c (some u))
structure Cx.Ok (X:Cx):Prop where
 mod:Mod X.K X.mg X.base
 kind:X.env.scope.kind=.function
 glob:X.env.globals=Wo
 blt:X.env.builtins=zcj
 above:X.s₀.heap.objs.size<=X.env.locals
 inj:∀ x y c,X.env.cells.lookup x=some c->X.env.cells.lookup y=some c->x=y
 has:∀ x,(X.env.kindOf x=some .cell∨X.env.kindOf x=some .free)->∃ c,X.env.cells.lookup x=some c
 cab:∀ x c,X.fn x=true->X.env.cells.lookup x=some c->X.s₀.heap.objs.size<=c
 hd:X.calm=true->X.A.handled=none
 frames:X.A.frames=some X.stack
 stk:X.stack=X.outer∨(X.stack=X.env::X.outer/\X.env.frame=some X.env.locals)
 exf:∀ b∈X.ex,b≠X.env.locals/\∀ x c,X.env.cells.lookup x=some c->c≠b
 bs:∀ b o,X.base.get? b=some o->X.s₀.heap.get? b=some o/\X.H₀ b=none
 bsz:X.base.objs.size<=X.s₀.heap.objs.size
 GQ:∀ b o,X.base.get? b=some o->b ∉ X.ex
 Ft:∀ b∈X.ex,b ∉ X.fs
 rn:X.s₀.heap.FunFrames X.base X.outer
 frf:∀ b∈X.fs,X.H₀ b=none
structure Inv (X:Cx) (pins:List (Addr×Obj)) (σ:List (Option V)) (H:Hp) (s:UN):Prop where
 ok:X.Ok
 os:s.os=X.s₀.os
 bare:Zl s.gens
 base:Un X.fs X.ex X.H₀ H X.s₀.heap s.heap
 loc:∃ m,s.heap.Ns X.env.locals m/\∀ (i:Nat) (x:Str) (v:V),X.N[i]? = some x->σ[i]? = some (some v)->Vis X.env.scope x->∃ u,RelV v u/\Look X.env s.heap m x u
 cell:∀ x c,X.env.cells.lookup x=some c->∃ v,s.heap.IsCell c v
 free:H X.env.locals=none
 jz:∀ x c,X.env.cells.lookup x=some c->H c=none
 pin:∀ p∈X.pn++pins,s.heap.get? p.1=some p.2/\H p.1=none/\p.1≠X.env.locals/\p.1 ∉ X.fs/\∀ v,p.2.data≠.cell v
 hok:HOk X.prog X.w H s.heap
 len:σ.length=X.N.length
section
variable {X:Cx} {pins:List (Addr×Obj)} {σ:List (Option V)} {H H':Hp} {s:UN} {h':Heap}
theorem Cx.Ok.Tu (ok:X.Ok){b:Addr}{o:Obj}(e:X.base.get? b=some o):b ∉ X.fs:=λhb=>by
 have:=(ok.rn.mem hb).1
 rw[e] at this;cases this
theorem Inv.bs (I:Inv X pins σ H s):∀ b o,X.base.get? b=some o->s.heap.get? b=some o/\H b=none:=λb o e=>
 ⟨I.base.keep b o (I.ok.bs b o e).1 (I.ok.bs b o e).2 (I.ok.Tu e) (I.ok.GQ b o e),I.base.free b o (I.ok.bs b o e).1 (I.ok.bs b o e).2 (I.ok.GQ b o e)⟩
theorem Inv.bk (I:Inv X pins σ H s):∀ b o,X.base.get? b=some o->s.heap.get? b=some o:=λb o e=>(I.bs b o e).1
theorem Inv.mod (I:Inv X pins σ H s):Mod X.K X.mg X.base:=I.ok.mod
theorem Inv.kIn (I:Inv X pins σ H s):X.K.In s.heap:=I.ok.mod.kin.keeps I.bk
theorem Inv.nolimit (I:Inv X pins σ H s):s.heap.NoLimit:=I.ok.mod.nolimit.keeps I.bk
theorem Inv.fr (I:Inv X pins σ H s):∃ m,Fr X.base X.env.locals s.heap m:=
 let ⟨m,hn,_⟩:=I.loc
 ⟨m,hn,I.bk,VA I.ok.bsz I.ok.above⟩
theorem Inv.lt (I:Inv X pins σ H s):X.env.locals < s.heap.objs.size:=let ⟨_,hn,_⟩:=I.loc;hn.lt
theorem Inv.sz (I:Inv X pins σ H s):X.s₀.heap.objs.size<=s.heap.objs.size:=VA I.ok.above (Yn I.lt)
theorem Inv.SR (I:Inv X pins σ H s){a:Addr}(h:s.heap.objs.size<=a):a ∉ X.fs:=λhb=>by
 obtain ⟨_,o,ho,_⟩:=I.ok.rn.mem hb
 exact absurd (U6 (U1 ho) (VA I.sz h)) (W8 _)
theorem Inv.cne (I:Inv X pins σ H s):∀ x c,X.env.cells.lookup x=some c->c≠X.env.locals:=λx c e z=>by
 obtain ⟨v,o,ho,hd⟩:=I.cell x c e
 obtain ⟨m,⟨o',es,ep,ho',hd',_⟩,_⟩:=I.loc
 rw[z,ho'] at ho;cases ho;rw[hd'] at hd;cases hd
theorem Inv.rn (I:Inv X pins σ H s):s.heap.FunFrames X.base X.outer:=by
 have all:∀ (l:List Env),(∀ b∈frs l,b∈X.fs)->X.s₀.heap.FunFrames X.base l->s.heap.FunFrames X.base l:=by
  intro l
  induction l with
  | nil=>intro _ _;trivial
  | cons env r ih=>
   intro hs hl
   obtain ⟨hk,⟨L,o,hf,hn,ho,hd⟩,hr⟩:=hl
   have hL:L∈X.fs:=hs L (by unfold frs;rw[WS,hf];exact U0)
   obtain ⟨sl,e⟩:=I.base.slot L o ho (I.ok.frf L hL) hL λz=>I.ok.Ft L z hL
   exact ⟨hk,⟨L,_,hf,hn,e,hd⟩,ih (λb hb=>hs b (by unfold frs;rw[WS,hf];exact U7 _ hb)) hr⟩
 exact all X.outer (λ_ hb=>hb) I.ok.rn
theorem Inv.stack (I:Inv X pins σ H s):s.heap.FunFrames X.base X.stack:=by
 rcases I.ok.stk with e | ⟨e,hf⟩
 ·rw[e];exact I.rn
 ·rw[e]
  obtain ⟨m,hn,_⟩:=I.loc
  refine .cons (by rw[I.ok.kind];decide) hf hn ?_ I.rn
  exact Heap.get?_none_of_le (VA I.ok.bsz I.ok.above)
theorem Inv.AO (I:Inv X pins σ H s):∀ b∈frs X.stack,b∈X.env.locals::X.fs:=λb hb=>by
 rcases I.ok.stk with e | ⟨e,hf⟩
 ·rw[e] at hb;exact U7 _ hb
 ·rw[e] at hb
  unfold frs at hb
  rw[WS,hf] at hb
  exact hb
theorem Inv.CI (I:Inv X pins σ H s):∀ b∈frs X.stack,H b=none:=λb hb=>by
 rcases UZ.mp (I.AO b hb) with e | hb
 ·rw[e];exact I.free
 ·obtain ⟨_,o,ho,_⟩:=I.ok.rn.mem hb
  exact I.base.free b o ho (I.ok.frf b hb) λz=>I.ok.Ft b z hb
theorem Inv.step {g':Array GenState}{t':Nat}{d':Drawn}{ch:List Addr}(I:Inv X pins σ H s)
  (hch:∀ b∈ch,(b∈X.ex∨X.s₀.heap.objs.size<=b)/\b≠X.env.locals/\(∀ x c,X.env.cells.lookup x=some c->c≠b)/\∀ p∈X.pn++pins,p.1≠b)
  (keep:∀ b o,b≠X.env.locals->b ∉ X.fs->b ∉ ch->s.heap.get? b=some o->H b=none->h'.get? b=some o)
  (slot:∀ b o,b≠X.env.locals->b∈X.fs->b ∉ ch->s.heap.get? b=some o->H b=none->∃ sl,h'.get? b=some { o with slots:=sl }) (free:∀ b o,b ∉ ch->s.heap.get? b=some o->H b=none->H' b=none)
  (there:∀ b o,b ∉ ch->s.heap.get? b=some o->∃ o',h'.get? b=some o')
  (oB:∀ b xs,H b=some (.tup xs)->H' b=some (.tup xs)) (mq:∀ b o u,H b=some (.frz o u)->H' b=some (.frz o u)) (nN:∀ b ps,H b=some (.tbl ps)->∃ more,H' b=some (.tbl (ps++more)))
  (ns:∀ m,s.heap.Ns X.env.locals m->h'.Ns X.env.locals m) (hok:HOk X.prog X.w H' h') (hg:Zl g') :
  Inv X pins σ H' { s with heap:=h',gens:=g',drawn:=d',toks:=t' }:=by
 have neL:∀ b o,X.s₀.heap.get? b=some o->b≠X.env.locals:=λb o e=>Vc (U6 (U1 e) I.ok.above)
 have neC:∀ b o,X.s₀.heap.get? b=some o->b ∉ X.ex->b ∉ ch:=λb o e hx hb=>by
  rcases (hch b hb).1 with z | z
  ·exact hx z
  ·exact absurd (U6 (U1 e) z) (W8 _)
 have cellK:∀ x c,X.env.cells.lookup x=some c->∀ v,s.heap.IsCell c v->h'.IsCell c v:=λx c e v ⟨o,ho,hd⟩=>by
  have nch:c ∉ ch:=λz=>(hch c z).2.2.1 x c e rfl
  by_cases hc:c∈X.fs
  ·obtain ⟨sl,q⟩:=slot c o (I.cne x c e) hc nch ho (I.jz x c e)
   exact ⟨_,q,hd⟩
  ·exact ⟨o,keep c o (I.cne x c e) hc nch ho (I.jz x c e),hd⟩
 refine ⟨I.ok,I.os,hg,⟨λb o e n hb hx=>?_,λb o e n hb hx=>?_,λb o e n hx=>?_,λb o e hx=>?_,λb xs e=>oB b xs (I.base.oB b xs e),λb o xs e=>mq b o xs (I.base.mq b o xs e),λb ps e=>?_⟩,?_,λx c e=>?_,?_,λx c e=>?_,λp hp=>?_,hok,I.len⟩
 ·exact keep b o (neL b o e) hb (neC b o e hx) (I.base.keep b o e n hb hx) (I.base.free b o e n hx)
 ·obtain ⟨sl,e1⟩:=I.base.slot b o e n hb hx
  obtain ⟨sl',e2⟩:=slot b _ (neL b o e) hb (neC b o e hx) e1 (I.base.free b o e n hx)
  exact ⟨sl',e2⟩
 ·obtain ⟨o',e1⟩:=I.base.there b o e hx
  exact free b o' (neC b o e hx) e1 (I.base.free b o e n hx)
 ·obtain ⟨o',e1⟩:=I.base.there b o e hx
  exact there b o' (neC b o e hx) e1
 ·obtain ⟨m1,e1⟩:=I.base.nN b ps e
  obtain ⟨m2,e2⟩:=nN b _ e1
  exact ⟨m1++m2,by rw[e2,zbc]⟩
 ·obtain ⟨m,hn,hl⟩:=I.loc
  refine ⟨m,ns m hn,λi x v e1 e2 e3=>?_⟩
  obtain ⟨u,r,l⟩:=hl i x v e1 e2 e3
  refine ⟨u,r,?_⟩
  rcases l with l | ⟨k,c,e,z⟩
  ·exact .inl l
  ·exact .inr ⟨k,c,e,cellK x c e _ z⟩
 ·obtain ⟨v,z⟩:=I.cell x c e
  exact ⟨v,cellK x c e v z⟩
 ·obtain ⟨m,⟨o,_,_,ho,_⟩,_⟩:=I.loc
  exact free _ o (λz=>(hch _ z).2.1 rfl) ho I.free
 ·obtain ⟨v,o,ho,hd⟩:=I.cell x c e
  exact free c o (λz=>(hch c z).2.2.1 x c e rfl) ho (I.jz x c e)
 ·obtain ⟨e,n,ne,nf,d⟩:=I.pin p hp
  have nch:p.1 ∉ ch:=λz=>(hch p.1 z).2.2.2 p hp rfl
  exact ⟨keep p.1 p.2 ne nf nch e n,free p.1 p.2 nch e n,ne,nf,d⟩
theorem Inv.un {t':Nat}(I:Inv X pins σ H s)(u:Un X.fs [] H H' s.heap h')(hok:HOk X.prog X.w H' h'):Inv X pins σ H' { s with heap:=h',toks:=t' }:=by
 obtain ⟨m,⟨o,es,ep,ho,r⟩,_⟩:=id I.loc
 obtain ⟨sl,hL⟩:=u.any ho I.free (by simp)
 exact I.step (g':=s.gens) (d':=s.drawn) (ch:=[]) (λ_ z=>nomatch z) (λb o _ hb _ e n=>u.keep b o e n hb (by simp)) (λb o _ hb _ e n=>u.slot b o e n hb (by simp)) (λb o _ e n=>u.free b o e n (by simp)) (λb o _ e=>u.there b o e (by simp)) u.oB u.mq u.nN (λm' hm=>by
  obtain ⟨o',es',ep',ho',r'⟩:=hm
  rw[ho] at ho';cases ho'
  exact ⟨_,es',ep',hL,r'⟩) hok I.bare
theorem Inv.call {g':Array GenState}{t':Nat}{d':Drawn}{ch:List Addr}(I:Inv X pins σ H s)(u:Un (frs X.stack) ch H H' s.heap h')(hok:HOk X.prog X.w H' h')(hg:Zl g')
  (hch:∀ b∈ch,(b∈X.ex∨X.s₀.heap.objs.size<=b)/\b≠X.env.locals/\(∀ x c,X.env.cells.lookup x=some c->c≠b)/\∀ p∈X.pn++pins,p.1≠b) :
  Inv X pins σ H' { s with heap:=h',gens:=g',drawn:=d',toks:=t' }:=by
 obtain ⟨m,⟨o,es,ep,ho,r⟩,_⟩:=id I.loc
 obtain ⟨sl,hL⟩:=u.any ho I.free λz=>(hch _ z).2.1 rfl
 exact I.step (ch:=ch) hch (λb o hL hb hc e n=>u.keep b o e n (λz=>(UZ.mp (I.AO b z)).elim hL hb) hc) (λb o _ _ hc e n=>u.any e n hc) (λb o hc e n=>u.free b o e n hc) (λb o hc e=>u.there b o e hc) u.oB u.mq u.nN (λm' hm=>by
  obtain ⟨o',es',ep',ho',r'⟩:=hm
  rw[ho] at ho';cases ho'
  exact ⟨_,es',ep',hL,r'⟩) hok hg
theorem Inv.turned {t':Nat}{it:Addr}(I:Inv X pins σ H s)(k:∀ b o,b≠it->s.heap.get? b=some o->h'.get? b=some o)(hn:H it=none)(hL:it≠X.env.locals)
  (h1:it∈X.ex∨X.s₀.heap.objs.size<=it) (h2:∀ x c,X.env.cells.lookup x=some c->c≠it) (h3:∀ p∈X.pn++pins,p.1≠it):Inv X pins σ H { s with heap:=h',toks:=t' }:=by
 have nit:∀ b u,H b=some u->b≠it:=λb u e z=>by rw[z,hn] at e;cases e
 refine I.step (g':=s.gens) (d':=s.drawn) (ch:=[it]) (λb hb=>?_) (λb o _ _ hc e _=>k b o (λz=>hc (by simp[z])) e) (λb o _ _ hc e _=>⟨o.slots,k b o (λz=>hc (by simp[z])) e⟩) (λ_ _ _ _ n=>n)
  (λb o hc e=>⟨o,k b o (λz=>hc (by simp[z])) e⟩) (λ_ _ e=>e) (λ_ _ _ e=>e) (λb ps e=>⟨#[],by rw[e];simp⟩) (λm hm=>?_) (λb u e=>?_) I.bare
 ·have e:b=it:=by simpa using hb
  subst e
  exact ⟨h1,hL,h2,h3⟩
 ·obtain ⟨o,es,ep,ho,r⟩:=hm
  exact ⟨o,es,ep,k _ o (Vo hL) ho,r⟩
 ·refine (I.hok b u e).lO (λc v hc q=>k c v ?_ q) (λ_ q=>q) λ_ _ q=>q
  rcases hc with z | z
  ·rw[z];exact nit b u e
  ·exact nit c _ z
theorem Inv.tok (I:Inv X pins σ H s)(t:Nat):Inv X pins σ H { s with toks:=t }:=I.un (h':=s.heap) (t':=t) Un.refl I.hok
theorem Inv.kept {t':Nat}(I:Inv X pins σ H s)(k:∀ b u,s.heap.get? b=some u->h'.get? b=some u):Inv X pins σ H { s with heap:=h',toks:=t' }:=I.un (Un.kept k) (I.hok.kept k)
theorem Inv.laid {a:Addr}{o:HO}{t':Nat}(I:Inv X pins σ H s)(k:∀ b u,s.heap.get? b=some u->h'.get? b=some u)(hp:s.heap.objs.size<=a)(new:cW X.prog X.w (upd H a o) h' a o) :
  Inv X pins σ (upd H a o) { s with heap:=h',toks:=t' }:=I.un (Un.laid k hp (I.hok.fresh hp)) (I.hok.laid k hp new)
theorem Inv.write {x e:Addr}{o:HO}{t':Nat}(I:Inv X pins σ H s)(mu:Mut (H x))(he:e=x∨H e=some (.own x))(k:∀ b u,b≠e->s.heap.get? b=some u->h'.get? b=some u)(heo:∃ u,h'.get? e=some u)
  (new:cW X.prog X.w (upd H x o) h' x o):Inv X pins σ (upd H x o) { s with heap:=h',toks:=t' }:=I.un (Un.write mu he k heo) (I.hok.write mu he k heo new)
theorem Inv.weak {σ':List (Option V)}(I:Inv X pins σ H s)(hl:σ'.length=σ.length)(w:∀ (i:Nat) v,σ'[i]? = some (some v)->σ[i]? = some (some v)):Inv X pins σ' H s:=
 ⟨I.ok,I.os,I.bare,I.base,let ⟨m,hn,hl'⟩:=I.loc;⟨m,hn,λi x v e1 e2 e3=>hl' i x v e1 (w i v e2) e3⟩,I.cell,I.free,I.jz,I.pin,I.hok,hl.trans I.len⟩
theorem Inv.Cw {pins':List (Addr×Obj)}(I:Inv X pins σ H s)(h:∀ p∈pins',s.heap.get? p.1=some p.2/\H p.1=none/\p.1≠X.env.locals/\p.1 ∉ X.fs/\∀ v,p.2.data≠.cell v):Inv X pins' σ H s:=
 ⟨I.ok,I.os,I.bare,I.base,I.loc,I.cell,I.free,I.jz,λp hp=>(Vu.mp hp).elim (λz=>I.pin p (XB _ z)) (h p),I.hok,I.len⟩
theorem wg {N:List Str}(hN:N.Nodup){i j:Nat}{x:Str}(a:N[i]? = some x)(b:N[j]? = some x):i=j:=by
 obtain ⟨h1,e1⟩:=Vh.mp a
 obtain ⟨h2,e2⟩:=Vh.mp b
 exact (zbO hN).mp (e1.trans e2.symm)
theorem Di {M:Model}{A:VX}{E:UK->UN->Prop}{i:Nat}{x:Str}{v:V}{u:UK}{Q:Unit->UN->Prop}(I:Inv X pins σ H s)(hN:X.N.Nodup)(hi:X.N[i]? = some x)(hx:Loc X.env.scope x)(r:RelV v u)
  (h:∀ s',Inv X pins (σ.set i (some v)) H s'->(∃ a,XM a s.heap s'.heap/\(a=X.env.locals∨X.env.cells.lookup x=some a))->Q () s') (hf:X.fn x=true∨X.env.scope.names.lookup x=some .local:=by first | exact .inl rfl | exact .inr rfl | assumption):U9 M A (storeName X.env x u) Q E s:=by
 obtain ⟨m,hn,hl⟩:=id I.loc
 have Ue:(X.env.scope.kind == .class || (X.env.scope.kind == .module&&X.env.locals != X.env.globals))=false:=by rw[I.ok.kind];rfl
 have hiσ:i < σ.length:=by rw[I.len];exact (Vh.mp hi).1
 have cne:=I.cne
 have tracked:∀ {a:Addr} {h':Heap},(∃ o,s.heap.get? a=some o/\H a=none)->XM a s.heap h'->HOk X.prog X.w H h':=λ{a h'} ha hs b ob e=>by
  obtain ⟨_,_,hfree⟩:=ha
  refine (I.hok b ob e).lO (λc w' hc q=>(hs.2 c ?_).trans q) (λ_ q=>q) λ_ _ q=>q
  rintro rfl
  rcases hc with rfl | hc
  ·rw[hfree] at e;cases e
  ·rw[hfree] at hc;cases hc
 rcases hx with hk | hk
 ·refine wpAny_storeName_local hk hn (λh' hn' hs=>?_) Ue
  obtain ⟨oL,_,_,hoL,_⟩:=id hn
  refine h _ ⟨I.ok,I.os,I.bare,⟨λb o e n hb hx=>?_,λb o e n hb hx=>?_,I.base.free,λb o e hx=>?_,I.base.oB,I.base.mq,I.base.nN⟩,⟨_,hn',λj y v' e1 e2 e3=>?_⟩,λy c e=>?_,I.free,I.jz,λp hp=>?_,tracked ⟨oL,hoL,I.free⟩ hs,by simpa using I.len⟩ ⟨_,hs,.inl rfl⟩
  ·exact (hs.2 b (Vc (U6 (U1 e) I.ok.above))).trans (I.base.keep b o e n hb hx)
  ·obtain ⟨sl,e1⟩:=I.base.slot b o e n hb hx
   exact ⟨sl,(hs.2 b (Vc (U6 (U1 e) I.ok.above))).trans e1⟩
  ·obtain ⟨o',e1⟩:=I.base.there b o e hx
   exact ⟨o',(hs.2 b (Vc (U6 (U1 e) I.ok.above))).trans e1⟩
  ·by_cases hj:j=i
   ·subst hj
    rw[hi] at e1;cases e1
    rw[Yo hiσ] at e2
    cases e2
    exact ⟨u,r,.inl ⟨hk,by simp⟩⟩
   ·rw[W5 (Vo hj)] at e2
    obtain ⟨u',r',q⟩:=hl j y v' e1 e2 e3
    refine ⟨u',r',?_⟩
    rcases q with ⟨k,e⟩ | ⟨k,c,e,z⟩
    ·refine .inl ⟨k,?_⟩
     have:y≠x:=λe=>hj (wg hN e1 (e ▸ hi))
     simp[this,e]
    ·exact .inr ⟨k,c,e,z.sameBut hs (cne y c e)⟩
  ·obtain ⟨w',z⟩:=I.cell y c e
   exact ⟨w',z.sameBut hs (cne y c e)⟩
  ·obtain ⟨e,n,ne,nf,d⟩:=I.pin p hp
   exact ⟨(hs.2 p.1 ne).trans e,n,ne,nf,d⟩
 ·have hfn:X.fn x=true:=by
   rcases hf with z | z
   ·exact z
   ·rw[z] at hk;cases hk
  obtain ⟨c,hc⟩:=I.ok.has x (.inl hk)
  obtain ⟨w',z⟩:=I.cell x c hc
  refine wpAny_storeName_cell I.ok.kind hk hc z (λh' hc' hs=>?_)
  obtain ⟨oc,hoc,hocd⟩:=id z
  refine h { s with heap:=h' } ⟨I.ok,I.os,I.bare,⟨λb o e n hb hx=>?_,λb o e n hb hx=>?_,I.base.free,λb o e hx=>?_,I.base.oB,I.base.mq,I.base.nN⟩,⟨m,hn.sameBut hs (Vo (cne x c hc)),λj y v' e1 e2 e3=>?_⟩,λy c' e=>?_,I.free,I.jz,λp hp=>?_,tracked ⟨oc,hoc,I.jz x c hc⟩ hs,by simpa using I.len⟩ ⟨c,hs,.inr hc⟩
  ·exact (hs.2 b (Vc (U6 (U1 e) (I.ok.cab x c hfn hc)))).trans (I.base.keep b o e n hb hx)
  ·obtain ⟨sl,e1⟩:=I.base.slot b o e n hb hx
   exact ⟨sl,(hs.2 b (Vc (U6 (U1 e) (I.ok.cab x c hfn hc)))).trans e1⟩
  ·obtain ⟨o',e1⟩:=I.base.there b o e hx
   exact ⟨o',(hs.2 b (Vc (U6 (U1 e) (I.ok.cab x c hfn hc)))).trans e1⟩
  ·by_cases hj:j=i
   ·subst hj
    rw[hi] at e1;cases e1
    rw[Yo hiσ] at e2
    cases e2
    exact ⟨u,r,.inr ⟨.inl hk,c,hc,hc'⟩⟩
   ·rw[W5 (Vo hj)] at e2
    obtain ⟨u',r',q⟩:=hl j y v' e1 e2 e3
    refine ⟨u',r',?_⟩
    rcases q with q | ⟨k,c',e,z'⟩
    ·exact .inl q
    ·refine .inr ⟨k,c',e,z'.sameBut hs ?_⟩
     rintro rfl
     exact hj (wg hN e1 (I.ok.inj _ _ _ e hc ▸ hi))
  ·by_cases hcc:c'=c
   ·subst hcc;exact ⟨_,hc'⟩
   ·obtain ⟨w2,z2⟩:=I.cell y c' e
    exact ⟨w2,z2.sameBut hs hcc⟩
  ·obtain ⟨e,n,ne,nf,d⟩:=I.pin p hp
   refine ⟨(hs.2 p.1 ?_).trans e,n,ne,nf,d⟩
   intro q
   rw[q,hoc] at e
   have q':oc=p.2:=Vt e
   exact d w' (by rw[← q'];exact hocd)
theorem jh {M:Model}{A:VX}{E:UK->UN->Prop}{i:Nat}{x:Str}{v:V}{u:UK}{Q:Unit->UN->Prop}(I:Inv X pins σ H s)(hN:X.N.Nodup)(hi:X.N[i]? = some x)(hx:Loc X.env.scope x)(r:RelV v u)
  (h:∀ s',Inv X pins (σ.set i (some v)) H s'->Q () s') (hf:X.fn x=true∨X.env.scope.names.lookup x=some .local:=by first | exact .inl rfl | exact .inr rfl | assumption):U9 M A (storeName X.env x u) Q E s:=
 Di I hN hi hx r (λs' I' _=>h s' I') hf
theorem Inv.Na {s':UN}{ch:List Addr}(I:Inv X pins σ H s)(ho:s'.os=s.os)(u:Un (frs X.stack) ch H H' s.heap s'.heap)(hok:HOk X.prog X.w H' s'.heap)(hg:Zl s'.gens)
  (hch:∀ b∈ch,(b∈X.ex∨X.s₀.heap.objs.size<=b)/\b≠X.env.locals/\(∀ x c,X.env.cells.lookup x=some c->c≠b)/\∀ p∈X.pn++pins,p.1≠b):Inv X pins σ H' s':=by
 obtain ⟨h',g',d',t',o'⟩:=s'
 have e:o'=s.os:=ho
 subst e
 exact I.call (g':=g') (t':=t') (d':=d') u hok hg hch
end
abbrev XK:=UK->Option Addr->Hp->Prop
abbrev St:=List (Option V)
abbrev VK:=V->Hp->Prop
abbrev TE:=St->Hp->VK->Prop
abbrev TT:=St->Hp->(Bool->Hp->Prop)->Prop
abbrev TA:=St->Hp->(List V->Hp->Prop)->Prop
structure Ends where
 nx:St->Hp->Prop
 rt:VK
 bk:St->Hp->Prop:=λ_ _=>False
 ct:St->Hp->Prop:=λ_ _=>False
abbrev TS:=Ends->St->Hp->Prop
def EP (X:Cx)(pins:List (Addr×Obj))(σ:St)(Q:VK)(u:UK)(s':UN):Prop:=∃ v H',Inv X pins σ H' s'/\RelV v u/\Q v H'
def TP (X:Cx)(pins:List (Addr×Obj))(σ:St)(Q:Bool->Hp->Prop)(b:Bool)(s':UN):Prop:=∃ H',Inv X pins σ H' s'/\Q b H'
def AP (X:Cx)(pins:List (Addr×Obj))(σ:St)(Q:List V->Hp->Prop)(us:List UK)(s':UN):Prop:=∃ vs H',Inv X pins σ H' s'/\Vals vs us/\Q vs H'
def SP (X:Cx)(pins:List (Addr×Obj))(D:Ends)(f:Flow)(s':UN):Prop:=
 match f with
 | .next=>∃ σ' H',Inv X pins σ' H' s'/\D.nx σ' H'
 | .brk=>∃ σ' H',Inv X pins σ' H' s'/\D.bk σ' H'
 | .cont=>∃ σ' H',Inv X pins σ' H' s'/\D.ct σ' H'
 | .ret u=>∃ v σ' H',Inv X pins σ' H' s'/\RelV v u/\D.rt v H'
def PE (X:Cx)(e:Ve)(t:TE):Prop:=
 ∀ (pins:List (Addr×Obj)) (s:UN) (σ:St) (H:Hp) (Q:VK),Inv X pins σ H s->t σ H Q->U9 (Vb X.prog X.w) X.A (V8 e X.env) (EP X pins σ Q) X.xe s
def PT (X:Cx)(e:Ve)(t:TT):Prop:=
 ∀ (pins:List (Addr×Obj)) (s:UN) (σ:St) (H:Hp) (Q:Bool->Hp->Prop),Inv X pins σ H s->t σ H Q->U9 (Vb X.prog X.w) X.A (isTrue e X.env (V8 e X.env)) (TP X pins σ Q) X.xe s
def PW (X:Cx)(e:Ve)(t:TT):Prop:=
 ∀ (whole:Sem UK) (pins:List (Addr×Obj)) (s:UN) (σ:St) (H:Hp) (Q:Bool->Hp->Prop),Inv X pins σ H s->t σ H Q->U9 (Vb X.prog X.w) X.A (isTrue e X.env whole) (TP X pins σ Q) X.xe s
theorem PW.pt {X:Cx}{e:Ve}{t:TT}(h:PW X e t):PT X e t:=h _
def PA (X:Cx)(es:List Ve)(t:TA):Prop:=
 ∀ (pos:Pos) (pins:List (Addr×Obj)) (s:UN) (σ:St) (H:Hp) (Q:List V->Hp->Prop),Inv X pins σ H s->t σ H Q->U9 (Vb X.prog X.w) X.A (spliced (Wu pos (UX es X.env))) (AP X pins σ Q) X.xe s
def PS (X:Cx)(st:Stmt)(t:TS):Prop:=
 ∀ (pins:List (Addr×Obj)) (s:UN) (σ:St) (H:Hp) (D:Ends),Inv X pins σ H s->t D σ H->U9 (Vb X.prog X.w) X.A (exec st X.env) (SP X pins D) X.xe s
def PSs (X:Cx)(st:List Stmt)(t:TS):Prop:=
 ∀ (pins:List (Addr×Obj)) (s:UN) (σ:St) (H:Hp) (D:Ends),Inv X pins σ H s->t D σ H->U9 (Vb X.prog X.w) X.A (execs st X.env) (SP X pins D) X.xe s
theorem thn {α:Type}{t:Sem α}{Q Q':α->UN->Prop}{M:Model}{A:VX}{E:UK->UN->Prop}{s:UN}(h:U9 M A t Q E s)(hQ:∀ a s,Q a s->Q' a s):U9 M A t Q' E s:=V9 h hQ λ_ _ x=>x
end L2
namespace L2
open PySem PySem.Spec PyProof.Rows
section
variable {X:Cx}
def RB (i:Nat):TE:=λσ H Q=>∃ v,σ[i]? = some (some v)/\Q v H
def tC (v:V):TE:=λ_ H Q=>Q v H
theorem Hj {i:Nat}{x:Str}{pos:Pos}(hN:X.N[i]? = some x)(hv:Vis X.env.scope x)(hd:(x == ("__debug__" : Str))=false:=by decide)(hcd:(x == ("__classdict__" : Str))=false:=by decide):PE X (.Name x pos) (RB i):=by
 intro pins s σ H Q I h
 obtain ⟨v,e,h⟩:=h
 obtain ⟨m,hn,hl⟩:=I.loc
 obtain ⟨u,r,l⟩:=hl i x v hN e hv
 have fin:EP X pins σ Q u s:=⟨v,H,I,r,h⟩
 rcases l with ⟨hk,hm⟩ | ⟨hk,c,hc,hcell⟩
 ·exact zck (zaq I.ok.kind hk hn hm fin) hd
 ·rcases hk with hk | hk
  ·exact zck (zaO I.ok.kind hk hc hcell fin) hd
  ·exact zck (wpAny_loadName_free I.ok.kind hk hc hcell fin hcd) hd
theorem Pu {i j pos}:PE X (.Constant (.int i) j pos) (tC (.int i)):=λ_ _ _ H _ I h=>wpAny_Constant_int ⟨.int i,H,I.tok _,⟨_,rfl⟩,h⟩
theorem RI {b j pos}:PE X (.Constant (.bool b) j pos) (tC (.bl b)):=λ_ _ _ H _ I h=>Constant_bool ⟨.bl b,H,I,rfl,h⟩
theorem QI {j pos}:PE X (.Constant .none j pos) (tC .non):=λ_ _ _ H _ I h=>Constant_none ⟨.non,H,I,rfl,h⟩
theorem HN {x j pos}:PE X (.Constant (.str x) j pos) (tC (.str x)):=λ_ _ _ H _ I h=>Calls.Constant_str ⟨.str x,H,I.tok _,⟨_,rfl⟩,h⟩
def Gl (X:Cx)(x:Str):Prop:=X.env.kindOf x=some .globalImplicit
theorem BF {E:UK->UN->Prop}{pins:List (Addr×Obj)}{s:UN}{σ:St}{H:Hp}{x:Str}{u:UK}{pos:Pos}{Q:UK->UN->Prop}(I:Inv X pins σ H s)(hg:Gl X x)(hm:X.mg x=some u)(h:Q u s)
  (hd:(x == ("__debug__" : Str))=false:=by decide):U9 (Vb X.prog X.w) X.A (V8 (.Name x pos) X.env) Q E s:=
 Y8 I.ok.kind hg (Calls.loadGlobal_global (by rw[I.ok.glob];exact I.mod.glob.keeps I.bk) hm h) hd
theorem iq {E:UK->UN->Prop}{pins:List (Addr×Obj)}{s:UN}{σ:St}{H:Hp}{x:Str}{u:UK}{pos:Pos}{Q:UK->UN->Prop}(I:Inv X pins σ H s)(hg:Gl X x)(hm:X.mg x=none)(hv:Wc x=some u)(h:Q u s)
  (hn:x ≠ "__name__" := by decide) (hd:(x == ("__debug__" : Str))=false:=by decide):U9 (Vb X.prog X.w) X.A (V8 (.Name x pos) X.env) Q E s:=by
 obtain ⟨mb,h1,h2⟩:=I.mod.blt
 exact Y8 I.ok.kind hg (Calls.loadGlobal_builtin (by rw[I.ok.glob];exact I.mod.glob.keeps I.bk) hm (by rw[I.ok.blt];exact h1.keeps I.bk) ((h2 x hn).trans hv) h) hd
theorem Lf {x:Str}{v:V}{u:UK}{pos:Pos}(hg:Gl X x)(hm:X.mg x=some u)(r:RelV v u)(hd:(x == ("__debug__" : Str))=false:=by decide):PE X (.Name x pos) (tC v):=
 λ_ _ _ H _ I h=>BF I hg hm ⟨v,H,I,r,h⟩ hd
theorem CD {x:Str}{v:V}{u:UK}{pos:Pos}(hg:Gl X x)(hm:X.mg x=none)(hv:Wc x=some u)(r:RelV v u)(hn:x ≠ "__name__" := by decide)(hd:(x == ("__debug__" : Str))=false:=by decide):PE X (.Name x pos) (tC v):=
 λ_ _ _ H _ I h=>iq I hg hm hv ⟨v,H,I,r,h⟩ hn hd
variable {a b:Ve} {ta tb:TE} {pos:Pos}
def tB (t:TE):TT:=λσ H Q=>t σ H λx H1=>∃ c,x=.bl c/\Q c H1
theorem PL {e:Ve}{t:TE}(h:PE X e t)(he:∀ whole,isTrue e X.env whole=(do let v ← whole;standAt e.pos;ZY [v] (truthy v)):=by intro _;rfl):PT X e (tB t):=by
 intro pins s σ H Q I hw
 refine isTrue_plain (thn (h pins s σ H _ I hw) λv s1 ⟨x,H1,I1,r1,q1⟩=>?_) (he _)
 obtain ⟨d,rfl,q⟩:=q1
 cases r1
 exact WK ⟨H1,I1,q⟩
variable {tA tB':TT} {rest:List Ve}
def SX (t u:TT):TT:=λσ H Q=>t σ H λc H1=>if c=true then u σ H1 Q else Q false H1
def tOr (t u:TT):TT:=λσ H Q=>t σ H λc H1=>if c=true then Q true H1 else u σ H1 Q
def SW (t:TT):TT:=λσ H Q=>t σ H λc H1=>Q (!c) H1
theorem pw_and1 (ha:PT X a tA):PW X (.BoolOp .And [a] pos) tA:=by
 intro wh pins s σ H Q I h
 refine isTrue_and (thn (ha pins s σ H Q I h) λc s1 e=>?_)
 cases c with
 | true=>exact isTrue_and_nil e
 | false=>exact e
theorem pw_or1 (ha:PT X a tA):PW X (.BoolOp .Or [a] pos) tA:=by
 intro wh pins s σ H Q I h
 refine isTrue_or (thn (ha pins s σ H Q I h) λc s1 e=>?_)
 cases c with
 | false=>exact isTrue_or_nil e
 | true=>exact e
theorem pw_and (ha:PT X a tA)(hb:PW X (.BoolOp .And (b::rest) pos) tB'):PW X (.BoolOp .And (a::b::rest) pos) (SX tA tB'):=by
 intro wh pins s σ H Q I h
 refine isTrue_and (thn (ha pins s σ H _ I h) λc s1 ⟨H1,I1,q1⟩=>?_)
 cases c with
 | true=>exact hb wh pins s1 σ H1 Q I1 q1
 | false=>exact ⟨H1,I1,q1⟩
theorem pw_or (ha:PT X a tA)(hb:PW X (.BoolOp .Or (b::rest) pos) tB'):PW X (.BoolOp .Or (a::b::rest) pos) (tOr tA tB'):=by
 intro wh pins s σ H Q I h
 refine isTrue_or (thn (ha pins s σ H _ I h) λc s1 ⟨H1,I1,q1⟩=>?_)
 cases c with
 | true=>exact ⟨H1,I1,q1⟩
 | false=>exact hb wh pins s1 σ H1 Q I1 q1
theorem Nz (ha:PT X a tA):PT X (.UnaryOp .Not a pos) (SW tA):=by
 intro pins s σ H Q I h
 exact isTrue_not (ha pins s σ H (λc H1=>Q (!c) H1) I h)
def R7 (ta tb:TE):TE:=λσ H Q=>ta σ H λx H1=>∃ c,x=.bl c/\if c=true then tb σ H1 Q else Q (.bl false) H1
def Tw (ta tb:TE):TE:=λσ H Q=>ta σ H λx H1=>∃ c,x=.bl c/\if c=true then Q (.bl true) H1 else tb σ H1 Q
def RH (ta:TE):TE:=λσ H Q=>ta σ H λx H1=>∃ c,x=.bl c/\Q (.bl (!c)) H1
theorem QB {op}{t:TE}(h:PE X a t):PE X (.BoolOp op [a] pos) t:=λpins s σ H Q I hw=>BoolOp_one (h pins s σ H Q I hw)
theorem NB (ha:PE X a ta)(hb:PE X (.BoolOp .And (b::rest) pos) tb):PE X (.BoolOp .And (a::b::rest) pos) (R7 ta tb):=by
 intro pins s σ H Q I h
 refine BoolOp_and (thn (ha pins s σ H _ I h) λv s1 ⟨x,H1,I1,r1,q1⟩=>?_)
 obtain ⟨c,rfl,q1⟩:=q1
 cases r1
 refine WK ?_
 cases c with
 | true=>exact hb pins s1 σ H1 Q I1 q1
 | false=>exact ⟨.bl false,H1,I1,rfl,q1⟩
theorem Sv (ha:PE X a ta)(hb:PE X (.BoolOp .Or (b::rest) pos) tb):PE X (.BoolOp .Or (a::b::rest) pos) (Tw ta tb):=by
 intro pins s σ H Q I h
 refine BoolOp_or (thn (ha pins s σ H _ I h) λv s1 ⟨x,H1,I1,r1,q1⟩=>?_)
 obtain ⟨c,rfl,q1⟩:=q1
 cases r1
 refine WK ?_
 cases c with
 | false=>exact hb pins s1 σ H1 Q I1 q1
 | true=>exact ⟨.bl true,H1,I1,rfl,q1⟩
theorem Oo (ha:PE X a ta):PE X (.UnaryOp .Not a pos) (RH ta):=by
 intro pins s σ H Q I h
 refine UnaryOp_ (thn (ha pins s σ H _ I h) λv s1 ⟨x,H1,I1,r1,q1⟩=>?_)
 obtain ⟨c,rfl,q1⟩:=q1
 cases r1
 exact not_of (WK ⟨.bl (!c),H1,I1,rfl,q1⟩)
def tIf (t:TT)(ta tb:TE):TE:=λσ H Q=>t σ H λc H1=>if c=true then ta σ H1 Q else tb σ H1 Q
theorem F4 {c:Ve}(hc:PT X c tA)(ha:PE X a ta)(hb:PE X b tb):PE X (.IfExp c a b pos) (tIf tA ta tb):=by
 intro pins s σ H Q I h
 refine wpAny_IfExp (thn (hc pins s σ H _ I h) λd s1 ⟨H1,I1,q1⟩=>?_)
 cases d with
 | true=>exact ha pins s1 σ H1 Q I1 q1
 | false=>exact hb pins s1 σ H1 Q I1 q1
end
end L2
namespace L2
open PySem PySem.Spec PyProof.Rows
def SqL (K:UH)(H:Hp)(a:Addr)(xs:List V):Prop:=
 Rd H a (.lst xs)∨
  ∃ (o:Obj) (its:Array UK) (n:Nat),K.lookup a=some o/\o.cls=.type "list" /\ o.dict=none/\o.data=.seq its n/\its.size<=sizeLine/\Vals xs its.toList
def SqT (K:UH)(H:Hp)(a:Addr)(xs:List V):Prop:=
 Rd H a (.tup xs)∨
  ∃ (o:Obj) (its:Array UK) (n:Nat),K.lookup a=some o/\o.cls=.type "tuple" /\ o.dict=none/\o.data=.seq its n/\its.size<=sizeLine/\Vals xs its.toList
def Tv:UK->Option V
 | .none=>some .non
 | .bool b=>some (.bl b)
 | .int i _=>some (.int i)
 | .str x _=>some (.str x)
 | .bytes b _=>some (.byt b)
 | .float b _=>some (.flt b)
 | .ref a=>some (.ref a)
 | .type n=>some (.ty n)
 | _=>none
theorem RelV.abs {x:V}{u:UK}(r:RelV x u):Tv u=some x:=by
 cases x with
 | non=>cases r;rfl
 | bl _=>cases r;rfl
 | int _=>obtain ⟨t,rfl⟩:=r;rfl
 | str _=>obtain ⟨t,rfl⟩:=r;rfl
 | byt _=>obtain ⟨t,rfl⟩:=r;rfl
 | flt _=>obtain ⟨t,rfl⟩:=r;rfl
 | ref _=>cases r;rfl
 | ty _=>cases r;rfl
theorem RelV.inj {x y:V}{u:UK}(r:RelV x u)(q:RelV y u):x=y:=Vt (r.abs.symm.trans q.abs)
theorem Vals.inj:∀ {xs ys:List V} {us:List UK},Vals xs us->Vals ys us->xs=ys
 | _,_,_,.nil,.nil=>rfl
 | _,_,_,.cons r t,.cons r' t'=>by rw[r.inj r',Vals.inj t t']
section
variable {X:Cx} {pins:List (Addr×Obj)} {σ:St} {H:Hp} {s:UN} {a:Addr} {xs ys:List V}
theorem SqL.of {K:UH}(h:H a=some (.lst xs)):SqL K H a xs:=.inl (.inl h)
theorem SqT.of {K:UH}(h:H a=some (.tup xs)):SqT K H a xs:=.inl (.inl h)
theorem Inv.list (I:Inv X pins σ H s)(h:SqL X.K H a xs):∃ its:List UK,Vals xs its/\PlainL s.heap a its.toArray/\xs.length<=sizeLine:=by
 rcases h with h | ⟨o,its,n,hk,hc,hd,hs,hz,r⟩
 ·obtain ⟨z,its,n,r,e⟩:=h.ok I.hok
  exact ⟨its,r,⟨_,n,e,rfl,rfl,rfl⟩,z⟩
 ·refine ⟨its.toList,r,⟨o,n,I.kIn a o hk,hc,hd,by simpa using hs⟩,?_⟩
  have e:=r.length
  simp only[XZ] at e
  omega
theorem Inv.tuple (I:Inv X pins σ H s)(h:SqT X.K H a xs):∃ its:List UK,Vals xs its/\zb4 s.heap a its.toArray/\xs.length<=sizeLine:=by
 rcases h with h | ⟨o,its,n,hk,hc,hdn,hs,hz,r⟩
 ·obtain ⟨z,its,r,p⟩:=h.ok I.hok
  exact ⟨its,r,p.tup,z⟩
 ·refine ⟨its.toList,r,⟨o,I.kIn a o hk,hc,n,by simpa using hs⟩,?_⟩
  have e:=r.length
  simp only[XZ] at e
  omega
theorem Inv.vZ (I:Inv X pins σ H s)(h:SqL X.K H a xs)(h':SqL X.K H a ys):xs=ys:=by
 obtain ⟨its,r,⟨o,n,e,_,_,d⟩,_⟩:=I.list h
 obtain ⟨its',r',⟨o',n',e',_,_,d'⟩,_⟩:=I.list h'
 rw[e] at e';cases e'
 rw[d] at d'
 injection d' with d1 _
 have:its=its':=by simpa using congrArg zcQ d1
 subst this
 exact r.inj r'
theorem Inv.tX (I:Inv X pins σ H s)(h:SqT X.K H a xs)(h':SqT X.K H a ys):xs=ys:=by
 obtain ⟨its,r,⟨o,e,_,n,d⟩,_⟩:=I.tuple h
 obtain ⟨its',r',⟨o',e',_,n',d'⟩,_⟩:=I.tuple h'
 rw[e] at e';cases e'
 rw[d] at d'
 injection d' with d1 _
 have:its=its':=by simpa using congrArg zcQ d1
 subst this
 exact r.inj r'
end
abbrev Cx.oq (X:Cx)(E:UK->UN->Prop):Cx:={ X with xe:=E }
abbrev Cx.nox (X:Cx):Cx:=X.oq λ_ _=>False
theorem Cx.Ok.oq {X:Cx}(ok:X.Ok)(E:UK->UN->Prop):(X.oq E).Ok:=
 ⟨ok.mod,ok.kind,ok.glob,ok.blt,ok.above,ok.inj,ok.has,ok.cab,ok.hd,ok.frames,ok.stk,ok.exf,ok.bs,ok.bsz,ok.GQ,ok.Ft,ok.rn,ok.frf⟩
theorem Cx.Ok.gH {X:Cx}{E:UK->UN->Prop}(ok:(X.oq E).Ok):X.Ok:=
 ⟨ok.mod,ok.kind,ok.glob,ok.blt,ok.above,ok.inj,ok.has,ok.cab,ok.hd,ok.frames,ok.stk,ok.exf,ok.bs,ok.bsz,ok.GQ,ok.Ft,ok.rn,ok.frf⟩
section
variable {X:Cx} {pins:List (Addr×Obj)} {σ:St} {H:Hp} {s:UN} {E:UK->UN->Prop}
theorem Inv.oq (I:Inv X pins σ H s)(E:UK->UN->Prop):Inv (X.oq E) pins σ H s:=⟨I.ok.oq E,I.os,I.bare,I.base,I.loc,I.cell,I.free,I.jz,I.pin,I.hok,I.len⟩
theorem Inv.gH (I:Inv (X.oq E) pins σ H s):Inv X pins σ H s:=⟨I.ok.gH,I.os,I.bare,I.base,I.loc,I.cell,I.free,I.jz,I.pin,I.hok,I.len⟩
theorem SP.gH {D:Ends}{f:Flow}{s':UN}(h:SP (X.oq E) pins D f s'):SP X pins D f s':=by
 cases f with
 | next=>obtain ⟨σ',H',I,q⟩:=h;exact ⟨σ',H',I.gH,q⟩
 | brk=>obtain ⟨σ',H',I,q⟩:=h;exact ⟨σ',H',I.gH,q⟩
 | cont=>obtain ⟨σ',H',I,q⟩:=h;exact ⟨σ',H',I.gH,q⟩
 | ret u=>obtain ⟨v,σ',H',I,r,q⟩:=h;exact ⟨v,σ',H',I.gH,r,q⟩
theorem PE.nox {e:Ve}{t:TE}(h:PE X.nox e t):PE X e t:=λpins s σ H Q I hw=>
 V9 (h pins s σ H Q (I.oq _) hw) (λ_ _ ⟨v,H',I',r,q⟩=>⟨v,H',I'.gH,r,q⟩) λ_ _ z=>UO z
theorem PT.nox {e:Ve}{t:TT}(h:PT X.nox e t):PT X e t:=λpins s σ H Q I hw=>
 V9 (h pins s σ H Q (I.oq _) hw) (λ_ _ ⟨H',I',q⟩=>⟨H',I'.gH,q⟩) λ_ _ z=>UO z
theorem PSs.nox {st:List Stmt}{t:TS}(h:PSs X.nox st t):PSs X st t:=λpins s σ H D I hw=>
 V9 (h pins s σ H D (I.oq _) hw) (λ_ _ q=>q.gH) λ_ _ z=>UO z
end
section
variable {X:Cx} {st:Stmt} {rest:List Stmt} {t u:TS} {e:Ve} {te:TE} {pos:Pos}
def QX:TS:=λD σ H=>D.nx σ H
def S4 (t u:TS):TS:=λD σ H=>t { D with nx:=u D } σ H
theorem Mo:PSs X [] QX:=λ_ _ σ H _ I h=>YT ⟨σ,H,I,h⟩
theorem Gk (h1:PS X st t)(h2:PSs X rest u):PSs X (st::rest) (S4 t u):=by
 intro pins s σ H D I h
 refine zbP (thn (h1 pins s σ H { D with nx:=u D } I h) λf s1 q=>?_)
 cases f with
 | next=>
  obtain ⟨σ',H',I',q⟩:=q
  exact h2 pins s1 σ' H' D I' q
 | ret v=>exact q
 | brk=>exact q
 | cont=>exact q
theorem Mk (h1:PS X st t):PSs X [st] t:=by
 intro pins s σ H D I h
 refine zbP (thn (h1 pins s σ H D I h) λf s1 q=>?_)
 cases f with
 | next=>exact YT q
 | ret v=>exact q
 | brk=>exact q
 | cont=>exact q
theorem Inv.quiet {pins:List (Addr×Obj)}{σ:St}{H:Hp}{s:UN}(I:Inv X pins σ H s):interactive X.env=false:=by simp[interactive,I.ok.kind]
def QN (te:TE):TS:=λD σ H=>te σ H λ_ H1=>D.nx σ H1
theorem Lu (he:PE X e te)(hs:Xd e none pos.line X.env=pure false:=by rfl):PS X (.Expr e pos) (QN te):=by
 intro pins s σ H D I h
 exact wpAny_Expr_any (thn (he pins s σ H _ I h) λv s1 ⟨x,H1,I1,r1,q1⟩=>⟨σ,H1,I1,q1⟩) I.quiet hs
def S9 (te:TE):TS:=λD σ H=>te σ H D.rt
theorem Og (he:PE X e te):PS X (.Return (some e) pos) (S9 te):=by
 intro pins s σ H D I h
 exact wpAny_Return_some (thn (he pins s σ H _ I h) λv s1 ⟨x,H1,I1,r1,q1⟩=>⟨x,σ,H1,I1,r1,q1⟩)
def Ui (c:TT)(t u:TS):TS:=λD σ H=>c σ H λb H1=>if b=true then t D σ H1 else u D σ H1
theorem Rb {c:Ve}{a b:List Stmt}{tc:TT}(hc:PT X c tc)(ha:PSs X a t)(hb:PSs X b u):PS X (.If c a b pos) (Ui tc t u):=by
 intro pins s σ H D I h
 refine wpAny_If (thn (hc pins s σ H _ I h) λd s1 ⟨H1,I1,q1⟩=>?_)
 cases d with
 | true=>exact ha pins s1 σ H1 D I1 q1
 | false=>exact hb pins s1 σ H1 D I1 q1
end
abbrev TG:=V->St->Hp->(St->Hp->Prop)->Prop
abbrev TGs:=List V->St->Hp->(St->Hp->Prop)->Prop
def PG (X:Cx)(target:Ve)(t:TG):Prop:=
 ∀ (pins:List (Addr×Obj)) (s:UN) (σ:St) (H:Hp) (v:V) (u:UK) (Q:St->Hp->Prop),Inv X pins σ H s->RelV v u->t v σ H Q->
  U9 (Vb X.prog X.w) X.A (zar target X.env u) (λ_ s'=>∃ σ' H',Inv X pins σ' H' s'/\Q σ' H') X.xe s
def PGs (X:Cx)(ts:List Ve)(t:TGs):Prop:=
 ∀ (pins:List (Addr×Obj)) (s:UN) (σ:St) (H:Hp) (vs:List V) (us:List UK) (Q:St->Hp->Prop),Inv X pins σ H s->Vals vs us->t vs σ H Q->
  U9 (Vb X.prog X.w) X.A (zaW ((Wv ts X.env).map (·.2)) us) (λ_ s'=>∃ σ' H',Inv X pins σ' H' s'/\Q σ' H') X.xe s
abbrev TIp:=V->V->Hp->VK->Prop
def PIp (X:Cx)(op:zas)(t:TIp):Prop:=
 ∀ (pins:List (Addr×Obj)) (s:UN) (σ:St) (H:Hp) (x y:V) (v u:UK) (Q:VK),Inv X pins σ H s->RelV x v->RelV y u->t x y H Q->
  U9 (Vb X.prog X.w) X.A (inplaceOp op v u) (EP X pins σ Q) X.xe s
section
variable {X:Cx} {pos:Pos}
def l4 (i:Nat):TG:=λv σ H Q=>Q (σ.set i (some v)) H
theorem ir {i:Nat}{x:Str}(hN:X.N.Nodup)(hi:X.N[i]? = some x)(hx:Loc X.env.scope x)(hf:X.fn x=true∨X.env.scope.names.lookup x=some .local:=by first | exact .inl rfl | exact .inr rfl | assumption):PG X (.Name x pos) (l4 i):=by
 intro pins s σ H v u Q I r h
 exact wpAny_assign_Name (jh I hN hi hx r (λs' I'=>⟨_,H,I',h⟩) hf)
def UA:TGs:=λvs σ H Q=>vs=[]/\Q σ H
def Sf (t:TG)(u:TGs):TGs:=λvs σ H Q=>∃ v r,vs=v::r/\t v σ H λσ' H'=>u r σ' H' Q
theorem Bz:PGs X [] UA:=by
 intro pins s σ H vs us Q I r h
 obtain ⟨e,h⟩:=h
 subst e
 cases r
 exact zbq ⟨σ,H,I,h⟩
theorem xG {e:Ve}{es:List Ve}{t:TG}{u:TGs}(h1:PG X e t)(h2:PGs X es u)
  (hs:(Wv (e::es) X.env).map (·.2)=zar e X.env::(Wv es X.env).map (·.2):=by rfl):PGs X (e::es) (Sf t u):=by
 intro pins s σ H vs us Q I r h
 obtain ⟨v,vr,e1,h⟩:=h
 subst e1
 cases r with
 | cons r rr=>
  rw[hs]
  refine Y9 (thn (h1 pins s σ H _ _ _ I r h) λ_ s1 ⟨σ1,H1,I1,q1⟩=>?_)
  exact h2 pins s1 σ1 H1 _ _ Q I1 rr q1
def Uo (K:UH)(n:Nat)(t:TGs):TG:=λv σ H Q=>∃ a xs,v=.ref a/\SqT K H a xs/\xs.length=n/\t xs σ H Q
theorem Fo {es:List Ve}{k:Nat}{t:TGs}{n:Nat}(hc:X.calm=true)(h:PGs X es t)
  (hn:(Wv es X.env).length=n:=by rfl) (hst:(Wv es X.env).findIdx? (·.1)=none:=by rfl):PG X (.Tuple es k pos) (Uo X.K n t):=by
 intro pins s σ H v u Q I r hw
 obtain ⟨a,xs,e1,hq,hl,hw⟩:=hw
 subst e1
 cases r
 obtain ⟨its,rv,ht,hz⟩:=I.tuple hq
 refine assign_Tuple_tuple (I.ok.hd hc) ht (by simp[hn,← hl,rv.length]) hst λh' hx=>?_
 have I1:Inv X pins σ H { s with heap:=h' }:=I.kept (t':=s.toks) λb o e=>hx b o (Vc (U1 e)) e
 exact h pins _ σ H xs _ Q I1 (by simpa using rv) hw
def Eu (te:TE)(g:TG):TS:=λD σ H=>te σ H λx H1=>g x σ H1 D.nx
theorem NK {tg e:Ve}{te:TE}{g:TG}(he:PE X e te)(hg:PG X tg g)(hs:Zu [tg] e pos.line X.env=pure false:=by rfl)(hw:Zv [tg] e X.env=pure none:=by rfl)
  (h1:(Wv [tg] X.env).map (·.2)=[zar tg X.env]:=by rfl):PS X (.Assign [tg] e pos) (Eu te g):=by
 intro pins s σ H D I h
 refine wpAny_Assign_stores (thn (he pins s σ H _ I h) λv s1 ⟨x,H1,I1,r1,q1⟩=>?_) hs hw
 rw[h1]
 exact thn (hg pins s1 σ H1 x v _ I1 r1 q1) λ_ s2 q=>q
theorem NO {i:Nat}{x:Str}{e:Ve}{te:TE}{pos':Pos}(hN:X.N.Nodup)(hi:X.N[i]? = some x)(hx:Loc X.env.scope x)(he:PE X e te)(hs:Xd e (some (.Name x pos')) pos.line X.env=pure false:=by rfl)(hf:X.fn x=true∨X.env.scope.names.lookup x=some .local:=by first | exact .inl rfl | exact .inr rfl | assumption) :
  PS X (.Assign [.Name x pos'] e pos) (Eu te (l4 i)):=by
 intro pins s σ H D I h
 refine wpAny_Assign_Name (thn (he pins s σ H _ I h) λv s1 ⟨y,H1,I1,r1,q1⟩=>?_) hs
 exact jh I1 hN hi hx r1 (λs2 I2=>⟨_,H1,I2,q1⟩) hf
def S7 (i j:Nat)(ta:TA):TS:=λD σ H=>ta σ H λvs H1=>∃ v w,vs=[v,w]/\D.nx ((σ.set i (some v)).set j (some w)) H1
theorem Pz {i j:Nat}{x y:Str}{a b:Ve}{ta:TA}{px py pt:Pos}{kt k2 pt2}(hc:X.calm=true)(hN:X.N.Nodup)(hi:X.N[i]? = some x)(hj:X.N[j]? = some y)(hij:i≠j)
  (hx:X.env.scope.names.lookup x=some .local) (hy:X.env.scope.names.lookup y=some .local) (ha:PA X [a,b] ta)
  (hw:Zv [.Tuple [.Name x px,.Name y py] kt pt] (.Tuple [a,b] k2 pt2) X.env=pure (some [x,y]))
  (hs:Zu [.Tuple [.Name x px,.Name y py] kt pt] (.Tuple [a,b] k2 pt2) pos.line X.env=pure false:=by rfl) :
  PS X (.Assign [.Tuple [.Name x px,.Name y py] kt pt] (.Tuple [a,b] k2 pt2) pos) (S7 i j ta):=by
 intro pins s σ H D I h
 rw[exec_Assign_arm]
 refine UI (Zw ?_)
 rw[hs]
 refine UI (UQ ?_)
 rw[if_neg (by decide)]
 refine UI (Tuple_ (thn (ha _ pins s σ H _ I h) λus s1 ⟨vs,H1,I1,r1,q1⟩=>?_))
 obtain ⟨v,w,e1,q1⟩:=q1
 subst e1
 obtain ⟨u1,u2,rfl,rv,rw'⟩:∃ u1 u2,us=[u1,u2]/\RelV v u1/\RelV w u2:=by
  cases r1 with
  | cons p q=>
   cases q with
   | cons p' q'=>
    cases q'
    exact ⟨_,_,rfl,p,p'⟩
 refine VR ?_ (by show 2<=sizeLine;decide)
 have I2:Inv X pins σ H1 { s1 with heap:=s1.heap.push { cls:=.type "tuple", data:=.seq [u1,u2].toArray } }:=I1.kept (t':=s1.toks) λb o e=>UJ _ e
 rw[hw]
 refine UI (UQ ?_)
 show U9 (Vb X.prog X.w) X.A (do rule "assign.swapped-stores";let items ← unpackItems (.ref s1.heap.objs.size) 2 none;zaW [λv=>zcl X.env y v,λv=>zcl X.env x v] items.reverse;pure Flow.next) _ _ _
 refine UI (Xk (UI (unpackItems_tuple (items:=#[u1,u2]) (I.ok.hd hc) (IsTup.new s1.heap _) λh' hx'=>?_)))
 have I3:=I2.kept (h':=h') (t':=s1.toks) λb o e=>hx' b o (Vc (U1 e)) e
 show U9 _ _ (zaW [λv=>zcl X.env y v,λv=>zcl X.env x v] [u2,u1] >>= λ_=>pure Flow.next) _ _ _
 refine UI (Y9 (wpAny_bindName (jh I3 hN hj (.inl hy) rw' (λs2 I4=>?_) (.inr hy))))
 refine Y9 (wpAny_bindName (jh I4 hN hi (.inl hx) rv (λs3 I5=>zbq (UQ ?_)) (.inr hx)))
 rw[List.set_comm _ _ (Vo hij)] at I5
 exact ⟨_,H1,I5,q1⟩
def QY (i:Nat)(te:TE)(ti:TIp):TS:=λD σ H=>∃ x,σ[i]? = some (some x)/\te σ H λy H1=>ti x y H1 λz H2=>D.nx (σ.set i (some z)) H2
theorem Pp {i:Nat}{x:Str}{e:Ve}{te:TE}{op:zas}{ti:TIp}{pos':Pos}(hN:X.N.Nodup)(hi:X.N[i]? = some x)(hx:Loc X.env.scope x)(he:PE X e te)(ho:PIp X op ti)(hf:X.fn x=true∨X.env.scope.names.lookup x=some .local:=by first | exact .inl rfl | exact .inr rfl | assumption) :
  PS X (.AugAssign (.Name x pos') op e pos) (QY i te ti):=by
 intro pins s σ H D I h
 obtain ⟨v,e1,h⟩:=h
 obtain ⟨m,hn,hl⟩:=I.loc
 have vis:Vis X.env.scope x:=by rcases hx with k | k;exact .inl k;exact .inr (.inl k)
 obtain ⟨u,r,l⟩:=hl i x v hi e1 vis
 refine wpAny_AugAssign_Name ?_
 have go:U9 (Vb X.prog X.w) X.A (V8 e X.env) (λw s₂=>U9 (Vb X.prog X.w) X.A (inplaceOp op u w) (λr s₃=>U9 (Vb X.prog X.w) X.A (storeName X.env x r) (λ_=>SP X pins D .next) X.xe s₃) X.xe s₂) X.xe s:=by
  refine thn (he pins s σ H _ I h) λw s1 ⟨y,H1,I1,r1,q1⟩=>?_
  refine thn (ho pins s1 σ H1 v y u w _ I1 r r1 q1) λz s2 ⟨zv,H2,I2,r2,q2⟩=>?_
  exact jh I2 hN hi hx r2 (λs3 I3=>⟨_,H2,I3,q2⟩) hf
 rcases l with ⟨hk,hm⟩ | ⟨hk,c,hc,hcell⟩
 ·exact zaq I.ok.kind hk hn hm go
 ·rcases hk with hk | hk
  ·exact zaO I.ok.kind hk hc hcell go
  ·rcases hx with k | k
   ·have:X.env.scope.names.lookup x=some .free:=hk
    rw[k] at this;cases this
   ·have:X.env.scope.names.lookup x=some .free:=hk
    rw[k] at this;cases this
def ipI (f:Int->Int->Int):TIp:=λx y H Q=>∃ i j,x=.int i/\y=.int j/\Q (.int (f i j)) H
theorem Pf:PIp X .Add (ipI λi j=>i+j):=by
 intro pins s σ H x y v u Q I r1 r2 h
 obtain ⟨i,j,e1,e2,q⟩:=h
 subst e1;subst e2
 obtain ⟨t,rfl⟩:=r1
 obtain ⟨t',rfl⟩:=r2
 exact iadd_int ⟨.int _,H,I.tok _,⟨_,rfl⟩,q⟩
end
section
variable {X:Cx} {pos:Pos}
def PJ (c:TT)(tb:TS):TS:=λD σ H=>∃ W:Nat->St->Hp->Prop,(∃ m,W m σ H)/\∀ m σ H,W m σ H->
 c σ H λb H1=>if b=true then ∃ N:St->Hp->Prop,(∀ σ' H',N σ' H'->∃ m',m' < m/\W m' σ' H')/\tb { D with nx:=N,ct:=N,bk:=D.nx } σ H1 else D.nx σ H1
theorem FV {c:Ve}{body:List Stmt}{tc:TT}{tb:TS}(hp:zbQ (Vb X.prog X.w) X.A X.env X.xe)(hc:PT X c tc)(hb:PSs X body tb):PS X (.While c body [] pos) (PJ tc tb):=by
 intro pins s σ H D I h
 obtain ⟨W,⟨m0,w0⟩,turn⟩:=h
 refine wpAny_While (codeAny_whileLoop (λn s'=>∃ σ' H',Inv X pins σ' H' s'/\W n σ' H') ?_ m0 ⟨σ,H,I,w0⟩)
 rintro n s1 ⟨σ1,H1,I1,w1⟩
 refine W4 hp (thn (hc pins s1 σ1 H1 _ I1 (turn n σ1 H1 w1)) λb s2 ⟨H2,I2,q2⟩=>?_)
 cases b with
 | true=>
  obtain ⟨N,hN,q2⟩:=q2
  rw[if_pos rfl]
  refine W4 hp (thn (hb pins s2 σ1 H2 _ I2 q2) λf s3 q3=>?_)
  cases f with
  | next=>
   obtain ⟨σ3,H3,I3,n3⟩:=q3
   obtain ⟨m',hm,w3⟩:=hN σ3 H3 n3
   exact ⟨m',hm,σ3,H3,I3,w3⟩
  | cont=>
   obtain ⟨σ3,H3,I3,n3⟩:=q3
   obtain ⟨m',hm,w3⟩:=hN σ3 H3 n3
   exact ⟨m',hm,σ3,H3,I3,w3⟩
  | brk=>exact q3
  | ret v=>exact q3
 | false=>
  rw[if_neg Xl]
  exact YT ⟨σ1,H2,I2,q2⟩
end
structure It where
 go:Nat->Hp->Prop
 yld:Nat->Hp->V->Hp->Prop
 stop:Nat->Hp->Prop
def pA (X:Cx)(pins:List (Addr×Obj))(H:Hp)(b:Addr):Prop:=
 H b=none/\b≠X.env.locals/\b ∉ X.fs/\(b∈X.ex∨X.s₀.heap.objs.size<=b)/\(∀ x c,X.env.cells.lookup x=some c->c≠b)/\∀ p∈X.pn++pins,p.1≠b
theorem Inv.Eb {X:Cx}{pins:List (Addr×Obj)}{σ:St}{H H':Hp}{s:UN}{b:Addr}(I:Inv X pins σ H s)(hb:s.heap.objs.size<=b)(hn:H' b=none):pA X pins H' b:=by
 refine ⟨hn,Xm (U6 I.lt hb),I.SR hb,.inr (VA I.sz hb),λx c e z=>?_,λp hp z=>?_⟩
 ·obtain ⟨v,q⟩:=I.cell x c e
  exact absurd (U6 q.lt (by rw[z];exact hb)) (W8 _)
 ·exact absurd (U6 (U1 (I.pin p hp).1) (by rw[z];exact hb)) (W8 _)
structure Turn (P:Vn) (w:VB) (K:UH) (tg:Ve) (J:It) (fp:List Addr) (it:Addr) (tn:Nat->Heap->Prop):Prop where
 mem:it∈fp
 obj:∀ i h,tn i h->∀ b∈fp,∃ o,h.get? b=some o/\∀ v,o.data≠.cell v
 keep:∀ i h h',tn i h->(∀ b∈fp,∀ o,h.get? b=some o->h'.get? b=some o)->tn i h'
 item:∀ (X:Cx),X.prog=P->X.w=w->X.K=K->X.calm=true->∀ (i:Nat) (pins:List (Addr×Obj)) (s:UN) (σ:St) (H:Hp) (E:UK->UN->Prop),Inv X pins σ H s->(∀ b∈fp,pA X pins H b)->tn i s.heap->J.go i H->
  U9 (Vb P w) X.A (X6 (.ref it)) (λr s1=>∃ u,r=some u/\
   U9 (Vb P w) X.A (YU tg (.ref it) u) (λ_ s2=>∃ x H',Inv X pins σ H' s2/\RelV x u/\J.yld i H x H'/\tn (i+1) s2.heap/\∀ b∈fp,H' b=none) E s1) E s
 done:∀ (X:Cx),X.prog=P->X.w=w->X.K=K->X.calm=true->∀ (i:Nat) (pins:List (Addr×Obj)) (s:UN) (σ:St) (H:Hp) (E:UK->UN->Prop),Inv X pins σ H s->(∀ b∈fp,pA X pins H b)->tn i s.heap->J.stop i H->
  U9 (Vb P w) X.A (X6 (.ref it)) (λr s1=>r=none/\Inv X pins σ H s1) E s
 self:∀ (A:VX) (i:Nat) (s:UN) (Q:UK->UN->Prop) (E:UK->UN->Prop),tn i s.heap->Q (.ref it) s->U9 (Vb P w) A (pyIter (.ref it)) Q E s
abbrev TI:=St->Hp->(It->Hp->Prop)->Prop
def PIE (X:Cx)(pins:List (Addr×Obj))(σ:St)(tg:Ve)(R:It->Hp->Prop)(itv:UK)(s2:UN):Prop:=
 ∃ (it:Addr) (fp:List Addr) (tn:Nat->Heap->Prop) (J:It) (H':Hp),itv=.ref it/\Inv X pins σ H' s2/\Turn X.prog X.w X.K tg J fp it tn/\tn 0 s2.heap/\(∀ b∈fp,pA X pins H' b)/\R J H'
def PI (X:Cx)(tg iter:Ve)(wi:TI):Prop:=
 ∀ (pins:List (Addr×Obj)) (s:UN) (σ:St) (H:Hp) (R:It->Hp->Prop),Inv X pins σ H s->wi σ H R->
  U9 (Vb X.prog X.w) X.A (V8 iter X.env) (λv s1=>U9 (Vb X.prog X.w) X.A (pyIter v) (PIE X pins σ tg R) X.xe s1) X.xe s
theorem IW {M:Model}{A:VX}{E:UK->UN->Prop}{s:UN}{tg:Ve}{it:Addr}{u:UK}{o:Obj}{n:String}{vs:Array UK}{Q:Unit->UN->Prop}(ho:s.heap.get? it=some o)(hc:o.cls=.type n)(hd:o.data=.fields vs)
  (hn:["enumerate", "zip", "dict_itemiterator", "dict_reverseitemiterator", "odict_iterator", "itertools.zip_longest", "itertools.pairwise"].contains n=false) (hQ:Q () s):U9 M A (YU tg (.ref it) u) Q E s:=by
 unfold YU
 cases tg<;>first
  | exact UQ hQ
  | (cases u<;>first
    | exact UQ hQ
    | (refine UI (wpAny_load ho ?_)
       rw[hc,hd]
       show U9 M A (if (["enumerate", "zip", "dict_itemiterator", "dict_reverseitemiterator", "odict_iterator", "itertools.zip_longest", "itertools.pairwise"].contains n&&vs[0]? == some (Za _))=true then _ else _) Q E s
       rw[if_neg (by intro h;rw[hn,zcm] at h;cases h)]
       exact UQ hQ))
def Itl (K:UH)(a:Addr):It:=
 ⟨λi H=>∃ xs x,SqL K H a xs/\xs[i]? = some x,λi H x H'=>H'=H/\∀ xs,SqL K H a xs->xs[i]? = some x,λi H=>∃ xs,SqL K H a xs/\xs.length<=i⟩
def Itt (K:UH)(a:Addr):It:=
 ⟨λi H=>∃ xs x,SqT K H a xs/\xs[i]? = some x,λi H x H'=>H'=H/\∀ xs,SqT K H a xs->xs[i]? = some x,λi H=>∃ xs,SqT K H a xs/\xs.length<=i⟩
def Itr (lo:Int)(n:Nat):It:=⟨λi _=>i < n,λi H x H'=>H'=H/\x=.int (lo+i),λi _=>n<=i⟩
theorem tV {P:Vn}{w:VB}{K:UH}{tg:Ve}(a it:Addr):Turn P w K tg (Itl K a) [it] it (λi h=>h.IsListIter it a i) where
 mem:=by simp
 obj:=λi h st b hb=>by
  have e:b=it:=by simpa using hb
  subst e
  obtain ⟨o,e,c,d⟩:=st
  exact ⟨o,e,λv z=>by rw[d] at z;cases z⟩
 keep:=λi h h' st k=>st.at λo e=>k it (by simp) o e
 item:=by
  intro X hP hw hK hc i pins s σ H E I hf st hg
  subst hP hw hK
  obtain ⟨xs,x,hq,hx⟩:=hg
  obtain ⟨its,rv,p,hz⟩:=I.list hq
  obtain ⟨u,hu,ru⟩:=rv.get hx
  obtain ⟨f0,f1,f2,f3,f4,f5⟩:=hf it (by simp)
  refine ZZ st p.isList (x:=u) (by simpa using hu) λh' st' sb=>?_
  have I1:Inv X pins σ H { s with heap:=h' }:=I.turned (t':=s.toks) (λb o hb e=>(sb.2 b hb).trans e) f0 f1 f3 f4 f5
  obtain ⟨o,e,c,d⟩:=id st'
  exact ⟨u,rfl,IW (s:={ s with heap:=h' }) e c d (by decide) ⟨x,H,I1,ru,⟨rfl,λys hy=>by rw[I.vZ hy hq];exact hx⟩,st',λb hb=>(hf b hb).1⟩⟩
 done:=by
  intro X hP hw hK hc i pins s σ H E I hf st hg
  subst hP hw hK
  obtain ⟨xs,hq,hx⟩:=hg
  obtain ⟨its,rv,p,hz⟩:=I.list hq
  obtain ⟨f0,f1,f2,f3,f4,f5⟩:=hf it (by simp)
  have hl:=rv.length
  exact zam (I.ok.hd hc) st p.isList (by simp;omega) λh' eb=>⟨rfl,I.turned (t':=s.toks) (λb o hb e=>eb b o hb e) f0 f1 f3 f4 f5⟩
 self:=λ_ _ _ _ _ st h=>wpAny_pyIter_listiter st h
theorem zr {P:Vn}{w:VB}{K:UH}{tg:Ve}(a it:Addr):Turn P w K tg (Itt K a) [it] it (λi h=>h.IsTupleIter it a i) where
 mem:=by simp
 obj:=λi h st b hb=>by
  have e:b=it:=by simpa using hb
  subst e
  obtain ⟨o,e,c,d⟩:=st
  exact ⟨o,e,λv z=>by rw[d] at z;cases z⟩
 keep:=λi h h' st k=>st.at λo e=>k it (by simp) o e
 item:=by
  intro X hP hw hK hc i pins s σ H E I hf st hg
  subst hP hw hK
  obtain ⟨xs,x,hq,hx⟩:=hg
  obtain ⟨its,rv,p,hz⟩:=I.tuple hq
  obtain ⟨u,hu,ru⟩:=rv.get hx
  obtain ⟨f0,f1,f2,f3,f4,f5⟩:=hf it (by simp)
  refine wpAny_pyNext_tuple_item st (show s.heap.IsTuple a its.toArray from p) (x:=u) (by simpa using hu) λh' st' sb=>?_
  have I1:Inv X pins σ H { s with heap:=h' }:=I.turned (t':=s.toks) (λb o hb e=>(sb.2 b hb).trans e) f0 f1 f3 f4 f5
  obtain ⟨o,e,c,d⟩:=id st'
  exact ⟨u,rfl,IW (s:={ s with heap:=h' }) e c d (by decide) ⟨x,H,I1,ru,⟨rfl,λys hy=>by rw[I.tX hy hq];exact hx⟩,st',λb hb=>(hf b hb).1⟩⟩
 done:=by
  intro X hP hw hK hc i pins s σ H E I hf st hg
  subst hP hw hK
  obtain ⟨xs,hq,hx⟩:=hg
  obtain ⟨its,rv,p,hz⟩:=I.tuple hq
  obtain ⟨f0,f1,f2,f3,f4,f5⟩:=hf it (by simp)
  have hl:=rv.length
  exact wpAny_pyNext_tuple_end (I.ok.hd hc) st (show s.heap.IsTuple a its.toArray from p) (by simp;omega) λh' eb=>⟨rfl,I.turned (t':=s.toks) (λb o hb e=>eb b o hb e) f0 f1 f3 f4 f5⟩
 self:=λ_ _ _ _ _ st h=>wpAny_pyIter_tupleiter st h
theorem Ab {P:Vn}{w:VB}{K:UH}{tg:Ve}(it:Addr)(lo:Int)(n:Nat):Turn P w K tg (Itr lo n) [it] it (λi h=>IsRangeIter h it (lo+(i:Nat)*1) ((n:Int) - (i:Nat)) 1) where
 mem:=by simp
 obj:=λi h st b hb=>by
  have e:b=it:=by simpa using hb
  subst e
  exact ⟨_,st,λv z=>by
   have z':Data.fields _=Data.cell v:=z
   cases z'⟩
 keep:=λi h h' st k=>k it (by simp) _ st
 item:=by
  intro X hP hw hK hc i pins s σ H E I hf st hg
  subst hP hw hK
  obtain ⟨f0,f1,f2,f3,f4,f5⟩:=hf it (by simp)
  have W:=Walks.range (prog:=X.prog) (w:=X.w) (I.ok.hd hc) it lo 1 n
  refine W.item i s _ _ hg st λv h' tk hv st' kk=>?_
  obtain ⟨t,rfl⟩:=hv
  have I1:Inv X pins σ H { s with heap:=h',toks:=tk }:=I.turned (λb o hb e=>kk b o (by simpa using hb) e) f0 f1 f3 f4 f5
  refine ⟨_,rfl,IW (s:={ s with heap:=h',toks:=tk }) (n := "range_iterator") st' rfl rfl (by decide) ⟨.int (lo+i),H,I1,⟨t,?_⟩,⟨rfl,rfl⟩,st',λb hb=>(hf b hb).1⟩⟩
  rw[Int.mul_one]
 done:=by
  intro X hP hw hK hc i pins s σ H E I hf st hg
  subst hP hw hK
  obtain ⟨f0,f1,f2,f3,f4,f5⟩:=hf it (by simp)
  exact wpAny_pyNext_range_end (I.ok.hd hc) st (by have:n<=i:=hg;omega) λh' eb=>⟨rfl,I.turned (t':=s.toks) (λb o hb e=>eb b o hb e) f0 f1 f3 f4 f5⟩
 self:=λ_ _ _ _ _ st h=>wpAny_pyIter_rangeiter st h
end L2
namespace L2
open PySem PySem.Spec PyProof.Rows
section
variable {X:Cx} {tg:Ve}
def M5 (K:UH)(tl:TE):TI:=λσ H R=>tl σ H λx H1=>∃ a,x=.ref a/\(∃ xs,SqL K H1 a xs)/\R (Itl K a) H1
theorem By {l:Ve}{tl:TE}(hl:PE X l tl):PI X tg l (M5 X.K tl):=by
 intro pins s σ H R I h
 refine thn (hl pins s σ H _ I h) λv s1 ⟨x,H1,I1,r1,q1⟩=>?_
 obtain ⟨a,e,⟨xs,hq⟩,q⟩:=q1
 subst e
 cases r1
 obtain ⟨its,rv,p,hz⟩:=I1.list hq
 refine Xx p.isList ?_
 refine ⟨s1.heap.objs.size,[s1.heap.objs.size],_,_,H1,rfl,I1.kept (t':=s1.toks) λb o e=>UJ _ e,tV a _,⟨_,U3 _ rfl,rfl,rfl⟩,λb hb=>?_,q⟩
 have e:b=s1.heap.objs.size:=by simpa using hb
 subst e
 exact I1.Eb (U2 _) (I1.hok.fresh (U2 _))
theorem IX {pins:List (Addr×Obj)}{σ:St}{H:Hp}{s:UN}{R:It->Hp->Prop}{E:UK->UN->Prop}{lo hi:Int}{t u v:Tok}{tk:Nat}(I:Inv X pins σ H s)(h1:-(2 ^ 62)<=lo)(h2:lo < 2 ^ 62)(h3:-(2 ^ 62)<=hi)(h4:hi < 2 ^ 62)
  (q:R (Itr lo (hi - lo).toNat) H):U9 (Vb X.prog X.w) X.A (pyIter (.ref s.heap.objs.size)) (PIE X pins σ tg R) E { s with heap:=s.heap.push { cls:=.type "range", data:=.fields #[.int lo t,.int hi u,.int 1 v] },toks:=tk }:=by
 refine wpAny_pyIter_range (zcY ..) (small_one h1 h2 h3 h4) ?_
 have I1:Inv X pins σ H { s with heap:=s.heap.push { cls:=.type "range", data:=.fields #[.int lo t,.int hi u,.int 1 v] },toks:=tk }:=I.kept λb o e=>UJ _ e
 refine ⟨(s.heap.push { cls:=.type "range", data:=.fields #[.int lo t,.int hi u,.int 1 v] }).objs.size,[(s.heap.push { cls:=.type "range", data:=.fields #[.int lo t,.int hi u,.int 1 v] }).objs.size],_,_,H,rfl,
  I1.kept (t':=tk) λb o e=>UJ _ e,Ab _ lo (hi - lo).toNat,?_,λb hb=>?_,q⟩
 ·have e1:lo+((0:Nat):Int)*1=lo:=by simp
  have e2:(((hi - lo).toNat:Nat):Int) - ((0:Nat):Int)=Yd lo hi 1:=by rw[rangeSize_one];split<;>omega
  show IsRangeIter _ _ (lo+((0:Nat):Int)*1) ((((hi - lo).toNat:Nat):Int) - ((0:Nat):Int)) 1
  rw[e1,e2]
  exact U3 _ rfl
 ·have e:b=(s.heap.push { cls:=.type "range", data:=.fields #[.int lo t,.int hi u,.int 1 v] }).objs.size:=by simpa using hb
  subst e
  exact I1.Eb (U2 _) (I1.hok.fresh (U2 _))
def Sh (ta:TA):TI:=λσ H R=>ta σ H λvs H1=>∃ j:Int,vs=[.int j]/\-(2 ^ 62)<=j/\j < 2 ^ 62/\R (Itr 0 j.toNat) H1
theorem Ea {a:Ve}{ta:TA}{p pos:Pos}(hg:Gl X "range")(hm:X.mg "range" = none)(ha:PA X [a] ta)(hs:UX [a] X.env=[(false,V8 a X.env)]:=by rfl):PI X tg (.Call (.Name "range" p) [a] [] pos) (Sh ta):=by
 intro pins s σ H R I h
 refine Call_ (iq I hg hm boot_range (V7 (thn (ha pos pins s σ H _ I h) λus s1 ⟨vs,H1,I1,r1,q1⟩=>?_) hs rfl))
 obtain ⟨j,e,q1,q2,q⟩:=q1
 subst e
 cases r1 with
 | cons r rr=>
  cases rr
  obtain ⟨t,rfl⟩:=r
  exact call_range_1 (IX I1 (by omega) (by omega) q1 q2 (by simpa using q))
def T9 (wi:TI)(g:TG)(tb:TS):TS:=λD σ H=>wi σ H λJ H1=>∃ W:Nat->Nat->St->Hp->Prop,(∃ m,W 0 m σ H1)/\∀ i m σ H,W i m σ H->
 (J.stop i H/\D.nx σ H)∨(J.go i H/\∃ N:St->Hp->Prop,(∀ σ' H',N σ' H'->∃ m',m' < m/\W (i+1) m' σ' H')/\∀ x H',J.yld i H x H'->g x σ H' λσ2 H2=>tb { D with nx:=N,ct:=N,bk:=D.nx } σ2 H2)
def rF (fp:List Addr)(h:Heap):List (Addr×Obj):=fp.filterMap λb=>(h.get? b).map λo=>(b,o)
theorem fK {fp:List Addr}{h:Heap}{b:Addr}{o:Obj}(hb:b∈fp)(e:h.get? b=some o):(b,o)∈rF fp h:=X7.mpr ⟨b,hb,by rw[e];rfl⟩
theorem C8 {fp:List Addr}{h:Heap}{p:Addr×Obj}(hp:p∈rF fp h):p.1∈fp/\h.get? p.1=some p.2:=by
 obtain ⟨b,hb,e⟩:=X7.mp hp
 cases q:h.get? b with
 | none=>rw[q] at e;cases e
 | some o=>
  rw[q] at e
  have e':(b,o)=p:=Vt e
  subst e'
  exact ⟨hb,q⟩
theorem Inv.pinned {pins:List (Addr×Obj)}{σ:St}{H:Hp}{s:UN}{fp:List Addr}(I:Inv X pins σ H s)(hf:∀ b∈fp,pA X pins H b)(ho:∀ b∈fp,∃ o,s.heap.get? b=some o/\∀ v,o.data≠.cell v):Inv X (pins++rF fp s.heap) σ H s:=
 I.Cw λp hp=>(Vu.mp hp).elim (λz=>I.pin p (Vp _ z)) λz=>by
  obtain ⟨hb,e⟩:=C8 z
  obtain ⟨f0,f1,f2,_⟩:=hf p.1 hb
  obtain ⟨o,e',d⟩:=ho p.1 hb
  rw[e] at e';cases e'
  exact ⟨e,f0,f1,f2,d⟩
theorem Inv.jk {pins pl:List (Addr×Obj)}{σ:St}{H:Hp}{s:UN}(I:Inv X (pins++pl) σ H s):Inv X pins σ H s:=I.Cw λp hp=>I.pin p (Vp _ (XB _ hp))
theorem OM {iter:Ve}{body:List Stmt}{wi:TI}{g:TG}{tb:TS}{pos:Pos}(hp:zbQ (Vb X.prog X.w) X.A X.env X.xe)(hc:X.calm=true)(hi:PI X tg iter wi)(hg:PG X tg g)(hb:PSs X body tb)
  (hs:∀ x,Vx iter X.env x=pure x:=by intro _;rfl):PS X (.For tg iter body [] pos) (T9 wi g tb):=by
 intro pins s σ H D I h
 refine wpAny_For (thn (hi pins s σ H _ I h) λv s1 h1=>thn h1 λitv s2 h2=>?_) hs
 obtain ⟨it,fp,tn,J,H2,e,I2,T,st2,f2,W,⟨m0,w0⟩,turn⟩:=h2
 subst e
 -- what stays true of the iterator's objects through the loop
 have Am:∀ {H':Hp},(∀ b∈fp,H' b=none)->∀ b∈fp,pA X pins H' b:=λhn b hb=>⟨hn b hb,(f2 b hb).2⟩
 refine codeAny_forLoop_any (λn s'=>∃ i σ' H',Inv X pins σ' H' s'/\tn i s'.heap/\(∀ b∈fp,H' b=none)/\W i n σ' H') ?_ m0 ⟨0,σ,H2,I2,st2,λb hb=>(f2 b hb).1,w0⟩
 rintro n s3 ⟨i,σ3,H3,I3,st3,fr3,w3⟩
 rcases turn i n σ3 H3 w3 with ⟨stop,qn⟩ | ⟨go,N,hN,step⟩
 ·refine W4 hp (thn (T.done X rfl rfl rfl hc i pins s3 σ3 H3 X.xe I3 (Am fr3) st3 stop) λr s4 ⟨hr,I4⟩=>?_)
  subst hr
  exact YT ⟨σ3,H3,I4,qn⟩
 ·refine W4 hp (thn (T.item X rfl rfl rfl hc i pins s3 σ3 H3 X.xe I3 (Am fr3) st3 go) λr s4 ⟨u,hr,h4⟩=>?_)
  subst hr
  refine W4 hp (thn h4 λ_ s5 ⟨x,H5,I5,r5,y5,st5,fr5⟩=>?_)
  have I5':=I5.pinned (Am fr5) (T.obj _ _ st5)
  refine W4 hp (thn (hg _ s5 σ3 H5 x u _ I5' r5 (step x H5 y5)) λ_ s6 ⟨σ6,H6,I6,q6⟩=>?_)
  refine W4 hp (thn (hb _ s6 σ6 H6 _ I6 q6) λf s7 q7=>?_)
  have again:∀ {σ7:St} {H7:Hp},Inv X (pins++rF fp s5.heap) σ7 H7 s7->N σ7 H7->∃ m,m < n/\∃ i σ' H',Inv X pins σ' H' s7/\tn i s7.heap/\(∀ b∈fp,H' b=none)/\W i m σ' H':=λ{σ7 H7} I7 n7=>by
   obtain ⟨m',hm,w7⟩:=hN σ7 H7 n7
   refine ⟨m',hm,i+1,σ7,H7,I7.jk,T.keep _ _ _ st5 λb hb o e=>(I7.pin (b,o) (Vp _ (Vp _ (fK hb e)))).1,λb hb=>?_,w7⟩
   obtain ⟨o,e,d⟩:=T.obj _ _ st5 b hb
   exact (I7.pin (b,o) (Vp _ (Vp _ (fK hb e)))).2.1
  cases f with
  | next=>obtain ⟨σ7,H7,I7,n7⟩:=q7;exact again I7 n7
  | cont=>obtain ⟨σ7,H7,I7,n7⟩:=q7;exact again I7 n7
  | brk=>obtain ⟨σ7,H7,I7,q7⟩:=q7;exact ⟨σ7,H7,I7.jk,q7⟩
  | ret v=>obtain ⟨x7,σ7,H7,I7,r7,q7⟩:=q7;exact ⟨x7,σ7,H7,I7.jk,r7,q7⟩
end
end L2
namespace L2
open PySem PySem.Spec PyProof.Rows
abbrev R2:=V->V->Hp->VK->Prop
def OpR (X:Cx)(f:UK->UK->Sem UK)(r:R2):Prop:=
 ∀ (pins:List (Addr×Obj)) (s:UN) (σ:St) (H:Hp) (x y:V) (v u:UK) (Q:VK),Inv X pins σ H s->RelV x v->RelV y u->r x y H Q->
  U9 (Vb X.prog X.w) X.A (f v u) (EP X pins σ Q) X.xe s
def UnR (X:Cx)(f:UK->Sem UK)(r:V->Hp->VK->Prop):Prop:=
 ∀ (pins:List (Addr×Obj)) (s:UN) (σ:St) (H:Hp) (x:V) (v:UK) (Q:VK),Inv X pins σ H s->RelV x v->r x H Q->
  U9 (Vb X.prog X.w) X.A (f v) (EP X pins σ Q) X.xe s
def b6 (X:Cx)(f:UK)(r:List V->Hp->VK->Prop):Prop:=
 ∀ (pins:List (Addr×Obj)) (s:UN) (σ:St) (H:Hp) (xs:List V) (us:List UK) (Q:VK),Inv X pins σ H s->Vals xs us->r xs H Q->
  U9 (Vb X.prog X.w) X.A (zaP f us) (EP X pins σ Q) X.xe s
def tOp (r:R2)(ta tb:TE):TE:=λσ H Q=>ta σ H λx H1=>tb σ H1 λy H2=>r x y H2 Q
def tUn (r:V->Hp->VK->Prop)(ta:TE):TE:=λσ H Q=>ta σ H λx H1=>r x H1 Q
def rI (C:Int->Int->Prop)(g:Int->Int->V):R2:=λx y H Q=>∃ i j,x=.int i/\y=.int j/\C i j/\Q (g i j) H
def rI0 (g:Int->Int->V):R2:=λx y H Q=>∃ i j,x=.int i/\y=.int j/\Q (g i j) H
def rU (g:Int->V):V->Hp->VK->Prop:=λx H Q=>∃ i,x=.int i/\Q (g i) H
section
variable {X:Cx} {a b c:Ve} {ta tb tc:TE} {pos:Pos}
theorem NU (ha:PE X a ta)(hb:PE X b tb){pins:List (Addr×Obj)}{s:UN}{σ:St}{H:Hp}{R:V->V->Hp->Prop}(I:Inv X pins σ H s)
  (h:ta σ H λx H1=>tb σ H1 λy H2=>R x y H2) {Q:UK->UN->Prop} {f:UK->UK->Sem UK}
  (hf:∀ v u s2 x y H2,Inv X pins σ H2 s2->RelV x v->RelV y u->R x y H2->U9 (Vb X.prog X.w) X.A (f v u) Q X.xe s2) :
  U9 (Vb X.prog X.w) X.A (V8 a X.env) (λv s₁=>U9 (Vb X.prog X.w) X.A (V8 b X.env) (λu s₂=>U9 (Vb X.prog X.w) X.A (f v u) Q X.xe s₂) X.xe s₁) X.xe s:=by
 refine thn (ha pins s σ H _ I h) λv s1 ⟨x,H1,I1,r1,q1⟩=>?_
 refine thn (hb pins s1 σ H1 _ I1 q1) λu s2 ⟨y,H2,I2,r2,q2⟩=>?_
 exact hf v u s2 x y H2 I2 r1 r2 q2
theorem MU {op:zas}{r:R2}(ho:OpR X (Xe op) r)(ha:PE X a ta)(hb:PE X b tb):PE X (.BinOp a op b pos) (tOp r ta tb):=by
 intro pins s σ H Q I h
 exact wpAny_BinOp (NU ha hb I h λv u s2 x y H2 I2 rx ry q=>ho pins s2 σ H2 x y v u Q I2 rx ry q)
theorem QP {op:UnaryOp}{r:V->Hp->VK->Prop}(ho:UnR X (unaryOp op) r)(ha:PE X a ta):PE X (.UnaryOp op a pos) (tUn r ta):=by
 intro pins s σ H Q I h
 exact UnaryOp_ (thn (ha pins s σ H _ I h) λv s1 ⟨x,H1,I1,r1,q1⟩=>ho pins s1 σ H1 x v Q I1 r1 q1)
theorem opI {f:UK->UK->Sem UK}{C:Int->Int->Prop}{g:Int->Int->Int}
  (rule:∀ (i j:Int) (t u:Tok) (s:UN) (Q:UK->UN->Prop) (E:UK->UN->Prop),C i j->Q (.int (g i j) s.toks) { s with toks:=s.toks+1 }->U9 (Vb X.prog X.w) X.A (f (.int i t) (.int j u)) Q E s) :
  OpR X f (rI C λi j=>.int (g i j)):=by
 intro pins s σ H x y v u Q I rx ry h
 obtain ⟨i,j,rfl,rfl,hc,q⟩:=h
 obtain ⟨t,rfl⟩:=rx
 obtain ⟨t',rfl⟩:=ry
 exact rule i j t t' s _ _ hc ⟨.int (g i j),H,I.tok _,⟨_,rfl⟩,q⟩
theorem Ry {f:UK->UK->Sem UK}{g:Int->Int->Int}
  (rule:∀ (i j:Int) (t u:Tok) (s:UN) (Q:UK->UN->Prop) (E:UK->UN->Prop),Q (.int (g i j) s.toks) { s with toks:=s.toks+1 }->U9 (Vb X.prog X.w) X.A (f (.int i t) (.int j u)) Q E s) :
  OpR X f (rI0 λi j=>.int (g i j)):=by
 intro pins s σ H x y v u Q I rx ry h
 obtain ⟨i,j,rfl,rfl,q⟩:=h
 obtain ⟨t,rfl⟩:=rx
 obtain ⟨t',rfl⟩:=ry
 exact rule i j t t' s _ _ ⟨.int (g i j),H,I.tok _,⟨_,rfl⟩,q⟩
theorem Qg {f:UK->UK->Sem UK}{g:Int->Int->Bool}
  (rule:∀ (i j:Int) (t u:Tok) (s:UN) (Q:UK->UN->Prop) (E:UK->UN->Prop),Q (.bool (g i j)) s->U9 (Vb X.prog X.w) X.A (f (.int i t) (.int j u)) Q E s) :
  OpR X f (rI0 λi j=>.bl (g i j)):=by
 intro pins s σ H x y v u Q I rx ry h
 obtain ⟨i,j,rfl,rfl,q⟩:=h
 obtain ⟨t,rfl⟩:=rx
 obtain ⟨t',rfl⟩:=ry
 exact rule i j t t' s _ _ ⟨.bl (g i j),H,I,rfl,q⟩
def TK (i j:Int):Prop:=0<=j/\j<=1000000/\i.natAbs < 2 ^ 64
def RS (i j:Int):Prop:=(-(2 ^ 64) < i/\i < 2 ^ 64)∨(-(2 ^ 64) < j/\j < 2 ^ 64)
theorem RS.ok {i j:Int}(h:RS i j):IntMulOk i j:=by
 rcases h with ⟨h1,h2⟩ | ⟨h1,h2⟩
 ·exact .of_left (Zx h1 h2)
 ·exact .of_right (Zx h1 h2)
theorem QG:OpR X (Xe .Add) (rI0 λi j=>.int (i+j)):=Ry λ_ _ _ _ _ _ _ q=>add_int q
theorem Ov:OpR X (Xe .Sub) (rI0 λi j=>.int (i - j)):=Ry λ_ _ _ _ _ _ _ q=>sub_int q
theorem Ly:OpR X (Xe .Mod) (rI (λ_ j=>j≠0) λi j=>.int (i.fmod j)):=opI λ_ _ _ _ _ _ _ hc q=>mod_int' hc q
theorem N8:OpR X (Xe .Pow) (rI TK λi j=>.int (i ^ j.toNat)):=opI λ_ _ _ _ _ _ _ hc q=>pow_int_small hc.1 hc.2.1 hc.2.2 q
theorem unI {f:UK->Sem UK}{g:Int->Int}
  (rule:∀ (i:Int) (t:Tok) (s:UN) (Q:UK->UN->Prop) (E:UK->UN->Prop),Q (.int (g i) s.toks) { s with toks:=s.toks+1 }->U9 (Vb X.prog X.w) X.A (f (.int i t)) Q E s) :
  UnR X f (rU λi=>.int (g i)):=by
 intro pins s σ H x v Q I rx h
 obtain ⟨i,rfl,q⟩:=h
 obtain ⟨t,rfl⟩:=rx
 exact rule i t s _ _ ⟨.int (g i),H,I.tok _,⟨_,rfl⟩,q⟩
theorem Qd:UnR X (unaryOp .USub) (rU λi=>.int (-i)):=unI λ_ _ _ _ _ q=>neg_int q
end
def SF:V->V->Bool
 | .non,.non=>true | .non,.int _=>true | .int _,.non=>true | .non,.bl _=>true | .bl _,.non=>true | .non,.str _=>true | .str _,.non=>true
 | .int _,.int _=>true | .bl _,.bl _=>true | .str _,.str _=>true | .byt _,.byt _=>true
 | .int _,.str _=>true | .str _,.int _=>true | .bl _,.str _=>true | .str _,.bl _=>true
 | _,_=>false
def rEq:R2:=λx y H Q=>SF x y=true/\Q (.bl (decide (x=y))) H
def rNe:R2:=λx y H Q=>SF x y=true/\Q (.bl (!decide (x=y))) H
section
variable {X:Cx} {a b c:Ve} {ta tb tc:TE} {pos:Pos}
theorem N6 {pins:List (Addr×Obj)}{σ:St}{H:Hp}{s:UN}{Q:VK}{k k':Bool}(I:Inv X pins σ H s)(q:Q (.bl k) H)(e:k=k'):EP X pins σ Q (.bool k') s:=by
 subst e
 exact ⟨.bl k,H,I,rfl,q⟩
theorem M7:OpR X (Xf .Lt) (rI0 λi j=>.bl (decide (i < j))):=Qg λ_ _ _ _ _ _ _ q=>lt_int q
theorem Rt:OpR X (Xf .Gt) (rI0 λi j=>.bl (decide (j < i))):=Qg λ_ _ _ _ _ _ _ q=>gt_int q
theorem Nf:OpR X (Xf .GtE) (rI0 λi j=>.bl (decide (j<=i))):=Qg λ_ _ _ _ _ _ _ q=>ge_int q
theorem Ip:OpR X (Xf .Is) (λx y H Q=>y=.non/\Q (.bl (decide (x=.non))) H):=by
 intro pins s σ H x y v u Q I rx ry h
 obtain ⟨rfl,q⟩:=h
 cases ry
 refine is_none_gen (N6 I q ?_)
 cases x<;>first
  | (cases rx;rfl)
  | (obtain ⟨t,rfl⟩:=rx;rfl)
theorem fS (b:Ve){op:CmpOp}(h:op≠.In:=by decide)(h2:op≠.NotIn:=by decide):Xs op b=false:=by
 have e1:(op == CmpOp.In)=false:=by cases op<;>first | rfl | exact absurd rfl h
 have e2:(op == CmpOp.NotIn)=false:=by cases op<;>first | rfl | exact absurd rfl h2
 cases b<;>simp[Xs,e1,e2]
theorem LX {op:CmpOp}{r:R2}(ho:OpR X (Xf op) r)(ha:PE X a ta)(hb:PE X b tb)(hm:Xs op b=false):PE X (.Compare a [op] [b] pos) (tOp r ta tb):=by
 intro pins s σ H Q I h
 exact wpAny_Compare1 (NU ha hb I h λv u s2 x y H2 I2 rx ry q=>ho pins s2 σ H2 x y v u Q I2 rx ry q) hm
def MI (t:TE):TT:=λσ H Q=>t σ H λx H'=>∃ k,x=.bl k/\Q k H'
theorem K4 {op:CmpOp}{r:R2}(ho:OpR X (Xf op) r)(ha:PE X a ta)(hb:PE X b tb)(hm:Xs op b=false):PT X (.Compare a [op] [b] pos) (MI (tOp r ta tb)):=by
 intro pins s σ H Q I h
 refine wpAny_isTrue_Compare1 (thn (ha pins s σ H _ I h) λv s1 ⟨x,H1,I1,r1,q1⟩=>thn (hb pins s1 σ H1 _ I1 q1) λu s2 ⟨y,H2,I2,r2,q2⟩=>
  thn (ho pins s2 σ H2 x y v u _ I2 r1 r2 q2) λc s3 ⟨z,H3,I3,r3,k,e,q3⟩=>?_) hm
 subst e
 cases r3
 exact WK ⟨H3,I3,q3⟩
theorem qN:(sizeLine:Nat) < 2 ^ 63:=by rw[zat];decide
theorem zV:OpR X (Xe .Add) (λx y H Q=>∃ i j,x=.str i/\y=.str j/\i.length+j.length<=sizeLine/\Q (.str (i++j)) H):=by
 intro pins s σ H x y v u Q I rx ry h
 obtain ⟨i,j,rfl,rfl,hz,q⟩:=h
 obtain ⟨t,rfl⟩:=rx
 obtain ⟨t',rfl⟩:=ry
 exact add_str (λt' tk=>⟨.str (i++j),H,I.tok _,⟨_,rfl⟩,q⟩) hz
theorem vals1 {x:V}{us:List UK}(r:Vals [x] us):∃ u,us=[u]/\RelV x u:=by
 cases r with
 | cons r1 r2=>cases r2;exact ⟨_,rfl,r1⟩
theorem vals2 {x y:V}{us:List UK}(r:Vals [x,y] us):∃ u w',us=[u,w']/\RelV x u/\RelV y w':=by
 cases r with
 | cons r1 r2=>
  cases r2 with
  | cons r3 r4=>cases r4;exact ⟨_,_,rfl,r1,r3⟩
theorem rL:b6 X (.builtin "abs") (λxs H Q=>∃ i,xs=[.int i]/\Q (.int (if i < 0 then -i else i)) H):=by
 intro pins s σ H xs us Q I r h
 obtain ⟨i,rfl,q⟩:=h
 obtain ⟨u,rfl,t,rfl⟩:=vals1 r
 exact call_abs_int λu tk=>⟨.int (if i < 0 then -i else i),H,I.tok _,⟨_,rfl⟩,q⟩
theorem sZ (hc:X.calm=true):b6 X (.builtin "max") (λxs H Q=>∃ i j,xs=[.int i,.int j]/\Q (.int (if j > i then j else i)) H):=by
 intro pins s σ H xs us Q I r h
 obtain ⟨i,j,rfl,q⟩:=h
 obtain ⟨u,w',rfl,⟨t,rfl⟩,⟨t',rfl⟩⟩:=vals2 r
 refine max_two_ints (I.ok.hd hc) λh' tk k=>⟨_,H,I.kept k,?_,q⟩
 by_cases hj:j > i
 ·rw[if_pos hj,if_pos hj];exact ⟨_,rfl⟩
 ·rw[if_neg hj,if_neg hj];exact ⟨_,rfl⟩
theorem C0 (hc:X.calm=true):b6 X (.builtin "min") (λxs H Q=>∃ i j,xs=[.int i,.int j]/\Q (.int (if j < i then j else i)) H):=by
 intro pins s σ H xs us Q I r h
 obtain ⟨i,j,rfl,q⟩:=h
 obtain ⟨u,w',rfl,⟨t,rfl⟩,⟨t',rfl⟩⟩:=vals2 r
 refine min_two_ints (I.ok.hd hc) λh' tk k=>⟨_,H,I.kept k,?_,q⟩
 by_cases hj:j < i
 ·rw[if_pos hj,if_pos hj];exact ⟨_,rfl⟩
 ·rw[if_neg hj,if_neg hj];exact ⟨_,rfl⟩
theorem tq:b6 X (.type "int") (λxs H Q=>(∃ i,xs=[.int i]/\Q (.int i) H)∨∃ k,xs=[.bl k]/\Q (.int (if k then 1 else 0)) H):=by
 intro pins s σ H xs us Q I r h
 rcases h with ⟨i,rfl,q⟩ | ⟨k,rfl,q⟩
 ·obtain ⟨u,rfl,t,rfl⟩:=vals1 r
  exact call_int_int ⟨.int i,H,I,⟨_,rfl⟩,q⟩
 ·obtain ⟨u,rfl,r1⟩:=vals1 r
  cases r1
  exact call_int_bool ⟨.int (if k then 1 else 0),H,I.tok _,⟨_,rfl⟩,q⟩
end
end L2
namespace L2
open PySem PySem.Spec PyProof.Rows
structure UG (h:Heap) (x dx C:Addr) (mA:Str->Option UK):Prop where
 obj:h.get? x=some (zcd C dx)
 ns:h.Ns1 dx mA
 ne:dx≠x
section
variable {prog:Vn} {w:VB} {A:VX} {E:UK->UN->Prop} {s:UN} {K:UH} {x dx C f:Addr} {mA:Str->Option UK} {name:Str} {v:UK}
end
theorem nQ.some_of {v:V}{o:Option UK}(r:nQ (some v) o):∃ u,o=some u/\RelV v u:=by
 cases o with
 | none=>exact (show False from r).elim
 | some u=>exact ⟨u,rfl,r⟩
section
variable {P:Vn} {w:VB} {H H':Hp} {h h':Heap} {a C dx:Addr} {fs fs':List (Str×V)}
end
structure Cls (K:UH) (C:Addr):Prop where
 pg:zbR K C Str.empty=true
 hd:PySem.W.hasDictIn K C=true
 po:PySem.W.plainOver K C=true
 sa:PySem.W.findIn K (.ref C) "__setattr__" = some (some (.builtin "object.__setattr__"))
theorem Cls.get {K:UH}{C:Addr}(c:Cls K C)(f:Str):zbR K C f=true:=c.pg
section
variable {X:Cx} {pins:List (Addr×Obj)} {σ:St} {H:Hp} {s:UN} {a C dx:Addr} {fs:List (Str×V)} {f:Str} {v:V} {A:VX} {E:UK->UN->Prop}
end
def QW (X:Cx)(op:zas)(rd:V->V->Hp->VK->Prop):Prop:=
 ∀ (pins:List (Addr×Obj)) (s:UN) (σ:St) (H:Hp) (x y:V) (u v:UK) (Q:VK),Inv X pins σ H s->RelV x u->RelV y v->rd x y H Q->U9 (Vb X.prog X.w) X.A (inplaceOp op u v) (EP X pins σ Q) X.xe s
section
variable {X:Cx} {o e value:Ve} {f:Str} {pos pos' tpos:Pos} {ta tv:TE}
def Sa:V->V->Hp->VK->Prop:=λx y H Q=>∃ i j,x=.int i/\y=.int j/\Q (.int (i+j)) H
def kA:V->V->Hp->VK->Prop:=λx y H Q=>∃ i j,x=.int i/\y=.int j/\Q (.int (i - j)) H
theorem Qa:QW X .Add Sa:=by
 rintro pins s σ H x y u v Q I rx ry ⟨i,j,rfl,rfl,q⟩
 obtain ⟨t,rfl⟩:=(show ∃ t,u=Yc i t from rx)
 obtain ⟨t',rfl⟩:=(show ∃ t',v=Yc j t' from ry)
 exact zcV ⟨.int (i+j),H,I.tok _,⟨_,rfl⟩,q⟩
end
section
variable {X:Cx} {pins:List (Addr×Obj)} {σ:St} {H:Hp} {s:UN} {A:VX} {E:UK->UN->Prop} {Q:UK->UN->Prop} {c:UK} {b:Bool}
end
end L2
namespace L2
open PySem PySem.Spec PyProof.Rows
structure fY (k:Nat) (A:VX):Prop where
 hd:A.handled=none
 dp:A.depth+3*k+5 < recursionLimit
 un:A.units+16*k+200 < cLine
theorem fY.mono {j k:Nat}{A:VX}(r:fY k A)(h:j<=k):fY j A:=⟨r.hd,by have:=r.dp;omega,by have:=r.un;omega⟩
theorem fY.deeper {k:Nat}{A:VX}(r:fY (k+1) A)(env:Env):fY k (A.deeper env):=
 ⟨r.hd,by have:=r.dp;show A.depth+1+3*k+5 < _;omega,by have:=r.un;show A.units+3+16*k+200 < _;omega⟩
theorem fY.depth {k:Nat}{A:VX}(r:fY k A):A.depth < recursionLimit:=by have:=r.dp;omega
theorem fY.units {k:Nat}{A:VX}(r:fY k A):A.units+64 < cLine:=by have:=r.un;omega
def Sw:TA:=λ_ H Q=>Q [] H
def MJ (ta:TE)(tr:TA):TA:=λσ H Q=>ta σ H λx H1=>tr σ H1 λxs H2=>Q (x::xs) H2
section
variable {X:Cx} {e:Ve} {es:List Ve} {te:TE} {t:TA} {pos:Pos}
theorem iI:PA X [] Sw:=λ_ _ _ _ H Q I h=>zbr ⟨[],H,I,.nil,h⟩
theorem eC (ha:PE X e te)(hr:PA X es t)(hs:UX (e::es) X.env=(false,V8 e X.env)::UX es X.env:=by rfl):PA X (e::es) (MJ te t):=by
 intro pos pins s σ H Q I h
 rw[hs]
 show U9 _ _ (spliced ((false,V8 e X.env)::Wu pos (UX es X.env))) _ _ s
 refine zbd (thn (ha pins s σ H _ I h) λu s1 ⟨x,H1,I1,r1,q1⟩=>?_)
 exact thn (hr pos pins s1 σ H1 _ I1 q1) λus s2 ⟨xs,H2,I2,r2,q2⟩=>⟨x::xs,H2,I2,.cons r1 r2,q2⟩
def UD (t:TA):TE:=λσ H Q=>t σ H λxs H1=>xs.length<=sizeLine/\∀ p,H1 p=none->Q (.ref p) (upd H1 p (.tup xs))
def Uz (t:TA):TE:=λσ H Q=>t σ H λxs H1=>xs.length<=sizeLine/\∀ p,H1 p=none->Q (.ref p) (upd H1 p (.lst xs))
theorem O0 {x1}(h:PA X es t):PE X (.Tuple es x1 pos) (UD t):=by
 intro pins s σ H Q I hq
 refine wpAny_Tuple_spliced (thn (h pos pins s σ H _ I hq) λus s1 ⟨xs,H1,I1,r,z,q⟩=>⟨by rw[← r.length];exact z,?_⟩)
 have hf:H1 s1.heap.objs.size=none:=I1.hok.fresh (U2 _)
 refine ⟨.ref s1.heap.objs.size,upd H1 s1.heap.objs.size (.tup xs),I1.laid (t':=s1.toks) (λb u e=>UJ _ e) (U2 _) ?_,rfl,q _ hf⟩
 exact ⟨z,us,r,⟨_,U3 _ rfl⟩⟩
theorem Et (h:PA X es t):PE X (.List es pos) (Uz t):=by
 intro pins s σ H Q I hq
 refine wpAny_List_spliced (thn (h pos pins s σ H _ I hq) λus s1 ⟨xs,H1,I1,r,z,q⟩=>⟨by rw[← r.length];exact z,?_⟩)
 have hf:H1 s1.heap.objs.size=none:=I1.hok.fresh (U2 _)
 refine ⟨.ref s1.heap.objs.size,upd H1 s1.heap.objs.size (.lst xs),I1.laid (t':=s1.toks) (λb u e=>UJ _ e) (U2 _) ?_,rfl,q _ hf⟩
 exact ⟨z,us,0,r,U3 _ rfl⟩
end
abbrev Sp:=List V->Hp->VK->XK->Prop
abbrev CXT:=List Env->Hp->UN->XK->UK->UN->Prop
structure JY (P:Vn) (w:VB) (K:UH) (mg:Str->Option UK) (base:Heap) (A:VX) (outer:List Env) (s:UN) (H:Hp):Prop where
 frames:A.frames=some outer
 mod:Mod K mg base
 bs:∀ b o,base.get? b=some o->s.heap.get? b=some o/\H b=none
 bsz:base.objs.size<=s.heap.objs.size
 rn:s.heap.FunFrames base outer
 frf:∀ b∈frs outer,H b=none
 hok:HOk P w H s.heap
 bare:Zl s.gens
def CE (outer:List Env)(P:Vn)(w:VB)(H:Hp)(s:UN)(Q:VK)(u:UK)(s':UN):Prop:=
 ∃ v H',s'.os=s.os/\Zl s'.gens/\Un (frs outer) [] H H' s.heap s'.heap/\HOk P w H' s'.heap/\RelV v u/\Q v H'
def CR (CX:CXT)(outer:List Env)(P:Vn)(w:VB)(H:Hp)(s:UN)(Q:VK)(E:XK)(r:zbS)(s':UN):Prop:=
 match r with
 | .ok (.ret u)=>CE outer P w H s Q u s'
 | .ok _=>False
 | .error e=>CX outer H s E e s'
structure jb (P:Vn) (w:VB) (K:UH) (mg:Str->Option UK) (base:Heap) (CX:CXT) (k:Nat) (f:Addr) (fd:U8) (ps:List Str) (sp:Sp):Prop where
 len:∀ vs H Q E,sp vs H Q E->vs.length=ps.length
 run:∀ (A:VX) (outer:List Env) (s:UN) (H:Hp) (args:Args) (us:List UK) (vs:List V) (Q:VK) (E:XK),fY k A->JY P w K mg base A outer s H->zbs s fd args (ps.zip us)->Vals vs us->sp vs H Q E->
  Xy (Vb P w) A (.call (.ref f) args) (CR CX outer P w H s Q E) s
theorem jb.mono {P:Vn}{w:VB}{K:UH}{mg:Str->Option UK}{base:Heap}{CX:CXT}{j k:Nat}{f:Addr}{fd:U8}{ps:List Str}{sp:Sp}(F:jb P w K mg base CX j f fd ps sp)(h:j<=k) :
  jb P w K mg base CX k f fd ps sp:=⟨F.len,λA outer s H args us vs Q E hr=>F.run A outer s H args us vs Q E (hr.mono h)⟩
section
variable {X:Cx} {pins:List (Addr×Obj)} {σ:St} {H:Hp} {s s':UN}
theorem Inv.Ul (I:Inv X pins σ H s):JY X.prog X.w X.K X.mg X.base X.A X.stack s H:=
 ⟨I.ok.frames,I.ok.mod,I.bs,VA I.ok.bsz I.sz,I.stack,I.CI,I.hok,I.bare⟩
theorem Inv.after {Q:VK}{u:UK}(I:Inv X pins σ H s)(h:CE X.stack X.prog X.w H s Q u s'):EP X pins σ Q u s':=by
 obtain ⟨v,H',os,bare,un,hok,r,q⟩:=h
 obtain ⟨hh,g,d,t,os'⟩:=s'
 obtain rfl:os'=s.os:=os
 exact ⟨v,H',I.call (h':=hh) (g':=g) (d':=d) (t':=t) (ch:=[]) un hok bare (λb z=>absurd z (by simp)),r,q⟩
end
def SE (sp:Sp)(dvs:List V)(E:XK)(t:TA):TE:=λσ H Q=>t σ H λvs H1=>sp (vs++dvs) H1 Q E
def Binds (K:UH)(fd:U8)(ps:List Str)(ds:List UK):Prop:=
 ∀ (s:UN) (us:List UK),K.In s.heap->(us++ds).length=ps.length->zbs s fd ⟨us,[]⟩ (ps.zip (us++ds))
theorem Binds.all {K:UH}{fd:U8}{ps:List Str}(h:∀ us:List UK,us.length=ps.length->bindArgs fd ⟨us,[]⟩=pure (ps.zip us)):Binds K fd ps []:=λs us _ hl=>by
 rw[Vk] at hl ⊢
 exact .of_eq (h us hl)
def Passes (CX:CXT)(X:Cx)(E:XK):Prop:=∀ (pins:List (Addr×Obj)) (σ:St) (H:Hp) (s:UN) (e:UK) (s':UN),Inv X pins σ H s->CX X.stack H s E e s'->X.xe e s'
section
variable {X:Cx} {CX:CXT} {k:Nat} {f C:Addr} {fd:U8} {ps:List Str} {sp:Sp} {dvs:List V} {ds:List UK} {E:XK} {x m:Str} {p pos apos:Pos} {e o:Ve} {es:List Ve} {ta:TE} {t:TA}
theorem Pl {pins:List (Addr×Obj)}{σ:St}{H:Hp}{s:UN}{Q:VK}{us:List UK}{vs:List V}(F:jb X.prog X.w X.K X.mg X.base CX k f fd ps sp)(hr:fY k X.A)(hb:Binds X.K fd ps ds)(hd:Vals dvs ds)(hx:Passes CX X E)
  (I:Inv X pins σ H s) (r:Vals vs us) (h:sp (vs++dvs) H Q E):U9 (Vb X.prog X.w) X.A (zaP (.ref f) us) (EP X pins σ Q) X.xe s:=by
 have r2:Vals (vs++dvs) (us++ds):=r.append hd
 have hl:(us++ds).length=ps.length:=by rw[← r2.length];exact F.len _ _ _ _ h
 refine wpAny_call (zbt (F.run X.A X.stack s H ⟨us,[]⟩ (us++ds) (vs++dvs) Q E hr I.Ul (hb s us I.kIn hl) r2 h) λr s' hq=>?_)
 cases r with
 | error e=>exact hx pins σ H s e s' I hq
 | ok fl=>
  cases fl with
  | ret u=>exact I.after hq
  | next=>exact UO hq
  | brk=>exact UO hq
  | cont=>exact UO hq
theorem K2 (F:jb X.prog X.w X.K X.mg X.base CX k f fd ps sp)(hr:fY k X.A)(hg:Gl X x)(hm:X.mg x=some (.ref f))(hk:Yp X.K (.ref f)=true)(hb:Binds X.K fd ps ds)(hd:Vals dvs ds)(hx:Passes CX X E)
  (ha:PA X (e::es) t) (hdb:(x == ("__debug__" : Str))=false:=by decide) (he:UX (e::es) X.env=(false,V8 e X.env)::UX es X.env:=by rfl) (hpl:(Wu pos (UX es X.env)).any (·.1)=false:=by rfl) :
  PE X (.Call (.Name x p) (e::es) [] pos) (SE sp dvs E t):=by
 intro pins s σ H Q I h
 refine X8 (BF I hg hm ?_ hdb)
 refine PySem.W.callWith_K (h₀:=X.base) I.ok.mod.kin hk (thn (ha pos pins s σ H _ I h) λus s1 ⟨vs,H1,I1,r,q⟩=>⟨I1.kIn,?_⟩) he hpl
 exact Pl F hr hb hd hx I1 r q
end
def PK (X:Cx)(kws:List Yq)(t:TA):Prop:=
 ∀ (pos:Pos) (pins:List (Addr×Obj)) (s:UN) (σ:St) (H:Hp) (Q:List V->Hp->Prop),Inv X pins σ H s->t σ H Q->U9 (Vb X.prog X.w) X.A (evalAll ((ZG pos (Ye kws X.env)).map (·.2))) (AP X pins σ Q) X.xe s
section
variable {X:Cx} {CX:CXT} {k:Nat} {f C:Addr} {fd:U8} {ps ks:List Str} {sp:Sp} {E:XK} {x m:Str} {p pos apos kpos:Pos} {e o:Ve} {es:List Ve} {kws:List Yq} {te ta:TE} {t tk:TA} {nm:Option Str}
theorem NQ:PK X [] Sw:=λ_ _ _ _ H Q I h=>wpAny_evalAll_nil ⟨[],H,I,.nil,h⟩
theorem Mf (ha:PE X e te)(hr:PK X kws t):PK X (⟨nm,e,kpos⟩::kws) (MJ te t):=by
 intro pos pins s σ H Q I h
 show U9 _ _ (evalAll ((do let v ← V8 e X.env;standAt pos;pure v)::(ZG pos (Ye kws X.env)).map (·.2))) _ _ s
 refine wpAny_evalAll_cons (UI (thn (ha pins s σ H _ I h) λu s1 ⟨x,H1,I1,r1,q1⟩=>UI (Zw (UQ ?_))))
 exact thn (hr pos pins s1 σ H1 _ I1 q1) λus s2 ⟨xs,H2,I2,r2,q2⟩=>⟨x::xs,H2,I2,.cons r1 r2,q2⟩
variable {g:List UK->List UK->List UK} {gV:List V->List V->List V}
end
structure aH (N P:List Str) (sc:Scope):Prop where
 kind:sc.kind=.function
 co:sc.isCoroutine=false
 gen:sc.isGenerator=false
 nd:N.Nodup
 pre:N.take P.length=P
 par:∀ x∈P,sc.names.lookup x=some .local∨sc.names.lookup x=some .cell
 PF:∀ y∈sc.names,y.2≠.free
theorem sP {YE:Str->Option YK}{x:Str}:∀ {binds:List (Str×UK)} {m:Str->Option UK},(∀ v,(x,v) ∉ binds)->zcn YE binds m x=m x
 | [],_,_=>rfl
 | (n,v)::r,m,h=>by
  unfold zcn
  rw[sP λw hw=>h w (U7 _ hw)]
  split
  ·have:x≠n:=by rintro rfl;exact h v U0
   simp[this]
  ·rfl
theorem tK {YE:Str->Option YK}{x:Str}:∀ {binds:List (Str×UK)} {m:Str->Option UK},(∀ v,(x,v) ∉ binds)->zco YE binds m x=m x
 | [],_,_=>rfl
 | (n,v)::r,m,h=>by
  unfold zco
  rw[tK λw hw=>h w (U7 _ hw)]
  split
  ·rfl
  ·have:x≠n:=by rintro rfl;exact h v U0
   simp[this]
theorem sR {YE:Str->Option YK}{x:Str}{v:UK}:∀ {P:List Str} {vs:List UK} {i:Nat} {m:Str->Option UK},P.Nodup->P[i]? = some x->vs[i]? = some v->YE x=some .local->
  zcn YE (P.zip vs) m x=some v
 | [],_,_,_,_,h,_,_=>by simp at h
 | _::_,[],_,_,_,_,h,_=>by simp at h
 | p::P,w::vs,0,m,nd,h1,h2,hk=>by
  simp at h1 h2;subst h1;subst h2
  show zcn YE ((p,w)::P.zip vs) m p=_
  unfold zcn
  rw[sP λv hv=>(VN.mp nd).1 (Va hv).1,if_pos hk]
  simp
 | p::P,w::vs,i+1,m,nd,h1,h2,hk=>by
  show zcn YE ((p,w)::P.zip vs) m x=_
  unfold zcn
  exact sR (i:=i) (VN.mp nd).2 (by simpa using h1) (by simpa using h2) hk
theorem tR {YE:Str->Option YK}{x:Str}{v:UK}:∀ {P:List Str} {vs:List UK} {i:Nat} {m:Str->Option UK},P.Nodup->P[i]? = some x->vs[i]? = some v->YE x≠some .local->
  zco YE (P.zip vs) m x=some v
 | [],_,_,_,_,h,_,_=>by simp at h
 | _::_,[],_,_,_,_,h,_=>by simp at h
 | p::P,w::vs,0,m,nd,h1,h2,hk=>by
  simp at h1 h2;subst h1;subst h2
  show zco YE ((p,w)::P.zip vs) m p=_
  unfold zco
  rw[tK λv hv=>(VN.mp nd).1 (Va hv).1,if_neg hk]
  simp
 | p::P,w::vs,i+1,m,nd,h1,h2,hk=>by
  show zco YE ((p,w)::P.zip vs) m x=_
  unfold zco
  exact tR (i:=i) (VN.mp nd).2 (by simpa using h1) (by simpa using h2) hk
def start (N:List Str)(vs:List V):St:=vs.map some++Ww (N.length - vs.length) none
def wO (CX:CXT)(P:Vn)(w:VB)(K:UH)(mg:Str->Option UK)(base:Heap)(N:List Str)(qual:Str)(scope:Scope)(f:Addr)(cd:UK)(A:VX)(outer:List Env)(s:UN)(H:Hp)(E:XK):Cx where
 prog:=P
 w:=w
 K:=K
 mg:=mg
 base:=base
 A:=A.deeper (Zb qual scope s.heap.objs.size f cd)
 N:=N
 s₀:=s
 H₀:=H
 env:=Zb qual scope s.heap.objs.size f cd
 outer:=outer
 stack:=Zb qual scope s.heap.objs.size f cd::outer
 ex:=[]
 calm:=true
 fn:=λ_=>true
 pn:=[]
 xe:=λe s'=>U9 (Vb P w) (A.deeper (Zb qual scope s.heap.objs.size f cd)) (leaving (Zb qual scope s.heap.objs.size f cd) e) (λ_ s''=>CX outer H s E e s'') (λe' s''=>CX outer H s E e' s'') s'
theorem yI {sc:Scope}{n:Nat}{x:Str}(h:sc.names.lookup x=some .cell):∃ c,(cellsFrom n sc.names []).lookup x=some c:=by
 have q:=Z0 sc.names n [] (.inl h)
 exact Zy.mp q
theorem D2 {CX:CXT}{P:Vn}{w:VB}{K:UH}{mg:Str->Option UK}{base:Heap}{N ps:List Str}{qual:Str}{scope:Scope}{f:Addr}{cd:UK}{A:VX}{outer:List Env}{s s1:UN}{H:Hp}{E:XK}{us:List UK}{vs:List V}
  (S:aH N ps scope) (hd:A.handled=none) (e0:JY P w K mg base A outer s H) (hl:vs.length=ps.length) (r:Vals vs us)
  (x:InCallC s s.heap.objs.size (zcn (Zb qual scope s.heap.objs.size f cd).kindOf (ps.zip us) λ_=>none) (cellsFrom (s.heap.objs.size+1) scope.names []) (zco (Zb qual scope s.heap.objs.size f cd).kindOf (ps.zip us) λ_=>none) s1) :
  Inv (wO CX P w K mg base N qual scope f cd A outer s H E) [] (start N vs) H s1:=by
 have hpl:ps.length<=N.length:=by have:=congrArg WC S.pre;rw[XO] at this;omega
 obtain ⟨h1,tk,rfl,hk⟩:=x.done
 have noA:∀ b:Addr,b ∉ (wO CX P w K mg base N qual scope f cd A outer s H E).ex:=λb z=>absurd (show b∈([]:List Addr) from z) (by simp)
 refine ⟨⟨e0.mod,S.kind,rfl,rfl,U2 _,λy z c h1 h2=>?_,λy hy=>?_,λy c _ h=>?_,λ_=>hd,Around.frames_deeper e0.frames,.inr ⟨rfl,rfl⟩,λb z=>absurd z (noA b),e0.bs,e0.bsz,λb _ _=>noA b,λb z=>absurd z (noA b),e0.rn,e0.frf⟩,
  rfl,e0.bare,Un.kept hk,⟨_,x.toInCall.ns,λi y v h1 h2 h3=>?_⟩,λy c h=>⟨_,x.cell y c h⟩,e0.hok.fresh (U2 _),λy c h=>?_,λp hp=>absurd (show p∈([]:List (Addr×Obj)) from hp) (by simp),e0.hok.kept hk,?_⟩
 ·exact name_of_addr x.apart (Wf h1) (Wf h2)
 ·have hy:scope.names.lookup y=some .cell∨scope.names.lookup y=some .free:=hy
  rcases hy with hy | hy
  ·exact yI hy
  ·exact absurd rfl (S.PF _ (Wf hy))
 ·exact Yn (x.above y c (Wf h))
 ·have hi:i < vs.length:=by
   unfold start at h2
   by_cases hi:i < vs.length
   ·exact hi
   ·rw[XC (by simpa using hi)] at h2
    rw[ZH] at h2
    split at h2<;>cases h2
  have ha:vs[i]? = some v:=by
   unfold start at h2
   rw[XT (by simpa using hi),Wx] at h2
   cases e:vs[i]? with
   | none=>rw[e] at h2;cases h2
   | some a=>rw[e] at h2;cases h2;rfl
  obtain ⟨u,hu,rv⟩:=r.get ha
  have hp:ps[i]? = some y:=by
   rw[← S.pre,List.getElem?_take_of_lt (by omega)];exact h1
  have ndP:ps.Nodup:=by rw[← S.pre];exact S.nd.sublist (List.take_sublist _ _)
  refine ⟨u,rv,?_⟩
  rcases S.par y (XD hp) with k | k
  ·exact .inl ⟨k,sR ndP hp hu k⟩
  ·obtain ⟨c,e⟩:=yI (n:=s.heap.objs.size+1) k
   refine .inr ⟨.inl k,c,e,?_⟩
   have q:=x.cell y c e
   rw[tR ndP hp hu (by show scope.names.lookup y≠_;rw[k];decide)] at q
   exact q
 ·exact e0.hok.fresh (Yn (x.above y c (Wf h)))
 ·unfold start
  show _=N.length
  rw[US,UL,Yy]
  omega
theorem Rh {CX:CXT}{P:Vn}{w:VB}{K:UH}{mg:Str->Option UK}{base:Heap}{k:Nat}{f:Addr}{name qual:Str}{params:Arguments}{body:List Stmt}{scope:Scope}{dV kV doc pm cdv ct oc:UK}{an od:Option Addr}
  {osl:Array (Option UK)} {N ps:List Str} {sp:Sp} (lk:K.lookup f=some ⟨oc,od,.func (XQ name qual params body scope dV kV doc pm an cdv ct),osl⟩) (hcd:zau K cdv qual=true) (S:aH N ps scope)
  (len:∀ vs H Q E,sp vs H Q E->vs.length=ps.length)
  (hbody:∀ (A:VX) (outer:List Env) (s:UN) (H:Hp) (vs:List V) (Q:VK) (E:XK),fY k (A.deeper (Zb qual scope s.heap.objs.size f cdv))->sp vs H Q E->
   ∃ t,PSs (wO CX P w K mg base N qual scope f cdv A outer s H E) body t/\t { nx:=λ_ H'=>Q .non H',rt:=Q } (start N vs) H) :
  jb P w K mg base CX (k+1) f (XQ name qual params body scope dV kV doc pm an cdv ct) ps sp:=by
 refine ⟨len,λA outer s H args us vs Q E hr e0 hb r hsp=>?_⟩
 have hl:=len _ _ _ _ hsp
 have KX:K.In s.heap:=e0.mod.kin.keeps λb o e=>(e0.bs b o e).1
 have lim:s.heap.NoLimit:=e0.mod.nolimit.keeps λb o e=>(e0.bs b o e).1
 have fM:∀ y∈ps.zip us,scope.names.lookup y.1=some .local∨(scope.names.lookup y.1=some .cell/\((cellsFrom (s.heap.objs.size+1) scope.names []).lookup y.1).isSome=true):=λ⟨n,v⟩ hy=>by
  rcases S.par n (Va hy).1 with q | q
  ·exact .inl q
  ·exact .inr ⟨q,Z0 _ _ _ (.inl q)⟩
 refine codeAny_call_function hr.depth (KX _ _ lk) rfl S.co S.gen rfl (PySem.W.codeRec_of KX hcd) (hb _ _ _ _ ?_)
 refine wpAny_newFunctionEnv_cells S.kind fM λenv he s1 x=>?_
 subst he
 refine ⟨lim.keeps x.toInCall.keep,codeAny_func ?_⟩
 obtain ⟨t,ht,hq⟩:=hbody A outer s H vs Q E (hr.deeper _) hsp
 have I:Inv (wO CX P w K mg base N qual scope f cdv A outer s H E) [] (start N vs) H s1:=D2 S hr.hd e0 hl r x
 refine V9 (ht [] s1 (start N vs) H _ I hq) (λfl s' hs=>?_) λe s' hs=>hs
 have fin:∀ {σ':St} {H':Hp} {v:V} {u:UK},Inv (wO CX P w K mg base N qual scope f cdv A outer s H E) [] σ' H' s'->RelV v u->Q v H'->CE outer P w H s Q u s':=
  λ{σ' H' v u} J rv q=>⟨v,H',J.os,J.bare,J.base,J.hok,rv,q⟩
 cases fl with
 | ret u=>
  obtain ⟨v,σ',H',J,rv,q⟩:=hs
  exact fin J rv q
 | next=>
  obtain ⟨σ',H',J,q⟩:=hs
  exact fin (v:=V.non) (u:=WM) J rfl q
 | brk=>
  obtain ⟨_,_,_,q⟩:=hs
  exact UO q
 | cont=>
  obtain ⟨_,_,_,q⟩:=hs
  exact UO q
end L2
namespace L2
open PySem PySem.Spec PyProof.Rows
section
variable {X:Cx} {x:Str} {p pos:Pos} {e:Ve} {es:List Ve} {t:TA} {id T:String} {r:List V->Hp->VK->Prop}
def tCB (r:List V->Hp->VK->Prop)(t:TA):TE:=λσ H Q=>t σ H λvs H1=>r vs H1 Q
theorem lM (hc:b6 X (.builtin id) r)(hg:Gl X x)(hm:X.mg x=none)(hv:Wc x=some (.builtin id))(ha:PA X (e::es) t)(hn:x ≠ "__name__" := by decide)(hdb:(x == ("__debug__" : Str))=false:=by decide)
  (he:UX (e::es) X.env=(false,V8 e X.env)::UX es X.env:=by rfl) (hpl:(Wu pos (UX es X.env)).any (·.1)=false:=by rfl):PE X (.Call (.Name x p) (e::es) [] pos) (tCB r t):=by
 intro pins s σ H Q I h
 refine X8 (iq I hg hm hv ?_ hn hdb)
 exact zbT (thn (ha pos pins s σ H _ I h) λus s1 ⟨vs,H1,I1,r1,q1⟩=>hc pins s1 σ H1 vs us Q I1 r1 q1) he hpl
theorem tU (hc:b6 X (.type T) r)(hg:Gl X x)(hm:X.mg x=none)(hv:Wc x=some (.type T))(ha:PA X (e::es) t)(hn:x ≠ "__name__" := by decide)(hdb:(x == ("__debug__" : Str))=false:=by decide)
  (he:UX (e::es) X.env=(false,V8 e X.env)::UX es X.env:=by rfl) (hpl:(Wu pos (UX es X.env)).any (·.1)=false:=by rfl):PE X (.Call (.Name x p) (e::es) [] pos) (tCB r t):=by
 intro pins s σ H Q I h
 refine X8 (iq I hg hm hv ?_ hn hdb)
 exact V7 (thn (ha pos pins s σ H _ I h) λus s1 ⟨vs,H1,I1,r1,q1⟩=>hc pins s1 σ H1 vs us Q I1 r1 q1) he hpl
end
end L2
namespace HT
open PySem PyProof.Rows
section
open PySem.SeqAt
open PySem.AutoSeq1 (wpAny_loadPart')
open PySem.MeetsSeq PySem.MeetsSeq2 PySem.MeetsSeq3
end
section
variable {prog:Vn} {w:VB} {A:VX} {E:UK->UN->Prop} {s:UN}
theorem MD {t b:Addr}{vs ws:List UK}{Q:UK->UN->Prop}(ht:zb4 s.heap t vs.toArray)(hb:zb4 s.heap b ws.toArray)(hv:vs≠[])
  (h1:ws=[]->Q (.ref t) s) (h2:ws≠[]->Q (.ref s.heap.objs.size) { s with heap:=s.heap.push { cls:=.type "tuple", data:=.seq (vs++ws).toArray } })
  (hsz:vs.length+ws.length<=sizeLine):U9 (Vb prog w) A (Xe .Add (.ref t) (.ref b)) Q E s:=by
 obtain ⟨⟨cls,dd,data,sl⟩,ho,hc,n,hd⟩:=id ht
 obtain ⟨⟨cls2,dd2,data2,sl2⟩,ho2,hc2,n2,hd2⟩:=id hb
 simp only at hc hd hc2 hd2
 subst hc hd hc2 hd2
 have e:vs.toArray++ws.toArray=(vs++ws).toArray:=by simp
 by_cases hw:ws=[]
 ·exact Z1 ⟨_,ho,rfl⟩ ⟨_,ho2,rfl⟩ ZI zaX Yr Yf (X0 _ _)
   (tuple_addW1 t b vs.toArray ws.toArray n n2 dd dd2 sl sl2 (by simpa using hv) (by simp[hw])) ⟨ho,ho2,h1 hw⟩
 ·refine Z1 ⟨_,ho,rfl⟩ ⟨_,ho2,rfl⟩ ZI zaX Yr Yf (X0 _ _)
   (tuple_addW2 t b vs.toArray ws.toArray n n2 dd dd2 sl sl2 (by simpa using hv) (by simpa using hw) (by rw[U4,U4];exact hsz)) ⟨ho,ho2,?_⟩
  rw[e]
  exact h2 hw
def sIx (n d:Nat):Option Int->Nat
 | none=>d
 | some v=>if v < 0 then (v+(n:Int)).toNat else min v.toNat n
theorem yB (n d:Nat):sIx n d none=d:=rfl
theorem BH (n d k:Nat):sIx n d (some (k:Int))=min k n:=by
 show (if (k:Int) < 0 then ((k:Int)+(n:Int)).toNat else min (k:Int).toNat n)=min k n
 rw[if_neg (by omega),Ys]
theorem Qh (n d:Nat)(hd:d<=n)(o:Option Int):sIx n d o<=n:=by
 cases o with
 | none=>exact hd
 | some v=>
  show (if v < 0 then (v+(n:Int)).toNat else min v.toNat n)<=n
  by_cases hv:v < 0
  ·rw[if_pos hv];omega
  ·rw[if_neg hv];exact Nat.min_le_right _ _
theorem Cr (v:Int)(n d:Nat):(if v < 0 then max (v+(n:Int)) 0 else min v (n:Int))=((sIx n d (some v):Nat):Int):=by
 show (if v < 0 then max (v+(n:Int)) 0 else min v (n:Int))=(((if v < 0 then (v+(n:Int)).toNat else min v.toNat n):Nat):Int)
 by_cases hv:v < 0
 ·simp only[if_pos hv];omega
 ·simp only[if_neg hv];omega
theorem zP (lo hi:Option Int)(n:Nat):XU lo hi 1 (n:Int)=(((sIx n 0 lo:Nat):Int),((sIx n n hi:Nat):Int)):=by
 have h1:¬ ((1:Int) < 0):=by omega
 unfold XU
 simp only[h1,if_false]
 refine Prod.ext ?_ ?_
 ·cases lo with
  | none=>rfl
  | some v=>exact Cr v n 0
 ·cases hi with
  | none=>rfl
  | some v=>exact Cr v n n
theorem zU (i j:Nat):W3 (i:Int) (j:Int) 1=j - i:=by
 unfold W3
 have h1:(1:Int) > 0:=by omega
 simp only[h1,if_true,Int.ediv_one]
 split<;>omega
theorem oS {v:UK}{o:Option Int}{Q:Option Int->UN->Prop}(p:IsPart v o)(h:Q o s):U9 (Vb prog w) A (zce v) Q E s:=by
 cases p with
 | none=>exact slicePart_none h
 | int i t=>exact slicePart_int h
theorem gW {sl:Addr}{vl vu:UK}{lo hi:Option Int}{n:Nat}{Q:Int×Int×Nat->UN->Prop}(hs:s.heap.IsSliceOf sl vl vu .none)(pl:IsPart vl lo)(pu:IsPart vu hi)
  (h:Q (((sIx n 0 lo:Nat):Int),1,sIx n n hi - sIx n 0 lo) s):U9 (Vb prog w) A (Zc (.ref sl) (pure (n:Int))) Q E s:=by
 obtain ⟨os,hos,hcs,hds⟩:=id hs
 unfold Zc zcG
 refine UI (UI (VD hos hds (x:=vl) rfl (UI (VD hos hds (x:=vu) rfl (UI (VD hos hds (x:=.none) rfl (UQ ?_)))))))
 refine UI (slicePart_none ?_)
 show U9 _ _ (if ((1:Int) == 0)=true then _ else _) _ _ s
 rw[if_neg (by decide)]
 refine UI (oS pl (UI (oS pu (UI (UQ ?_)))))
 show U9 _ _ (match XU lo hi 1 (n:Int) with | (lo,hi)=>pure (lo,(1:Int),W3 lo hi 1)) _ _ s
 rw[zP lo hi n]
 show U9 _ _ (pure (((sIx n 0 lo:Nat):Int),(1:Int),W3 ((sIx n 0 lo:Nat):Int) ((sIx n n hi:Nat):Int) 1)) _ _ s
 rw[zU]
 exact UQ h
theorem HR (xs:Array UK)(i k:Nat):((Vd k).filterMap λ(m:Nat)=>xs[((i:Int)+(m:Int)*1).toNat]?).toArray=((xs.toList.drop i).take k).toArray:=by
 have e:(λ(m:Nat)=>xs[((i:Int)+(m:Int)*1).toNat]?)=λm=>xs[i+m]?:=by
  funext m
  have:((i:Int)+(m:Int)*1).toNat=i+m:=by omega
  rw[this]
 rw[e]
 have:=pick_run xs i k
 rw[List.filterMap_map] at this
 have e2:((λx=>xs[x]?) ∘ λx=>i+x)=λm=>xs[i+m]?:=rfl
 rw[e2] at this
 rw[this]
theorem kU {t sl:Addr}{items:Array UK}{vl vu:UK}{lo hi:Option Int}{Q:UK->UN->Prop}(ht:zb4 s.heap t items)(hs:s.heap.IsSliceOf sl vl vu .none)(pl:IsPart vl lo)(pu:IsPart vu hi)
  (hw:¬ (sIx items.size 0 lo=0/\sIx items.size items.size hi=items.size))
  (h:Q (.ref s.heap.objs.size) { s with heap:=s.heap.push { cls:=.type "tuple", data:=.seq ((items.toList.drop (sIx items.size 0 lo)).take (sIx items.size items.size hi - sIx items.size 0 lo)).toArray } })
  (hsz:items.size<=sizeLine):U9 (Vb prog w) A (Y3 (.ref t) (.ref sl)) Q E s:=by
 have BA:sizeOk (.seq ((items.toList.drop (sIx items.size 0 lo)).take (sIx items.size items.size hi - sIx items.size 0 lo)).toArray):=by
  show ((items.toList.drop (sIx items.size 0 lo)).take (sIx items.size items.size hi - sIx items.size 0 lo)).toArray.size<=sizeLine
  rw[U4,XO,XR,XZ]
  omega
 have hj:sIx items.size items.size hi<=items.size:=Qh _ _ (U2 _) hi
 obtain ⟨os,hos,hcs,hds⟩:=id hs
 have hTs:s.TypeIs (.ref sl) "slice" := ⟨os,hos,hcs⟩
 unfold Y3
 try with_reducible refine Xt ?_
 first | refine UI (UQ ?_) | skip
 refine UI (zbu ht.typeIs (by decide) ?_)
 refine UI (VO (name:=OF "__getitem__") ht.typeIs VJ
  (Wq VJ ht.typeIs zaQ ?_ (zbe _ _)))
 show U9 _ _ (Zd (.ref t) >>= _) _ _ s
 refine UI (tupleItemsOf_ ht ?_)
 refine UI (wpAny_typeOf hTs ?_)
 rw[if_pos (by decide)]
 refine UI (gW hs pl pu ?_)
 have hno:¬ ((((sIx items.size 0 lo:Nat):Int) == 0&&(1:Int) == 1&&(sIx items.size items.size hi - sIx items.size 0 lo) == items.size)=true):=by
  intro q
  rw[Vj,Vj] at q
  have q1:((sIx items.size 0 lo:Nat):Int)=0:=eq_of_beq q.1.1
  have q2:sIx items.size items.size hi - sIx items.size 0 lo=items.size:=eq_of_beq q.2
  exact hw ⟨by omega,by omega⟩
 show U9 _ _ (if (((sIx items.size 0 lo:Nat):Int) == 0&&(1:Int) == 1&&(sIx items.size items.size hi - sIx items.size 0 lo) == items.size)=true then _ else _) _ _ s
 rw[if_neg hno,HR]
 first
  | exact UI (m:=V0 _) (VR (UQ ⟨_,rfl,UQ h⟩) BA)
  | exact UI (m:=V0 _) (VR (UI (UQ (UQ ⟨_,rfl,UQ h⟩))) BA)
  | exact UI (UI (m:=V0 _) (VR (UQ (UQ ⟨_,rfl,UQ h⟩)) BA))
  | exact UI (UI (m:=V0 _) (VR (UQ ⟨_,rfl,UQ h⟩) BA))
end
end HT
namespace L2
open PySem PySem.Spec PyProof.Rows
abbrev TO:=St->Hp->(Option Int->Hp->Prop)->Prop
def PO (X:Cx)(e:Option Ve)(t:TO):Prop:=
 ∀ (pins:List (Addr×Obj)) (s:UN) (σ:St) (H:Hp) (Q:Option Int->Hp->Prop),Inv X pins σ H s->t σ H Q->
  U9 (Vb X.prog X.w) X.A (evalPart e X.env) (λu s'=>∃ o H',Inv X pins σ H' s'/\IsPart u o/\Q o H') X.xe s
def Mp:TO:=λ_ H Q=>Q none H
def RX (t:TE):TO:=λσ H Q=>t σ H λx H1=>∃ i,x=.int i/\Q (some i) H1
theorem intsAre_of {ns:List Int}:∀ {us:List UK},Vals (ns.map V.int) us->X2 us ns:=by
 induction ns with
 | nil=>intro us r;rw[XS] at r;cases r;exact .nil
 | cons n ns ih=>
  intro us r
  rw[UT] at r
  cases r with
  | cons r1 r2=>
   obtain ⟨t,e⟩:=r1
   subst e
   exact .cons n t (ih r2)
section
variable {X:Cx} {e:Ve} {te:TE} {lo hi:Option Ve} {tl th:TO} {pos p2:Pos}
theorem L8:PO X none Mp:=by
 intro pins s σ H Q I h
 rw[evalPart_none]
 exact UQ ⟨none,H,I,.none,h⟩
theorem JG (h:PE X e te):PO X (some e) (RX te):=by
 intro pins s σ H Q I hw
 rw[evalPart_some]
 refine thn (h pins s σ H _ I hw) λu s1 ⟨x,H1,I1,r1,q1⟩=>?_
 obtain ⟨i,rfl,q⟩:=q1
 obtain ⟨t,rfl⟩:=r1
 exact ⟨some i,H1,I1,.int i t,q⟩
def SlR (X:Cx)(r:V->Option Int->Option Int->Hp->VK->Prop):Prop:=
 ∀ (pins:List (Addr×Obj)) (s:UN) (σ:St) (H:Hp) (x:V) (v vl vu:UK) (lo hi:Option Int) (sl:Addr) (Q:VK),Inv X pins σ H s->RelV x v->s.heap.IsSliceOf sl vl vu .none->IsPart vl lo->IsPart vu hi->r x lo hi H Q->
  ∃ T id,zcp (.type T) "__getitem__" = pure (some (.builtin id))/\s.TypeIs v T/\U9 (Vb X.prog X.w) X.A (Y3 v (.ref sl)) (EP X pins σ Q) X.xe s
theorem SlR.or {r r':V->Option Int->Option Int->Hp->VK->Prop}(h:SlR X r)(h':SlR X r'):SlR X (λx lo hi H Q=>r x lo hi H Q∨r' x lo hi H Q):=by
 intro pins s σ H x v vl vu lo hi sl Q I rx hs pl pu q
 rcases q with q | q
 ·exact h pins s σ H x v vl vu lo hi sl Q I rx hs pl pu q
 ·exact h' pins s σ H x v vl vu lo hi sl Q I rx hs pl pu q
def tSl (r:V->Option Int->Option Int->Hp->VK->Prop)(te:TE)(tl th:TO):TE:=λσ H Q=>te σ H λx H1=>tl σ H1 λl H2=>th σ H2 λu H3=>r x l u H3 Q
theorem Iq {r:V->Option Int->Option Int->Hp->VK->Prop}(hr:SlR X r)(he:PE X e te)(hl:PO X lo tl)(hu:PO X hi th):PE X (.Subscript e (.Slice lo hi none p2) pos) (tSl r te tl th):=by
 intro pins s σ H Q I h
 refine zcq (thn (he pins s σ H _ I h) λv s1 ⟨x,H1,I1,r1,q1⟩=>?_)
 refine wpAny_Slice (thn (hl pins s1 σ H1 _ I1 q1) λvl s2 ⟨l,H2,I2,pl,q2⟩=>thn (hu pins s2 σ H2 _ I2 q2) λvu s3 ⟨u,H3,I3,pu,q3⟩=>?_)
 rw[evalPart_none]
 refine UQ ?_
 have I4:Inv X pins σ H3 { s3 with heap:=s3.heap.push { cls:=.type "slice", data:=.fields #[vl,vu,.none] } }:=I3.kept (t':=s3.toks) λb ob q=>UJ _ q
 obtain ⟨T,id,hT,ht,hg⟩:=hr pins { s3 with heap:=s3.heap.push { cls:=.type "slice", data:=.fields #[vl,vu,.none] } } σ H3 x v vl vu l u s3.heap.objs.size Q I4 r1 (zc3 ..) pl pu q3
 show U9 (Vb X.prog X.w) X.A (zaY e (.Slice lo hi none p2) v (.ref s3.heap.objs.size)) (EP X pins σ Q) X.xe { s3 with heap:=s3.heap.push { cls:=.type "slice", data:=.fields #[vl,vu,.none] } }
 exact tail_any (ops:=[.ref s3.heap.objs.size,v]) ht hT hg (by with_unfolding_all rfl)
def vG (xs:List V)(lo hi:Option Int):List V:=(xs.drop (HT.sIx xs.length 0 lo)).take (HT.sIx xs.length xs.length hi - HT.sIx xs.length 0 lo)
theorem nA (xs:List V)(lo hi:Option Int):(vG xs lo hi).length<=xs.length:=by
 unfold vG
 rw[XO,XR]
 omega
def Uh (K:UH):V->Option Int->Option Int->Hp->VK->Prop:=λx lo hi H Q=>∃ a xs,x=.ref a/\SqT K H a xs/\
 ¬ (HT.sIx xs.length 0 lo=0/\HT.sIx xs.length xs.length hi=xs.length)/\∀ p,H p=none->Q (.ref p) (upd H p (.tup (vG xs lo hi)))
theorem Qq:SlR X (Uh X.K):=by
 intro pins s σ H x v vl vu lo hi sl Q I rx hs pl pu h
 obtain ⟨a,xs,rfl,hx,hw,q⟩:=h
 cases rx
 obtain ⟨its,r,ht,hz⟩:=I.tuple hx
 have hlen:its.toArray.size=xs.length:=by rw[U4];exact r.length.symm
 refine ⟨"tuple", _,VJ.lookup,ht.typeIs,?_⟩
 refine HT.kU ht hs pl pu (by rw[hlen];exact hw) ?_ (by rw[hlen];exact hz)
 rw[hlen]
 refine ⟨.ref s.heap.objs.size,_,I.laid (t':=s.toks) (o:=.tup (vG xs lo hi)) (λb ob q=>UJ _ q) (U2 _) ?_,rfl,q _ (I.hok.fresh (U2 _))⟩
 exact ⟨VA (nA xs lo hi) hz,_,(r.drop (HT.sIx xs.length 0 lo)).take (HT.sIx xs.length xs.length hi - HT.sIx xs.length 0 lo),vk.new _ _⟩
def MW (K:UH):R2:=λx y H Q=>∃ a b xs ys,x=.ref a/\y=.ref b/\SqT K H a xs/\SqT K H b ys/\xs≠[]/\xs.length+ys.length<=sizeLine/\
 (ys=[]->Q (.ref a) H)/\(ys≠[]->∀ p,H p=none->Q (.ref p) (upd H p (.tup (xs++ys))))
theorem Vals.uT {xs:List V}{us:List UK}(r:Vals xs us):us=[]↔xs=[]:=by
 cases r with
 | nil=>simp
 | cons _ _=>simp
theorem K1:OpR X (Xe .Add) (MW X.K):=by
 intro pins s σ H x y v u Q I rx ry h
 obtain ⟨a,b,xs,ys,rfl,rfl,ha,hb,hx,hz,q1,q2⟩:=h
 cases rx
 cases ry
 obtain ⟨its,r1,p1,_⟩:=I.tuple ha
 obtain ⟨its2,r2,p2,_⟩:=I.tuple hb
 refine HT.MD p1 p2 (λz=>hx (r1.uT.mp z)) (λz=>⟨.ref a,H,I,rfl,q1 (r2.uT.mp z)⟩) (λz=>?_) (by rw[← r1.length,← r2.length];exact hz)
 refine ⟨.ref s.heap.objs.size,_,I.laid (t':=s.toks) (o:=.tup (xs++ys)) (λb ob q=>UJ _ q) (U2 _) ?_,rfl,q2 (λw=>z (r2.uT.mpr w)) _ (I.hok.fresh (U2 _))⟩
 exact ⟨by rw[US];exact hz,_,r1.append r2,vk.new _ _⟩
end
end L2
namespace L2
open PySem PySem.Spec PyProof.Rows
def ixN (n:Nat)(i:Int):Option Nat:=if 0<=i then (if i < n then some i.toNat else none) else if -(n:Int)<=i then some (i+n).toNat else none
def atI {α:Type}(xs:List α)(i:Int):Option α:=(ixN xs.length i).bind λj=>xs[j]?
theorem LJ {n:Nat}{i:Int}{j:Nat}(h:ixN n i=some j):zaL i n=some j/\j < n/\-(n:Int)<=i/\i < n:=by
 unfold ixN at h
 by_cases h0:0<=i
 ·rw[if_pos h0] at h
  by_cases h1:i < n
  ·rw[if_pos h1] at h
   have e:i.toNat=j:=Vt h
   exact ⟨by rw[seqIndex_of h0 h1,e],by omega,by omega,h1⟩
  ·rw[if_neg h1] at h;cases h
 ·rw[if_neg h0] at h
  by_cases h1:-(n:Int)<=i
  ·rw[if_pos h1] at h
   have e:(i+n).toNat=j:=Vt h
   exact ⟨by rw[seqIndex_neg (by omega) h1,e],by omega,h1,by omega⟩
  ·rw[if_neg h1] at h;cases h
theorem uq {α:Type}{xs:List α}{i:Int}{v:α}(h:atI xs i=some v):∃ j,zaL i xs.length=some j/\xs[j]? = some v/\j < xs.length/\-(xs.length:Int)<=i/\i < xs.length:=by
 unfold atI at h
 cases e:ixN xs.length i with
 | none=>rw[e] at h;cases h
 | some j=>
  rw[e] at h
  obtain ⟨h1,h2,h3,h4⟩:=LJ e
  exact ⟨j,h1,h,h2,h3,h4⟩
def CJ (b:Ve):Prop:=∀ o i,zav b false o i=operate [o,i] (Y3 o i)
def IxR (X:Cx)(r:R2):Prop:=
 ∀ (value slice:Ve) (pins:List (Addr×Obj)) (s:UN) (σ:St) (H:Hp) (x y:V) (v u:UK) (Q:VK),Inv X pins σ H s->RelV x v->RelV y u->r x y H Q->
  zav slice false v u=operate [v,u] (Y3 v u)->U9 (Vb X.prog X.w) X.A (zaY value slice v u) (EP X pins σ Q) X.xe s
def MtR (X:Cx)(id:String)(r:V->List V->Hp->VK->Prop):Prop:=
 ∀ (pins:List (Addr×Obj)) (s:UN) (σ:St) (H:Hp) (x:V) (xs:List V) (v:UK) (us:List UK) (Q:VK),Inv X pins σ H s->RelV x v->Vals xs us->r x xs H Q->
  U9 (Vb X.prog X.w) X.A (zaP (.builtin id) (v::us)) (EP X pins σ Q) X.xe s
section
variable {X:Cx} {a b:Ve} {ta tb:TE} {pos:Pos}
theorem IxR.or {r r':R2}(h:IxR X r)(h':IxR X r'):IxR X (λx y H Q=>r x y H Q∨r' x y H Q):=by
 intro value slice pins s σ H x y v u Q I rx ry q hs
 rcases q with q | q
 ·exact h value slice pins s σ H x y v u Q I rx ry q hs
 ·exact h' value slice pins s σ H x y v u Q I rx ry q hs
theorem Sl {r:R2}(hr:IxR X r)(ha:PE X a ta)(hb:PE X b tb)(hs:CJ b):PE X (.Subscript a b pos) (tOp r ta tb):=by
 intro pins s σ H Q I h
 exact zcq (NU ha hb I h λv u s2 x y H2 I2 rx ry q=>hr a b pins s2 σ H2 x y v u Q I2 rx ry q (hs _ _))
def Ru (K:UH):R2:=λx y H Q=>∃ p xs i v,x=.ref p/\y=.int i/\SqL K H p xs/\atI xs i=some v/\Q v H
def Ro (K:UH):R2:=λx y H Q=>∃ p xs i v,x=.ref p/\y=.int i/\SqT K H p xs/\atI xs i=some v/\Q v H
def Q8:R2:=λx y H Q=>∃ z i c,x=.str z/\y=.int i/\z.length<=sizeLine/\atI z.cps.toList i=some c/\Q (.str ⟨#[c]⟩) H
theorem Mb:IxR X (Ru X.K):=by
 intro value slice pins s σ H x y v u Q I rx ry h hs
 obtain ⟨p,xs,i,z,rfl,rfl,hq,he,q⟩:=h
 cases rx
 obtain ⟨t,rfl⟩:=ry
 obtain ⟨its,r,pl,hz⟩:=I.list hq
 obtain ⟨j,h1,h2,h3,h4,h5⟩:=uq he
 obtain ⟨w,ew,rw'⟩:=r.get h2
 have hl:=r.length
 have hn:=qN
 have fin:EP X pins σ Q w s:=⟨z,H,I,rw',q⟩
 by_cases h0:0<=i
 ·have hj:i.toNat=j:=by
   rw[seqIndex_of h0 h5] at h1
   exact Vt h1
  exact item_listR pl.isList h0 (by omega) (by rw[hj];simpa using ew) fin hs
 ·have hj:(i+(its.toArray.size:Int)).toNat=j:=by
   rw[seqIndex_neg (by omega) h4] at h1
   rw[U4,← hl]
   exact Vt h1
  exact Z2 (x:=w) pl.isList.typeIs zbv.lookup
   (wpAny_getItem_list_neg (Q:=λr s'=>r=w/\EP X pins σ Q r s') pl.isList (by omega) (by rw[U4]<;>omega) (by omega) (by rw[hj];simpa using ew) ⟨rfl,fin⟩) hs
theorem NV:IxR X (Ro X.K):=by
 intro value slice pins s σ H x y v u Q I rx ry h hs
 obtain ⟨p,xs,i,z,rfl,rfl,hq,he,q⟩:=h
 cases rx
 obtain ⟨t,rfl⟩:=ry
 obtain ⟨its,r,pl,hz⟩:=I.tuple hq
 obtain ⟨j,h1,h2,h3,h4,h5⟩:=uq he
 obtain ⟨w,ew,rw'⟩:=r.get h2
 have hl:=r.length
 have hn:=qN
 have fin:EP X pins σ Q w s:=⟨z,H,I,rw',q⟩
 exact Z2 (x:=w) pl.typeIs slot_tuple_getitem.lookup
  (getItem_tuple (j:=j) (Q:=λr s'=>r=w/\EP X pins σ Q r s') pl (by omega) (by omega) (by rw[U4,← hl];exact h1) (by simpa using ew) ⟨rfl,fin⟩) hs
theorem Ot:IxR X Q8:=by
 intro value slice pins s σ H x y v u Q I rx ry h hs
 obtain ⟨z,i,c,rfl,rfl,hz,he,q⟩:=h
 obtain ⟨t,rfl⟩:=rx
 obtain ⟨t',rfl⟩:=ry
 obtain ⟨j,h1,h2,h3,h4,h5⟩:=uq he
 have hl:z.cps.toList.length=z.length:=by simp[Str.length]
 rw[hl] at h1 h4 h5
 have hn:=qN
 exact tail_any (typeIs_str s z t) slot_str_getitem.lookup (getItem_str (c:=c) (by
  have e1:decide (i < -(2 ^ 63:Int))=false:=decide_eq_false (by omega)
  have e2:decide (i ≥ 2 ^ 63)=false:=decide_eq_false (by omega)
  rw[e1,e2,zcH]) (by rw[h1];simpa using h2) ⟨.str ⟨#[c]⟩,H,I.tok _,⟨_,rfl⟩,q⟩) hs
def rIx (K:UH):R2:=λx y H Q=>Ru K x y H Q∨Ro K x y H Q∨Q8 x y H Q
theorem NI:IxR X (rIx X.K):=Mb.or (NV.or Ot)
theorem Inv.lst {pins:List (Addr×Obj)}{σ:St}{H:Hp}{s:UN}{p:Addr}{xs:List V}(I:Inv X pins σ H s)(h:H p=some (.lst xs)) :
  ∃ (its:List UK) (n:Nat),Vals xs its/\s.heap.get? p=some { cls:=.type "list", data:=.seq its.toArray n }/\xs.length<=sizeLine:=by
 obtain ⟨z,its,n,r,e⟩:=I.hok p _ h
 exact ⟨its,n,r,e,z⟩
theorem uH (lo hi:Option Int)(n:Nat):(Yg lo hi none n).1=((HT.sIx n 0 lo:Nat):Int)/\(Yg lo hi none n).2.1=((HT.sIx n n hi:Nat):Int)/\(Yg lo hi none n).2.2=1:=by
 refine ⟨?_,?_,rfl⟩
 ·cases lo with
  | none=>simp[Yg,HT.sIx]
  | some i=>
   simp only[Yg,HT.sIx,zbU,show (1:Int) > 0 by decide,if_true]
   by_cases h:i < 0
   ·simp only[h,if_true]<;>omega
   ·simp only[h,if_false]<;>omega
 ·cases hi with
  | none=>simp[Yg,HT.sIx]
  | some i=>
   simp only[Yg,HT.sIx,zbU,show (1:Int) > 0 by decide,if_true]
   by_cases h:i < 0
   ·simp only[h,if_true]<;>omega
   ·simp only[h,if_false]<;>omega
theorem r9 (its:List UK)(lo hi:Option Int):slicePick its.toArray lo hi none=((its.drop (HT.sIx its.length 0 lo)).take (HT.sIx its.length its.length hi - HT.sIx its.length 0 lo)).toArray:=by
 obtain ⟨h1,h2,h3⟩:=uH lo hi its.toArray.size
 unfold slicePick
 rw[h1,h2,h3]
 simp only[sliceRange_one,pick_run,U4]<;>rfl
def T3 (K:UH):V->Option Int->Option Int->Hp->VK->Prop:=λx lo hi H Q=>∃ a xs,x=.ref a/\SqL K H a xs/\∀ p,H p=none->Q (.ref p) (upd H p (.lst (vG xs lo hi)))
theorem KN:SlR X (T3 X.K):=by
 intro pins s σ H x v vl vu lo hi sl Q I rx hs pl pu h
 obtain ⟨a,xs,rfl,hx,q⟩:=h
 cases rx
 obtain ⟨its,r,ht,hz⟩:=I.list hx
 have hlen:=r.length
 refine ⟨"list", _,zbv.lookup,ht.isList.typeIs,?_⟩
 refine wpAny_getItem_list_slice ht.isList hs pl pu .none (by simp) ?_ (by rw[U4]<;>omega)
 rw[r9,← hlen]
 refine ⟨.ref s.heap.objs.size,_,I.laid (t':=s.toks) (o:=.lst (vG xs lo hi)) (λb ob q=>UJ _ q) (U2 _) ?_,rfl,q _ (I.hok.fresh (U2 _))⟩
 exact ⟨VA (nA xs lo hi) hz,_,0,(r.drop (HT.sIx xs.length 0 lo)).take (HT.sIx xs.length xs.length hi - HT.sIx xs.length 0 lo),U3 _ rfl⟩
def MM:V->Bool
 | .non=>true
 | .bl _=>true
 | .int _=>true
 | .str _=>true
 | _=>false
def eqV:V->V->Bool
 | .non,.non=>true
 | .bl a,.bl b=>a == b
 | .bl a,.int b=>(if a then 1 else 0) == b
 | .int a,.bl b=>a == (if b then 1 else 0)
 | .int a,.int b=>a == b
 | .str a,.str b=>a == b
 | _,_=>false
def inV (x:V)(xs:List V):Bool:=xs.any λy=>eqV y x
def rIn (K:UH)(neg:Bool):R2:=λx y H Q=>∃ p xs,y=.ref p/\(SqL K H p xs∨SqT K H p xs)/\MM x=true/\xs.all MM=true/\Q (.bl (if neg then !inV x xs else inV x xs)) H
theorem vg:b6 X (.builtin "len") (λxs H Q=>∃ p ys,xs=[.ref p]/\(SqL X.K H p ys∨SqT X.K H p ys)/\Q (.int ys.length) H):=by
 intro pins s σ H xs us Q I r h
 obtain ⟨p,ys,rfl,hq,q⟩:=h
 obtain ⟨u,rfl,rx⟩:=vals1 r
 cases rx
 have hn:=qN
 rcases hq with hq | hq
 ·obtain ⟨its,r',pl,hz⟩:=I.list hq
  have hlen:=r'.length
  exact Calls.call_len_list pl.isList (by simp only[U4]<;>omega) ⟨.int ys.length,H,I.tok _,⟨s.toks+1,by rw[U4,hlen]⟩,q⟩
 ·obtain ⟨its,r',pl,hz⟩:=I.tuple hq
  have hlen:=r'.length
  exact len_tuple pl (by simp only[U4]<;>omega) ⟨.int ys.length,H,I.tok _,⟨s.toks+1,by rw[U4,hlen]⟩,q⟩
theorem uO:b6 X (.builtin "len") (λxs H Q=>∃ z,xs=[.str z]/\z.length<=sizeLine/\Q (.int z.length) H):=by
 intro pins s σ H xs us Q I r h
 obtain ⟨z,rfl,hz,q⟩:=h
 obtain ⟨u,rfl,t,rfl⟩:=vals1 r
 have hn:=qN
 exact len_str (by omega) ⟨.int z.length,H,I.tok _,⟨_,rfl⟩,q⟩
theorem b6.or {f:UK}{r r':List V->Hp->VK->Prop}(h:b6 X f r)(h':b6 X f r'):b6 X f (λxs H Q=>r xs H Q∨r' xs H Q):=by
 intro pins s σ H xs us Q I rs q
 rcases q with q | q
 ·exact h pins s σ H xs us Q I rs q
 ·exact h' pins s σ H xs us Q I rs q
theorem iW:b6 X (.type "list") (λxs H Q=>∃ p ys,xs=[.ref p]/\(SqL X.K H p ys∨SqT X.K H p ys)/\∀ l,H l=none->Q (.ref l) (upd H l (.lst ys))):=by
 intro pins s σ H xs us Q I r h
 obtain ⟨p,ys,rfl,hq,q⟩:=h
 obtain ⟨u,rfl,rx⟩:=vals1 r
 cases rx
 have fin:∀ (its:List UK),Vals ys its->ys.length<=sizeLine->∀ (h':Heap) (c':Nat),(∀ b o',s.heap.get? b=some o'->h'.get? b=some o')->
   h'.get? s.heap.objs.size=some { cls:=.type "list", dict:=none,data:=.seq its.toArray c',slots:=#[] }->EP X pins σ Q (.ref s.heap.objs.size) { s with heap:=h' }:=λits r' hz h' c' kp e=>
  ⟨.ref s.heap.objs.size,_,I.laid (t':=s.toks) kp (U2 _) (show cW X.prog X.w _ h' _ (.lst ys) from ⟨hz,its,c',r',e⟩),rfl,q _ (I.hok.fresh (U2 _))⟩
 rcases hq with hq | hq
 ·obtain ⟨its,r',pl,hz⟩:=I.list hq
  have hlen:=r'.length
  obtain ⟨o,ho,hc,n,hd⟩:=pl.isList
  exact call_list_seq p (.inl rfl) ho hc hd (λh' c' kp e=>fin its r' hz h' c' kp e) (by simp only[U4]<;>omega)
 ·obtain ⟨its,r',pl,hz⟩:=I.tuple hq
  have hlen:=r'.length
  obtain ⟨o,ho,hc,n,hd⟩:=pl
  exact call_list_seq p (.inr rfl) ho hc hd (λh' c' kp e=>fin its r' hz h' c' kp e) (by simp only[U4]<;>omega)
theorem aO:b6 X (.type "tuple") (λxs H Q=>∃ p ys,xs=[.ref p]/\((SqL X.K H p ys/\∀ l,H l=none->Q (.ref l) (upd H l (.tup ys)))∨(SqT X.K H p ys/\Q (.ref p) H))):=by
 intro pins s σ H xs us Q I r h
 obtain ⟨p,ys,rfl,h⟩:=h
 obtain ⟨u,rfl,rx⟩:=vals1 r
 cases rx
 rcases h with ⟨hq,q⟩ | ⟨hq,q⟩
 ·obtain ⟨its,r',pl,hz⟩:=I.list hq
  have hlen:=r'.length
  refine call_tuple_list pl.isList (λh' kp=>?_) (by simp only[U4]<;>omega)
  have I1:Inv X pins σ H { s with heap:=h' }:=I.kept (t':=s.toks) kp
  have I2:Inv X pins σ (upd H h'.objs.size (.tup ys)) { s with heap:=h'.push { cls:=.type "tuple", data:=.seq its.toArray } }:=
   I1.laid (t':=s.toks) (λb o e=>UJ _ e) (U2 _) (show cW X.prog X.w _ _ _ (.tup ys) from ⟨hz,its,r',vk.new _ _⟩)
  exact ⟨.ref h'.objs.size,_,I2,rfl,q _ (I1.hok.fresh (U2 _))⟩
 ·obtain ⟨its,r',pl,hz⟩:=I.tuple hq
  exact call_tuple_same pl ⟨.ref p,H,I,rfl,q⟩
def tyV (K:UH)(T:String)(x:V)(H:Hp):Prop:=match x with
 | .str _=>T = "str"
 | .int _=>T = "int"
 | .ref p=>(T = "list" /\ ∃ xs,SqL K H p xs)∨(T = "tuple" /\ ∃ o,K.lookup p=some o/\o.cls=.type "tuple" /\ o.dict=none)∨
   (T = "dict" /\ ((∃ kvs,H p=some (.dK kvs))∨∃ kvs,H p=some (.dT kvs)))∨(T = "set" /\ ∃ S n,H p=some (.set S n))
 | _=>False
theorem N3 {pins:List (Addr×Obj)}{σ:St}{H:Hp}{s:UN}{T:String}{x:V}{v:UK}(I:Inv X pins σ H s)(r:RelV x v)(ty:tyV X.K T x H) :
  s.TypeIs v T/\∀ a,v=.ref a->∃ ob,s.heap.get? a=some ob/\ob.dict=none:=by
 cases x with
 | str z=>
  obtain ⟨t,rfl⟩:=r
  cases (show T = "str" from ty)
  exact ⟨typeIs_str s z t,λ_ e=>nomatch e⟩
 | int i=>
  obtain ⟨t,rfl⟩:=r
  cases (show T = "int" from ty)
  exact ⟨typeIs_int s i t,λ_ e=>nomatch e⟩
 | ref p=>
  cases r
  rcases ty with ⟨rfl,xs,hq⟩ | ⟨rfl,o,hk,hc,hd⟩ | ⟨rfl,hk⟩ | ⟨rfl,S,n,hk⟩
  ·obtain ⟨its,_,pl,_⟩:=I.list hq
   refine ⟨pl.isList.typeIs,λa e=>?_⟩
   cases e
   obtain ⟨o,n,e,c,hd,_⟩:=pl
   exact ⟨o,e,hd⟩
  ·refine ⟨⟨o,I.kIn p o hk,hc⟩,λa e=>?_⟩
   cases e
   exact ⟨o,I.kIn _ o hk,hd⟩
  ·have z:∃ o,s.heap.get? p=some o/\o.ExactDict:=by
    rcases hk with ⟨kvs,hk⟩ | ⟨kvs,hk⟩
    ·obtain ⟨_,_,_,_,o,_,_,e,ex,_⟩:=I.hok p _ hk
     exact ⟨o,e,ex⟩
    ·obtain ⟨_,_,_,_,o,_,_,e,ex,_⟩:=I.hok p _ hk
     exact ⟨o,e,ex⟩
   obtain ⟨o,e,ex⟩:=z
   refine ⟨⟨o,e,ex.1⟩,λa e2=>?_⟩
   cases e2
   exact ⟨o,e,ex.2.1⟩
  ·obtain ⟨o,_,_,_,e,ex,_⟩:=I.hok p _ hk
   refine ⟨⟨o,e,ex.1⟩,λa e2=>?_⟩
   cases e2
   exact ⟨o,e,ex.2.1⟩
 | _=>exact UO ty
def tBM (K:UH)(T:String)(r:V->List V->Hp->VK->Prop)(to:TE)(t:TA):TE:=λσ H Q=>to σ H λx H1=>tyV K T x H1/\t σ H1 λxs H2=>r x xs H2 Q
variable {o e:Ve} {es:List Ve} {to:TE} {t:TA} {name:Str} {apos cpos:Pos} {T id:String} {r:V->List V->Hp->VK->Prop}
theorem B0 (pa:PlainAttrs T)(slot:Slot T name id)(hty:typeOf (.builtin id)=pure (.type "method_descriptor"))(hm:MtR X id r)(ho:PE X o to)(ha:PA X (e::es) t)
  (hbase:YI o name X.env (V8 o X.env)=V8 o X.env:=by rfl)
  (hfew:((Wu cpos (UX (e::es) X.env)).all (λx=>!x.1)&&(ZG cpos (Ye [] X.env)).all (λx=>x.1.isSome)
   && decide ((e::es).length+([]:List Yq).length+(if ([]:List Yq).isEmpty then 0 else 1) < 30))=true:=by rfl)
  (hline:(apos.endLine == cpos.line)=true:=by rfl) (hs:UX (e::es) X.env=(false,V8 e X.env)::UX es X.env:=by rfl) (hplain:(Wu cpos (UX es X.env)).any (·.1)=false:=by rfl) :
  PE X (.Call (.Attribute o name apos) (e::es) [] cpos) (tBM X.K T r to t):=by
 intro pins s σ H Q I h
 refine wpAny_Call_method_late hbase hfew hline rfl (thn (ho pins s σ H _ I h) λv s1 ⟨x,H1,I1,r1,ty,q1⟩=>?_)
 obtain ⟨h1,h2⟩:=N3 I1 r1 ty
 refine ⟨T,id,pa,slot,hty,h1,h2,?_⟩
 have hA:=ha cpos pins s1 σ H1 _ I1 q1
 rw[hs] at hA ⊢
 refine Calls.callWith_builtin (by show (false || (Wu cpos (UX es X.env)).any (·.1))=false;rw[hplain]<;>rfl) (Calls.evalArgs_plain ?_)
 exact thn hA λus s2 ⟨vs,H2,I2,r2,q2⟩=>hm pins s2 σ H2 x vs v us Q I2 r1 r2 q2
end
end L2
namespace L2
open PySem PySem.Spec PyProof.Rows
def MtM (X:Cx)(id:String)(r:V->List V->Hp->VK->Prop):Prop:=
 ∀ (pins:List (Addr×Obj)) (s:UN) (σ:St) (H:Hp) (x:V) (xs:List V) (v:UK) (us:List UK) (Q:VK),Inv X pins σ H s->RelV x v->Vals xs us->r x xs H Q->
  U9 (Vb X.prog X.w) X.A (zaP (.builtin id) (v::us)) (EP X pins σ Q) X.xe s
theorem Vals.one:∀ {x:V} {us:List UK},Vals [x] us->∃ u,us=[u]/\RelV x u
 | _,_,.cons r .nil=>⟨_,rfl,r⟩
theorem Vals.zero:∀ {us:List UK},Vals [] us->us=[]
 | _,.nil=>rfl
theorem Vals.eraseIdx:∀ {xs:List V} {us:List UK} (i:Nat),Vals xs us->Vals (xs.eraseIdx i) (us.eraseIdx i)
 | _,_,_,.nil=>.nil
 | _,_,0,.cons _ t=>t
 | _,_,i+1,.cons r t=>.cons r (Vals.eraseIdx i t)
theorem tG {α:Type}:∀ (l:List α) (i:Nat),(l.eraseIdx i).length<=l.length
 | [],_=>U2 _
 | _::_,0=>YL _
 | _::r,i+1=>ZJ (tG r i)
section
variable {X:Cx} {pins:List (Addr×Obj)} {σ:St} {H:Hp} {s:UN} {l b:Addr} {xs ys zs:List V}
theorem Inv.Lw {its its':List UK}{n:Nat}{f:Array UK->Array UK}{t':Nat}(I:Inv X pins σ H s)(hH:H l=some (.lst xs))
  (e:s.heap.get? l=some { cls:=.type "list", data:=.seq its.toArray n }) (hf:f its.toArray=its'.toArray) (hv:Vals ys its') (hz:ys.length<=sizeLine) :
  Inv X pins σ (upd H l (.lst ys)) { s with heap:=s.heap.update l (Z3 f),toks:=t' }:=by
 have q:=PySem.IsL.update e f
 rw[hf] at q
 refine I.write (x:=l) (e:=l) (by rw[hH];exact trivial) (.inl rfl) (λb' u hb hu=>(VY s.heap (Z3 f) (Vo hb)).trans hu) ⟨_,q⟩ ?_
 exact ⟨hz,its',_,hv,q⟩
theorem Inv.Tn {its:List UK}{t':Nat}(I:Inv X pins σ H s)(hv:Vals ys its)(hz:ys.length<=sizeLine) :
  Inv X pins σ (upd H s.heap.objs.size (.lst ys)) { s with heap:=s.heap.push { cls:=.type "list", data:=.seq its.toArray },toks:=t' }:=
 I.laid (λ_ _ q=>UJ _ q) (U2 _) ⟨hz,its,0,hv,U3 _ rfl⟩
theorem Inv.fresh (I:Inv X pins σ H s):H s.heap.objs.size=none:=I.hok.fresh (U2 _)
theorem Inv.GW (I:Inv X pins σ H s)(hH:H l=some (.lst xs)):xs.length<=sizeLine/\∃ (its:List UK) (n:Nat),Vals xs its/\xs.length=its.length/\s.heap.get? l=some { cls:=.type "list", data:=.seq its.toArray n }:=by
 obtain ⟨z,its,n,r,e⟩:=I.hok l _ hH
 exact ⟨z,its,n,r,r.length,e⟩
theorem wc {n:Nat}(h:n<=sizeLine):Wl n=false:=by
 unfold Wl
 exact decide_eq_false (by omega)
end
section
variable {X:Cx}
def JR:V->List V->Hp->VK->Prop:=λx vs H Q=>∃ l xs y,x=.ref l/\vs=[y]/\H l=some (.lst xs)/\xs.length < sizeLine/\Q .non (upd H l (.lst (xs++[y])))
theorem tQ:MtM X "list.append" JR:=by
 intro pins s σ H x vs v us Q I rx rv h
 obtain ⟨l,xs,y,rfl,rfl,hH,hz,q⟩:=h
 cases rx
 obtain ⟨u,rfl,ru⟩:=rv.one
 obtain ⟨z,its,n,r,hl,e⟩:=I.GW hH
 refine Ze F.slot_list_append ⟨_,e,rfl⟩ F.entry_list_append (F.args_list_append_2 _ _) (PySem.list_append l its.toArray n u (by rw[U4];omega)) ⟨e,?_⟩
 refine ⟨.non,_,I.Lw (its':=its++[u]) hH e (by simp) (r.append (.cons ru .nil)) ?_,rfl,q⟩
 rw[US,List.length_singleton]
 omega
def PQ:V->List V->Hp->VK->Prop:=λx vs H Q=>∃ l xs i k y,x=.ref l/\vs=[.int i]/\H l=some (.lst xs)/\-(2 ^ 63)<=i/\i < 2 ^ 63/\zaL i xs.length=some k/\xs[k]? = some y/\Q y (upd H l (.lst (xs.eraseIdx k)))
theorem Fm:MtM X "list.pop" PQ:=by
 intro pins s σ H x vs v us Q I rx rv h
 obtain ⟨l,xs,i,k,y,rfl,rfl,hH,h1,h2,hk,hy,q⟩:=h
 cases rx
 obtain ⟨u,rfl,ru⟩:=rv.one
 obtain ⟨t,rfl⟩:=ru
 obtain ⟨z,its,n,r,hl,e⟩:=I.GW hH
 obtain ⟨w,hw,rw'⟩:=r.get hy
 refine Ze F.slot_list_pop ⟨_,e,rfl⟩ F.entry_list_pop (F.args_list_pop_2 _ _)
  (MeetsSeq.list_pop_at l its.toArray n i t k w (fitsIndex_both h1 h2) (by rw[U4,← hl];exact hk) (by rw[← Array.getElem?_toList];exact hw) (by rw[U4];omega)) ⟨e,?_⟩
 refine ⟨y,_,I.Lw (its':=its.eraseIdx k) hH e ?_ (r.eraseIdx k) ?_,rw',q⟩
 ·show its.toArray.eraseIdxIfInBounds k=(its.eraseIdx k).toArray
  rw[List.eraseIdxIfInBounds_toArray]
 ·have:=tG xs k
  omega
end
section
variable {prog:Vn} {w:VB} {A:VX} {E:UK->UN->Prop} {s:UN}
end
section
variable {X:Cx}
end
end L2
namespace Att
open PySem PySem.W PySem.Calls PyProof.Rows
theorem nT {P:zcr}{h:Heap}:∀ (ns:List Int) (vs:List UK),WellAll P h vs (ns.map WData.int)->X2 vs ns:=by
 intro ns
 induction ns with
 | nil=>
  intro vs w
  rw[XS] at w
  cases w
  exact .nil
 | cons n ns ih=>
  intro vs w
  rw[UT] at w
  cases w with
  | cons a b=>
   cases a
   exact .cons _ _ (ih _ b)
theorem CW {l:OpenLaw}{n:Nat}(hn:l.most=some n){P:zcr}{h:Heap}{args:List WData}{vals:List UK}
  (hpre:l.row.toRowW.claim.pre args=true) (hwl:WellAll P h vals args) :
  ∃ a vs ns,vals=[Vs a]/\args=[WData.list (ns.map WData.int)]/\h.get? a=some { cls:=.type "list", data:=.seq vs.toArray }/\X2 vs ns/\ns.length<=n:=by
 have hsh:WShape.hasAll [] args [.list .int]=true:=(pre_splitW hpre).1
 have hc:l.pre.holds [] { args:=args }=true:=(pre_splitW hpre).2
 obtain ⟨d,r,rfl,h1,h2⟩:=hasAllW_cons hsh
 obtain rfl:=hasAllW_nil h2
 obtain ⟨xs,rfl,h3⟩:=hasW_list h1
 obtain ⟨ns,rfl⟩:=items_int h3
 have hlen:ns.length<=n:=by
  unfold OpenLaw.pre at hc
  have h4:(WTm.not (.lt (.lit (.int (n:Int))) (.len (.arg 0)))).holds [] { args:=[.list (ns.map .int)] }=true:=by
   have h4:=(holds_andW hc).1
   rw[hn] at h4
   exact h4
  have h5:=condW_of h4 (w_not (w_lt w_lit (w_len_list (w_arg rfl))))
  rw[UL] at h5
  refine Nat.le_of_not_lt λq=>?_
  have q':(n:Int) < ((ns.length:Nat):Int):=by omega
  first
   | (rw[decide_eq_true q'] at h5;exact absurd h5 (by decide))
   | (simp at h5;omega)
 cases hwl with
 | cons w1 w2=>
  cases w2
  cases w1 with
  | list ho hall=>exact ⟨_,_,ns,rfl,rfl,ho,nT ns _ hall,hlen⟩
theorem CU (l:OpenLaw)(args:List WData):l.row.toRowW.claim.post args (.bool true) args=true:=
 postW_of (r:=l.row.toRowW) (X:=(true == true))
  (show zc4 [] (.bool true) .bool=true by first | rfl | decide | simp[zc4,WShape.arms,WShape.armsAll])
  (show (WTm.eq .res (.lit (.bool true))).value [] { args:=args,res:=some (.bool true),after:=args }=some (.bool (true == true)) from w_eq_bool (w_res rfl) w_lit) rfl
theorem wm {l:OpenLaw}{n:Nat}{q:Vn}{loose:List Str}{XP:(Str->Option UK)->Heap->Prop}{YP:VB->Heap->Prop}{d:DefRec}
  (hn:l.most=some n) (hdf:d.params.defaults=[])
  (zaP:∀ (w:VB) (s₀ s₁:UN) (mg mb:Str->Option UK) (fa:Addr) (o:Obj) (pm cd doc:UK) (a:Addr) (vs:List UK) (ns:List Int),
   Ground q loose [] XP w s₀ mg mb s₁.heap->YP w s₁.heap->
   s₁.heap.get? fa=some o->o.data=.func (docDef d.name d.params d.body d.scope pm cd doc)->s₁.heap.CodeRec cd d.name->mg d.name=some (.ref fa)->
   s₁.heap.get? a=some { cls:=.type "list", data:=.seq vs.toArray }->X2 vs ns->ns.length<=n->s₁.gens = #[]->
   Xy (Vb l.prog w) Z4 (.call (.ref fa) ⟨[.ref a],[]⟩) (λr s'=>r=.ok (.ret (.bool true))/\OldK s₁.heap s'.heap/\s'.os=s₁.os/\Zl s'.gens) s₁) :
  WalkO q loose XP YP l.row.toRowW d [] (λf vs=>zcs f vs):=by
 intro w s₀ s₁ mg mb G Y fa o pm cd doc dV kV ho hd hcd hD hmg hg args vals as hpre hlay hrd hwl hlo
 obtain rfl:dV=.none:=Dflts.none hD hdf
 obtain rfl:kV=.none:=Dflts.noKw hD
 obtain ⟨a,vs,ns,rfl,rfl,hobj,hints,hlen⟩:=CW hn hpre hwl
 refine enter_call (zbt (zaP w s₀ s₁ mg mb fa o pm cd doc a vs ns G Y ho (fd_plain hd) hcd hmg hobj hints hlen hg) λr s' hq=>?_)
 obtain ⟨rfl,h2,h3,h4⟩:=hq
 exact ⟨.inl ⟨.bool true,.bool true,[],rfl,λ_=>rfl,.bool true,CU l _,λ_=>⟨zc6,λ_ hm=>(nomatch hm)⟩⟩,h2,h3,h4⟩
section
variable {prog:Vn} {w:VB} {A:VX} {E:UK->UN->Prop} {s:UN} {K:Frag}
end
end Att
namespace L2
open PySem PySem.Spec PyProof.Rows
theorem tH:∀ {vs:List UK} {ns:List Int},X2 vs ns->Vals (ns.map V.int) vs
 | _,_,.nil=>.nil
 | _,_,.cons n t h=>.cons ⟨t,rfl⟩ (tH h)
def KO (H:Hp):Prop:=∀ b,H b=none∨∃ o xs,H b=some (.frz o (.lst xs))
theorem HX {P:Vn}{w:VB}{K:UH}{mg mb:Str->Option UK}{CX:CXT}{k:Nat}{fa a:Addr}{fd:U8}{x:Str}{sp:Sp}{s₁:UN}{vs:List UK}{ns:List Int}
  (KX:K.In s₁.heap) (hns:s₁.heap.Ns Wo mg) (hb:s₁.heap.Ns zcj mb) (hbb:∀ x:Str,x ≠ "__name__" -> mb x=Wc x) (hlim:s₁.heap.NoLimit) (hg:s₁.gens = #[])
  (ha:s₁.heap.get? a=some { cls:=.type "list", data:=.seq vs.toArray }) (hi:X2 vs ns) (hl:ns.length<=sizeLine) (hr:fY k Z4)
  (F:∀ base:Heap,K.In base->base.Ns Wo mg->jb P w K mg base CX k fa fd [x] sp) (hbind:∀ (s:UN) (u:UK),zbs s fd ⟨[u],[]⟩ [(x,u)])
  (hsp:∀ H:Hp,KO H->SqL K H a (ns.map V.int)->sp [.ref a] H (λv _=>v=.bl true) λ_ _ _=>False)
  (hCX:∀ H e s',CX [] H s₁ (λ_ _ _=>False) e s'->False) :
  Xy (Vb P w) Z4 (.call (.ref fa) ⟨[.ref a],[]⟩) (λr s'=>r=.ok (.ret (.bool true))/\OldK s₁.heap s'.heap/\s'.os=s₁.os/\Zl s'.gens) s₁:=by
 have rv:=tH hi
 have UE:=hi.length
 -- from an abstract heap in which nothing but the script may be tracked
 have core:∀ H:Hp,KO H->SqL K H a (ns.map V.int)->HOk P w H s₁.heap->(∀ b,H b≠none->b=a)->(H a≠none->K.lookup a=none)->
   Xy (Vb P w) Z4 (.call (.ref fa) ⟨[.ref a],[]⟩) (λr s'=>r=.ok (.ret (.bool true))/\OldK s₁.heap s'.heap/\s'.os=s₁.os/\Zl s'.gens) s₁:=by
  intro H hO hS hok hA hK
  have base_of:∀ {b:Addr} {o:Obj},s₁.heap.get? b=some o->H b=none->(vz s₁.heap H).get? b=some o:=λe n=>GN e n
  have noA:∀ {b:Addr} {o:Obj} {es:Array DictEntry} {ep:Nat},s₁.heap.get? b=some o->o.data=.dict es ep->H b=none:=λ{b o es ep} e d=>by
   cases q:H b with
   | none=>rfl
   | some u=>
    have e':b=a:=hA b (by rw[q];simp)
    subst e'
    rw[ha] at e;cases e
    have d':Data.seq vs.toArray _=Data.dict es ep:=d
    cases d'
  have nsK:∀ {b:Addr} {m:Str->Option UK},s₁.heap.Ns b m->(vz s₁.heap H).Ns b m:=λ{b m} ⟨o,es,ep,e,d,r⟩=>⟨o,es,ep,base_of e (noA e d),d,r⟩
  have hKb:K.In (vz s₁.heap H):=λb o e=>base_of (KX b o e) (by
   cases q:H b with
   | none=>rfl
   | some u=>
    have e':b=a:=hA b (by rw[q];simp)
    subst e'
    rw[hK (by rw[q];simp)] at e;cases e)
  have hM:Mod K mg (vz s₁.heap H):=⟨hKb,nsK hns,⟨mb,nsK hb,hbb⟩,let ⟨mc,h1,h2⟩:=hlim;⟨mc,nsK h1,h2⟩⟩
  have e0:JY P w K mg (vz s₁.heap H) Z4 [] s₁ H:=⟨rfl,hM,λb o e=>Mn e,Z5 (C7 _ _),trivial,λb hb=>absurd (show b∈([]:List Addr) from hb) (by simp),hok,.of_eq hg⟩
  refine zbt ((F _ hKb (nsK hns)).run Z4 [] s₁ H ⟨[.ref a],[]⟩ [.ref a] [.ref a] _ _ hr e0 (hbind s₁ (.ref a)) (.cons rfl .nil) (hsp H hO hS)) λr s' h=>?_
  cases r with
  | error e=>exact (hCX H e s' h).elim
  | ok fl=>
   cases fl with
   | next=>exact UO h
   | brk=>exact UO h
   | cont=>exact UO h
   | ret u=>
    obtain ⟨v,H',os,bare,un,hok',r',q⟩:=h
    have q':v=.bl true:=q
    subst q'
    obtain rfl:u=Y7 true:=r'
    refine ⟨rfl,OldK.of_keep λb o e=>?_,os,bare⟩
    cases q:H b with
    | none=>exact un.keep b o e q (by intro z;exact absurd (show b∈([]:List Addr) from z) (by simp)) (by simp)
    | some u=>
     rcases hO b with z | ⟨ob,xs,z⟩
     ·rw[q] at z;cases z
     ·have z2:=un.mq b ob _ z
      obtain ⟨e1,_⟩:=hok b _ z
      obtain ⟨e2,_⟩:=hok' b _ z2
      rw[e] at e1;cases e1
      exact e2
 cases hk:K.lookup a with
 | some o=>
  -- the script is one of the module's own objects
  have e:=KX a o hk
  rw[ha] at e
  cases e
  refine core (λ_=>none) (λ_=>.inl rfl) (.inr ⟨_,vs.toArray,_,hk,rfl,rfl,rfl,by rw[U4,UE];exact hl,by simpa using rv⟩) (λb u z=>by have z':(none:Option HO)=some u:=z;cases z') (λb z=>absurd rfl z) λz=>absurd rfl z
 | none=>
  refine core (λb=>if b=a then some (.frz { cls:=.type "list", data:=.seq vs.toArray } (.lst (ns.map V.int))) else none) (λb=>?_) (.inl (.inr ⟨{ cls:=.type "list", data:=.seq vs.toArray },if_pos rfl⟩)) (λb u z=>?_) (λb z=>?_) λ_=>hk
  ·by_cases hb:b=a
   ·exact .inr ⟨_,_,if_pos hb⟩
   ·exact .inl (if_neg hb)
  ·by_cases hb:b=a
   ·have z':=(if_pos hb).symm.trans z
    cases z'
    subst hb
    exact ⟨ha,by rw[UL];exact hl,vs,_,rv,ha⟩
   ·have z':=(if_neg hb).symm.trans z
    cases z'
  ·by_cases hb:b=a
   ·exact hb
   ·exact absurd (if_neg hb) z
end L2
namespace L2
open PySem PySem.Spec PyProof.Rows
theorem LB {l:zad}{n k:Nat}{q:Vn}{loose:List Str}{XP:(Str->Option UK)->Heap->Prop}{YP:VB->Heap->Prop}{d:DefRec}{K:zcr->UH}{CX:VB->CXT}{sp:VB->Sp}{x:Str}
  (hn:l.most=some n) (hn2:n<=sizeLine) (hdf:d.params.defaults=[]) (hr:fY k Z4)
  (hY:∀ (w:VB) (h:Heap),YP w h->(K w.params).In h)
  (F:∀ (w:VB) (mg:Str->Option UK) (fa:Addr) (h:Heap),(K w.params).In h->h.Ns Wo mg->mg d.name=some (.ref fa)->
   ∃ fd:U8,(∀ (s:UN) (u:UK),zbs s fd ⟨[u],[]⟩ [(x,u)])/\
    ∀ base:Heap,(K w.params).In base->base.Ns Wo mg->jb l.prog w (K w.params) mg base (CX w) k fa fd [x] (sp w))
  (hsp:∀ (w:VB) (H:Hp) (a:Addr) (ns:List Int),ns.length<=n->KO H->SqL (K w.params) H a (ns.map V.int)->sp w [.ref a] H (λv _=>v=.bl true) λ_ _ _=>False)
  (hCX:∀ (w:VB) (H:Hp) (s:UN) (e:UK) (s':UN),CX w [] H s (λ_ _ _=>False) e s'->False) :
  zcI q loose XP YP l.row.toRowW d [] (λf vs=>zcs f vs):=by
 refine Att.wm hn hdf λw s₀ s₁ mg mb fa o pm cd doc a vs ns G Y ho hd hcd hmg hobj hints hlen hg=>?_
 have KX:=hY w _ Y
 obtain ⟨fd,hb,hF⟩:=F w mg fa _ KX G.T.g hmg
 exact HX KX G.T.g G.T.b G.T.builtins G.T.nolimit hg hobj hints (VA hlen hn2) hr hF hb (λH hO hS=>hsp w H a ns hlen hO hS) λH e s'=>hCX w H s₁ e s'
end L2
namespace L2
open PySem PySem.Spec PyProof.Rows
def lF (s:Stmt):Arguments:=match s with
 | .FunctionDef _ a _ _ _ _ _ _ _ _=>a
 | _=>{ posonlyargs:=[],args:=[],vararg:=none,kwonlyargs:=[],kw_defaults:=[],kwarg:=none,defaults:=[] }
def gD (s:Stmt):List Stmt:=match s with
 | .FunctionDef _ _ b _ _ _ _ _ _ _=>b
 | _=>[]
def av (s:Stmt):Scope:=match s with
 | .FunctionDef _ _ _ _ _ _ sc _ _ _=>sc
 | _=>{ kind:=.function,names:=[],isGenerator:=false,isCoroutine:=false }
abbrev CX0:CXT:=λ_ _ _ _ _ _=>False
abbrev E0:XK:=λ_ _ _=>False
theorem So {X:Cx}:Passes CX0 X E0:=λ_ _ _ _ _ _ _ h=>h.elim
structure Fun (K:UH) (x qual:Str) (st:Stmt) (f:Addr) (fd:U8):Prop where
 ex:∃ (oc:UK) (od:Option Addr) (kV doc pm:UK) (an:Option Addr) (cdv ct:UK) (osl:Array (Option UK)),
  fd=XQ x qual (lF st) (gD st) (av st) .none kV doc pm an cdv ct/\K.lookup f=some ⟨oc,od,.func fd,osl⟩/\zau K cdv qual=true
 kp:Yp K (.ref f)=true
section
variable {P:Vn} {w:VB} {K:UH} {mg:Str->Option UK} {base:Heap}
theorem Fun.ok {x qual:Str}{st:Stmt}{f:Addr}{fd:U8}{N ps:List Str}{k:Nat}{sp:Sp}(F:Fun K x qual st f fd)(S:aH N ps (av st))(len:∀ vs H Q E,sp vs H Q E->vs.length=ps.length)
  (hbody:∀ (cdv:UK) (A:VX) (outer:List Env) (s:UN) (H:Hp) (vs:List V) (Q:VK) (E:XK),fY k (A.deeper (Zb qual (av st) s.heap.objs.size f cdv))->sp vs H Q E->
   ∃ t,PSs (wO CX0 P w K mg base N qual (av st) f cdv A outer s H E).nox (gD st) t/\t { nx:=λ_ H'=>Q .non H',rt:=Q } (start N vs) H):jb P w K mg base CX0 (k+1) f fd ps sp:=by
 obtain ⟨oc,od,kV,doc,pm,an,cdv,ct,osl,rfl,lk,hcd⟩:=F.ex
 refine Rh lk hcd S len λA outer s H vs Q E hr hsp=>?_
 obtain ⟨t,h,q⟩:=hbody cdv A outer s H vs Q E hr hsp
 exact ⟨t,h.nox,q⟩
theorem Fun.binds {x qual:Str}{st:Stmt}{f:Addr}{fd:U8}{ps:List Str}(F:Fun K x qual st f fd)
  (h:∀ (kV doc pm:UK) (an:Option Addr) (cdv ct:UK) (us:List UK),us.length=ps.length->bindArgs (XQ x qual (lF st) (gD st) (av st) .none kV doc pm an cdv ct) ⟨us,[]⟩=pure (ps.zip us)):Binds K fd ps []:=by
 obtain ⟨oc,od,kV,doc,pm,an,cdv,ct,osl,rfl,lk,hcd⟩:=F.ex
 exact .all (h kV doc pm an cdv ct)
theorem aS {x qual:Str}{st:Stmt}{f:Addr}{oc:UK}{od an:Option Addr}{osl:Array (Option UK)}{kV doc pm cdv ct:UK}(l:K.lookup f=some ⟨oc,od,.func (XQ x qual (lF st) (gD st) (av st) .none kV doc pm an cdv ct),osl⟩)
  (c:zau K cdv qual=true) (k:Yp K (.ref f)=true):Fun K x qual st f (XQ x qual (lF st) (gD st) (av st) .none kV doc pm an cdv ct):=⟨⟨oc,od,kV,doc,pm,an,cdv,ct,osl,rfl,l,c⟩,k⟩
end
section
variable {X:Cx}
theorem pv (i:Nat){x:Str}{pos:Pos}(hN:X.N[i]? = some x:=by rfl)(hv:Vis X.env.scope x:=by first | exact Yt rfl | exact Yu (Yt rfl) | exact Yu (Yu rfl))(hd:(x == ("__debug__" : Str))=false:=by decide)
  (hcd:(x == ("__classdict__" : Str))=false:=by decide):PE X (.Name x pos) (RB i):=Hj hN hv hd hcd
end
theorem nY {A B:Prop}(h:B):if false=true then A else B:=by
 rw[if_neg Xl]
 exact h
theorem nU {A B:Prop}(h:A):if true=true then A else B:=by
 rw[if_pos rfl]
 exact h
def yM (H H':Hp):Prop:=∀ b o,H b=some o->H' b=some o
theorem yM.trans {H H1 H2:Hp}(a:yM H H1)(b:yM H1 H2):yM H H2:=λc o h=>b c o (a c o h)
theorem yM.free {H H':Hp}(e:yM H H'){l:Addr}(h:H' l=zcZ):H l=zcZ:=by
 cases q:H l with
 | none=>rfl
 | some o=>
  rw[e l o q] at h
  cases h
theorem yM.seq {K:UH}{H H':Hp}{a:Addr}{xs:List V}(e:yM H H')(h:SqL K H a xs):SqL K H' a xs:=by
 rcases h with (h | ⟨o,h⟩) | h
 ·exact .inl (.inl (e _ _ h))
 ·exact .inl (.inr ⟨o,e _ _ h⟩)
 ·exact .inr h
end L2
namespace L2
open PySem PySem.Spec PyProof.Rows
section
variable {κ:Type} [DecidableEq κ]
def gM (kvs:List (κ×V))(k:κ):Option V:=(kvs.find? λkv=>decide (kv.1=k)).map (·.2)
def putK (kvs:List (κ×V))(k:κ)(v:V):List (κ×V):=
 if (kvs.any λkv=>decide (kv.1=k))=true then kvs.map (λkv=>if kv.1=k then (kv.1,v) else kv) else kvs++[(k,v)]
def MZ (kvs:List (κ×V))(k:κ):List (κ×V):=kvs.filter λkv=>decide (kv.1≠k)
theorem lR {p:κ×V}{r:List (κ×V)}{k:κ}(e:p.1=k):gM (p::r) k=some p.2:=by simp[gM,Wb,e]
theorem kJ {p:κ×V}{r:List (κ×V)}{k:κ}(e:¬ p.1=k):gM (p::r) k=gM r k:=by simp[gM,Wb,e]
theorem pG (k:κ):∀ kvs:List (κ×V),(kvs.any λkv=>decide (kv.1=k))=(gM kvs k).isSome
 | []=>rfl
 | p::r=>by
  rw[Xu]
  by_cases e:p.1=k
  ·simp only[lR e,decide_eq_true e,zcR,Option.isSome_some]
  ·rw[kJ e,decide_eq_false e,zaZ];exact pG k r
theorem jP (kvs:List (κ×V))(k:κ)(v:V):(putK kvs k v).length<=kvs.length+1:=by
 unfold putK
 split
 ·rw[UL];omega
 ·rw[US,Vg,YV];omega
theorem Fy {kvs:List (κ×V)}{k:κ}(v:V)(h:gM kvs k=none):putK kvs k v=kvs++[(k,v)]:=by
 unfold putK
 rw[pG,h]
 exact if_neg (by decide)
theorem nQ.Ec {o:Option V}{u:Option UK}(r:nQ o u):o.isSome=u.isSome:=by
 cases o with
 | none=>cases u with
  | none=>rfl
  | some _=>exact (show False from r).elim
 | some _=>cases u with
  | none=>exact (show False from r).elim
  | some _=>rfl
theorem nQ.getD {o:Option V}{u:Option UK}{d:V}{d':UK}(r:nQ o u)(rd:RelV d d'):RelV (o.getD d) (u.getD d'):=by
 cases o with
 | none=>cases u with
  | none=>exact rd
  | some _=>exact (show False from r).elim
 | some _=>cases u with
  | none=>exact (show False from r).elim
  | some _=>exact r
theorem KV.val {kvs:List (κ×V)}{vs:List (κ×UK)}(r:KV kvs vs)(k:κ):nQ (gM kvs k) (zaM vs k):=by
 unfold KV at r
 induction r with
 | nil=>exact VP
 | @cons p q ps qs h t ih=>
  obtain ⟨h1,h2⟩:=h
  by_cases e:p.1=k
  ·have e':q.1=k:=h1.symm.trans e
   have b:zaM (q::qs) k=some q.2:=by simp[zaM,Wb,e']
   rw[lR e,b];exact h2
  ·have e':¬ q.1=k:=λz=>e (h1.trans z)
   have b:zaM (q::qs) k=zaM qs k:=by simp[zaM,Wb,e']
   rw[kJ e,b];exact ih
theorem KV.any {kvs:List (κ×V)}{vs:List (κ×UK)}(r:KV kvs vs)(k:κ):(kvs.any λkv=>decide (kv.1=k))=vs.any λkv=>decide (kv.1=k):=by
 unfold KV at r
 induction r with
 | nil=>rfl
 | cons h t ih=>rw[Xu,Xu,ih,h.1]
theorem KV.OS {kvs:List (κ×V)}{vs:List (κ×UK)}(r:KV kvs vs)(k:κ){y:V}{u:UK}(ry:RelV y u) :
  KV (kvs.map λkv=>if kv.1=k then (kv.1,y) else kv) (vs.map λkv=>if kv.1=k then (kv.1,u) else kv):=by
 unfold KV at r ⊢
 induction r with
 | nil=>exact .nil
 | @cons p q ps qs h t ih=>
  rw[UT,UT]
  refine .cons ?_ ih
  obtain ⟨h1,h2⟩:=h
  by_cases e:p.1=k
  ·rw[if_pos e,if_pos (h1.symm.trans e)];exact ⟨h1,ry⟩
  ·rw[if_neg e,if_neg (λz=>e (h1.trans z))];exact ⟨h1,h2⟩
theorem KV.put {kvs:List (κ×V)}{vs:List (κ×UK)}(r:KV kvs vs)(k:κ){y:V}{u:UK}(ry:RelV y u):KV (putK kvs k y) (stored vs k u):=by
 unfold putK stored
 rw[r.any k]
 by_cases e:(vs.any λkv=>decide (kv.1=k))=true
 ·rw[if_pos e,if_pos e];exact r.OS k ry
 ·rw[if_neg e,if_neg e];exact zc0 r ⟨rfl,ry⟩
theorem KV.drop {kvs:List (κ×V)}{vs:List (κ×UK)}(r:KV kvs vs)(k:κ):KV (MZ kvs k) (without vs k):=by
 unfold KV at r ⊢
 unfold MZ without
 induction r with
 | nil=>exact .nil
 | @cons p q ps qs h t ih=>
  obtain ⟨h1,h2⟩:=h
  rw[VQ,VQ]
  by_cases e:p.1=k
  ·have a:¬ decide (p.1≠k)=true:=by simp[e]
   have b:¬ decide (q.1≠k)=true:=by simp[h1.symm.trans e]
   rw[if_neg a,if_neg b];exact ih
  ·have e':¬ q.1=k:=λz=>e (h1.trans z)
   have a:decide (p.1≠k)=true:=by simp[e]
   have b:decide (q.1≠k)=true:=by simp[e']
   rw[if_pos a,if_pos b];exact .cons ⟨h1,h2⟩ ih
theorem KV.keys {kvs:List (κ×V)}{vs:List (κ×UK)}(r:KV kvs vs):kvs.map (·.1)=vs.map (·.1):=by
 unfold KV at r
 induction r with
 | nil=>rfl
 | cons h t ih=>rw[UT,UT,ih,h.1]
theorem KV.length {kvs:List (κ×V)}{vs:List (κ×UK)}(r:KV kvs vs):kvs.length=vs.length:=zaV r
end
theorem wM {P:Vn}{w:VB}{k:Key}{u:UK}(r:RelV (kV k) u):(cp P w).is k u=true:=by
 cases k with
 | inl i=>obtain ⟨t,e⟩:=(show ∃ t,u=Yc i t from r);subst e;exact yq P w i t
 | inr x=>obtain ⟨t,e⟩:=(show ∃ t,u=Y6 x t from r);subst e;exact wG P w x t
theorem tj {P:Vn}{w:VB}:∀ {ks:List Key} {us:List UK},Vals (ks.map kV) us->ItemsAre (cp P w) ks us
 | [],_,r=>by rw[XS] at r;cases r;exact .nil
 | k::ks,_,r=>by
  rw[UT] at r
  cases r with
  | cons h t=>exact .cons (wM h) (tj t)
abbrev KT (H:Hp):List (List Key×V)->List (List Key×Addr×UK)->Prop:=Zt λp q=>p.1=q.1/\H q.2.1=some (.tup (p.1.map kV))/\RelV p.2 q.2.2
theorem KT.val {H:Hp}{kvs:List (List Key×V)}{xs:List (List Key×Addr×UK)}(r:KT H kvs xs)(k:List Key):nQ (gM kvs k) ((zb5 xs k).map (·.2)):=by
 induction r with
 | nil=>exact VP
 | @cons p q ps qs h t ih=>
  obtain ⟨h1,_,h2⟩:=h
  by_cases e:p.1=k
  ·have e':q.1=k:=h1.symm.trans e
   have b:zb5 (q::qs) k=some q.2:=by simp[zb5,Wb,e']
   rw[lR e,b];exact h2
  ·have e':¬ q.1=k:=λz=>e (h1.trans z)
   have b:zb5 (q::qs) k=zb5 qs k:=by simp[zb5,Wb,e']
   rw[kJ e,b];exact ih
theorem KT.OS {H:Hp}{kvs:List (List Key×V)}{xs:List (List Key×Addr×UK)}(r:KT H kvs xs)(k:List Key){y:V}{u:UK}(ry:RelV y u) :
  KT H (kvs.map λkv=>if kv.1=k then (kv.1,y) else kv) (xs.map (putAt k u)):=by
 induction r with
 | nil=>exact .nil
 | @cons p q ps qs h t ih=>
  rw[UT,UT]
  refine .cons ?_ ih
  obtain ⟨h1,h2,h3⟩:=h
  unfold putAt
  by_cases e:p.1=k
  ·rw[if_pos e,if_pos (h1.symm.trans e)];exact ⟨h1,h2,ry⟩
  ·rw[if_neg e,if_neg (λz=>e (h1.trans z))];exact ⟨h1,h2,h3⟩
theorem KT.put {H:Hp}{kvs:List (List Key×V)}{xs:List (List Key×Addr×UK)}(r:KT H kvs xs)(k:List Key){b:Addr}{y:V}{u:UK}(hb:H b=some (.tup (k.map kV)))(ry:RelV y u) :
  KT H (putK kvs k y) (storedH xs k b u):=by
 have e:(kvs.any λkv=>decide (kv.1=k))=(zb5 xs k).isSome:=by
  rw[pG,(r.val k).Ec,Option.isSome_map]
 unfold putK storedH
 rw[e]
 by_cases q:(zb5 xs k).isSome=true
 ·rw[if_pos q,if_pos q];exact r.OS k ry
 ·rw[if_neg q,if_neg q];exact zc0 r ⟨rfl,hb,ry⟩
theorem KT.keeps {H H':Hp}{kvs:List (List Key×V)}{xs:List (List Key×Addr×UK)}(r:KT H kvs xs)(ht:∀ b ys,H b=some (.tup ys)->H' b=some (.tup ys)):KT H' kvs xs:=
 Zt.Qp r λ_ _ z=>⟨z.1,ht _ _ z.2.1,z.2.2⟩
section
variable {P:Vn} {w:VB} {H:Hp} {h:Heap} {a:Addr}
theorem Nj {u:HO}(ok:HOk P w H h)(e:Rd H a u):cW P w H h a u:=e.ok ok
theorem Fg {kvs:List (Key×V)}(ok:HOk P w H h)(e:Rd H a (.dK kvs)):kvs.length<=sizeLine/\(a == XA)=false/\∃ vs,KV kvs vs/\h.DictOf (cp P w) a vs:=
 show cW P w H h a (.dK kvs) from Nj ok e
theorem Nm {kvs:List (Key×V)}(ok:HOk P w H h)(e:H a=some (.dK kvs)):kvs.length<=sizeLine/\(a == XA)=false/\∃ vs,KV kvs vs/\h.DictOf (cp P w) a vs:=Fg ok (.inl e)
theorem A6 {ks:List Key}(ok:HOk P w H h)(e:H a=some (.tup (ks.map kV))):(zaK (cp P w)).is h ks a:=by
 obtain ⟨_,its,r,n,h1⟩:=(show cW P w H h a (.tup (ks.map kV)) from ok a _ e)
 exact ⟨_,its.toArray,n,h1,rfl,rfl,by simpa using tj r⟩
theorem HH {kvs:List (List Key×V)}(ok:HOk P w H h)(e:Rd H a (.dT kvs)):kvs.length<=sizeLine/\(a == XA)=false/\
  ∃ xs,KT H kvs xs/\h.DictOfH (zaK (cp P w)) a xs:=by
 obtain ⟨z,y,xs,r,o,es,ep,h1,h2,h3,h4,h5⟩:=(show cW P w H h a (.dT kvs) from Nj ok e)
 refine ⟨z,y,xs,r,o,es,ep,h1,h2,h3,h4,λx hx=>?_,h5⟩
 have all:∀ {l:List (List Key×V)} {m:List (List Key×Addr×UK)},KT H l m->∀ x∈m,(zaK (cp P w)).is h x.1 x.2.1:=by
  intro l m q
  induction q with
  | nil=>intro x hx;exact nomatch hx
  | @cons p q ps qs hq t ih=>
   intro x hx
   rcases UZ.mp hx with e | hx
   ·subst e
    exact A6 ok (by rw[← hq.1];exact hq.2.1)
   ·exact ih x hx
 exact all r x hx
theorem Sb {kvs:List (List Key×V)}(ok:HOk P w H h)(e:H a=some (.dT kvs)):kvs.length<=sizeLine/\(a == XA)=false/\
  ∃ xs,KT H kvs xs/\h.DictOfH (zaK (cp P w)) a xs:=HH ok (.inl e)
end
def sE (H:Hp)(a:Addr)(y:V)(r:Option V):Prop:=
 (∃ kvs k,Rd H a (.dK kvs)/\y=kV k/\r=gM kvs k)∨∃ kvs k b,Rd H a (.dT kvs)/\y=.ref b/\H b=some (.tup (k.map kV))/\r=gM kvs k
def uv (H:Hp)(a:Addr)(y v:V)(H':Hp):Prop:=
 (∃ kvs k,H a=some (.dK kvs)/\y=kV k/\kvs.length < sizeLine/\H'=upd H a (.dK (putK kvs k v)))∨
 ∃ kvs k b,H a=some (.dT kvs)/\y=.ref b/\H b=some (.tup (k.map kV))/\kvs.length < sizeLine/\H'=upd H a (.dT (putK kvs k v))
theorem sE.k {H:Hp}{a:Addr}{kvs:List (Key×V)}{k:Key}(e:H a=some (.dK kvs)):sE H a (kV k) (gM kvs k):=.inl ⟨kvs,k,.inl e,rfl,rfl⟩
theorem sE.t {H:Hp}{a b:Addr}{kvs:List (List Key×V)}{k:List Key}(e:H a=some (.dT kvs))(eb:H b=some (.tup (k.map kV))):sE H a (.ref b) (gM kvs k):=.inr ⟨kvs,k,b,.inl e,rfl,eb,rfl⟩
theorem uv.k {H:Hp}{a:Addr}{kvs:List (Key×V)}{k:Key}{v:V}(e:H a=some (.dK kvs))(hl:kvs.length < sizeLine):uv H a (kV k) v (upd H a (.dK (putK kvs k v))):=.inl ⟨kvs,k,e,rfl,hl,rfl⟩
theorem uv.t {H:Hp}{a b:Addr}{kvs:List (List Key×V)}{k:List Key}{v:V}(e:H a=some (.dT kvs))(eb:H b=some (.tup (k.map kV)))(hl:kvs.length < sizeLine) :
  uv H a (.ref b) v (upd H a (.dT (putK kvs k v))):=.inr ⟨kvs,k,b,e,rfl,eb,hl,rfl⟩
section
variable {X:Cx} {pins:List (Addr×Obj)} {σ:St} {H:Hp} {s:UN} {a:Addr} {y v:V} {u r:UK} {o:Option V} {A:VX} {E:UK->UN->Prop}
theorem Inv.big (I:Inv X pins σ H s):XA < s.heap.objs.size:=by
 have h:Wo < s.heap.objs.size:=(I.mod.glob.keeps I.bk).lt
 exact zbw (by decide) h
theorem tY {Q:UK->UN->Prop}(hu:A.units+1 < cLine)(I:Inv X pins σ H s)(g:sE H a y (some v))(ry:RelV y u)(h:∀ w' s',Inv X pins σ H s'->RelV v w'->Q w' s') :
  U9 (Vb X.prog X.w) A (Y3 (.ref a) u) Q E s:=by
 rcases g with ⟨kvs,k,e,ey,l⟩ | ⟨kvs,k,b,e,ey,eb,l⟩
 ·subst ey
  obtain ⟨z,hd,vs,rel,dd⟩:=Fg I.hok e
  obtain ⟨w',hw,rw'⟩:=nQ.some_of (v:=v) (o:=zaM vs k) (by rw[l];exact rel.val k)
  exact wpAny_getItem_of (wM ry) dd.mapOf hw (h w' _ (I.tok _) rw')
 ·subst ey
  cases (show u=Vs b from ry)
  obtain ⟨z,hd,xs,rel,dd⟩:=HH I.hok e
  obtain ⟨w',hw,rw'⟩:=nQ.some_of (v:=v) (o:=(zb5 xs k).map (·.2)) (by rw[l];exact rel.val k)
  obtain ⟨p,hp,hp2⟩:=Z6.mp hw
  refine wpAny_getItem_heap (zbf hu) (A6 I.hok eb) dd hp ?_
  rw[hp2]
  exact h w' _ (I.tok _) rw'
theorem uN {h':Heap}{t':Nat}{ob:HO}(I:Inv X pins σ H s)(mu:Mut (H a))(hs:XM a s.heap h')(he:∃ q,h'.get? a=some q)(new:cW X.prog X.w (upd H a ob) h' a ob) :
  Inv X pins σ (upd H a ob) { s with heap:=h',toks:=t' }:=
 I.write (x:=a) (e:=a) mu (.inl rfl) (λb q hb z=>(hs.2 b hb).trans z) he new
theorem zW {P:Vn}{w:VB}{H':Hp}{h':Heap}{kvs:List (Key×V)}{vs:List (Key×UK)}(z:kvs.length<=sizeLine)(hd:(a == XA)=false)(rel:KV kvs vs)(dd:h'.DictOf (cp P w) a vs) :
  cW P w H' h' a (.dK kvs):=⟨z,hd,vs,rel,dd⟩
theorem sN {H':Hp}{Q:Unit->UN->Prop}(hu:A.units+1 < cLine)(I:Inv X pins σ H s)(g:uv H a y v H')(ry:RelV y u)(rv:RelV v r)(h:∀ s',Inv X pins σ H' s'->Q () s') :
  U9 (Vb X.prog X.w) A (setItem (.ref a) u r) Q E s:=by
 rcases g with ⟨kvs,k,e,ey,l,eH⟩ | ⟨kvs,k,b,e,ey,eb,l,eH⟩
 ·subst ey eH
  obtain ⟨z,hd,vs,rel,dd⟩:=Nm I.hok e
  have hz:vs.length<=sizeLine:=by rw[← rel.length];exact z
  have hl:(putK kvs k v).length<=sizeLine:=by have:=jP kvs k v;omega
  refine wpAny_setItem_pairs (hsz:=hz) (wM ry) dd λh' dd' hs=>h _ ?_
  have he:∃ q,h'.get? a=some q:=let ⟨q,_,_,hq,_⟩:=dd';⟨q,hq⟩
  exact uN I (by rw[e];exact VP) hs he (zW hl hd (rel.put k rv) dd')
 ·subst ey eH
  cases (show u=Vs b from ry)
  obtain ⟨z,hd,xs,rel,dd⟩:=Sb I.hok e
  have hz:xs.length<=sizeLine:=by rw[← zaV rel];exact z
  have hl:(putK kvs k v).length<=sizeLine:=by have:=jP kvs k v;omega
  refine wpAny_setItem_heap (hsz:=hz) (zbf hu) (A6 I.hok eb) dd λh' dd' hs=>h _ ?_
  obtain ⟨q,es,ep,hq,h2,h3,h4,_,h5⟩:=dd'
  refine uN I (by rw[e];exact VP) hs ⟨q,hq⟩ ⟨hl,hd,_,(rel.put k eb rv).keeps λc ys ec=>?_,q,es,ep,hq,h2,h3,h4,h5⟩
  rw[aM (Su ec e (λz=>nomatch z))]
  exact ec
end
section
variable {X:Cx} {pins:List (Addr×Obj)} {σ:St} {H:Hp} {s:UN} {a:Addr} {kvs:List (Key×V)} {k:Key} {u:UK} {A:VX} {E:UK->UN->Prop}
end
def ND (i:Ve):Prop:=∀ ov iv,zav i false ov iv=operate [ov,iv] (Y3 ov iv)
theorem Jm {prog:Vn}{w:VB}{A:VX}{E:UK->UN->Prop}{s:UN}{env:Env}{value slice:Ve}{pos:Pos}{T id:String}{Q:UK->UN->Prop}
  (hl:zcp (.type T) "__getitem__" = pure (some (.builtin id))) (hs:ND slice)
  (h:U9 (Vb prog w) A (V8 value env) (λo s₁=>U9 (Vb prog w) A (V8 slice env) (λi s₂=>s₂.TypeIs o T/\U9 (Vb prog w) A (Y3 o i) Q E s₂) E s₁) E s) :
  U9 (Vb prog w) A (V8 (.Subscript value slice pos) env) Q E s:=by
 refine zcq (V9 h (λo s₁ h₁=>V9 h₁ (λi s₂ h₂=>?_) λ_ _ x=>x) λ_ _ x=>x)
 obtain ⟨hT,h₂⟩:=h₂
 unfold zaY
 refine UI ?_
 rw[getitemInPython_of_ne hT.not_modules]
 refine UI (wpAny_specialOf hT hl ?_)
 have fin:U9 (Vb prog w) A (zav slice false o i) (λr s₃=>U9 (Vb prog w) A (letTemporaryGo value o r >>= λ_=>pure r) Q E s₃) E s₂:=by
  rw[hs o i]
  exact wpAny_operating (V9 h₂ (λr s₃ h₃=>UI (wpAny_letTemporaryGo (UQ h₃))) λ_ _ x=>x)
 first
  | exact UQ (UI fin)
  | exact UI (UQ (UI fin))
  | exact UI fin
theorem xq {X:Cx}{pins:List (Addr×Obj)}{σ:St}{H:Hp}{s:UN}{a:Addr}{y:V}{o:Option V}(I:Inv X pins σ H s)(g:sE H a y o):s.TypeIs (.ref a) "dict" := by
 rcases g with ⟨kvs,k,e,_,_⟩ | ⟨kvs,k,b,e,_,_,_⟩
 ·obtain ⟨_,_,vs,_,dd⟩:=Fg I.hok e
  exact dd.typeIs
 ·obtain ⟨_,_,xs,_,dd⟩:=HH I.hok e
  exact dd.typeIs
def RF (td ty:TE):TE:=λσ H Q=>td σ H λx H1=>ty σ H1 λy H2=>∃ a v,x=.ref a/\sE H2 a y (some v)/\Q v H2
def Sz (td ty tv:TE):TS:=λD σ H=>tv σ H λv H1=>td σ H1 λx H2=>ty σ H2 λy H3=>∃ a H4,x=.ref a/\uv H3 a y v H4/\D.nx σ H4
def M3 (td ty tv:TE)(rd:V->V->Hp->VK->Prop):TS:=λD σ H=>td σ H λx H1=>ty σ H1 λy H2=>∃ a v,x=.ref a/\sE H2 a y (some v)/\
 tv σ H2 λy2 H3=>rd v y2 H3 λz H4=>∃ H5,uv H4 a y z H5/\D.nx σ H5
section
variable {X:Cx} {o i e value:Ve} {pos pos' tpos:Pos} {td ty tv:TE}
theorem KS (hu:X.A.units+1 < cLine)(ho:PE X o td)(hi:PE X i ty)(hs:ND i):PE X (.Subscript o i pos) (RF td ty):=by
 intro pins s σ H Q I h
 refine Jm PySem.F.slot_dict_getitem.lookup hs (thn (ho pins s σ H _ I h) λu s1 ⟨x,H1,I1,rx,q1⟩=>thn (hi pins s1 σ H1 _ I1 q1) λiv s2 ⟨y,H2,I2,ry,a,v,ex,g,q2⟩=>?_)
 subst ex
 obtain rfl:u=Vs a:=rx
 exact ⟨xq I2 g,tY hu I2 g ry λw' s3 I3 rw'=>⟨v,H2,I3,rw',q2⟩⟩
theorem JT (hu:X.A.units+1 < cLine)(ho:PE X o td)(hi:PE X i ty)(hv:PE X value tv)(hs:Xd value (some (.Subscript o i pos')) pos.line X.env=pure false) :
  PS X (.Assign [.Subscript o i pos'] value pos) (Sz td ty tv):=by
 intro pins s σ H D I h
 refine wpAny_Assign_Subscript (thn (hv pins s σ H _ I h) λr s1 ⟨v,H1,I1,rv,q1⟩=>thn (ho pins s1 σ H1 _ I1 q1) λu s2 ⟨x,H2,I2,rx,q2⟩=>thn (hi pins s2 σ H2 _ I2 q2) λiv s3 ⟨y,H3,I3,ry,a,H4,ex,g,q3⟩=>?_) hs
 subst ex
 obtain rfl:u=Vs a:=rx
 exact sN hu I3 g ry rv λs4 I4=>⟨σ,H4,I4,q3⟩
theorem Ml {op:zas}{rd:V->V->Hp->VK->Prop}(hu:X.A.units+1 < cLine)(ho:PE X o td)(hi:PE X i ty)(hv:PE X value tv)(hop:QW X op rd)
  (ha:∀ ov iv new,augStore i ov iv new=(do ZY [new,ov,iv] (setItem ov iv new);release [new,ov,iv] [];pure .next)):PS X (.AugAssign (.Subscript o i tpos) op value pos) (M3 td ty tv rd):=by
 intro pins s σ H D I h
 refine wpAny_AugAssign_SubscriptAny (thn (ho pins s σ H _ I h) λu s1 ⟨x,H1,I1,rx,q1⟩=>thn (hi pins s1 σ H1 _ I1 q1) λiv s2 ⟨y,H2,I2,ry,a,v,ex,g,q2⟩=>?_) ha
 subst ex
 obtain rfl:u=Vs a:=rx
 refine tY hu I2 g ry λw' s3 I3 rw'=>thn (hv pins s3 σ H2 _ I3 q2) λw2 s4 ⟨y2,H3,I4,ry2,q3⟩=>thn (hop pins s4 σ H3 v y2 w' w2 _ I4 rw' ry2 q3) λw3 s5 ⟨z,H4,I5,rz,H5,g5,q4⟩=>?_
 exact sN hu I5 g5 ry rz λs6 I6=>⟨σ,H5,I6,q4⟩
end
theorem FZ {P:Vn}{w:VB}{H:Hp}(h:Heap)(hb:XA < h.objs.size):cW P w H (h.push { cls:=.type "dict", data:=.dict #[] }) h.objs.size (.dK []):=
 ⟨Wj _,beq_eq_false_iff_ne.mpr (Vo (Vc hb)),[],.nil,zcf h⟩
section
variable {X:Cx} {pos:Pos}
end
def uk:List (TE×TE)->St->Hp->(List (V×V)->Hp->Prop)->Prop
 | [],_,H,Q=>Q [] H
 | (tk,tv)::r,σ,H,Q=>tk σ H λx H1=>tv σ H1 λy H2=>uk r σ H2 λps H3=>Q ((x,y)::ps) H3
abbrev VV:List (V×V)->List (UK×UK)->Prop:=Zt λp q=>RelV p.1 q.1/\RelV p.2 q.2
def PPs (X:Cx)(pos:Pos)(keys:List (Option Ve))(values:List Ve)(trs:List (TE×TE)):Prop:=
 ∀ (pins:List (Addr×Obj)) (s:UN) (σ:St) (H:Hp) (Q:List (V×V)->Hp->Prop),Inv X pins σ H s->uk trs σ H Q->
  U9 (Vb X.prog X.w) X.A (evalPairs (pairTrees keys values X.env pos)) (λvs s'=>∃ ps H',Inv X pins σ H' s'/\VV ps vs/\Q ps H') X.xe s
theorem KY {X:Cx}{pos:Pos}:PPs X pos [] [] []:=λpins s σ H Q I h=>pairTrees_nil_walk ⟨[],H,I,.nil,h⟩
theorem FA {X:Cx}{pos:Pos}{k v:Ve}{ks:List (Option Ve)}{vs:List Ve}{tk tv:TE}{trs:List (TE×TE)}(hk:PE X k tk)(hv:PE X v tv)(hr:PPs X pos ks vs trs) :
  PPs X pos (some k::ks) (v::vs) ((tk,tv)::trs):=λpins s σ H Q I h=>
 pairTrees_cons_walk (thn (hk pins s σ H _ I h) λu s1 ⟨x,H1,I1,rx,q1⟩=>thn (hv pins s1 σ H1 _ I1 q1) λw2 s2 ⟨y,H2,I2,ry,q2⟩=>
  thn (hr pins s2 σ H2 _ I2 q2) λws s3 ⟨ps,H3,I3,rel,q3⟩=>⟨(x,y)::ps,H3,I3,.cons ⟨rx,ry⟩ rel,q3⟩)
def dP (kvs more:List (Key×V)):List (Key×V):=more.foldl (λacc kv=>putK acc kv.1 kv.2) kvs
theorem KV.merge:∀ {more:List (Key×V)} {rs:List (Key×UK)} {kvs:List (Key×V)} {vs:List (Key×UK)},KV more rs->KV kvs vs->KV (dP kvs more) (merged vs rs):=by
 intro more rs kvs vs r
 unfold KV at r
 induction r generalizing kvs vs with
 | nil=>intro q;exact q
 | @cons p q ps qs h t ih=>
  intro r0
  have e:KV (putK kvs p.1 p.2) (stored vs q.1 q.2):=by
   have:=r0.put p.1 h.2
   rw[← h.1];exact this
  exact ih e
theorem gK:∀ (more kvs:List (Key×V)),(dP kvs more).length<=kvs.length+more.length
 | [],kvs=>by show kvs.length<=kvs.length+0;omega
 | p::r,kvs=>by
  have h1:=gK r (putK kvs p.1 p.2)
  have h2:=jP kvs p.1 p.2
  show (dP (putK kvs p.1 p.2) r).length<=_
  rw[Vg];omega
theorem ri {P:Vn}{w:VB}:∀ {kvs:List (Key×V)} {ws:List (UK×UK)},VV (kvs.map λkv=>(kV kv.1,kv.2)) ws->∃ rs,Carries (cp P w) ws rs/\KV kvs rs
 | [],_,r=>by rw[XS] at r;cases r;exact ⟨[],VP,.nil⟩
 | p::kvs,_,r=>by
  rw[UT] at r
  cases r with
  | @cons a b as bs h t=>
   obtain ⟨rs,c,q⟩:=ri (P:=P) (w:=w) t
   obtain ⟨b1,b2⟩:=b
   exact ⟨(p.1,b2)::rs,⟨wM h.1,rfl,c⟩,.cons ⟨rfl,h.2⟩ q⟩
def Q2 (trs:List (TE×TE)):TE:=λσ H Q=>∀ p,H p=none->uk trs σ (upd H p (.dK [])) λps H2=>H2 p=some (.dK [])/\∃ kvs:List (Key×V),ps=kvs.map (λkv=>(kV kv.1,kv.2))/\kvs.length<=15/\Q (.ref p) (upd H2 p (.dK (dP [] kvs)))
theorem JE {X:Cx}{pos:Pos}{keys:List (Option Ve)}{values:List Ve}{trs:List (TE×TE)}(h:PPs X pos keys values trs)(hall:keys.all (·.isSome)=true)(hl:keys.length=values.length)(h0:keys≠[])
  (h15:keys.length<=15):PE X (.Dict keys values pos) (Q2 trs):=by
 intro pins s σ H Q I q
 have hn:=I.hok.fresh (U2 s.heap.objs.size)
 have I1:=I.laid (a:=s.heap.objs.size) (o:=.dK []) (h':=s.heap.push { cls:=.type "dict", data:=.dict #[] }) (t':=s.toks) (λ_ _ q=>UJ _ q) (U2 _) (FZ s.heap I.big)
 refine wpAny_Dict_walk (knd:=cp X.prog X.w) hall hl h0 h15 (thn (h pins _ σ _ _ I1 (q _ hn)) λws s2 ⟨ps,H2,I2,rel,e,kvs,ep,lk,q2⟩=>?_)
 subst ep
 obtain ⟨rs,c,rk⟩:=ri (P:=X.prog) (w:=X.w) rel
 obtain ⟨z,hd,vs0,r0,dd⟩:=Nm I2.hok e
 cases r0
 refine ⟨rs,c,dd,λh' dd' hs=>⟨.ref s.heap.objs.size,_,?_,rfl,q2⟩⟩
 have hz:(dP [] kvs).length<=sizeLine:=by
  have h1:=gK kvs []
  rw[YV] at h1
  rw[zat];omega
 have he:∃ q,h'.get? s.heap.objs.size=some q:=let ⟨q,_,_,hq,_⟩:=dd';⟨q,hq⟩
 exact uN I2 (by rw[e];exact VP) hs he (zW hz hd (rk.merge .nil) dd')
section
variable {X:Cx} {pins:List (Addr×Obj)} {σ:St} {H:Hp} {s:UN} {a:Addr} {y d:V} {u r:UK} {o:Option V} {A:VX} {E:UK->UN->Prop}
end
section
variable {X:Cx} {o e f:Ve} {apos cpos:Pos} {td ty tx:TE}
end
section
variable {X:Cx} {pins:List (Addr×Obj)} {σ:St} {H:Hp} {s:UN} {a:Addr} {kvs:List (Key×V)} {A:VX} {E:UK->UN->Prop}
end
section
variable {X:Cx} {pins:List (Addr×Obj)} {σ:St} {H:Hp} {s:UN} {a:Addr} {y:V} {u:UK} {A:VX} {E:UK->UN->Prop}
end
end L2
namespace L3
open PySem
local macro_rules | `(tactic| walk_at "ln")=>`(tactic| (intro ds μ Q h;split at h;rfl;exact h.elim))
theorem Jn {p q:Prop}(a:p)(b:q):p/\q:=⟨a,b⟩
inductive D where
 | non | bl (b:Bool) | int (i:Int) | str (x:Str) | ty (n:String) | tup (ds:List D) | ls (ds:List D) | obj (a:Addr)
inductive MO where
 | lst (ds:List D)
 | dct (kvs:List (L2.Key×D))
 | dcT (kvs:List (List L2.Key×D))
abbrev Mu:=Addr->Option MO
def up (μ:Mu)(a:Addr)(o:MO):Mu:=λb=>if b=a then some o else μ b
theorem aF {μ:Mu}{a:Addr}{o:MO}:up μ a o a=some o:=by unfold up;rw[if_pos rfl]
theorem aU {μ:Mu}{a b:Addr}{o:MO}(h:b≠a):up μ a o b=μ b:=by unfold up;rw[if_neg h]
theorem fQ {μ:Mu}{a:Addr}{o u:MO}:up (up μ a o) a u=up μ a u:=by
 funext b;unfold up;split<;>rfl
abbrev ST:=List (Option D)
abbrev DK:=D->Mu->Prop
abbrev ETr:=ST->Mu->DK->Prop
abbrev TTr:=ST->Mu->(Bool->Mu->Prop)->Prop
abbrev ATr:=ST->Mu->(List D->Mu->Prop)->Prop
abbrev DR:=D->Mu->DK->Prop
abbrev DR2:=D->D->Mu->DK->Prop
abbrev FSp:=List D->Mu->DK->Prop
def kcI (ds:List D)(f:Int->List D->Prop):Prop:=match ds with
 | .int i::r=>f i r
 | _=>False
theorem ecI {ds:List D}{f:Int->List D->Prop}(h:kcI ds f):∃ i r,ds=.int i::r/\f i r:=by
 cases ds with
 | nil=>exact UO h
 | cons d r=>cases d<;>first | exact ⟨_,_,rfl,h⟩ | exact UO h
theorem lcI {ds:List D}{f:Int->List D->Prop}{n:Nat}(h:kcI ds f)(k:∀ i r,f i r->r.length=n):ds.length=n+1:=by
 obtain ⟨i,r,e,h⟩:=ecI h
 rw[e,Vg,k i r h]
def kcS (ds:List D)(f:Str->List D->Prop):Prop:=match ds with
 | .str i::r=>f i r
 | _=>False
theorem ecS {ds:List D}{f:Str->List D->Prop}(h:kcS ds f):∃ i r,ds=.str i::r/\f i r:=by
 cases ds with
 | nil=>exact UO h
 | cons d r=>cases d<;>first | exact ⟨_,_,rfl,h⟩ | exact UO h
theorem lcS {ds:List D}{f:Str->List D->Prop}{n:Nat}(h:kcS ds f)(k:∀ i r,f i r->r.length=n):ds.length=n+1:=by
 obtain ⟨i,r,e,h⟩:=ecS h
 rw[e,Vg,k i r h]
def kcT (ds:List D)(f:List D->List D->Prop):Prop:=match ds with
 | .tup i::r=>f i r
 | _=>False
theorem ecT {ds:List D}{f:List D->List D->Prop}(h:kcT ds f):∃ i r,ds=.tup i::r/\f i r:=by
 cases ds with
 | nil=>exact UO h
 | cons d r=>cases d<;>first | exact ⟨_,_,rfl,h⟩ | exact UO h
theorem lcT {ds:List D}{f:List D->List D->Prop}{n:Nat}(h:kcT ds f)(k:∀ i r,f i r->r.length=n):ds.length=n+1:=by
 obtain ⟨i,r,e,h⟩:=ecT h
 rw[e,Vg,k i r h]
def kcL (ds:List D)(f:List D->List D->Prop):Prop:=match ds with
 | .ls i::r=>f i r
 | _=>False
theorem ecL {ds:List D}{f:List D->List D->Prop}(h:kcL ds f):∃ i r,ds=.ls i::r/\f i r:=by
 cases ds with
 | nil=>exact UO h
 | cons d r=>cases d<;>first | exact ⟨_,_,rfl,h⟩ | exact UO h
theorem lcL {ds:List D}{f:List D->List D->Prop}{n:Nat}(h:kcL ds f)(k:∀ i r,f i r->r.length=n):ds.length=n+1:=by
 obtain ⟨i,r,e,h⟩:=ecL h
 rw[e,Vg,k i r h]
def kcO (ds:List D)(f:Addr->List D->Prop):Prop:=match ds with
 | .obj i::r=>f i r
 | _=>False
theorem ecO {ds:List D}{f:Addr->List D->Prop}(h:kcO ds f):∃ i r,ds=.obj i::r/\f i r:=by
 cases ds with
 | nil=>exact UO h
 | cons d r=>cases d<;>first | exact ⟨_,_,rfl,h⟩ | exact UO h
theorem lcO {ds:List D}{f:Addr->List D->Prop}{n:Nat}(h:kcO ds f)(k:∀ i r,f i r->r.length=n):ds.length=n+1:=by
 obtain ⟨i,r,e,h⟩:=ecO h
 rw[e,Vg,k i r h]
def kcA (ds:List D)(f:D->List D->Prop):Prop:=match ds with
 | i::r=>f i r
 | _=>False
theorem ecA {ds:List D}{f:D->List D->Prop}(h:kcA ds f):∃ i r,ds=i::r/\f i r:=by
 cases ds with
 | nil=>exact UO h
 | cons d r=>exact ⟨_,_,rfl,h⟩
theorem lcA {ds:List D}{f:D->List D->Prop}{n:Nat}(h:kcA ds f)(k:∀ i r,f i r->r.length=n):ds.length=n+1:=by
 obtain ⟨i,r,e,h⟩:=ecA h
 rw[e,Vg,k i r h]
def kcN (ds:List D)(P:Prop):Prop:=match ds with
 | []=>P
 | _=>False
theorem ecN {ds:List D}{P:Prop}(h:kcN ds P):ds=[]/\P:=by
 cases ds with
 | nil=>exact ⟨rfl,h⟩
 | cons d r=>exact UO h
structure En where
 nx:ST->Mu->Prop
 rt:DK
 bk:ST->Mu->Prop:=λ_ _=>False
 ct:ST->Mu->Prop:=λ_ _=>False
abbrev STr:=En->ST->Mu->Prop
abbrev GTr:=D->ST->Mu->(ST->Mu->Prop)->Prop
def kIf (c:Bool)(A B:Prop):Prop:=match c with
 | true=>A
 | false=>B
def kB (x:D)(f:Bool->Prop):Prop:=match x with
 | .bl c=>f c
 | _=>False
def kI (x:D)(f:Int->Prop):Prop:=match x with
 | .int c=>f c
 | _=>False
def kO (x:Option D)(f:D->Prop):Prop:=match x with
 | some d=>f d
 | none=>False
def kS (x:D)(f:List D->Prop):Prop:=match x with
 | .tup ds=>f ds
 | .ls ds=>f ds
 | _=>False
def k2 (ds:List D)(f:D->D->Prop):Prop:=match ds with
 | [v,w]=>f v w
 | _=>False
def kL (μ:Mu)(a:Addr)(f:List D->Prop):Prop:=match μ a with
 | some (.lst ds)=>f ds
 | _=>False
def kD (μ:Mu)(a:Addr)(f:List (L2.Key×D)->Prop):Prop:=match μ a with
 | some (.dct ds)=>f ds
 | _=>False
def kN (x:Option Nat)(f:Nat->Prop):Prop:=match x with
 | some d=>f d
 | none=>False
def lk:ST->Nat->Option D
 | [],_=>none
 | o::_,0=>o
 | _::r,n+1=>lk r n
def ah (i:Nat):ETr:=λρ μ Q=>kO (lk ρ i) λd=>Q d μ
def TC (d:D):ETr:=λ_ μ Q=>Q d μ
def aj (r:DR2)(a b:ETr):ETr:=λρ μ Q=>a ρ μ λx μ1=>b ρ μ1 λy μ2=>r x y μ2 Q
def TUn (r:DR)(a:ETr):ETr:=λρ μ Q=>a ρ μ λx μ1=>r x μ1 Q
def S64 (i:Int):Prop:=-18446744073709551616 < i/\i < 18446744073709551616
def fU (i:Int):Prop:=-115792089237316195423570985008687907853269984665640564039457584007913129639936 < i/\i < 115792089237316195423570985008687907853269984665640564039457584007913129639936
def MulOk (i j:Int):Prop:=(S64 i∨S64 j)∨(fU i/\fU j)
def jO (j:Int):Prop:=j≠0/\fU j
def qi (i j:Int):Prop:=0<=j/\j<=1000000/\i.natAbs < 18446744073709551616
def Sa:DR2:=λx y μ Q=>match x,y with
 | .int i,.int j=>Q (.int (i+j)) μ
 | .tup a,.tup b=>(a≠[]/\a.length+b.length<=1000000)/\Q (.tup (a++b)) μ
 | _,_=>False
def kA:DR2:=λx y μ Q=>match x,y with
 | .int i,.int j=>Q (.int (i - j)) μ
 | _,_=>False
def eJ:DR2:=λx y μ Q=>match x,y with
 | .int i,.int j=>MulOk i j/\Q (.int (i*j)) μ
 | _,_=>False
def mx:DR2:=λx y μ Q=>match x,y with
 | .int i,.int j=>jO j/\Q (.int (i.fdiv j)) μ
 | _,_=>False
def lK:DR2:=λx y μ Q=>match x,y with
 | .int i,.int j=>j≠0/\Q (.int (i.fmod j)) μ
 | _,_=>False
def IC:DR2:=λx y μ Q=>match x,y with
 | .int i,.int j=>qi i j/\Q (.int (i ^ j.toNat)) μ
 | _,_=>False
def JC:DR:=λx μ Q=>match x with
 | .int i=>Q (.int (-i)) μ
 | _=>False
def IH (p:Int->Int->Bool):DR2:=λx y μ Q=>match x,y with
 | .int i,.int j=>Q (.bl (p i j)) μ
 | _,_=>False
def rLt:DR2:=IH λi j=>decide (i < j)
def rLe:DR2:=IH λi j=>decide (i<=j)
def rGt:DR2:=IH λi j=>decide (j < i)
def rGe:DR2:=IH λi j=>decide (j<=i)
mutual
def eqD:D->D->Bool
 | .non,.non=>true
 | .bl a,.bl b=>a == b
 | .int a,.int b=>decide (a=b)
 | .bl a,.int b=>decide ((if a then 1 else 0:Int)=b)
 | .int a,.bl b=>decide (a=(if b then 1 else 0:Int))
 | .str a,.str b=>decide (a=b)
 | .tup a,.tup b=>nS a b
 | .ls a,.ls b=>nS a b
 | _,_=>false
def nS:List D->List D->Bool
 | [],[]=>true
 | a::r,b::s=>eqD a b&&nS r s
 | _,_=>false
end
mutual
def okD:Nat->D->Bool
 | _,.non=>true
 | _,.bl _=>true
 | _,.int _=>true
 | _,.str x=>UU x
 | n+1,.tup ds=>cY n ds
 | n+1,.ls ds=>cY n ds
 | _,_=>false
def cY:Nat->List D->Bool
 | _,[]=>true
 | n,d::ds=>okD n d&&cY n ds
end
def rEq:DR2:=λx y μ Q=>(okD 40 x=true/\okD 40 y=true)/\Q (.bl (eqD x y)) μ
def rNe:DR2:=λx y μ Q=>(okD 40 x=true/\okD 40 y=true)/\Q (.bl (!eqD x y)) μ
def rIs:DR2:=λx y μ Q=>match y with
 | .non=>(match x with
  | .non=>Q (.bl true) μ
  | _=>Q (.bl false) μ)
 | _=>False
def Bi:DR2:=λx y μ Q=>match y with
 | .non=>(match x with
  | .non=>Q (.bl false) μ
  | _=>Q (.bl true) μ)
 | _=>False
def ik (a b:ETr):ETr:=λρ μ Q=>a ρ μ λx μ1=>kB x λc=>kIf c (b ρ μ1 Q) (Q (.bl false) μ1)
def FG (a b:ETr):ETr:=λρ μ Q=>a ρ μ λx μ1=>kB x λc=>kIf c (Q (.bl true) μ1) (b ρ μ1 Q)
def rG (a:ETr):ETr:=λρ μ Q=>a ρ μ λx μ1=>kB x λc=>Q (.bl (!c)) μ1
def TB (t:ETr):TTr:=λρ μ Q=>t ρ μ λx μ1=>kB x λc=>Q c μ1
def mw (t u:TTr):TTr:=λρ μ Q=>t ρ μ λc μ1=>kIf c (u ρ μ1 Q) (Q false μ1)
def TOr (t u:TTr):TTr:=λρ μ Q=>t ρ μ λc μ1=>kIf c (Q true μ1) (u ρ μ1 Q)
def Bl (t:TTr):TTr:=λρ μ Q=>t ρ μ λc μ1=>Q (!c) μ1
def lA (c:TTr)(a b:ETr):ETr:=λρ μ Q=>c ρ μ λk μ1=>kIf k (a ρ μ1 Q) (b ρ μ1 Q)
def AU (r r':DR2)(a b c:ETr):ETr:=λρ μ Q=>a ρ μ λx μ1=>b ρ μ1 λy μ2=>r x y μ2 λz μ3=>kB z λk=>kIf k (c ρ μ3 λy' μ4=>r' y y' μ4 Q) (Q (.bl false) μ3)
def ar:ATr:=λ_ μ Q=>Q [] μ
def af (a:ETr)(r:ATr):ATr:=λρ μ Q=>a ρ μ λx μ1=>r ρ μ1 λxs μ2=>Q (x::xs) μ2
def bf (t:ATr):ETr:=λρ μ Q=>t ρ μ λds μ1=>ds.length<=1000000/\Q (.tup ds) μ1
def eM (t:ATr):ETr:=λρ μ Q=>t ρ μ λds μ1=>ds.length<=1000000/\Q (.ls ds) μ1
def kC (t:ATr):ETr:=λρ μ Q=>t ρ μ λds μ1=>ds.length<=1000000/\∀ p,μ1 p=none->Q (.obj p) (up μ1 p (.lst ds))
def aq (sp:FSp)(t:ATr):ETr:=λρ μ Q=>t ρ μ λds μ1=>sp ds μ1 Q
def atD (ds:List D)(i:Int):Option D:=L2.atI ds i
def rIx:DR2:=λx y μ Q=>match x,y with
 | .tup ds,.int i=>kO (atD ds i) λd=>Q d μ
 | .ls ds,.int i=>kO (atD ds i) λd=>Q d μ
 | .obj a,.int i=>kL μ a λds=>kO (atD ds i) λd=>Q d μ
 | _,_=>False
def xw:FSp:=λds μ Q=>match ds with
 | [.int i]=>Q (.int (if i < 0 then -i else i)) μ
 | _=>False
def tW:FSp:=λds μ Q=>match ds with
 | [.int i,.int j]=>Q (.int (if j > i then j else i)) μ
 | _=>False
def sL:FSp:=λds μ Q=>match ds with
 | [.int i,.int j]=>Q (.int (if j < i then j else i)) μ
 | _=>False
def ya:FSp:=λds μ Q=>match ds with
 | [.int i]=>Q (.int i) μ
 | [.bl k]=>Q (.int (if k then 1 else 0)) μ
 | _=>False
def cS:FSp:=λds μ Q=>match ds with
 | [.tup xs]=>Q (.int xs.length) μ
 | [.ls xs]=>Q (.int xs.length) μ
 | [.str x]=>x.length<=1000000/\Q (.int x.length) μ
 | [.obj a]=>kL μ a λxs=>Q (.int xs.length) μ
 | _=>False
def tyD:D->Option String
 | .non=>some "NoneType"
 | .bl _=>some "bool"
 | .int _=>some "int"
 | .str _=>some "str"
 | .tup _=>some "tuple"
 | .ls _=>some "list"
 | _=>none
def de (t c:String):Bool:=t == c || (t == "bool" && c == "int")
def DN (c:String):DR:=λx μ Q=>match tyD x with
 | some t=>Q (.bl (de t c)) μ
 | none=>False
def a8:STr:=λE ρ μ=>E.nx ρ μ
def aB (t u:STr):STr:=λE ρ μ=>t { E with nx:=u E } ρ μ
def Ax:STr:=λE ρ μ=>E.bk ρ μ
def GF:STr:=λE ρ μ=>E.ct ρ μ
def d8 (e:ETr):STr:=λE ρ μ=>e ρ μ λ_ μ1=>E.nx ρ μ1
def aW (e:ETr):STr:=λE ρ μ=>e ρ μ E.rt
def FR:STr:=λE _ μ=>E.rt .non μ
def bK (c:TTr)(t u:STr):STr:=λE ρ μ=>c ρ μ λb μ1=>kIf b (t E ρ μ1) (u E ρ μ1)
def aw (i:Nat):GTr:=λd ρ μ k=>k (ρ.set i (some d)) μ
def aN (e:ETr)(g:GTr):STr:=λE ρ μ=>e ρ μ λd μ1=>g d ρ μ1 E.nx
def qG (i j:Nat)(a:ATr):STr:=λE ρ μ=>a ρ μ λds μ1=>k2 ds λv w=>E.nx ((ρ.set i (some v)).set j (some w)) μ1
def RY (x z y:D)(μ:Mu)(f:Mu->Prop):Prop:=match x,z with
 | .obj a,.int n=>kL μ a λds=>kN (L2.ixN ds.length n) λj=>f (up μ a (.lst (ds.set j y)))
 | _,_=>False
def zm (o k e:ETr):STr:=λE ρ μ=>e ρ μ λy μ1=>o ρ μ1 λx μ2=>k ρ μ2 λz μ3=>RY x z y μ3 λμ4=>E.nx ρ μ4
def uV (c:TTr)(b:STr):STr:=λE ρ μ=>∃ (P:ST->Mu->Prop) (m:ST->Mu->Nat),P ρ μ/\∀ ρ μ,P ρ μ->
 c ρ μ λk μ1=>kIf k (b { E with nx:=λρ' μ'=>P ρ' μ'/\m ρ' μ' < m ρ μ,ct:=λρ' μ'=>P ρ' μ'/\m ρ' μ' < m ρ μ,bk:=E.nx } ρ μ1) (E.nx ρ μ1)
def forR (g:GTr)(b:STr)(E:En):List D->ST->Mu->Prop
 | [],ρ,μ=>E.nx ρ μ
 | d::r,ρ,μ=>g d ρ μ λρ1 μ1=>b { E with nx:=forR g b E r,ct:=forR g b E r,bk:=E.nx } ρ1 μ1
def iS (it:ATr)(g:GTr)(b:STr):STr:=λE ρ μ=>it ρ μ λds μ1=>forR g b E ds ρ μ1
def cB (lo:Int)(n:Nat):List D:=(Vd n).map λi=>.int (lo+(i:Nat))
def fE (a:ETr):ATr:=λρ μ Q=>a ρ μ λx μ1=>kI x λj=>(-4611686018427387904<=j/\j < 4611686018427387904)/\Q (cB 0 j.toNat) μ1
def dW (a:ETr):ATr:=λρ μ Q=>a ρ μ λx μ1=>kS x λds=>Q ds μ1
def dn (μ:Mu)(a:Addr):Mu:=λb=>if b=a then none else μ b
theorem kZ {μ:Mu}{a:Addr}{o:MO}(h:μ a=none):dn (up μ a o) a=μ:=by
 funext b
 unfold dn up
 by_cases hb:b=a
 ·subst hb;simp[h]
 ·simp[hb]
def dh (ρ:ST)(n:Nat)(caps:List Nat):ST:=Ww n none++caps.map (lk ρ)
def fo (p:Addr)(G:GTr)(tt:TTr)(te:ETr)(ρc:ST)(K:Mu->Prop):List D->Mu->Prop
 | [],μ=>K μ
 | d::r,μ=>G d ρc μ λρ1 μ1=>tt ρ1 μ1 λb μ2=>kIf b (te ρ1 μ2 λy μ3=>kL μ3 p λzs=>zs.length < 1000000/\fo p G tt te ρc K r (up μ3 p (.lst (zs++[y])))) (fo p G tt te ρc K r μ2)
def b8 (it:ATr)(G:GTr)(tt:TTr)(te:ETr)(n:Nat)(caps:List Nat):ETr:=λρ μ Q=>it ρ μ λds μ1=>∀ p,μ1 p=none->
 fo p G tt te (dh ρ n caps) (λμ'=>kL μ' p λzs=>Q (.ls zs) (dn μ' p)) ds (up μ1 p (.lst []))
def dX:TTr:=λ_ μ Q=>Q true μ
def HJ:FSp:=λds μ Q=>match ds with
 | [.ls xs]=>∃ bs:List Bool,xs=bs.map .bl/\Q (.bl (bs.all id)) μ
 | _=>False
theorem bY {g:GTr}{b:STr}{E:En}(P:List D->ST->Mu->Prop)(hnil:∀ ρ μ,P [] ρ μ->E.nx ρ μ)
  (hcons:∀ d r ρ μ (N:ST->Mu->Prop),P (d::r) ρ μ->(∀ ρ' μ',P r ρ' μ'->N ρ' μ')->g d ρ μ λρ1 μ1=>b { E with nx:=N,ct:=N,bk:=E.nx } ρ1 μ1) :
  ∀ (ds:List D) (ρ:ST) (μ:Mu),P ds ρ μ->forR g b E ds ρ μ
 | [],ρ,μ,h=>hnil ρ μ h
 | d::r,ρ,μ,h=>hcons d r ρ μ _ h λρ' μ' q=>bY P hnil hcons r ρ' μ' q
section
open PySem PySem.Spec PyProof.Rows L2
def SqF (K:UH)(H:Hp)(a:Addr)(xs:List V):Prop:=
 (∃ o,H a=some (.frz o (.lst xs)))∨
  ∃ (o:Obj) (its:Array UK) (n:Nat),K.lookup a=some o/\o.cls=.type "list" /\ o.dict=none/\o.data=.seq its n/\its.size<=sizeLine/\Vals xs its.toList
theorem SqF.sq {K:UH}{H:Hp}{a:Addr}{xs:List V}(h:SqF K H a xs):SqL K H a xs:=by
 rcases h with h | h
 ·exact .inl (.inr h)
 ·exact .inr h
mutual
inductive Dp (K:UH) (H:Hp):V->D->Prop
 | non:Dp K H .non .non
 | bl (b:Bool):Dp K H (.bl b) (.bl b)
 | int (n:Int):Dp K H (.int n) (.int n)
 | str (z:Str):Dp K H (.str z) (.str z)
 | ty (n:String):Dp K H (.ty n) (.ty n)
 | tup {a:Addr} {xs:List V} {ds:List D}:SqT K H a xs->DpL K H xs ds->Dp K H (.ref a) (.tup ds)
 | ls {a:Addr} {xs:List V} {ds:List D}:SqF K H a xs->DpL K H xs ds->Dp K H (.ref a) (.ls ds)
 | obj (a:Addr):Dp K H (.ref a) (.obj a)
inductive DpL (K:UH) (H:Hp):List V->List D->Prop
 | nil:DpL K H [] []
 | cons {v:V} {d:D} {vs:List V} {ds:List D}:Dp K H v d->DpL K H vs ds->DpL K H (v::vs) (d::ds)
end
structure Tk (H H':Hp):Prop where
 tup:∀ a xs,H a=some (.tup xs)->H' a=some (.tup xs)
 frz:∀ a o u,H a=some (.frz o u)->H' a=some (.frz o u)
theorem Tk.refl (H:Hp):Tk H H:=⟨λ_ _ h=>h,λ_ _ _ h=>h⟩
theorem Tk.trans {H H1 H2:Hp}(a:Tk H H1)(b:Tk H1 H2):Tk H H2:=⟨λc xs h=>b.tup c xs (a.tup c xs h),λc o u h=>b.frz c o u (a.frz c o u h)⟩
theorem Tk.upd {H:Hp}{a:Addr}{o:HO}(h1:∀ xs,H a≠some (.tup xs))(h2:∀ o u,H a≠some (.frz o u)):Tk H (L2.upd H a o):=
 ⟨λb xs h=>by rw[aM (λz=>by subst z;exact h1 _ h)];exact h,λb o u h=>by rw[aM (λz=>by subst z;exact h2 _ _ h)];exact h⟩
theorem Tk.new {H:Hp}{a:Addr}{o:HO}(h:H a=none):Tk H (L2.upd H a o):=.upd (λ_ e=>by rw[h] at e;cases e) λ_ _ e=>by rw[h] at e;cases e
theorem Tk.sqT {K:UH}{H H':Hp}{a:Addr}{xs:List V}(t:Tk H H')(h:SqT K H a xs):SqT K H' a xs:=by
 rcases h with (h | ⟨o,h⟩) | h
 ·exact .inl (.inl (t.tup _ _ h))
 ·exact .inl (.inr ⟨o,t.frz _ _ _ h⟩)
 ·exact .inr h
theorem Tk.sqF {K:UH}{H H':Hp}{a:Addr}{xs:List V}(t:Tk H H')(h:SqF K H a xs):SqF K H' a xs:=by
 rcases h with ⟨o,h⟩ | h
 ·exact .inl ⟨o,t.frz _ _ _ h⟩
 ·exact .inr h
mutual
theorem Dp.mono {K:UH}{H H':Hp}(t:Tk H H'):∀ {v:V} {d:D},Dp K H v d->Dp K H' v d
 | _,_,.non=>.non
 | _,_,.bl b=>.bl b
 | _,_,.int i=>.int i
 | _,_,.str x=>.str x
 | _,_,.ty n=>.ty n
 | _,_,.tup h l=>.tup (t.sqT h) (DpL.mono t l)
 | _,_,.ls h l=>.ls (t.sqF h) (DpL.mono t l)
 | _,_,.obj a=>.obj a
theorem DpL.mono {K:UH}{H H':Hp}(t:Tk H H'):∀ {vs:List V} {ds:List D},DpL K H vs ds->DpL K H' vs ds
 | _,_,.nil=>.nil
 | _,_,.cons h l=>.cons (Dp.mono t h) (DpL.mono t l)
end
theorem DpL.length {K:UH}{H:Hp}:∀ {vs:List V} {ds:List D},DpL K H vs ds->vs.length=ds.length
 | _,_,.nil=>rfl
 | _,_,.cons _ l=>by rw[Vg,Vg,DpL.length l]
theorem DpL.get {K:UH}{H:Hp}:∀ {vs:List V} {ds:List D} {i:Nat} {d:D},DpL K H vs ds->ds[i]? = some d->∃ v,vs[i]? = some v/\Dp K H v d
 | _,_,_,_,.nil,e=>by simp at e
 | _,_,0,_,.cons h _,e=>by simp at e;subst e;exact ⟨_,rfl,h⟩
 | _,_,i+1,d,.cons _ l,e=>by
  obtain ⟨v,e1,h⟩:=DpL.get (i:=i) (d:=d) l (by simpa using e)
  exact ⟨v,by simpa using e1,h⟩
theorem DpL.get' {K:UH}{H:Hp}:∀ {vs:List V} {ds:List D} {i:Nat} {v:V},DpL K H vs ds->vs[i]? = some v->∃ d,ds[i]? = some d/\Dp K H v d
 | _,_,_,_,.nil,e=>by simp at e
 | _,_,0,_,.cons h _,e=>by simp at e;subst e;exact ⟨_,rfl,h⟩
 | _,_,i+1,d,.cons _ l,e=>by
  obtain ⟨v,e1,h⟩:=DpL.get' (i:=i) (v:=d) l (by simpa using e)
  exact ⟨v,by simpa using e1,h⟩
theorem DpL.set {K:UH}{H:Hp}{v:V}{d:D}(h:Dp K H v d):∀ {vs:List V} {ds:List D} (i:Nat),DpL K H vs ds->DpL K H (vs.set i v) (ds.set i d)
 | _,_,_,.nil=>.nil
 | _,_,0,.cons _ l=>.cons h l
 | _,_,i+1,.cons q l=>.cons q (DpL.set h i l)
theorem DpL.append {K:UH}{H:Hp}:∀ {vs ws:List V} {ds es:List D},DpL K H vs ds->DpL K H ws es->DpL K H (vs++ws) (ds++es)
 | _,_,_,_,.nil,s=>s
 | _,_,_,_,.cons h l,s=>.cons h (DpL.append l s)
theorem DpL.at {K:UH}{H:Hp}{vs:List V}{ds:List D}{i:Int}{d:D}(l:DpL K H vs ds)(e:atD ds i=some d):∃ v,atI vs i=some v/\Dp K H v d:=by
 unfold atD atI at e
 unfold atI
 rw[l.length]
 cases q:ixN ds.length i with
 | none=>rw[q] at e;cases e
 | some j=>
  rw[q] at e
  exact l.get e
def DpK {κ:Type}(K:UH)(H:Hp)(xs:List (κ×V))(kvs:List (κ×D)):Prop:=xs.map (·.1)=kvs.map (·.1)/\DpL K H (xs.map (·.2)) (kvs.map (·.2))
theorem DpK.mono {κ:Type}{K:UH}{H H':Hp}(t:Tk H H'){xs:List (κ×V)}{kvs:List (κ×D)}(h:DpK K H xs kvs):DpK K H' xs kvs:=⟨h.1,h.2.mono t⟩
def yO (K:UH)(H:Hp)(a:Addr):MO->Prop
 | .lst ds=>∃ xs,H a=some (.lst xs)/\DpL K H xs ds
 | .dct kvs=>∃ xs,H a=some (.dK xs)/\DpK K H xs kvs
 | .dcT kvs=>∃ xs,H a=some (.dT xs)/\DpK K H xs kvs
theorem yO.go {K:UH}{H H':Hp}{a:Addr}{o:MO}(h:yO K H a o)(t:Tk H H')(k:∀ u,H a=some u->H' a=some u):yO K H' a o:=by
 cases o<;>(obtain ⟨xs,z,l⟩:=h;exact ⟨xs,k _ z,l.mono t⟩)
theorem yO.ne {K:UH}{H:Hp}{a q:Addr}{o:MO}{u:HO}(h:yO K H a o)(t:Tk H (L2.upd H q u))(k:a≠q):yO K (L2.upd H q u) a o:=h.go t λ_ e=>by rw[aM k];exact e
def bB (K:UH)(H:Hp)(μ:Mu):Prop:=∀ a o,μ a=some o->yO K H a o
theorem bB.free {K:UH}{H:Hp}{μ:Mu}(h:bB K H μ){a:Addr}(e:H a=none):μ a=none:=by
 cases q:μ a with
 | none=>rfl
 | some o=>
  cases o<;>(obtain ⟨xs,z,_⟩:=h a _ q;rw[e] at z;cases z)
theorem bB.keep {K:UH}{H H':Hp}{μ:Mu}(h:bB K H μ)(t:Tk H H')(k:∀ a u,μ a≠none->H a=some u->H' a=some u):bB K H' μ:=λa o e=>by
 exact (h a _ e).go t λu z=>k a u (by rw[e];simp) z
def Sub (μ μ':Mu):Prop:=∀ a o,μ a=some o->μ' a=some o
theorem Sub.refl (μ:Mu):Sub μ μ:=λ_ _ h=>h
theorem Sub.new {μ:Mu}{p:Addr}{o:MO}(h:μ p=none):Sub μ (up μ p o):=λa u e=>by
 rw[aU (λz=>by subst z;rw[h] at e;cases e)];exact e
theorem Sub.trans {μ μ1 μ2:Mu}(a:Sub μ μ1)(b:Sub μ1 μ2):Sub μ μ2:=λc o h=>b c o (a c o h)
theorem bB.sub {K:UH}{H:Hp}{μ μ':Mu}(h:bB K H μ')(s:Sub μ μ'):bB K H μ:=λa o e=>h a o (s a o e)
structure Rl (K:UH) (σ:L2.St) (H:Hp) (ρ:ST) (μ:Mu):Prop where
 len:ρ.length=σ.length
 loc:∀ i d,lk ρ i=some d->∃ v,σ[i]? = some (some v)/\Dp K H v d
 mu:bB K H μ
theorem Rl.go {K:UH}{σ:L2.St}{H H':Hp}{ρ:ST}{μ μ':Mu}(r:Rl K σ H ρ μ)(t:Tk H H')(m:bB K H' μ'):Rl K σ H' ρ μ':=
 ⟨r.len,λi d e=>let ⟨v,h1,h2⟩:=r.loc i d e;⟨v,h1,h2.mono t⟩,m⟩
theorem Fw:∀ (ρ:ST) (i j:Nat) (d:D),lk (ρ.set i (some d)) j=if i=j/\i < ρ.length then some d else lk ρ j
 | [],i,j,d=>by simp[lk]
 | o::r,0,0,d=>by simp[lk]
 | o::r,0,j+1,d=>by simp[lk]
 | o::r,i+1,0,d=>by simp[lk]
 | o::r,i+1,j+1,d=>by
  show lk (r.set i (some d)) j=_
  rw[Fw r i j d]
  simp[lk]
theorem Rl.set {K:UH}{σ:L2.St}{H:Hp}{ρ:ST}{μ:Mu}(r:Rl K σ H ρ μ){v:V}{d:D}(h:Dp K H v d)(i:Nat):Rl K (σ.set i (some v)) H (ρ.set i (some d)) μ:=by
 refine ⟨by simp[r.len],λj e q=>?_,r.mu⟩
 rw[Fw] at q
 split at q
 ·rename_i hc
  obtain ⟨rfl,hlt⟩:=hc
  cases q
  exact ⟨v,by rw[Yo (by rw[← r.len];exact hlt)],h⟩
 ·rename_i hc
  obtain ⟨u,h1,h2⟩:=r.loc j e q
  by_cases hij:i=j
  ·subst hij
   have:¬ i < ρ.length:=λz=>hc ⟨rfl,z⟩
   have hn:σ[i]? = none:=XW.mpr (by rw[← r.len];omega)
   rw[hn] at h1;cases h1
  ·exact ⟨u,by rw[W5 hij];exact h1,h2⟩
abbrev jx (K:UH)(H:Hp)(Q:DK)(Q':VK):Prop:=∀ v H' d μ',Tk H H'->bB K H' μ'->Dp K H' v d->Q d μ'->Q' v H'
def Sim (K:UH)(t:TE)(T:ETr):Prop:=∀ σ H ρ μ (Q:DK) (Q':VK),Rl K σ H ρ μ->T ρ μ Q->jx K H Q Q'->t σ H Q'
def KQ (K:UH)(t:TT)(T:TTr):Prop:=∀ σ H ρ μ (Q:Bool->Mu->Prop) (Q':Bool->Hp->Prop),Rl K σ H ρ μ->T ρ μ Q->(∀ b H' μ',Tk H H'->bB K H' μ'->Q b μ'->Q' b H')->t σ H Q'
def QA (K:UH)(t:TA)(T:ATr):Prop:=∀ σ H ρ μ (Q:List D->Mu->Prop) (Q':List V->Hp->Prop),Rl K σ H ρ μ->T ρ μ Q->(∀ vs H' ds μ',Tk H H'->bB K H' μ'->DpL K H' vs ds->Q ds μ'->Q' vs H')->t σ H Q'
abbrev wY (K:UH)(H:Hp)(N:ST->Mu->Prop)(N':L2.St->Hp->Prop):Prop:=∀ σ' H' ρ' μ',Tk H H'->Rl K σ' H' ρ' μ'->N ρ' μ'->N' σ' H'
structure HD (K:UH) (H:Hp) (E:En) (E':Ends):Prop where
 nx:wY K H E.nx E'.nx
 rt:jx K H E.rt E'.rt
 bk:wY K H E.bk E'.bk
 ct:wY K H E.ct E'.ct
theorem HD.go {K:UH}{H H1:Hp}{E:En}{E':Ends}(e:HD K H E E')(t:Tk H H1):HD K H1 E E':=
 ⟨λ_ _ _ _ t'=>e.nx _ _ _ _ (t.trans t'),λ_ _ _ _ t'=>e.rt _ _ _ _ (t.trans t'),λ_ _ _ _ t'=>e.bk _ _ _ _ (t.trans t'),λ_ _ _ _ t'=>e.ct _ _ _ _ (t.trans t')⟩
def HG (K:UH)(t:TS)(T:STr):Prop:=∀ σ H ρ μ (E:En) (E':Ends),Rl K σ H ρ μ->T E ρ μ->HD K H E E'->t E' σ H
def QK (K:UH)(g:TG)(G:GTr):Prop:=∀ σ H ρ μ v d (k:ST->Mu->Prop) (k':L2.St->Hp->Prop),Rl K σ H ρ μ->Dp K H v d->G d ρ μ k->wY K H k k'->g v σ H k'
structure LE (X:Cx) (e:Ve) (T:ETr):Prop where
 ex:∃ t,PE X e t/\Sim X.K t T
structure LT (X:Cx) (e:Ve) (T:TTr):Prop where
 ex:∃ t,PT X e t/\KQ X.K t T
structure LW (X:Cx) (e:Ve) (T:TTr):Prop where
 ex:∃ t,PW X e t/\KQ X.K t T
structure LA (X:Cx) (es:List Ve) (T:ATr):Prop where
 ex:∃ t,PA X es t/\QA X.K t T
structure LS (X:Cx) (st:Stmt) (T:STr):Prop where
 ex:∃ t,PS X st t/\HG X.K t T
structure LSs (X:Cx) (sts:List Stmt) (T:STr):Prop where
 ex:∃ t,PSs X sts t/\HG X.K t T
structure LG (X:Cx) (tg:Ve) (G:GTr):Prop where
 ex:∃ g,PG X tg g/\QK X.K g G
section
variable {X:Cx} {a b c e:Ve} {Ta Tb Tc:ETr} {pos:Pos}
theorem ae (i:Nat){x:Str}(hN:X.N[i]? = some x:=by rfl)(hv:Vis X.env.scope x:=by first | exact Yt rfl | exact Yu (Yt rfl) | exact Yu (Yu rfl))(hd:(x == ("__debug__" : Str))=false:=by decide)
  (hcd:(x == ("__classdict__" : Str))=false:=by decide):LE X (.Name x pos) (ah i):=
 ⟨_,Hj hN hv hd hcd,λσ H ρ μ Q Q' r h k=>by
  have h:kO (lk ρ i) λd=>Q d μ:=h
  cases q:lk ρ i with
  | none=>rw[q] at h;exact UO h
  | some d=>
   rw[q] at h
   have h:Q d μ:=h
   obtain ⟨v,e1,p⟩:=r.loc i d q
   exact ⟨v,e1,k v H d μ (.refl H) r.mu p h⟩⟩
theorem le_int {i:Int}{j}:LE X (.Constant (.int i) j pos) (TC (.int i)):=⟨_,Pu,λσ H ρ μ Q Q' r h k=>k _ H _ μ (.refl H) r.mu (.int i) h⟩
theorem Bt {b:Bool}{j}:LE X (.Constant (.bool b) j pos) (TC (.bl b)):=⟨_,RI,λσ H ρ μ Q Q' r h k=>k _ H _ μ (.refl H) r.mu (.bl b) h⟩
theorem cV {j}:LE X (.Constant .none j pos) (TC .non):=⟨_,QI,λσ H ρ μ Q Q' r h k=>k _ H _ μ (.refl H) r.mu .non h⟩
theorem le_str {x:Str}{j}:LE X (.Constant (.str x) j pos) (TC (.str x)):=⟨_,HN,λσ H ρ μ Q Q' r h k=>k _ H _ μ (.refl H) r.mu (.str x) h⟩
def gT (K:UH)(r:R2)(R:DR2):Prop:=∀ H μ x y dx dy (Q:DK) (Q':VK),bB K H μ->Dp K H x dx->Dp K H y dy->R dx dy μ Q->jx K H Q Q'->r x y H Q'
def RW (K:UH)(r:V->Hp->VK->Prop)(R:DR):Prop:=∀ H μ x dx (Q:DK) (Q':VK),bB K H μ->Dp K H x dx->R dx μ Q->jx K H Q Q'->r x H Q'
theorem jx.go {K:UH}{H H1:Hp}{Q:DK}{Q':VK}(k:jx K H Q Q')(t:Tk H H1):jx K H1 Q Q':=λv H' d μ' t'=>k v H' d μ' (t.trans t')
theorem oJ {K:UH}{r:R2}{R:DR2}{ta tb:TE}(hr:gT K r R)(ha:Sim K ta Ta)(hb:Sim K tb Tb):Sim K (tOp r ta tb) (aj R Ta Tb):=λσ H ρ μ Q Q' rl h k=>
 ha σ H ρ μ _ _ rl h λx H1 dx μ1 t1 m1 p1 h1=>hb σ H1 ρ μ1 _ _ (rl.go t1 m1) h1 λy H2 dy μ2 t2 m2 p2 h2=>hr H2 μ2 x y dx dy Q Q' m2 (p1.mono t2) p2 h2 (k.go (t1.trans t2))
theorem rq {op:zas}{r:R2}{R:DR2}(ho:OpR X (Xe op) r)(hr:gT X.K r R)(ha:LE X a Ta)(hb:LE X b Tb):LE X (.BinOp a op b pos) (aj R Ta Tb):=by
 obtain ⟨ta,pa,sa⟩:=ha.ex
 obtain ⟨tb,pb,sb⟩:=hb.ex
 exact ⟨_,MU ho pa pb,oJ hr sa sb⟩
theorem oD {op:CmpOp}{r:R2}{R:DR2}(ho:OpR X (Xf op) r)(hr:gT X.K r R)(ha:LE X a Ta)(hb:LE X b Tb)(hm:Xs op b=false):LE X (.Compare a [op] [b] pos) (aj R Ta Tb):=by
 obtain ⟨ta,pa,sa⟩:=ha.ex
 obtain ⟨tb,pb,sb⟩:=hb.ex
 exact ⟨_,LX ho pa pb hm,oJ hr sa sb⟩
theorem Qx {K:UH}{t:TE}{T:ETr}(h:Sim K t T):KQ K (MI t) (TB T):=λσ H ρ μ Q Q' rl hh k=>
 h σ H ρ μ _ _ rl hh λv H' d μ' t' m' p' h'=>by
  cases p' with
  | bl c=>exact ⟨c,rfl,k c H' μ' t' m' h'⟩
  | _=>exact UO h'
theorem N5 {K:UH}{t:TE}{T:ETr}(h:Sim K t T):KQ K (tB t) (TB T):=λσ H ρ μ Q Q' rl hh k=>
 h σ H ρ μ _ _ rl hh λv H' d μ' t' m' p' h'=>by
  cases p' with
  | bl c=>exact ⟨c,rfl,k c H' μ' t' m' h'⟩
  | _=>exact UO h'
theorem gy {op:CmpOp}{r:R2}{R:DR2}(ho:OpR X (Xf op) r)(hr:gT X.K r R)(ha:LE X a Ta)(hb:LE X b Tb)(hm:Xs op b=false):LT X (.Compare a [op] [b] pos) (TB (aj R Ta Tb)):=by
 obtain ⟨ta,pa,sa⟩:=ha.ex
 obtain ⟨tb,pb,sb⟩:=hb.ex
 exact ⟨_,K4 ho pa pb hm,Qx (oJ hr sa sb)⟩
theorem uX {K:UH}{C:Int->Int->Prop}{g:Int->Int->V}{R:DR2}(f:Int->Int->D)(hg:∀ H i j,Dp K H (g i j) (f i j))(hR:∀ i j μ Q,R (.int i) (.int j) μ Q->C i j/\Q (f i j) μ)
  (hn:∀ dx dy μ Q,R dx dy μ Q->(∃ i,dx=.int i)/\∃ j,dy=.int j):gT K (rI C g) R:=λH μ x y dx dy Q Q' m px py h k=>by
 obtain ⟨⟨i,rfl⟩,j,rfl⟩:=hn _ _ _ _ h
 cases px;cases py
 obtain ⟨h1,h2⟩:=hR _ _ _ _ h
 exact ⟨i,j,rfl,rfl,h1,k _ H _ μ (.refl H) m (hg H i j) h2⟩
theorem BX {K:UH}{g:Int->Int->V}{R:DR2}(f:Int->Int->D)(hg:∀ H i j,Dp K H (g i j) (f i j))(hR:∀ i j μ Q,R (.int i) (.int j) μ Q->Q (f i j) μ)
  (hn:∀ dx dy μ Q,R dx dy μ Q->(∃ i,dx=.int i)/\∃ j,dy=.int j):gT K (rI0 g) R:=λH μ x y dx dy Q Q' m px py h k=>by
 obtain ⟨⟨i,rfl⟩,j,rfl⟩:=hn _ _ _ _ h
 cases px;cases py
 exact ⟨i,j,rfl,rfl,k _ H _ μ (.refl H) m (hg H i j) (hR _ _ _ _ h)⟩
theorem fW (ha:LE X a Ta)(hb:LE X b Tb):LE X (.BinOp a .Sub b pos) (aj kA Ta Tb):=rq Ov (BX (λi j=>.int (i - j)) (λ_ _ _=>.int _) (λ_ _ _ _ h=>h) (λdx dy μ Q h=>by cases dx<;>cases dy<;>first | exact ⟨⟨_,rfl⟩,_,rfl⟩ | exact UO h)) ha hb
theorem fU.abs {j:Int}(h:fU j):j.natAbs < 2 ^ 256:=by
 have e:(2:Nat) ^ 256=115792089237316195423570985008687907853269984665640564039457584007913129639936:=by decide +kernel
 rw[e]
 obtain ⟨h1,h2⟩:=h
 omega
theorem MulOk.ok {i j:Int}(h:MulOk i j):IntMulOk i j:=by
 rcases h with (⟨h1,h2⟩ | ⟨h1,h2⟩) | ⟨h1,h2⟩
 ·exact .of_left (Zx h1 h2)
 ·exact .of_right (Zx h1 h2)
 ·exact .of_le (ZK h1.abs) (ZK h2.abs) (by decide)
theorem Ku:OpR X (Xe .Mult) (rI MulOk λi j=>.int (i*j)):=opI λ_ _ _ _ _ _ _ hc q=>mul_int q hc.ok
theorem jO.np {i j:Int}(h:jO j):Builtin.divisionGoesByPylong i j=false:=by
 refine PyProof.noPylong_of_log2 ?_
 have h0:j.natAbs≠0:=by have:=h.1;omega
 have:=(Nat.log2_lt h0).mpr h.2.abs
 omega
theorem JL:OpR X (Xe .FloorDiv) (rI (λ_ j=>jO j) λi j=>.int (i.fdiv j)):=opI λ_ _ _ _ _ _ _ hc q=>floordiv_int hc.1 q (.inl hc.np)
theorem js (ha:LE X a Ta)(hb:LE X b Tb):LE X (.BinOp a .FloorDiv b pos) (aj mx Ta Tb):=rq JL (uX (λi j=>.int (i.fdiv j)) (λ_ _ _=>.int _) (λ_ _ _ _ h=>⟨h.1,h.2⟩) (λdx dy μ Q h=>by cases dx<;>cases dy<;>first | exact ⟨⟨_,rfl⟩,_,rfl⟩ | exact UO h)) ha hb
theorem le_mul (ha:LE X a Ta)(hb:LE X b Tb):LE X (.BinOp a .Mult b pos) (aj eJ Ta Tb):=rq Ku (uX (λi j=>.int (i*j)) (λ_ _ _=>.int _) (λ_ _ _ _ h=>⟨h.1,h.2⟩) (λdx dy μ Q h=>by cases dx<;>cases dy<;>first | exact ⟨⟨_,rfl⟩,_,rfl⟩ | exact UO h)) ha hb
theorem iC (ha:LE X a Ta)(hb:LE X b Tb):LE X (.BinOp a .Mod b pos) (aj lK Ta Tb):=rq Ly (uX (λi j=>.int (i.fmod j)) (λ_ _ _=>.int _) (λ_ _ _ _ h=>⟨h.1,h.2⟩) (λdx dy μ Q h=>by cases dx<;>cases dy<;>first | exact ⟨⟨_,rfl⟩,_,rfl⟩ | exact UO h)) ha hb
theorem le_pow (ha:LE X a Ta)(hb:LE X b Tb):LE X (.BinOp a .Pow b pos) (aj IC Ta Tb):=rq N8 (uX (λi j=>.int (i ^ j.toNat)) (λ_ _ _=>.int _) (λ_ _ _ _ h=>⟨h.1,h.2⟩) (λdx dy μ Q h=>by cases dx<;>cases dy<;>first | exact ⟨⟨_,rfl⟩,_,rfl⟩ | exact UO h)) ha hb
theorem lT {K:UH}(p:Int->Int->Bool):gT K (rI0 λi j=>.bl (p i j)) (IH p):=BX (λi j=>.bl (p i j)) (λ_ _ _=>.bl _) (λ_ _ _ _ h=>h) (λdx dy μ Q h=>by cases dx<;>cases dy<;>first | exact ⟨⟨_,rfl⟩,_,rfl⟩ | exact UO h)
theorem MQ (ha:LE X a Ta)(hb:LE X b Tb):LE X (.Compare a [.Lt] [b] pos) (aj rLt Ta Tb):=oD M7 (lT _) ha hb (fS _)
theorem Se (ha:LE X a Ta)(hb:LE X b Tb):LE X (.Compare a [.GtE] [b] pos) (aj rGe Ta Tb):=oD Nf (lT _) ha hb (fS _)
theorem l6 (ha:LE X a Ta)(hb:LE X b Tb):LT X (.Compare a [.Lt] [b] pos) (TB (aj rLt Ta Tb)):=gy M7 (lT _) ha hb (fS _)
theorem nz (ha:LE X a Ta)(hb:LE X b Tb):LT X (.Compare a [.Gt] [b] pos) (TB (aj rGt Ta Tb)):=gy Rt (lT _) ha hb (fS _)
theorem R4 (ha:LE X a Ta)(hb:LE X b Tb):LT X (.Compare a [.GtE] [b] pos) (TB (aj rGe Ta Tb)):=gy Nf (lT _) ha hb (fS _)
theorem QO {op:UnaryOp}{r:V->Hp->VK->Prop}{R:DR}(ho:UnR X (unaryOp op) r)(hr:RW X.K r R)(ha:LE X a Ta):LE X (.UnaryOp op a pos) (TUn R Ta):=by
 obtain ⟨ta,pa,sa⟩:=ha.ex
 exact ⟨_,QP ho pa,λσ H ρ μ Q Q' rl h k=>sa σ H ρ μ _ _ rl h λx H1 dx μ1 t1 m1 p1 h1=>hr H1 μ1 x dx Q Q' m1 p1 h1 (k.go t1)⟩
theorem kl (ha:LE X a Ta)(he:∀ whole,isTrue a X.env whole=(do let v ← whole;standAt a.pos;ZY [v] (truthy v)):=by intro _;rfl):LT X a (TB Ta):=by
 obtain ⟨ta,pa,sa⟩:=ha.ex
 exact ⟨_,PL pa he,N5 sa⟩
variable {tA tB' tC':TTr} {rest:List Ve}
theorem FD (ha:LT X a tA):LT X (.UnaryOp .Not a pos) (Bl tA):=by
 obtain ⟨ta,pa,sa⟩:=ha.ex
 exact ⟨_,Nz pa,λσ H ρ μ Q Q' rl h k=>sa σ H ρ μ _ _ rl h λc H1 μ1 t1 m1 h1=>k (!c) H1 μ1 t1 m1 h1⟩
theorem LW.lt (h:LW X a tA):LT X a tA:=by
 obtain ⟨ta,pa,sa⟩:=h.ex
 exact ⟨_,pa.pt,sa⟩
theorem j5 (ha:LT X a tA):LW X (.BoolOp .And [a] pos) tA:=by
 obtain ⟨ta,pa,sa⟩:=ha.ex
 exact ⟨_,pw_and1 pa,sa⟩
theorem vj (ha:LT X a tA):LW X (.BoolOp .Or [a] pos) tA:=by
 obtain ⟨ta,pa,sa⟩:=ha.ex
 exact ⟨_,pw_or1 pa,sa⟩
theorem ma (ha:LT X a tA)(hb:LW X (.BoolOp .And (b::rest) pos) tB'):LW X (.BoolOp .And (a::b::rest) pos) (mw tA tB'):=by
 obtain ⟨ta,pa,sa⟩:=ha.ex
 obtain ⟨tb,pb,sb⟩:=hb.ex
 refine ⟨_,pw_and pa pb,λσ H ρ μ Q Q' rl h k=>sa σ H ρ μ _ _ rl h λc H1 μ1 t1 m1 h1=>?_⟩
 cases c with
 | true=>exact nU (sb σ H1 ρ μ1 Q Q' (rl.go t1 m1) h1 λb H2 μ2 t2=>k b H2 μ2 (t1.trans t2))
 | false=>exact nY (k false H1 μ1 t1 m1 h1)
theorem Cm (ha:LT X a tA)(hb:LW X (.BoolOp .Or (b::rest) pos) tB'):LW X (.BoolOp .Or (a::b::rest) pos) (TOr tA tB'):=by
 obtain ⟨ta,pa,sa⟩:=ha.ex
 obtain ⟨tb,pb,sb⟩:=hb.ex
 refine ⟨_,pw_or pa pb,λσ H ρ μ Q Q' rl h k=>sa σ H ρ μ _ _ rl h λc H1 μ1 t1 m1 h1=>?_⟩
 cases c with
 | true=>exact nU (k true H1 μ1 t1 m1 h1)
 | false=>exact nY (sb σ H1 ρ μ1 Q Q' (rl.go t1 m1) h1 λb H2 μ2 t2=>k b H2 μ2 (t1.trans t2))
theorem ue {op}(h:LE X a Ta):LE X (.BoolOp op [a] pos) Ta:=by
 obtain ⟨ta,pa,sa⟩:=h.ex
 exact ⟨_,QB pa,sa⟩
theorem uI (ha:LE X a Ta)(hb:LE X (.BoolOp .And (b::rest) pos) Tb):LE X (.BoolOp .And (a::b::rest) pos) (ik Ta Tb):=by
 obtain ⟨ta,pa,sa⟩:=ha.ex
 obtain ⟨tb,pb,sb⟩:=hb.ex
 refine ⟨_,NB pa pb,λσ H ρ μ Q Q' rl h k=>sa σ H ρ μ _ _ rl h λx H1 dx μ1 t1 m1 p1 h1=>?_⟩
 cases p1 with
 | bl c=>
  refine ⟨c,rfl,?_⟩
  cases c with
  | true=>exact nU (sb σ H1 ρ μ1 Q Q' (rl.go t1 m1) h1 (k.go t1))
  | false=>exact nY (k _ H1 _ μ1 t1 m1 (.bl _) h1)
 | _=>exact UO h1
theorem Rm (ha:LE X a Ta)(hb:LE X (.BoolOp .Or (b::rest) pos) Tb):LE X (.BoolOp .Or (a::b::rest) pos) (FG Ta Tb):=by
 obtain ⟨ta,pa,sa⟩:=ha.ex
 obtain ⟨tb,pb,sb⟩:=hb.ex
 refine ⟨_,Sv pa pb,λσ H ρ μ Q Q' rl h k=>sa σ H ρ μ _ _ rl h λx H1 dx μ1 t1 m1 p1 h1=>?_⟩
 cases p1 with
 | bl c=>
  refine ⟨c,rfl,?_⟩
  cases c with
  | true=>exact nU (k _ H1 _ μ1 t1 m1 (.bl _) h1)
  | false=>exact nY (sb σ H1 ρ μ1 Q Q' (rl.go t1 m1) h1 (k.go t1))
 | _=>exact UO h1
theorem PB (ha:LE X a Ta):LE X (.UnaryOp .Not a pos) (rG Ta):=by
 obtain ⟨ta,pa,sa⟩:=ha.ex
 refine ⟨_,Oo pa,λσ H ρ μ Q Q' rl h k=>sa σ H ρ μ _ _ rl h λx H1 dx μ1 t1 m1 p1 h1=>?_⟩
 cases p1 with
 | bl c=>exact ⟨c,rfl,k _ H1 _ μ1 t1 m1 (.bl _) h1⟩
 | _=>exact UO h1
theorem ix (hc:LT X c tC')(ha:LE X a Ta)(hb:LE X b Tb):LE X (.IfExp c a b pos) (lA tC' Ta Tb):=by
 obtain ⟨tc,pc,sc⟩:=hc.ex
 obtain ⟨ta,pa,sa⟩:=ha.ex
 obtain ⟨tb,pb,sb⟩:=hb.ex
 refine ⟨_,F4 pc pa pb,λσ H ρ μ Q Q' rl h k=>sc σ H ρ μ _ _ rl h λq H1 μ1 t1 m1 h1=>?_⟩
 cases q with
 | true=>exact nU (sa σ H1 ρ μ1 Q Q' (rl.go t1 m1) h1 (k.go t1))
 | false=>exact nY (sb σ H1 ρ μ1 Q Q' (rl.go t1 m1) h1 (k.go t1))
variable {es:List Ve} {At:ATr}
theorem ai:LA X [] ar:=⟨_,iI,λσ H ρ μ Q Q' rl h k=>k [] H [] μ (.refl H) rl.mu .nil h⟩
theorem aa (ha:LE X e Ta)(hr:LA X es At)(hs:UX (e::es) X.env=(false,V8 e X.env)::UX es X.env:=by rfl):LA X (e::es) (af Ta At):=by
 obtain ⟨ta,pa,sa⟩:=ha.ex
 obtain ⟨tr,pr,sr⟩:=hr.ex
 exact ⟨_,eC pa pr hs,λσ H ρ μ Q Q' rl h k=>sa σ H ρ μ _ _ rl h λx H1 dx μ1 t1 m1 p1 h1=>sr σ H1 ρ μ1 _ _ (rl.go t1 m1) h1 λxs H2 ds μ2 t2 m2 p2 h2=>k _ H2 _ μ2 (t1.trans t2) m2 (.cons (p1.mono t2) p2) h2⟩
theorem cJ {K:UH}{H:Hp}{μ:Mu}{p:Addr}{o:HO}(m:bB K H μ)(hp:H p=none):bB K (L2.upd H p o) μ:=m.keep (.new hp) λa' xs' _ e=>by rw[aM (ba e hp)];exact e
theorem big {n:Nat}(h:n<=1000000):n<=sizeLine:=VA h (by decide)
theorem aQ {x1}(h:LA X es At):LE X (.Tuple es x1 pos) (bf At):=by
 obtain ⟨ta,pa,sa⟩:=h.ex
 refine ⟨_,O0 pa,λσ H ρ μ Q Q' rl h k=>sa σ H ρ μ _ _ rl h λxs H1 ds μ1 t1 m1 p1 h1=>⟨by rw[p1.length];exact big h1.1,λp hp=>?_⟩⟩
 exact k _ _ _ μ1 (t1.trans (.new hp)) (cJ m1 hp) (.tup (SqT.of aK) (p1.mono (.new hp))) h1.2
theorem gJ (h:LA X es At):LE X (.List es pos) (kC At):=by
 obtain ⟨ta,pa,sa⟩:=h.ex
 refine ⟨_,Et pa,λσ H ρ μ Q Q' rl h k=>sa σ H ρ μ _ _ rl h λxs H1 ds μ1 t1 m1 p1 h1=>⟨by rw[p1.length];exact big h1.1,λp hp=>?_⟩⟩
 refine k _ _ _ (up μ1 p (.lst ds)) (t1.trans (.new hp)) (λa o e=>?_) (.obj p) (h1.2 p (m1.free hp))
 by_cases ha:a=p
 ·subst ha
  rw[aF] at e;cases e
  exact ⟨xs,aK,p1.mono (.new hp)⟩
 ·rw[aU ha] at e
  exact cJ m1 hp a o e
def Ay (t:TE):TE:=λσ H Q=>t σ H λv H1=>∃ a xs,v=.ref a/\H1 a=some (.lst xs)/\∀ o,Q v (L2.upd H1 a (.frz o (.lst xs)))
theorem iB {t:TE}(h:PE X e t):PE X e (Ay t):=by
 intro pins s σ H Q I hh
 refine thn (h pins s σ H _ I hh) λu s1 ⟨v,H1,I1,r,a,xs,ev,ea,q⟩=>?_
 obtain ⟨z,its,n,rv,hg⟩:=(show cW X.prog X.w H1 s1.heap a (.lst xs) from I1.hok a _ ea)
 have nl:∀ b o,H1 b=some o->(∀ ys,o≠.lst ys)->b≠a:=λb o e1 e2 z=>by subst z;rw[ea] at e1;cases e1;exact e2 _ rfl
 refine ⟨v,_,I1.un (h':=s1.heap) (t':=s1.toks) (H':=L2.upd H1 a (.frz { cls:=.type "list", data:=.seq its.toArray n } (.lst xs))) ⟨λb o e _ _ _=>e,λb o e _ _ _=>⟨o.slots,e⟩,λb o e n _=>?_,λb o e _=>⟨o,e⟩,λb ys e=>?_,λb o u e=>?_,λb ps e=>⟨#[],?_⟩⟩ (λb u e=>?_),r,q _⟩
 ·rw[aM (λz=>by subst z;rw[ea] at n;cases n)];exact n
 ·rw[aM (nl b _ e (λ_=>nofun))];exact e
 ·rw[aM (nl b _ e (λ_=>nofun))];exact e
 ·rw[aM (nl b _ e (λ_=>nofun)),e];simp
 ·by_cases hb:b=a
  ·subst hb
   rw[aK] at e;cases e
   exact ⟨hg,z,its,n,rv,hg⟩
  ·rw[aM hb] at e
   refine (I1.hok b u e).lO (λc w _ q=>q) (λc q=>?_) λc ys q=>?_
   ·rw[aM (nl c _ q (λ_=>nofun))];exact q
   ·rw[aM (nl c _ q (λ_=>nofun))];exact q
theorem cQ (h:LA X es At):LE X (.List es pos) (eM At):=by
 obtain ⟨ta,pa,sa⟩:=h.ex
 refine ⟨_,iB (Et pa),λσ H ρ μ Q Q' rl h k=>sa σ H ρ μ _ _ rl h λxs H1 ds μ1 t1 m1 p1 h1=>⟨by rw[p1.length];exact big h1.1,λp hp=>⟨p,xs,rfl,aK,λo=>?_⟩⟩⟩
 have e:L2.upd (L2.upd H1 p (.lst xs)) p (.frz o (.lst xs))=L2.upd H1 p (.frz o (.lst xs)):=uc
 rw[e]
 exact k _ _ _ μ1 (t1.trans (.new hp)) (cJ m1 hp) (.ls (.inl ⟨o,aK⟩) (p1.mono (.new hp))) h1.2
end
end
section
open PySem PySem.Spec PyProof.Rows L2
mutual
def toP:D->PyData
 | .non=>.none
 | .bl b=>.bool b
 | .int i=>.int i
 | .str x=>.str x
 | .tup ds=>.tuple (kH ds)
 | .ls ds=>.list (kH ds)
 | .ty _=>.none
 | .obj _=>.none
def kH:List D->List PyData
 | []=>[]
 | d::r=>toP d::kH r
end
mutual
theorem iV:∀ (n:Nat) (d:D),okD n d=true->(toP d).canLay0=true/\(toP d).depth<=n
 | n,.non,_=>⟨rfl,Wj _⟩
 | n,.bl b,_=>⟨rfl,Wj _⟩
 | n,.int i,_=>⟨rfl,Wj _⟩
 | n,.str x,h=>⟨by cases n<;>exact h,Wj _⟩
 | n+1,.tup ds,h=>by
  obtain ⟨h1,h2⟩:=qY n ds h
  exact ⟨h1,ZJ h2⟩
 | n+1,.ls ds,h=>by
  obtain ⟨h1,h2⟩:=qY n ds h
  exact ⟨h1,ZJ h2⟩
 | 0,.tup ds,h=>by cases h
 | 0,.ls ds,h=>by cases h
 | n,.ty _,h=>by cases n<;>cases h
 | n,.obj _,h=>by cases n<;>cases h
theorem qY:∀ (n:Nat) (ds:List D),cY n ds=true->zbx (kH ds)=true/\zcg (kH ds)<=n
 | n,[],_=>⟨rfl,Wj _⟩
 | n,d::r,h=>by
  have h':okD n d=true/\cY n r=true:=by simpa[cY] using h
  obtain ⟨a1,a2⟩:=iV n d h'.1
  obtain ⟨b1,b2⟩:=qY n r h'.2
  refine ⟨?_,?_⟩
  ·show (zct (toP d)&&zbx (kH r))=true
   rw[a1,b1];rfl
  ·show max (PyData.depth (toP d)) (zcg (kH r))<=n
   exact Nat.max_le.mpr ⟨a2,b2⟩
end
theorem str_beq (a b:Str):(a == b)=decide (a=b):=by
 by_cases h:a=b
 ·subst h;simp
 ·rw[decide_eq_false h];exact beq_eq_false_iff_ne.mpr h
mutual
theorem oF:∀ (n m:Nat) (a b:D),okD n a=true->okD m b=true->W9 (toP a) (toP b)=eqD a b
 | n,m,.non,b,_,hb=>by cases b<;>first | rfl | (cases m<;>cases hb)
 | n,m,.bl x,b,_,hb=>by
  cases b with
  | int y=>simp only[toP,W9,eqD];rw[Yz]
  | ty _=>cases m<;>cases hb
  | obj _=>cases m<;>cases hb
  | _=>rfl
 | n,m,.int x,b,_,hb=>by
  cases b with
  | int y=>simp only[toP,W9,eqD];rw[Yz]
  | bl y=>simp only[toP,W9,eqD];rw[Yz]
  | ty _=>cases m<;>cases hb
  | obj _=>cases m<;>cases hb
  | _=>rfl
 | n,m,.str x,b,_,hb=>by
  cases b with
  | str y=>simp only[toP,W9,eqD];exact str_beq x y
  | ty _=>cases m<;>cases hb
  | obj _=>cases m<;>cases hb
  | _=>rfl
 | n+1,m,.tup xs,b,ha,hb=>by
  cases b with
  | tup ys=>
   cases m with
   | zero=>cases hb
   | succ m=>simp only[toP,W9,eqD];exact o6 n m xs ys ha hb
  | ty _=>cases m<;>cases hb
  | obj _=>cases m<;>cases hb
  | _=>rfl
 | n+1,m,.ls xs,b,ha,hb=>by
  cases b with
  | ls ys=>
   cases m with
   | zero=>cases hb
   | succ m=>simp only[toP,W9,eqD];exact o6 n m xs ys ha hb
  | ty _=>cases m<;>cases hb
  | obj _=>cases m<;>cases hb
  | _=>rfl
 | 0,_,.tup ds,_,h,_=>by cases h
 | 0,_,.ls ds,_,h,_=>by cases h
 | n,_,.ty _,_,h,_=>by cases n<;>cases h
 | n,_,.obj _,_,h,_=>by cases n<;>cases h
theorem o6:∀ (n m:Nat) (a b:List D),cY n a=true->cY m b=true->Zz (kH a) (kH b)=nS a b
 | _,_,[],[],_,_=>rfl
 | _,_,[],_::_,_,_=>by simp[kH,Zz,nS]
 | _,_,_::_,[],_,_=>by simp[kH,Zz,nS]
 | n,m,a::r,b::s,ha,hb=>by
  have ha':okD n a=true/\cY n r=true:=by simpa[cY] using ha
  have hb':okD m b=true/\cY m s=true:=by simpa[cY] using hb
  show (W9 (toP a) (toP b)&&Zz (kH r) (kH s))=(eqD a b&&nS r s)
  rw[oF n m a b ha'.1 hb'.1,o6 n m r s ha'.2 hb'.2]
end
section
variable {X:Cx} {pins:List (Addr×Obj)} {σ:L2.St} {H:Hp} {s:UN}
mutual
theorem fc (I:Inv X pins σ H s):∀ {n:Nat} {v:V} {d:D} {u:UK},Dp X.K H v d->okD n d=true->RelV v u->∃ as,Reads s.heap u (toP d) as
 | n,_,_,u,.non,_,r=>by cases (show u=WM from r);exact ⟨_,.none⟩
 | n,_,_,u,.bl b,_,r=>by cases (show u=Y7 b from r);exact ⟨_,.bool b⟩
 | n,_,_,u,.int i,_,r=>by obtain ⟨t,e⟩:=(show ∃ t,u=Yc i t from r);subst e;exact ⟨_,.int i t⟩
 | n,_,_,u,.str x,_,r=>by obtain ⟨t,e⟩:=(show ∃ t,u=Y6 x t from r);subst e;exact ⟨_,.str x t⟩
 | n,_,_,u,.ty _,h,_=>by cases n<;>cases h
 | n+1,_,_,u,@Dp.tup _ _ a xs ds q l,h,r=>by
  cases (show u=Vs a from r)
  obtain ⟨its,rv,⟨o,e1,e2,k,e3⟩,_⟩:=I.tuple q
  obtain ⟨as,ra⟩:=jn I (n:=n) l h rv
  exact ⟨_,.tuple e1 e2 e3 (by simpa using ra)⟩
 | n+1,_,_,u,@Dp.ls _ _ a xs ds q l,h,r=>by
  cases (show u=Vs a from r)
  obtain ⟨its,rv,⟨o,k,e1,e2,_,e3⟩,_⟩:=I.list q.sq
  obtain ⟨as,ra⟩:=jn I (n:=n) l h rv
  exact ⟨_,.list e1 e2 e3 (by simpa using ra)⟩
 | 0,_,_,u,@Dp.tup _ _ a xs ds q l,h,r=>by cases h
 | 0,_,_,u,@Dp.ls _ _ a xs ds q l,h,r=>by cases h
 | n,_,_,u,.obj _,h,_=>by cases n<;>cases h
theorem jn (I:Inv X pins σ H s):∀ {n:Nat} {vs:List V} {ds:List D} {us:List UK},DpL X.K H vs ds->cY n ds=true->Vals vs us->∃ as,ReadsAll s.heap us (kH ds) as
 | n,_,_,_,.nil,_,.nil=>⟨_,.nil⟩
 | n,_,_,_,@DpL.cons _ _ v d vs ds h l,ho,.cons r rs=>by
  have ho':okD n d=true/\cY n ds=true:=by simpa[cY] using ho
  obtain ⟨as,ra⟩:=fc I h ho'.1 r
  obtain ⟨bs,rb⟩:=jn I l ho'.2 rs
  exact ⟨_,.cons ra rb⟩
end
end
def LF (K:UH)(f:Bool->Bool):R2:=λx y H Q=>∃ dx dy,Dp K H x dx/\Dp K H y dy/\okD 40 dx=true/\okD 40 dy=true/\Q (.bl (f (eqD dx dy))) H
section
variable {X:Cx} {a b c e:Ve} {Ta Tb Tc:ETr} {pos:Pos}
theorem GA (hu:X.A.units+64 < cLine):OpR X (Xf .Eq) (LF X.K id):=λpins s σ H x y v u Q I rx ry ⟨dx,dy,px,py,ox,oy,q⟩=>by
 obtain ⟨as,ra⟩:=fc I px ox rx
 obtain ⟨bs,rb⟩:=fc I py oy ry
 obtain ⟨l1,d1⟩:=iV 40 dx ox
 obtain ⟨l2,d2⟩:=iV 40 dy oy
 exact SeqAt.compareEq_reads ra rb l1 l2 (by have:=zae (toP dx).depth (toP dy).depth;omega) ⟨.bl _,H,I,rfl,by rw[oF 40 40 dx dy ox oy];exact q⟩
theorem NC (hu:X.A.units+64 < cLine):OpR X (Xf .NotEq) (LF X.K not):=λpins s σ H x y v u Q I rx ry ⟨dx,dy,px,py,ox,oy,q⟩=>by
 obtain ⟨as,ra⟩:=fc I px ox rx
 obtain ⟨bs,rb⟩:=fc I py oy ry
 obtain ⟨l1,d1⟩:=iV 40 dx ox
 obtain ⟨l2,d2⟩:=iV 40 dy oy
 exact SeqAt.compareNe_reads ra rb l1 l2 (by have:=zae (toP dx).depth (toP dy).depth;omega) ⟨.bl _,H,I,rfl,by rw[oF 40 40 dx dy ox oy];exact q⟩
theorem GI {K:UH}:gT K (LF K id) rEq:=λH μ x y dx dy Q Q' m px py h k=>⟨dx,dy,px,py,h.1.1,h.1.2,k _ H _ μ (.refl H) m (.bl _) h.2⟩
theorem PD {K:UH}:gT K (LF K not) rNe:=λH μ x y dx dy Q Q' m px py h k=>⟨dx,dy,px,py,h.1.1,h.1.2,k _ H _ μ (.refl H) m (.bl _) h.2⟩
theorem le_eq (hu:X.A.units+64 < cLine)(ha:LE X a Ta)(hb:LE X b Tb):LE X (.Compare a [.Eq] [b] pos) (aj rEq Ta Tb):=oD (GA hu) GI ha hb (fS _)
theorem lt_eq (hu:X.A.units+64 < cLine)(ha:LE X a Ta)(hb:LE X b Tb):LT X (.Compare a [.Eq] [b] pos) (TB (aj rEq Ta Tb)):=gy (GA hu) GI ha hb (fS _)
theorem yD (hu:X.A.units+64 < cLine)(ha:LE X a Ta)(hb:LE X b Tb):LT X (.Compare a [.NotEq] [b] pos) (TB (aj rNe Ta Tb)):=gy (NC hu) PD ha hb (fS _)
theorem Ht {K:UH}:gT K (λx y H Q=>y=.non/\Q (.bl (decide (x=.non))) H) rIs:=λH μ x y dx dy Q Q' m px py h k=>by
 cases py with
 | non=>
  refine ⟨rfl,?_⟩
  cases px with
  | non=>exact k _ H _ μ (.refl H) m (.bl _) h
  | _=>exact k _ H _ μ (.refl H) m (.bl _) h
 | _=>exact UO h
theorem Rj (ha:LE X a Ta)(hb:LE X b Tb):LE X (.Compare a [.Is] [b] pos) (aj rIs Ta Tb):=oD Ip Ht ha hb (fS _)
theorem mP (ha:LE X a Ta)(hb:LE X b Tb):LT X (.Compare a [.Is] [b] pos) (TB (aj rIs Ta Tb)):=gy Ip Ht ha hb (fS _)
theorem Kh {K:UH}:RW K (rU λi=>.int (-i)) JC:=λH μ x dx Q Q' m px h k=>by
 cases px with
 | int i=>exact ⟨i,rfl,k _ H _ μ (.refl H) m (.int _) h⟩
 | _=>exact UO h
theorem le_neg (ha:LE X a Ta):LE X (.UnaryOp .USub a pos) (TUn JC Ta):=QO Qd Kh ha
theorem kq {o:Option D}{f:D->Prop}(h:kO o f):∃ d,o=some d/\f d:=by
 cases o with
 | none=>exact UO h
 | some d=>exact ⟨d,rfl,h⟩
theorem bA {μ:Mu}{a:Addr}{f:List D->Prop}(h:kL μ a f):∃ ds,μ a=some (.lst ds)/\f ds:=by
 unfold kL at h
 cases e:μ a with
 | none=>rw[e] at h;exact UO h
 | some o=>cases o with
  | lst ds=>rw[e] at h;exact ⟨ds,rfl,h⟩
  | _=>rw[e] at h;exact UO h
theorem qf {μ:Mu}{a:Addr}{f:List (Key×D)->Prop}(h:kD μ a f):∃ ds,μ a=some (.dct ds)/\f ds:=by
 unfold kD at h
 cases e:μ a with
 | none=>rw[e] at h;exact UO h
 | some o=>cases o with
  | dct ds=>rw[e] at h;exact ⟨ds,rfl,h⟩
  | _=>rw[e] at h;exact UO h
theorem IU {o:Option Nat}{f:Nat->Prop}(h:kN o f):∃ d,o=some d/\f d:=by
 cases o with
 | none=>exact UO h
 | some d=>exact ⟨d,rfl,h⟩
theorem Pd {K:UH}:gT K (L2.rIx K) L3.rIx:=λH μ x y dx dy Q Q' m px py h k=>by
 cases px with
 | @tup a xs ds q l=>
  cases py with
  | int i=>
   obtain ⟨d,e,h'⟩:=kq h
   obtain ⟨v,e1,p⟩:=l.at e
   exact .inr (.inl ⟨a,xs,i,v,rfl,rfl,q,e1,k _ H _ μ (.refl H) m p h'⟩)
  | _=>exact UO h
 | @ls a xs ds q l=>
  cases py with
  | int i=>
   obtain ⟨d,e,h'⟩:=kq h
   obtain ⟨v,e1,p⟩:=l.at e
   exact .inl ⟨a,xs,i,v,rfl,rfl,q.sq,e1,k _ H _ μ (.refl H) m p h'⟩
  | _=>exact UO h
 | obj a=>
  cases py with
  | int i=>
   obtain ⟨ds,e0,h1⟩:=bA h
   obtain ⟨d,e,h'⟩:=kq h1
   obtain ⟨xs,ex,l⟩:=m a _ e0
   obtain ⟨v,e1,p⟩:=l.at e
   exact .inl ⟨a,xs,i,v,rfl,rfl,SqL.of ex,e1,k _ H _ μ (.refl H) m p h'⟩
  | _=>exact UO h
 | _=>cases py<;>exact UO h
theorem au (ha:LE X a Ta)(hb:LE X b Tb)(hs:CJ b:=by intro _ _;rfl):LE X (.Subscript a b pos) (aj L3.rIx Ta Tb):=by
 obtain ⟨ta,pa,sa⟩:=ha.ex
 obtain ⟨tb,pb,sb⟩:=hb.ex
 exact ⟨_,Sl NI pa pb hs,oJ Pd sa sb⟩
variable {es:List Ve} {At:ATr} {x:Str} {p:Pos} {id T:String}
def ki (K:UH)(r:List V->Hp->VK->Prop)(R:FSp):Prop:=∀ H μ xs ds (Q:DK) (Q':VK),bB K H μ->DpL K H xs ds->R ds μ Q->jx K H Q Q'->r xs H Q'
theorem sI {K:UH}{r:List V->Hp->VK->Prop}{R:FSp}{ta:TA}(hr:ki K r R)(ha:QA K ta At):Sim K (tCB r ta) (aq R At):=λσ H ρ μ Q Q' rl h k=>
 ha σ H ρ μ _ _ rl h λxs H1 ds μ1 t1 m1 p1 h1=>hr H1 μ1 xs ds Q Q' m1 p1 h1 (k.go t1)
theorem aV {r:List V->Hp->VK->Prop}{R:FSp}(hc:b6 X (.builtin id) r)(hr:ki X.K r R)(hg:Gl X x)(hm:X.mg x=none)(hv:Wc x=some (.builtin id))(ha:LA X (e::es) At)(hn:x ≠ "__name__" := by decide)(hdb:(x == ("__debug__" : Str))=false:=by decide)
  (h1:UX (e::es) X.env=(false,V8 e X.env)::UX es X.env:=by rfl) (h2:(Wu pos (UX es X.env)).any (·.1)=false:=by rfl):LE X (.Call (.Name x p) (e::es) [] pos) (aq R At):=by
 obtain ⟨ta,pa,sa⟩:=ha.ex
 exact ⟨_,lM hc hg hm hv pa hn hdb h1 h2,sI hr sa⟩
theorem aY {r:List V->Hp->VK->Prop}{R:FSp}(hc:b6 X (.type T) r)(hr:ki X.K r R)(hg:Gl X x)(hm:X.mg x=none)(hv:Wc x=some (.type T))(ha:LA X (e::es) At)(hn:x ≠ "__name__" := by decide)(hdb:(x == ("__debug__" : Str))=false:=by decide)
  (h1:UX (e::es) X.env=(false,V8 e X.env)::UX es X.env:=by rfl) (h2:(Wu pos (UX es X.env)).any (·.1)=false:=by rfl):LE X (.Call (.Name x p) (e::es) [] pos) (aq R At):=by
 obtain ⟨ta,pa,sa⟩:=ha.ex
 exact ⟨_,tU hc hg hm hv pa hn hdb h1 h2,sI hr sa⟩
theorem M8 {n:String}(hg:Gl X x)(hm:X.mg x=none)(hv:Wc x=some (.type n))(hn:x ≠ "__name__" := by decide)(hd:(x == ("__debug__" : Str))=false:=by decide):LE X (.Name x pos) (TC (.ty n)):=
 ⟨_,CD hg hm hv (v:=.ty n) rfl hn hd,λσ H ρ μ Q Q' r h k=>k _ H _ μ (.refl H) r.mu (.ty n) h⟩
theorem uu {K:UH}:ki K (λxs H Q=>∃ i,xs=[.int i]/\Q (.int (if i < 0 then -i else i)) H) xw:=λH μ xs ds Q Q' m p h k=>by
 unfold xw at h
 split at h
 ·cases p with | cons p1 p2=>cases p2;cases p1;exact ⟨_,rfl,k _ H _ μ (.refl H) m (.int _) h⟩
 ·exact UO h
theorem xc {K:UH}:ki K (λxs H Q=>∃ i j,xs=[.int i,.int j]/\Q (.int (if j > i then j else i)) H) tW:=λH μ xs ds Q Q' m p h k=>by
 unfold tW at h
 split at h
 ·cases p with | cons p1 p2=>cases p2 with | cons p2 p3=>cases p3;cases p1;cases p2;exact ⟨_,_,rfl,k _ H _ μ (.refl H) m (.int _) h⟩
 ·exact UO h
theorem Hz {K:UH}:ki K (λxs H Q=>∃ i j,xs=[.int i,.int j]/\Q (.int (if j < i then j else i)) H) sL:=λH μ xs ds Q Q' m p h k=>by
 unfold sL at h
 split at h
 ·cases p with | cons p1 p2=>cases p2 with | cons p2 p3=>cases p3;cases p1;cases p2;exact ⟨_,_,rfl,k _ H _ μ (.refl H) m (.int _) h⟩
 ·exact UO h
theorem Cu {K:UH}:ki K (λxs H Q=>(∃ i,xs=[.int i]/\Q (.int i) H)∨∃ k,xs=[.bl k]/\Q (.int (if k then 1 else 0)) H) ya:=λH μ xs ds Q Q' m p h k=>by
 unfold ya at h
 split at h
 ·cases p with | cons p1 p2=>cases p2;cases p1;exact .inl ⟨_,rfl,k _ H _ μ (.refl H) m (.int _) h⟩
 ·cases p with | cons p1 p2=>cases p2;cases p1;exact .inr ⟨_,rfl,k _ H _ μ (.refl H) m (.int _) h⟩
 ·exact UO h
theorem b6.or {f:UK}{r r':List V->Hp->VK->Prop}(h:b6 X f r)(h':b6 X f r'):b6 X f (λxs H Q=>r xs H Q∨r' xs H Q):=λpins s σ H xs us Q I rx q=>by
 rcases q with q | q
 ·exact h pins s σ H xs us Q I rx q
 ·exact h' pins s σ H xs us Q I rx q
theorem bx {K:UH}:ki K (λxs H Q=>(∃ p ys,xs=[.ref p]/\(SqL K H p ys∨SqT K H p ys)/\Q (.int ys.length) H)∨∃ z,xs=[.str z]/\z.length<=sizeLine/\Q (.int z.length) H) cS:=λH μ xs ds Q Q' m p h k=>by
 unfold cS at h
 split at h
 ·cases p with | cons p1 p2=>cases p2;cases p1 with | tup q l=>exact .inl ⟨_,_,rfl,.inr q,k _ H _ μ (.refl H) m (by rw[l.length];exact .int _) h⟩
 ·cases p with | cons p1 p2=>cases p2;cases p1 with | ls q l=>exact .inl ⟨_,_,rfl,.inl q.sq,k _ H _ μ (.refl H) m (by rw[l.length];exact .int _) h⟩
 ·cases p with | cons p1 p2=>cases p2;cases p1;exact .inr ⟨_,rfl,big h.1,k _ H _ μ (.refl H) m (.int _) h.2⟩
 ·rename_i a
  cases p with | cons p1 p2=>
  cases p2;cases p1
  obtain ⟨ys,e0,h⟩:=bA h
  obtain ⟨xs,ex,l⟩:=m a _ e0
  exact .inl ⟨_,_,rfl,.inl (SqL.of ex),k _ H _ μ (.refl H) m (by rw[l.length];exact .int _) h⟩
 ·exact UO h
theorem aZ:b6 X (.builtin "len") (λxs H Q=>(∃ p ys,xs=[.ref p]/\(SqL X.K H p ys∨SqT X.K H p ys)/\Q (.int ys.length) H)∨∃ z,xs=[.str z]/\z.length<=sizeLine/\Q (.int z.length) H):=b6.or vg uO
end
end
section
open PySem PySem.Spec PyProof.Rows L2
def tys:List String:=["NoneType", "bool", "int", "str", "tuple", "list"]
def qA:List String:=["bool", "int", "str", "tuple", "list", "dict"]
theorem ur (K:UH):∀ t∈tys,∀ c∈qA,zcu K (.type t) (.type c)=some (de t c):=by
 intro t ht c hc
 simp only[tys,UZ,Vr,or_false] at ht
 simp only[qA,UZ,Vr,or_false] at hc
 rcases ht with rfl | rfl | rfl | rfl | rfl | rfl<;>rcases hc with rfl | rfl | rfl | rfl | rfl | rfl<;>with_unfolding_all rfl
theorem He {d:D}{t:String}(h:tyD d=some t):t∈tys:=by
 cases d<;>simp[tyD] at h<;>subst h<;>decide
def M4 (K:UH):List V->Hp->VK->Prop:=λxs H Q=>∃ x d t c,xs=[x,.ty c]/\Dp K H x d/\tyD d=some t/\c∈qA/\Q (.bl (de t c)) H
theorem Hm {X:Cx}:b6 X (.builtin "isinstance") (M4 X.K):=λpins s σ H xs us Q I rx ⟨x,d,t,c,ex,px,et,hc,q⟩=>by
 subst ex
 cases rx with | @cons _ u _ _ r1 r2=>cases r2 with | cons r2 r3=>
 cases r3
 cases (show _=ZX c from r2)
 have e:=ur X.K t (He et) c hc
 have fin:∀ tk,EP X pins σ Q (.bool (de t c)) { s with toks:=tk }:=λtk=>⟨.bl _,H,I.tok tk,rfl,q⟩
 cases px with
 | non=>cases et;cases (show u=WM from r1);exact WN zby I.kIn VP e (λz=>nomatch z) fin
 | bl y=>cases et;cases (show u=Y7 y from r1);exact WN zbz I.kIn VP e (λz=>nomatch z) fin
 | int i=>cases et;obtain ⟨t,z⟩:=(show ∃ t,u=Yc i t from r1);cases z;exact WN zbV I.kIn VP e (λz=>nomatch z) fin
 | str y=>cases et;obtain ⟨t,z⟩:=(show ∃ t,u=Y6 y t from r1);cases z;exact WN zbW I.kIn VP e (λz=>nomatch z) fin
 | ty _=>cases et
 | obj _=>cases et
 | @tup a xs ds sq l=>
  cases et
  cases (show u=Vs a from r1)
  obtain ⟨its,_,⟨o,h1,h2,_⟩,_⟩:=I.tuple sq
  exact WN zbg I.kIn ⟨o,h1,h2⟩ e (λz=>nomatch z) fin
 | @ls a xs ds sq l=>
  cases et
  cases (show u=Vs a from r1)
  obtain ⟨its,_,⟨o,n,h1,h2,_⟩,_⟩:=I.list sq.sq
  exact WN Zm I.kIn ⟨o,h1,h2⟩ e (λz=>nomatch z) fin
section
variable {X:Cx} {a b c e tg o:Ve} {Ta Tb Tc:ETr} {pos:Pos} {es:List Ve} {At:ATr} {x:Str} {p:Pos} {id T:String} {st:Stmt} {rest:List Stmt} {T1 T2:STr} {tA:TTr}
theorem a6:LSs X [] a8:=⟨_,Mo,λσ H ρ μ E E' rl h k=>k.nx _ _ _ _ (.refl H) rl h⟩
theorem ak (h1:LS X st T1)(h2:LSs X rest T2):LSs X (st::rest) (aB T1 T2):=by
 obtain ⟨t1,p1,s1⟩:=h1.ex
 obtain ⟨t2,p2,s2⟩:=h2.ex
 exact ⟨_,Gk p1 p2,λσ H ρ μ E E' rl h k=>s1 σ H ρ μ _ _ rl h ⟨λσ' H' ρ' μ' t' r' q=>s2 σ' H' ρ' μ' E E' r' q (k.go t'),k.rt,k.bk,k.ct⟩⟩
theorem ax (h1:LS X st T1):LSs X [st] T1:=by
 obtain ⟨t1,p1,s1⟩:=h1.ex
 exact ⟨_,Mk p1,s1⟩
theorem cU (he:LE X e Ta)(hs:Xd e none pos.line X.env=pure false:=by rfl):LS X (.Expr e pos) (d8 Ta):=by
 obtain ⟨ta,pa,sa⟩:=he.ex
 exact ⟨_,Lu pa hs,λσ H ρ μ E E' rl h k=>sa σ H ρ μ _ _ rl h λv H' d μ' t' m' p' h'=>k.nx _ _ _ _ t' (rl.go t' m') h'⟩
theorem aE (he:LE X e Ta):LS X (.Return (some e) pos) (aW Ta):=by
 obtain ⟨ta,pa,sa⟩:=he.ex
 exact ⟨_,Og pa,λσ H ρ μ E E' rl h k=>sa σ H ρ μ _ _ rl h k.rt⟩
theorem bN {sa sb:List Stmt}(hc:LT X c tA)(ha:LSs X sa T1)(hb:LSs X sb T2):LS X (.If c sa sb pos) (bK tA T1 T2):=by
 obtain ⟨tc,pc,sc⟩:=hc.ex
 obtain ⟨t1,p1,s1⟩:=ha.ex
 obtain ⟨t2,p2,s2⟩:=hb.ex
 refine ⟨_,Rb pc p1 p2,λσ H ρ μ E E' rl h k=>sc σ H ρ μ _ _ rl h λq H1 μ1 t1' m1 h1=>?_⟩
 cases q with
 | true=>exact nU (s1 σ H1 ρ μ1 E E' (rl.go t1' m1) h1 (k.go t1'))
 | false=>exact nY (s2 σ H1 ρ μ1 E E' (rl.go t1' m1) h1 (k.go t1'))
theorem hV {K:UH}(i:Nat):QK K (l4 i) (aw i):=λσ H ρ μ v d k k' rl p h q=>q _ _ _ _ (.refl H) (rl.set p i) h
theorem fZ (i:Nat)(hN:X.N.Nodup)(hi:X.N[i]? = some x:=by rfl)(hx:Loc X.env.scope x:=by first | exact Yt rfl | exact Yu rfl)(hf:X.fn x=true∨X.env.scope.names.lookup x=some .local:=by first | exact .inl rfl | exact .inr rfl | assumption):LG X (.Name x pos) (aw i):=
 ⟨_,ir hN hi hx hf,hV i⟩
theorem aC (i:Nat){pos':Pos}(hN:X.N.Nodup)(he:LE X e Ta)(hi:X.N[i]? = some x:=by rfl)(hx:Loc X.env.scope x:=by first | exact Yt rfl | exact Yu rfl)(hs:Xd e (some (.Name x pos')) pos.line X.env=pure false:=by rfl)
  (hf:X.fn x=true∨X.env.scope.names.lookup x=some .local:=by first | exact .inl rfl | exact .inr rfl | assumption):LS X (.Assign [.Name x pos'] e pos) (aN Ta (aw i)):=by
 obtain ⟨ta,pa,sa⟩:=he.ex
 exact ⟨_,NO hN hi hx pa hs hf,λσ H ρ μ E E' rl h k=>sa σ H ρ μ _ _ rl h λv H' d μ' t' m' p' h'=>hV i σ H' ρ μ' v d _ _ (rl.go t' m') p' h' (k.go t').nx⟩
theorem uQ (i j:Nat){y:Str}{px py pt:Pos}{kt k2 pt2}(hc:X.calm=true)(hN:X.N.Nodup)(ha:LA X [a,b] At)(hi:X.N[i]? = some x:=by rfl)(hj:X.N[j]? = some y:=by rfl)(hij:i≠j:=by decide)
  (hx:X.env.scope.names.lookup x=some .local:=by rfl) (hy:X.env.scope.names.lookup y=some .local:=by rfl)
  (hw:Zv [.Tuple [.Name x px,.Name y py] kt pt] (.Tuple [a,b] k2 pt2) X.env=pure (some [x,y]):=by rfl)
  (hs:Zu [.Tuple [.Name x px,.Name y py] kt pt] (.Tuple [a,b] k2 pt2) pos.line X.env=pure false:=by rfl) :
  LS X (.Assign [.Tuple [.Name x px,.Name y py] kt pt] (.Tuple [a,b] k2 pt2) pos) (qG i j At):=by
 obtain ⟨ta,pa,sa⟩:=ha.ex
 refine ⟨_,Pz hc hN hi hj hij hx hy pa hw hs,λσ H ρ μ E E' rl h k=>sa σ H ρ μ _ _ rl h λvs H' ds μ' t' m' p' h'=>?_⟩
 unfold L3.k2 at h'
 split at h'
 ·rename_i dv dw
  cases p' with | cons p1 p2=>cases p2 with | cons p2 p3=>
  cases p3
  exact ⟨_,_,rfl,k.nx _ _ _ _ t' (((rl.go t' m').set p1 i).set p2 j) h'⟩
 ·exact UO h'
theorem qK {body:List Stmt}(hp:zbQ (Vb X.prog X.w) X.A X.env X.xe)(hc:LT X c tA)(hb:LSs X body T1):LS X (.While c body [] pos) (uV tA T1):=by
 obtain ⟨tc,pc,sc⟩:=hc.ex
 obtain ⟨t1,p1,s1⟩:=hb.ex
 refine ⟨_,FV hp pc p1,λσ H ρ μ E E' rl h k=>?_⟩
 obtain ⟨P,m,h0,hs⟩:=h
 refine ⟨λn σ' H'=>∃ ρ' μ',Tk H H'/\Rl X.K σ' H' ρ' μ'/\P ρ' μ'/\n=m ρ' μ',⟨_,ρ,μ,.refl H,rl,h0,rfl⟩,?_⟩
 rintro n σ1 H1 ⟨ρ1,μ1,t1',rl1,hP,rfl⟩
 refine sc σ1 H1 ρ1 μ1 _ _ rl1 (hs ρ1 μ1 hP) λq H2 μ2 t2 m2 h2=>?_
 have t12:=t1'.trans t2
 cases q with
 | true=>
  refine nU ⟨λσ' H'=>∃ ρ' μ',Tk H H'/\Rl X.K σ' H' ρ' μ'/\P ρ' μ'/\m ρ' μ' < m ρ1 μ1,λσ' H' ⟨ρ',μ',a1,a2,a3,a4⟩=>⟨_,a4,ρ',μ',a1,a2,a3,rfl⟩,?_⟩
  have h2':=h2
  refine s1 σ1 H2 ρ1 μ2 _ _ (rl1.go t2 m2) h2' ⟨λσ' H' ρ' μ' t' r' q=>⟨ρ',μ',t12.trans t',r',q.1,q.2⟩,(k.go t12).rt,(k.go t12).nx,λσ' H' ρ' μ' t' r' q=>⟨ρ',μ',t12.trans t',r',q.1,q.2⟩⟩
 | false=>exact nY (k.nx _ _ _ _ t12 (rl1.go t2 m2) h2)
theorem nF (lo:Int)(n:Nat):cB lo (n+1)=.int lo::cB (lo+1) n:=by
 unfold cB
 rw[Yv]
 rw[UT,UR]
 congr 1
 ·simp
 ·refine Vf λi _=>?_
  show D.int _=D.int _
  congr 1
  show lo+((i+1:Nat):Int)=lo+1+(i:Int)
  omega
end
def lift (K:UH)(sp:FSp):Sp:=λvs H Q _=>∃ ds μ QQ,DpL K H vs ds/\bB K H μ/\sp ds μ QQ/\jx K H QQ Q
def RT (Q:DK):DK:=λd μ'=>∃ μ,Sub μ μ'/\Q d μ
def ini (n:Nat)(ds:List D):ST:=ds.map some++Ww (n - ds.length) none
theorem Ou:∀ (ds:List D) (n i:Nat) (d:D),lk (ini n ds) i=some d->ds[i]? = some d:=by
 intro ds
 have rep:∀ m i (d:D),lk (Ww m none) i=some d->False:=by
  intro m
  induction m with
  | zero=>intro i d h;cases i<;>cases h
  | succ m ih=>intro i d h;cases i with
   | zero=>cases h
   | succ i=>exact ih i d h
 have gen:∀ (ds:List D) m i d,lk (ds.map some++Ww m none) i=some d->ds[i]? = some d:=by
  intro ds
  induction ds with
  | nil=>intro m i d h;exact (rep m i d h).elim
  | cons x r ih=>intro m i d h;cases i with
   | zero=>simpa[lk] using h
   | succ i=>simpa using ih m i d h
 exact λn i d h=>gen ds _ i d h
section
variable {P:Vn} {w:VB} {K:UH} {mg:Str->Option UK} {base:Heap}
theorem HP {x qual:Str}{st:Stmt}{f:Addr}{fd:U8}{N ps:List Str}{k:Nat}{sp:FSp}{T:STr}(F:Fun K x qual st f fd)(S:aH N ps (av st))(len:∀ ds μ Q,sp ds μ Q->ds.length=ps.length)
  (hb:∀ (cdv:UK) (A:VX) (outer:List Env) (s:UN) (H:Hp) (E:XK),fY k (A.deeper (Zb qual (av st) s.heap.objs.size f cdv))->
   LSs (wO CX0 P w K mg base N qual (av st) f cdv A outer s H E).nox (gD st) T)
  (hr:∀ ds μ Q,sp ds μ Q->T { nx:=λ_ μ'=>RT Q .non μ',rt:=RT Q } (ini N.length ds) μ):jb P w K mg base CX0 (k+1) f fd ps (lift K sp):=by
 refine F.ok S (λvs H Q E h=>?_) (λcdv A outer s H vs Q E hroom h=>?_)
 ·obtain ⟨ds,μ,QQ,l,m,h1,k⟩:=h
  rw[l.length];exact len ds μ QQ h1
 ·obtain ⟨ds,μ,QQ,l,m,h1,k⟩:=h
  obtain ⟨t,pt,stt⟩:=(hb cdv A outer s H E hroom).ex
  have hl:vs.length=ds.length:=l.length
  refine ⟨t,pt,stt (L2.start N vs) H (ini N.length ds) μ _ _ ⟨?_,λi d e=>?_,m⟩ (hr ds μ QQ h1) ⟨λσ' H' ρ' μ' t' r' q=>?_,λv H' d μ' t' m' p' q=>?_,λ_ _ _ _ _ _ q=>q,λ_ _ _ _ _ _ q=>q⟩⟩
  ·unfold ini L2.start;simp[hl]
  ·have e':=Ou ds _ i d e
   obtain ⟨v,e1,p⟩:=l.get e'
   refine ⟨v,?_,p⟩
   unfold L2.start
   have hi:i < vs.length:=(Vh.mp e1).1
   rw[XT (by simpa using hi),Wx,e1]
   rfl
  ·obtain ⟨μ2,s2,q2⟩:=q
   exact k _ _ _ μ2 t' (r'.mu.sub s2) .non q2
  ·obtain ⟨μ2,s2,q2⟩:=q
   exact k _ _ _ μ2 t' (m'.sub s2) p' q2
end
section
variable {X:Cx} {k:Nat} {f:Addr} {fd:U8} {ps:List Str} {sp:FSp} {x:Str} {p pos:Pos} {e:Ve} {es:List Ve} {At:ATr}
theorem BP (F:jb X.prog X.w X.K X.mg X.base CX0 k f fd ps (lift X.K sp))(hr:fY k X.A)(hg:Gl X x)(hm:X.mg x=some (.ref f))(hk:Yp X.K (.ref f)=true)(hb:Binds X.K fd ps [])
  (ha:LA X (e::es) At) (hdb:(x == ("__debug__" : Str))=false:=by decide) (he:UX (e::es) X.env=(false,V8 e X.env)::UX es X.env:=by rfl) (hpl:(Wu pos (UX es X.env)).any (·.1)=false:=by rfl) :
  LE X (.Call (.Name x p) (e::es) [] pos) (aq sp At):=by
 obtain ⟨ta,pa,sa⟩:=ha.ex
 refine ⟨_,K2 F hr hg hm hk hb .nil So pa hdb he hpl,λσ H ρ μ Q Q' rl h k=>sa σ H ρ μ _ _ rl h λxs H1 ds μ1 t1 m1 p1 h1=>?_⟩
 rw[Vk]
 exact ⟨ds,μ1,Q,p1,m1,h1,k.go t1⟩
end
end
section
open PySem PySem.Spec PyProof.Rows L2
theorem DpL.ints {K:UH}{H:Hp}:∀ ns:List Int,DpL K H (ns.map V.int) (ns.map D.int)
 | []=>.nil
 | n::r=>.cons (.int n) (DpL.ints r)
theorem SqF.only {K:UH}{H:Hp}{a:Addr}{xs:List V}(hO:KO H)(h:SqL K H a xs):SqF K H a xs:=by
 rcases h with (h | h) | h
 ·rcases hO a with z | ⟨o,ys,z⟩
  ·rw[h] at z;cases z
  ·rw[h] at z;cases z
 ·exact .inl h
 ·exact .inr h
theorem Sg {l:zad}{k:Nat}{q:Vn}{loose:List Str}{XP:(Str->Option UK)->Heap->Prop}{YP:VB->Heap->Prop}{d:DefRec}{K:zcr->UH}{sp:FSp}{x:Str}
  (hn:l.most=some 63) (hdf:d.params.defaults=[]) (hr:fY k Z4) (hY:∀ (w:VB) (h:Heap),YP w h->(K w.params).In h)
  (hl:∀ ns:List Int,ns.length<=63->∀ μ,sp [.ls (ns.map .int)] μ (λd _=>d=.bl true))
  (F:∀ (w:VB) (mg:Str->Option UK) (fa:Addr) (h:Heap),(K w.params).In h->h.Ns Wo mg->mg d.name=some (.ref fa)->
   ∃ fd:U8,(∀ (s:UN) (u:UK),zbs s fd ⟨[u],[]⟩ [(x,u)])/\∀ base:Heap,(K w.params).In base->base.Ns Wo mg->jb l.prog w (K w.params) mg base CX0 k fa fd [x] (lift (K w.params) sp)) :
  zcI q loose XP YP l.row.toRowW d [] (λf vs=>zcs f vs):=
 L2.LB (n:=63) (k:=k) (x:=x) (CX:=λ_=>CX0) (sp:=λw=>lift (K w.params) sp) hn (by decide) hdf hr hY F
  (λw H a ns hl' hO hS=>⟨[.ls (ns.map .int)],λ_=>none,_,.cons (.ls (.only hO hS) (.ints ns)) .nil,(λa o e=>by cases e),hl ns hl' _,λv H' d μ' _ _ p e=>by
   have e':d=.bl true:=e
   subst e'
   cases p;rfl⟩) λ_ _ _ _ _ z=>z
end
section
open PySem PySem.Spec PyProof.Rows L2
def scB (N P:List Str)(sc:Scope):Bool:=decide N.Nodup&&decide (∀ x∈P,sc.names.lookup x=some .local∨sc.names.lookup x=some .cell)&&decide (∀ y∈sc.names,y.2≠.free)
theorem Sk {N P:List Str}{sc:Scope}(h1:sc.kind=.function)(h2:sc.isCoroutine=false)(h3:sc.isGenerator=false)(h4:N.take P.length=P)(h:scB N P sc=true):aH N P sc:=by
 unfold scB at h
 rw[Vj,Vj] at h
 exact ⟨h1,h2,h3,of_decide_eq_true h.1.1,h4,of_decide_eq_true h.1.2,of_decide_eq_true h.2⟩
structure aP (P:Vn) (w:VB) (K:UH) (mg:Str->Option UK) (base:Heap) (k:Nat) (x:Str) (ps:List Str) (sp:FSp):Prop where
 ex:∃ f fd,jb P w K mg base CX0 k f fd ps (lift K sp)/\mg x=some (.ref f)/\Yp K (.ref f)=true/\Binds K fd ps []
section
variable {P:Vn} {w:VB} {K:UH} {mg:Str->Option UK} {base:Heap}
theorem aI {x qual:Str}{st:Stmt}{f:Addr}{fd:U8}{N ps:List Str}{k:Nat}{sp:FSp}{T:STr}(m:mg x=some (.ref f))(F:Fun K x qual st f fd)(S:aH N ps (av st))(len:∀ ds μ Q,sp ds μ Q->ds.length=ps.length)
  (hr:∀ ds μ Q,sp ds μ Q->T { nx:=λ_ μ'=>RT Q .non μ',rt:=RT Q } (ini N.length ds) μ)
  (b:∀ (kV doc pm:UK) (an:Option Addr) (cdv ct:UK) (us:List UK),us.length=ps.length->bindArgs (XQ x qual (lF st) (gD st) (av st) .none kV doc pm an cdv ct) ⟨us,[]⟩=pure (ps.zip us))
  (hb:∀ (cdv:UK) (A:VX) (outer:List Env) (s:UN) (H:Hp) (E:XK),fY k (A.deeper (Zb qual (av st) s.heap.objs.size f cdv))->(A.deeper (Zb qual (av st) s.heap.objs.size f cdv)).units+64 < cLine->
   LSs (wO CX0 P w K mg base N qual (av st) f cdv A outer s H E).nox (gD st) T):aP P w K mg base (k+1) x ps sp:=
 ⟨f,fd,HP F S len (λcdv A outer s H E h=>hb cdv A outer s H E h h.units) hr,m,F.kp,F.binds b⟩
end
theorem ao {X:Cx}{k n:Nat}{x:Str}{ps:List Str}{sp:FSp}{e:Ve}{es:List Ve}{At:ATr}{p pos:Pos}(C:aP X.prog X.w X.K X.mg X.base k x ps sp)(hr:fY n X.A)(hg:Gl X x)
  (ha:LA X (e::es) At) (hle:k<=n:=by decide) (hdb:(x == ("__debug__" : Str))=false:=by decide) (he:UX (e::es) X.env=(false,V8 e X.env)::UX es X.env:=by rfl) (hpl:(Wu pos (UX es X.env)).any (·.1)=false:=by rfl) :
  LE X (.Call (.Name x p) (e::es) [] pos) (aq sp At):=by
 obtain ⟨f,fd,F,m,kp,b⟩:=C.ex
 exact BP F (hr.mono hle) hg m kp b ha hdb he hpl
end
section
open PySem PySem.Spec PyProof.Rows L2
def a5 (X:Cx)(scope:Scope)(Nc:List Str)(cl:List (Str×Addr))(C:Addr)(s₀:UN)(H₀:Hp)(ex:List Addr):Cx:=
 { X with env:=zcv scope cl C X.env,N:=Nc,s₀:=s₀,H₀:=H₀,outer:=X.stack,ex:=ex,fn:=λ_=>false,pn:=[] }
theorem zc {scope:Scope}{env:Env}(h:∀ y∈scope.names,y.2=.free->∃ c,env.cells.lookup y.1=some c) :
  ∃ cl,closureFor scope env=pure cl/\(∀ x c,cl.lookup x=some c->env.cells.lookup x=some c)/\∀ y∈scope.names,y.2=.free->∃ c,cl.lookup y.1=some c:=by
 have gen:∀ (ns:List (Str×YK)) (cs:List (Str×Addr)),(∀ y∈ns,y.2=.free->∃ c,env.cells.lookup y.1=some c)->(∀ x c,cs.lookup x=some c->env.cells.lookup x=some c)->
   ∃ cl,(forIn ns cs λx r=>if (x.2 == WI)=true then do let c ← cellOf env x.1;pure (WO ((x.1,c)::r)) else pure (WO r):Sem _)=pure cl/\(∀ x c,cl.lookup x=some c->env.cells.lookup x=some c)/\
    (∀ x,(cs.lookup x).isSome=true->(cl.lookup x).isSome=true)/\∀ y∈ns,y.2=.free->∃ c,cl.lookup y.1=some c:=by
  intro ns
  induction ns with
  | nil=>intro cs _ h2;exact ⟨cs,rfl,h2,λ_ z=>z,λ_ z=>nomatch z⟩
  | cons y r ih=>
   intro cs h1 h2
   obtain ⟨n,k⟩:=y
   by_cases hk:k=.free
   ·subst hk
    obtain ⟨c,hc⟩:=h1 (n,.free) U0 rfl
    have h2':∀ x c',((n,c)::cs).lookup x=some c'->env.cells.lookup x=some c':=λx c' e=>by
     rw[WE] at e
     split at e
     ·rename_i hx
      cases e
      have:x=n:=by simpa using hx
      subst this;exact hc
     ·exact h2 x c' e
    obtain ⟨cl,e1,e2,e3,e4⟩:=ih ((n,c)::cs) (λy hy=>h1 y (U7 _ hy)) h2'
    refine ⟨cl,?_,e2,λx hx=>e3 x ?_,λy hy hf=>?_⟩
    ·rw[YW]
     have:cellOf env n=pure c:=by unfold cellOf;rw[hc]
     simp only[beq_self_eq_true,if_true,this,pure_bind]
     exact e1
    ·rw[WE];split
     ·rfl
     ·exact hx
    ·obtain rfl | hy:=UZ.mp hy
     ·have:(cl.lookup n).isSome=true:=e3 n (by simp[WE])
      exact Zy.mp this
     ·exact e4 y hy hf
   ·obtain ⟨cl,e1,e2,e3,e4⟩:=ih cs (λy hy=>h1 y (U7 _ hy)) h2
    refine ⟨cl,?_,e2,e3,λy hy hf=>?_⟩
    ·rw[YW]
     have:(k == WI)=false:=by simpa using hk
     simp only[this,X9,if_false,pure_bind]
     exact e1
    ·obtain rfl | hy:=UZ.mp hy
     ·exact absurd hf hk
     ·exact e4 y hy hf
 obtain ⟨cl,e1,e2,_,e4⟩:=gen scope.names [] h λx c e=>by cases e
 refine ⟨cl,?_,e2,e4⟩
 show ((forIn scope.names ([]:List (Str×Addr)) λx r=>if (x.2 == WI)=true then do let c ← cellOf env x.1;pure (WO ((x.1,c)::r)) else pure (WO r):Sem _) >>= λs=>pure s)=pure cl
 rw[e1]
 rfl
def yi (Y:Cx)(ifs:List Ve)(t:TT):Prop:=
 ∀ (pins:List (Addr×Obj)) (s:UN) (σ:L2.St) (H:Hp) (Q:Bool->Hp->Prop),Inv Y pins σ H s->t σ H Q->
  U9 (Vb Y.prog Y.w) Y.A (forIn ifs true λc r=>if r=true then do let ok ← isTrue c Y.env (V8 c Y.env);pure (WO ok) else pure (WO r)) (TP Y pins σ Q) Y.xe s
def Uq:TT:=λ_ H Q=>Q true H
theorem Jp {Y:Cx}:yi Y [] Uq:=λpins s σ H Q I h=>wpAny_tests_nil ⟨H,I,h⟩
theorem Mz {Y:Cx}{c:Ve}{t:TT}(h:PT Y c t):yi Y [c] t:=λpins s σ H Q I hh=>wpAny_tests_one (h pins s σ H Q I hh)
def jJ (σ:L2.St)(n:Nat)(caps:List Nat):L2.St:=Ww n none++caps.map λi=>(σ[i]?).join
def Wk (σ' σ:L2.St):Prop:=σ'.length=σ.length/\∀ (i:Nat) v,σ'[i]? = some (some v)->σ[i]? = some (some v)
def jI (wi:TI)(g:TG)(tt:TT)(te:TE)(n:Nat)(caps:List Nat):TE:=λσ H Q=>wi σ H λJ H1=>∀ D,H1 D=none->
 ∃ W:Nat->Nat->List V->Hp->Prop,(∃ m,W 0 m [] (L2.upd H1 D (.lst [])))/\∀ i m ys H2,W i m ys H2->
  (J.stop i H2/\Q (.ref D) H2)∨(J.go i H2/\∃ N:List V->Hp->Prop,(∀ ys' H',N ys' H'->∃ m',m' < m/\W (i+1) m' ys' H')/\
   ∀ x H3,J.yld i H2 x H3->g x (jJ σ n caps) H3 λσ4 H4=>Wk (jJ σ n caps) σ4/\tt σ4 H4 λb H5=>if b=true then te σ4 H5 λy H6=>∃ zs,H6 D=some (.lst zs)/\zs.length < sizeLine/\N (zs++[y]) (L2.upd H6 D (.lst (zs++[y]))) else N ys H5)
theorem DX {prog:Vn}{w:VB}{A:VX}{R:zbS->UN->Prop}{s:UN}{elt target iter:Ve}{ifs:List Ve}{scope:Scope}{pos:Pos}{it acc:UK}{env:Env}(J:Nat->UN->Prop)
  (turn:∀ n s,J n s->U9 (Vb prog w) A (X6 it) (λo t₁=>match o with
   | none=>R (.ok .next) t₁
   | some v=>U9 (Vb prog w) A (YU target it v) (λ_ t₁=>U9 (Vb prog w) A (zar target env v) (λ_ t₂=>
     U9 (Vb prog w) A (forIn ifs true λc r=>
      if r=true then do let ok ← isTrue c env (V8 c env);pure (WO ok) else pure (WO r)) (λok t₃=>
      if ok=true then U9 (Vb prog w) A (V8 elt env) (λx t₄=>
       U9 (Vb prog w) A (zaP (.builtin "list.append") [acc,x]) (λ_ t₅=>∃ m,m < n/\J m t₅) (λ_ _=>False) t₄) (λ_ _=>False) t₃
      else ∃ m,m < n/\J m t₃) (λ_ _=>False) t₂) (λ_ _=>False) t₁) (λ_ _=>False) t₁) (λ_ _=>False) s)
  (n:Nat) (h:J n s):Xy (Vb prog w) A (.compLoop (.ListComp elt [⟨target,iter,ifs,0⟩] scope pos) 0 it acc env) R s:=by
 refine codeAny_loop rfl J (λn s hJ=>?_) n h
 show U9 _ A ((compTurn (.ListComp elt [⟨target,iter,ifs,0⟩] scope pos) 0 it acc env).onRaise
  (λx=>do noteFrame x env;theTreesLotGoes x)) _ _ s
 refine wpAny_noted ?_
 rw[compTurn_list]
 refine UI (Zw (UI (V9 (turn n s hJ) (λr t₁ g₁=>?_) λ_ _ h'=>h'.elim)))
 cases r with
 | none=>exact UQ g₁
 | some v=>
  refine UI (V9 g₁ (λ_ t₁' g₁'=>?_) λ_ _ h'=>h'.elim)
  refine UI (V9 g₁' (λ_ t₂ g₂=>UI (V9 g₂ (λok t₃ g₃=>?_) λ_ _ h'=>h'.elim)) λ_ _ h'=>h'.elim)
  cases ok with
  | false=>exact UQ ⟨rfl,g₃⟩
  | true=>
   exact UI (UI (V9 g₃ (λx t₄ g₄=>UI (V9 g₄ (λ_ t₅ g₅=>UQ (UQ ⟨rfl,g₅⟩)) λ_ _ h'=>h'.elim)) λ_ _ h'=>h'.elim))
theorem hX {σ:L2.St}{n:Nat}{caps:List Nat}{i:Nat}{v:V}(h:(jJ σ n caps)[i]? = some (some v)):∃ j k,i=n+j/\caps[j]? = some k/\σ[k]? = some (some v):=by
 unfold jJ at h
 by_cases hi:i < n
 ·rw[XT (by simpa using hi),ZH,if_pos hi] at h
  cases h
 ·rw[XC (by simpa using hi)] at h
  rw[Yy,Wx] at h
  cases e:caps[i - n]? with
  | none=>rw[e] at h;cases h
  | some k=>
   rw[e] at h
   have h':(σ[k]?).join=some v:=Vt h
   cases e2:σ[k]? with
   | none=>rw[e2] at h';cases h'
   | some o=>
    rw[e2] at h'
    have h'':o=some v:=h'
    subst h''
    exact ⟨i - n,k,by omega,e,e2⟩
theorem fm {env:Env}(hk:env.scope.kind=.function):∀ {names:List (Str×YK)} {x:Str},env.kindOf x=some .cell->names.lookup x=some .free->
  (names.map λ(n,k)=>if (k == WI&&env.scope.kind == .function&&env.kindOf n == some .cell) then (n,za0) else (n,k)).lookup x=some .cell
 | [],_,_,h=>by simp at h
 | (n,k)::r,x,hc,h=>by
  have ih:=@fm env hk r x hc
  show List.lookup x ((if (k == WI&&env.scope.kind == .function&&env.kindOf n == some .cell)=true
   then (n,za0) else (n,k))::_)=_
  cases hx:x == n with
  | true=>
   simp only[hx,WE] at h
   cases h
   have e:x=n:=by simpa using hx
   subst e
   simp[WE,hk,hc]
  | false=>
   simp only[hx,WE] at h
   by_cases hcc:(k == WI&&env.scope.kind == .function&&env.kindOf n == some .cell)=true
   ·rw[if_pos hcc];simp only[WE,hx];exact ih h
   ·rw[if_neg hcc];simp only[WE,hx];exact ih h
theorem mT {env:Env}:∀ {names:List (Str×YK)} {x:Str} {k':YK},(∀ y∈names,y.2≠.cell)->(k'=.cell∨k'=.free)->
  (x,k')∈(names.map λ(n,k)=>if (k == WI&&env.scope.kind == .function&&env.kindOf n == some .cell) then (n,za0) else (n,k))->(x,WI)∈names:=by
 intro names x k' hn hk h
 obtain ⟨⟨n,k⟩,hm,e⟩:=UP.mp h
 dsimp only at e
 split at e
 ·rename_i hc
  cases e
  have:k=.free:=by simp at hc;exact hc.1.1
  subst this;exact hm
 ·cases e
  rcases hk with rfl | rfl
  ·exact absurd rfl (hn _ hm)
  ·exact hm
theorem EA {X:Cx}{pins:List (Addr×Obj)}{σ:L2.St}{H H5:Hp}{s:UN}{C:Addr}{h':Heap}(I:Inv X pins σ H s)(f0:H C=none)(fC:pA X pins H5 C)(hs:XM C s.heap h'):Inv X pins σ H { s with heap:=h' }:=by
 have keep:∀ b o',b≠C->s.heap.get? b=some o'->h'.get? b=some o':=λb o' hb e'=>(hs.2 b hb).trans e'
 refine I.Na (ch:=[C]) (s':={ s with heap:=h' }) rfl ⟨λb o' e' _ _ nx=>keep b o' (λz=>nx (by rw[z];exact U0)) e',λb o' e' _ _ nx=>⟨o'.slots,keep b o' (λz=>nx (by rw[z];exact U0)) e'⟩,λb o' _ w _=>w,λb o' e' nx=>⟨o',keep b o' (λz=>nx (by rw[z];exact U0)) e'⟩,λb ys e'=>e',λb o' u e'=>e',λb ps e'=>⟨#[],by simpa using e'⟩⟩ (λb u e'=>?_) I.bare λb hb=>?_
 ·refine (I.hok b u e').lO (λc w' hc q=>keep c w' ?_ q) (λ_ q=>q) λ_ _ q=>q
  rintro rfl
  rcases hc with z | z
  ·rw[← z,f0] at e';cases e'
  ·rw[f0] at z;cases z
 ·cases WX.mp hb
  exact ⟨fC.2.2.2.1,fC.2.1,fC.2.2.2.2.1,fC.2.2.2.2.2⟩
theorem wQ {X:Cx}{tg iter elt:Ve}{ifs:List Ve}{scope:Scope}{pos:Pos}{wi:TI}{g:TG}{tt:TT}{te:TE}{Nc:List Str}{n:Nat}{caps:List Nat}
  (hxe:X.xe=λ_ _=>False) (hcalm:X.calm=true) (hi:PI X tg iter wi)
  (hbody:∀ (cl:List (Str×Addr)) (C:Addr) (s₀:UN) (H₀:Hp) (ex:List Addr),PG (a5 X scope Nc cl C s₀ H₀ ex) tg g/\yi (a5 X scope Nc cl C s₀ H₀ ex) ifs tt/\PE (a5 X scope Nc cl C s₀ H₀ ex) elt te)
  (hfree:∀ y∈scope.names,y.2=.free->X.env.kindOf y.1=some .cell) (hcell:∀ y∈scope.names,y.2≠.cell) (fM:scope.kind=.function)
  (hnames:∀ y∈scope.names,y.2=.local->scope.names.lookup y.1=some .local) (hlen:Nc.length=n+caps.length)
  (hcap:∀ (j k:Nat),caps[j]? = some k->∃ x,Nc[n+j]? = some x/\X.N[k]? = some x/\scope.names.lookup x=some .free)
  {use:Option (UK->Sem Unit)} {Qv:UK->UN->Prop} {pins:List (Addr×Obj)} {s:UN} {σ:L2.St} {H:Hp} {Q:VK} {ps:Pos} (I:Inv X pins σ H s) (h:jI wi g tt te n caps σ H Q)
  (hfin:∀ (D C:Addr) (s5:UN) (H5:Hp) (m:Str->Option UK),Inv X pins σ H5 s5->pA X pins H5 C->s5.heap.Ns C m->Q (.ref D) H5->zcw (Vb X.prog X.w) X.A (λ_ _=>False) use Qv (.ref D) C (.ok .next) s5)
  (hs:∀ x,Vx iter X.env x=pure x:=by intro _;rfl) :
  U9 (Vb X.prog X.w) X.A (comprehension (.ListComp elt [⟨tg,iter,ifs,0⟩] scope pos) scope X.env ps (newList []) false (V8 iter X.env) use) Qv (λ_ _=>False) s:=by
 obtain ⟨cl,hclos,clin,clfree⟩:=zc (scope:=scope) (env:=X.env) λy hy hf=>I.ok.has y.1 (.inl (hfree y hy hf))
 refine wpAny_comprehension_free (use:=use) rfl hs hclos fM hnames ?_
 have hi':=hi pins s σ H _ I h
 rw[hxe] at hi'
 refine V9 hi' (λxv s1 h1=>V9 h1 (λitv s2 h2=>?_) λ_ _ z=>z) λ_ _ z=>z
 obtain ⟨it,fp,tn,J,H1,rfl,I2,T,st2,f2,hh⟩:=h2
 -- the new list
 refine VR ?_
 have hD:H1 s2.heap.objs.size=none:=I2.hok.fresh (U2 _)
 obtain ⟨W,⟨m0,w0⟩,turn⟩:=hh _ hD
 have I3:Inv X pins σ (L2.upd H1 s2.heap.objs.size (.lst [])) { s2 with heap:=s2.heap.push { cls:=.type "list", dict:=none,data:=.seq ([]:List UK).toArray } }:=
  I2.laid (t':=s2.toks) (λb u e=>UJ _ e) (U2 _) ⟨Wj _,[],0,.nil,U3 _ rfl⟩
 have k3:∀ b u,s2.heap.get? b=some u->(s2.heap.push { cls:=.type "list", dict:=none,data:=.seq ([]:List UK).toArray }).get? b=some u:=λb u e=>UJ _ e
 have fne:∀ b∈fp,b≠s2.heap.objs.size:=λb hb=>by
  obtain ⟨o,ho,_⟩:=T.obj 0 _ st2 b hb
  exact Vc (U1 ho)
 generalize eD:s2.heap.objs.size=D at *
 generalize eh3:s2.heap.push { cls:=.type "list", dict:=none,data:=.seq ([]:List UK).toArray }=h3 at *
 generalize eH3:L2.upd H1 D (.lst [])=H3 at *
 have st3:tn 0 h3:=T.keep 0 _ _ st2 λb hb o e=>k3 b o e
 have f3:∀ b∈fp,pA X pins H3 b:=λb hb=>⟨by rw[← eH3,aM (fne b hb)];exact (f2 b hb).1,(f2 b hb).2⟩
 have lt3:∀ b∈fp,b < h3.objs.size:=λb hb=>by
  obtain ⟨o,ho,_⟩:=T.obj 0 _ st3 b hb
  exact U1 ho
 generalize es3:({ s2 with heap:=h3 }:UN)=s3 at *
 have hs3:s3.heap=h3:=by rw[← es3]
 refine wpAny_newFunctionEnv hcell (λy hy=>(by cases hy)) (λh4 hns hsb=>?_) fM
 show Xy _ _ (.compStart _ 0 (.ref it) (.ref D) (zcv scope cl s3.heap.objs.size X.env)) (zcw _ _ _ _ _ (.ref D) s3.heap.objs.size) _
 have k4:∀ b u,s3.heap.get? b=some u->h4.get? b=some u:=λb u e=>hsb.extBut b u (Vc (U1 e)) (UJ _ e)
 have okY:(a5 X scope Nc cl s3.heap.objs.size s3 H3 fp).Ok:=by
  refine ⟨I3.ok.mod,fM,I3.ok.glob,I3.ok.blt,U2 _,λx y c e1 e2=>I3.ok.inj x y c (clin _ _ e1) (clin _ _ e2),λx hx=>?_,λx c hf=>(by cases hf),I3.ok.hd,I3.ok.frames,.inl rfl,λb hb=>⟨?_,λx c e z=>?_⟩,I3.bs,VA I3.ok.bsz I3.sz,λb o e hb=>?_,λb hb hz=>?_,I3.stack,I3.CI⟩
  ·have hx':(relabel scope X.env).names.lookup x=some .cell∨(relabel scope X.env).names.lookup x=some .free:=hx
   have hm:(x,WI)∈scope.names:=by
    rcases hx' with q | q
    ·exact mT hcell (.inl rfl) (Wf q)
    ·exact mT hcell (.inr rfl) (Wf q)
   exact clfree _ hm rfl
  ·show b≠s3.heap.objs.size
   rw[hs3];exact Vc (lt3 b hb)
  ·exact (f3 b hb).2.2.2.2.1 x c (clin _ _ e) z
  ·rcases (f3 b hb).2.2.2.1 with z | z
   ·exact I3.ok.GQ b o e z
   ·exact absurd (U6 (U1 e) (VA I3.ok.bsz z)) (W8 _)
  ·rcases UZ.mp (I3.AO b hz) with z | z
   ·exact (f3 b hb).2.1 z
   ·exact (f3 b hb).2.2.1 z
 have RA:∀ c v,s3.heap.IsCell c v->h4.IsCell c v:=λc v ⟨o,ho,hd⟩=>⟨o,k4 c o ho,hd⟩
 have J0:Inv (a5 X scope Nc cl s3.heap.objs.size s3 H3 fp) [] (jJ σ n caps) H3 { s3 with heap:=h4,toks:=s3.toks+([]:List (Str×UK)).length }:=by
  refine ⟨okY,rfl,I3.bare,Un.kept k4,⟨_,hns,λi x v e1 e2 e3=>?_⟩,λx c e=>?_,I3.hok.fresh (U2 _),λx c e=>I3.jz x c (clin _ _ e),(λp hp=>(by cases hp)),I3.hok.kept k4,?_⟩
  ·obtain ⟨j,k,rfl,ej,ek⟩:=hX e2
   obtain ⟨x',n1,n2,n3⟩:=hcap j k ej
   have e1':Nc[n+j]? = some x:=e1
   rw[n1] at e1';cases e1'
   have hmem:(x,WI)∈scope.names:=Wf n3
   have hcellx:X.env.kindOf x=some .cell:=hfree _ hmem rfl
   obtain ⟨m,hn,hl⟩:=I3.loc
   obtain ⟨u,ru,lk⟩:=hl k x v n2 ek (.inr (.inl hcellx))
   refine ⟨u,ru,.inr ⟨.inl (fm I3.ok.kind hcellx n3),?_⟩⟩
   rcases lk with ⟨q,_⟩ | ⟨_,c,ec,ic⟩
   ·rw[hcellx] at q;cases q
   ·obtain ⟨c',ec'⟩:=clfree _ hmem rfl
    have:=clin _ _ ec'
    rw[ec] at this;cases this
    exact ⟨c,ec',RA _ _ ic⟩
  ·obtain ⟨v,q⟩:=I3.cell x c (clin _ _ e)
   exact ⟨v,RA _ _ q⟩
  ·unfold jJ
   show _=Nc.length
   rw[US,Yy,UL,hlen]
 obtain ⟨pg,pifs,pelt⟩:=hbody cl s3.heap.objs.size s3 H3 fp
 generalize eY:a5 X scope Nc cl s3.heap.objs.size s3 H3 fp=Y at *
 have yP:Y.prog=X.prog:=by rw[← eY];rfl
 have yw:Y.w=X.w:=by rw[← eY];rfl
 have yK:Y.K=X.K:=by rw[← eY];rfl
 have yA:Y.A=X.A:=by rw[← eY];rfl
 have yx:Y.xe=λ_ _=>False:=by rw[← eY];exact hxe
 have yc:Y.calm=true:=by rw[← eY];exact hcalm
 have ye:Y.env=zcv scope cl s3.heap.objs.size X.env:=by rw[← eY];rfl
 have yfs:Y.fs=frs X.stack:=by rw[← eY];rfl
 have yex:Y.ex=fp:=by rw[← eY];rfl
 have ys0:Y.s₀=s3:=by rw[← eY];rfl
 have yH0:Y.H₀=H3:=by rw[← eY];rfl
 have ypn:Y.pn=[]:=by rw[← eY];rfl
 have Am:∀ {H':Hp},(∀ b∈fp,H' b=none)->∀ b∈fp,pA Y [] H' b:=λhn b hb=>⟨hn b hb,by rw[ye];show b≠s3.heap.objs.size;rw[hs3];exact Vc (lt3 b hb),okY.Ft b (by rw[yex];exact hb),.inl (by rw[yex];exact hb),
  λx c e=>by rw[ye] at e;exact (f3 b hb).2.2.2.2.1 x c (clin _ _ e),λp hp=>by rw[ypn] at hp;exact nomatch hp⟩
 have tn4:∀ t,tn 0 ({ s3 with heap:=h4,toks:=t }:UN).heap:=λt=>T.keep 0 _ _ st3 λb hb o e=>k4 b o (by rw[hs3];exact e)
 -- the end
 have fin:∀ (s5:UN) (H5:Hp),Inv Y [] (jJ σ n caps) H5 s5->Q (.ref D) H5->zcw (Vb X.prog X.w) X.A (λ_ _=>False) use Qv (.ref D) s3.heap.objs.size (.ok .next) s5:=λs5 H5 I5 q5=>by
  obtain ⟨m,hn,_⟩:=I5.loc
  rw[ye] at hn
  have un:=I5.base
  rw[yfs,yex,yH0,ys0] at un
  have hfreeC0:=I5.free
  rw[ye] at hfreeC0
  have hfreeC:H5 s3.heap.objs.size=none:=hfreeC0
  have hok5:=I5.hok
  rw[yP,yw] at hok5
  have I5X:Inv X pins σ H5 s5:=I3.Na (ch:=fp) (s':=s5) (by have:=I5.os;rw[ys0] at this;exact this) un hok5 I5.bare λb hb=>⟨(f3 b hb).2.2.2.1,(f3 b hb).2.1,(f3 b hb).2.2.2.2.1,(f3 b hb).2.2.2.2.2⟩
  exact hfin _ _ s5 H5 m I5X (I3.Eb (U2 _) hfreeC) hn q5
 have loop:Xy (Vb X.prog X.w) X.A (.compLoop (.ListComp elt [⟨tg,iter,ifs,0⟩] scope pos) 0 (.ref it) (.ref D) (zcv scope cl s3.heap.objs.size X.env)) (zcw (Vb X.prog X.w) X.A (λ_ _=>False) use Qv (.ref D) s3.heap.objs.size)
   { s3 with heap:=h4,toks:=s3.toks+([]:List (Str×UK)).length }:=by
  refine DX (λk s'=>∃ i ys H',Inv Y [] (jJ σ n caps) H' s'/\tn i s'.heap/\(∀ b∈fp,H' b=none)/\W i k ys H') ?_ m0 ⟨0,[],H3,J0,tn4 _,λb hb=>(f3 b hb).1,w0⟩
  rintro k s5 ⟨i,ys,H5,I5,st5,fr5,w5⟩
  rcases turn i k ys H5 w5 with ⟨stop,q⟩ | ⟨go,N,hN,step⟩
  ·have d:=T.done Y yP yw yK yc i [] s5 _ H5 (λ_ _=>False) I5 (Am fr5) st5 stop
   rw[yA] at d
   refine thn d λr s6 ⟨hr,I6⟩=>?_
   subst hr
   exact fin s6 H5 I6 q
  ·have d:=T.item Y yP yw yK yc i [] s5 _ H5 (λ_ _=>False) I5 (Am fr5) st5 go
   rw[yA] at d
   refine thn d λr s6 ⟨u,hr,h6⟩=>?_
   subst hr
   refine thn h6 λ_ s7 ⟨x,H7,I7,r7,y7,st7,fr7⟩=>?_
   have I7':=I7.pinned (Am fr7) (T.obj _ _ st7)
   have a:=pg _ s7 _ H7 x u _ I7' r7 (step x H7 y7)
   rw[yP,yw,yA,yx,ye] at a
   refine thn a λ_ s8 ⟨σ8,H8,I8,wk,q8⟩=>?_
   have b:=pifs _ s8 σ8 H8 _ I8 q8
   rw[yP,yw,yA,yx,ye] at b
   have again:∀ {s9:UN} {ys9:List V} {H9:Hp},Inv Y ([]++rF fp s7.heap) σ8 H9 s9->N ys9 H9->∃ m,m < k/\∃ i ys H',Inv Y [] (jJ σ n caps) H' s9/\tn i s9.heap/\(∀ b∈fp,H' b=none)/\W i m ys H':=λ{s9 ys9 H9} I9 n9=>by
    obtain ⟨m',hm,w9⟩:=hN ys9 H9 n9
    have hp:∀ b∈fp,∀ o,s7.heap.get? b=some o->s9.heap.get? b=some o/\H9 b=none:=λb hb o e=>
     ⟨(I9.pin (b,o) (Vp _ (Vp _ (fK hb e)))).1,(I9.pin (b,o) (Vp _ (Vp _ (fK hb e)))).2.1⟩
    refine ⟨m',hm,i+1,ys9,H9,I9.jk.weak wk.1 wk.2,T.keep _ _ _ st7 λb hb o e=>(hp b hb o e).1,λb hb=>?_,w9⟩
    obtain ⟨o,e,_⟩:=T.obj _ _ st7 b hb
    exact (hp b hb o e).2
   refine thn b λok s9 ⟨H9,I9,q9⟩=>?_
   cases ok with
   | false=>
    rw[if_neg Xl] at q9 ⊢
    exact again I9 q9
   | true=>
    rw[if_pos rfl] at q9 ⊢
    have c:=pelt _ s9 σ8 H9 _ I9 q9
    rw[yP,yw,yA,yx,ye] at c
    refine thn c λv s10 ⟨y,H10,I10,r10,zs,ez,lz,n10⟩=>?_
    have d:=tQ (X:=Y) _ s10 σ8 H10 (.ref D) [y] (.ref D) [v] (λ_ H'=>N (zs++[y]) H') I10 rfl (.cons r10 .nil) ⟨D,zs,y,rfl,rfl,ez,lz,n10⟩
    rw[yP,yw,yA,yx] at d
    exact thn d λ_ s11 ⟨_,H11,I11,_,q11⟩=>again I11 q11
 refine codeAny_compStart_list loop ?_
 exact T.self X.A 0 _ _ _ (tn4 _) loop
theorem uf {X:Cx}{tg iter elt:Ve}{ifs:List Ve}{scope:Scope}{pos:Pos}{wi:TI}{g:TG}{tt:TT}{te:TE}{Nc:List Str}{n:Nat}{caps:List Nat}
  (hxe:X.xe=λ_ _=>False) (hcalm:X.calm=true) (hi:PI X tg iter wi)
  (hbody:∀ (cl:List (Str×Addr)) (C:Addr) (s₀:UN) (H₀:Hp) (ex:List Addr),PG (a5 X scope Nc cl C s₀ H₀ ex) tg g/\yi (a5 X scope Nc cl C s₀ H₀ ex) ifs tt/\PE (a5 X scope Nc cl C s₀ H₀ ex) elt te)
  (hfree:∀ y∈scope.names,y.2=.free->X.env.kindOf y.1=some .cell) (hcell:∀ y∈scope.names,y.2≠.cell) (fM:scope.kind=.function)
  (hnames:∀ y∈scope.names,y.2=.local->scope.names.lookup y.1=some .local) (hlen:Nc.length=n+caps.length)
  (hcap:∀ (j k:Nat),caps[j]? = some k->∃ x,Nc[n+j]? = some x/\X.N[k]? = some x/\scope.names.lookup x=some .free)
  (hs:∀ x,Vx iter X.env x=pure x:=by intro _;rfl) :
  PE X (.ListComp elt [⟨tg,iter,ifs,0⟩] scope pos) (jI wi g tt te n caps):=by
 intro pins s σ H Q I h
 rw[hxe,eval_ListComp]
 exact wQ hxe hcalm hi hbody hfree hcell fM hnames hlen hcap (use:=none) I h (λD C s5 H5 m I5 fC hn q=>⟨m,hn,λh6 hs6=>⟨.ref D,H5,EA I5 fC.1 fC hs6,rfl,q⟩⟩) hs
theorem yh {X:Cx}{tg iter elt:Ve}{ifs:List Ve}{scope:Scope}{pos spos py:Pos}{y:Str}{iy:Nat}{wi:TI}{g:TG}{tt:TT}{te:TE}{Nc:List Str}{n:Nat}{caps:List Nat}{Z:TE->TE}
  (hxe:X.xe=λ_ _=>False) (hcalm:X.calm=true) (hi:PI X tg iter wi)
  (hbody:∀ (cl:List (Str×Addr)) (C:Addr) (s₀:UN) (H₀:Hp) (ex:List Addr),PG (a5 X scope Nc cl C s₀ H₀ ex) tg g/\yi (a5 X scope Nc cl C s₀ H₀ ex) ifs tt/\PE (a5 X scope Nc cl C s₀ H₀ ex) elt te)
  (hfree:∀ y∈scope.names,y.2=.free->X.env.kindOf y.1=some .cell) (hcell:∀ y∈scope.names,y.2≠.cell) (fM:scope.kind=.function)
  (hnames:∀ y∈scope.names,y.2=.local->scope.names.lookup y.1=some .local) (hlen:Nc.length=n+caps.length)
  (hcap:∀ (j k:Nat),caps[j]? = some k->∃ x,Nc[n+j]? = some x/\X.N[k]? = some x/\scope.names.lookup x=some .free)
  (pgy:PG X (.Name y py) (l4 iy))
  (hsw:Xd (.ListComp elt [⟨tg,iter,ifs,0⟩] scope pos) (some (.Name y py)) spos.line X.env=pure true)
  (hz:∀ (σ:L2.St) (H:Hp) (Q:VK),Z (jI wi g tt te n caps) σ H Q->∃ Q',jI wi g tt te n caps σ H Q'/\∀ pins D H5 s5,Inv X pins σ H5 s5->Q' (.ref D) H5->∃ H6,(∀ b,H5 b=none->H6 b=none)/\Inv X pins σ H6 s5/\Q (.ref D) H6)
  (hs:∀ x,Vx iter X.env x=pure x:=by intro _;rfl) :
  PS X (.Assign [.Name y py] (.ListComp elt [⟨tg,iter,ifs,0⟩] scope pos) spos) (Eu (Z (jI wi g tt te n caps)) (l4 iy)):=by
 intro pins s σ H E' I h
 rw[hxe]
 rewrite [exec_Assign_Name_used _ _ _ _ hsw]
 refine UI (Zw ?_)
 refine UI ?_
 refine (show U9 _ X.A (do let _ ← comprehension (.ListComp elt [⟨tg,iter,ifs,0⟩] scope pos) scope X.env _ (newList []) false (V8 iter X.env) (some (zar (.Name y py) X.env))) _ _ s from ?_)
 obtain ⟨Q',h',hq⟩:=hz σ H _ h
 refine UI (V9 (wQ hxe hcalm hi hbody hfree hcell fM hnames hlen hcap (use:=some (zar (.Name y py) X.env)) (Qv:=λ_ s'=>SP X pins E' .next s') I h' (λD C s5 H5 m I5 fC hn q=>?_) hs) (λ_ s' hq=>UQ (UQ hq)) λ_ _ e=>e)
 obtain ⟨H6,fr,I6,q6⟩:=hq pins D H5 s5 I5 q
 have f0:=fr C fC.1
 have fC6:pA X pins H6 C:=⟨f0,fC.2⟩
 obtain ⟨oC,gC,dC⟩:∃ oC,s5.heap.get? C=some oC/\∀ v,oC.data≠.cell v:=by
  obtain ⟨oC,es,ep,ho,hd,_⟩:=hn
  exact ⟨oC,ho,λv z=>by rw[hd] at z;cases z⟩
 have I5P:=I6.pinned (fp:=[C]) (λb hb=>by cases WX.mp hb;exact fC6) (λb hb=>by cases WX.mp hb;exact ⟨oC,gC,dC⟩)
 have as:=pgy _ s5 σ _ (.ref D) (.ref D) E'.nx I5P rfl q6
 rw[hxe] at as
 refine thn as λ_ s6 ⟨σ6,H7,I7,n7⟩=>?_
 obtain ⟨g7,f7,_⟩:=I7.pin (C,oC) (Vp _ (Vp _ (fK U0 gC)))
 exact ⟨m,hn.at' (λo' e'=>by have e'':s5.heap.get? C=some o':=e';rw[gC] at e'';cases e'';exact g7),λh8 hs8=>⟨σ6,H7,EA I7.jk f7 fC6 hs8,n7⟩⟩
end
section
open PySem PySem.Spec PyProof.Rows L2
structure FX (K:UH) (J:It) (H1:Hp) (ds:List D):Prop where
 go:∀ i H',Tk H1 H'->i < ds.length->J.go i H'
 yld:∀ i H' x H'',Tk H1 H'->i < ds.length->J.yld i H' x H''->Tk H' H''/\(∃ d,ds[i]? = some d/\Dp K H'' x d)/\∀ μ,bB K H' μ->bB K H'' μ
 stop:∀ i H',Tk H1 H'->ds.length<=i->J.stop i H'
def N9 (K:UH)(wi:TI)(It':ATr):Prop:=∀ σ H ρ μ (Q:List D->Mu->Prop) (R:It->Hp->Prop),Rl K σ H ρ μ->It' ρ μ Q->(∀ J H1 ds μ1,Tk H H1->bB K H1 μ1->FX K J H1 ds->Q ds μ1->R J H1)->wi σ H R
structure LI (X:Cx) (tg iter:Ve) (It':ATr):Prop where
 ex:∃ wi,PI X tg iter wi/\N9 X.K wi It'
section
variable {X:Cx} {tg a b c e elt iter:Ve} {Ta Tb Te:ETr} {Tt:TTr} {pos:Pos} {It':ATr} {G:GTr}
theorem IS {K:UH}{H:Hp}{p:Addr}{xs:List V}{ds:List D}(q:SqT K H p xs)(l:DpL K H xs ds):FX K (Itt K p) H ds where
 go:=λi H' t hi=>by
  have hl:=l.length
  exact ⟨xs,xs[i],t.sqT q,by simp[show i < xs.length by omega]⟩
 yld:=λi H' x H'' t hi ⟨e,y⟩=>by
  subst e
  have ex:=y xs (t.sqT q)
  obtain ⟨d,ed,p⟩:=l.get' ex
  exact ⟨.refl _,⟨d,ed,p.mono t⟩,λ_ m=>m⟩
 stop:=λi H' t hi=>⟨xs,t.sqT q,by rw[l.length];exact hi⟩
theorem MC {K:UH}{H:Hp}{p:Addr}{xs:List V}{ds:List D}(q:SqF K H p xs)(l:DpL K H xs ds):FX K (Itl K p) H ds where
 go:=λi H' t hi=>by
  have hl:=l.length
  exact ⟨xs,xs[i],(t.sqF q).sq,by simp[show i < xs.length by omega]⟩
 yld:=λi H' x H'' t hi ⟨e,y⟩=>by
  subst e
  have ex:=y xs (t.sqF q).sq
  obtain ⟨d,ed,p⟩:=l.get' ex
  exact ⟨.refl _,⟨d,ed,p.mono t⟩,λ_ m=>m⟩
 stop:=λi H' t hi=>⟨xs,(t.sqF q).sq,by rw[l.length];exact hi⟩
theorem dQ (lo:Int)(n:Nat):(cB lo n).length=n:=by unfold cB;simp
theorem IF {K:UH}{H:Hp}(lo:Int)(n:Nat):FX K (Itr lo n) H (cB lo n) where
 go:=λi H' t hi=>by rw[dQ] at hi;exact hi
 yld:=λi H' x H'' t hi ⟨e,y⟩=>by
  rw[dQ] at hi
  subst e y
  exact ⟨.refl _,⟨.int (lo+i),by unfold cB;simp[hi],.int _⟩,λ_ m=>m⟩
 stop:=λi H' t hi=>by rw[dQ] at hi;exact hi
def RM (a:ETr):ATr:=λρ μ Q=>a ρ μ λx μ1=>match x with
 | .tup ds=>Q ds μ1
 | _=>False
def ILs (a:ETr):ATr:=λρ μ Q=>a ρ μ λx μ1=>match x with
 | .ls ds=>Q ds μ1
 | _=>False
theorem j7 {rp rpos:Pos}(hg:Gl X "range")(hm:X.mg "range" = none)(ha:LE X a Ta)(hs:UX [a] X.env=[(false,V8 a X.env)]:=by rfl):LI X tg (.Call (.Name "range" rp) [a] [] rpos) (fE Ta):=by
 obtain ⟨ta,pa,sa⟩:=ha.ex
 refine ⟨_,Ea hg hm (eC pa iI hs) hs,λσ H ρ μ Q R rl h k=>sa σ H ρ μ _ _ rl h λx H1 d μ1 t1 m1 p1 h1=>?_⟩
 cases p1 with
 | int j=>
  obtain ⟨⟨h2,h3⟩,h4⟩:=h1
  exact ⟨j,rfl,by simpa using h2,by simpa using h3,k _ H1 _ μ1 t1 m1 (IF 0 _) h4⟩
 | _=>exact UO h1
theorem SI {t1:TS}{T1:STr}{g:TG}{E:En}{E':Ends}{K:UH}{H0 H1:Hp}{J:It}{ds:List D}(sg:QK K g G)(s1:HG K t1 T1)(k:HD K H0 E E')(Y:FX K J H1 ds){σ:L2.St}{ρ:ST}{μ:Mu}(t0:Tk H0 H1)(rl:Rl K σ H1 ρ μ)(h:forR G T1 E ds ρ μ) :
  ∃ W:Nat->Nat->L2.St->Hp->Prop,(∃ m,W 0 m σ H1)/\∀ i m σ H,W i m σ H->
   (J.stop i H/\E'.nx σ H)∨(J.go i H/\∃ N:L2.St->Hp->Prop,(∀ σ' H',N σ' H'->∃ m',m' < m/\W (i+1) m' σ' H')/\∀ x H',J.yld i H x H'->g x σ H' λσ2 H2=>t1 { E' with nx:=N,ct:=N,bk:=E'.nx } σ2 H2):=by
 refine ⟨λi m σ' H'=>m=ds.length - i/\i<=ds.length/\Tk H1 H'/\∃ ρ' μ',Rl K σ' H' ρ' μ'/\forR G T1 E (ds.drop i) ρ' μ',⟨ds.length,by simp,Wj _,.refl _,ρ,μ,rl,by simpa using h⟩,?_⟩
 rintro i m σ1 H2 ⟨rfl,hi,t12,ρ1,μ1,r1,h1⟩
 by_cases hlt:i < ds.length
 ·refine .inr ⟨Y.go i H2 t12 hlt,λσ' H'=>Tk H1 H'/\∃ ρ' μ',Rl K σ' H' ρ' μ'/\forR G T1 E (ds.drop (i+1)) ρ' μ',λσ' H' ⟨t',ρ',μ',r',h'⟩=>⟨ds.length - (i+1),by omega,rfl,hlt,t',ρ',μ',r',h'⟩,λx H3 y=>?_⟩
  obtain ⟨t23,⟨d,ed,pd⟩,mk⟩:=Y.yld i H2 x H3 t12 hlt y
  have e:ds.drop i=d::ds.drop (i+1):=by
   refine (We hlt).trans ?_
   congr 1
   rw[UY hlt] at ed
   exact Vt ed
  rw[e] at h1
  have t13:=t12.trans t23
  refine sg σ1 H3 ρ1 μ1 _ _ _ _ (r1.go t23 (mk _ r1.mu)) pd h1 λσ4 H4 ρ4 μ4 t4 r4 h4=>?_
  have t14:=t13.trans t4
  have t04:=t0.trans t14
  exact s1 σ4 H4 ρ4 μ4 _ _ r4 h4 ⟨λσ' H' ρ' μ' t' r' q=>⟨t14.trans t',ρ',μ',r',q⟩,(k.go t04).rt,(k.go t04).nx,λσ' H' ρ' μ' t' r' q=>⟨t14.trans t',ρ',μ',r',q⟩⟩
 ·have e:i=ds.length:=by omega
  subst e
  rw[WG] at h1
  exact .inl ⟨Y.stop _ H2 t12 (U2 _),k.nx _ _ _ _ (t0.trans t12) r1 h1⟩
theorem eF {body:List Stmt}{T1:STr}(hp:zbQ (Vb X.prog X.w) X.A X.env X.xe)(hc:X.calm=true)(hi:LI X tg iter It')(hG:LG X tg G)(hb:LSs X body T1)(hf:∀ x,Vx iter X.env x=pure x:=by intro _;rfl) :
  LS X (.For tg iter body [] pos) (iS It' G T1):=by
 obtain ⟨wi,pi,si⟩:=hi.ex
 obtain ⟨g,pg,sg⟩:=hG.ex
 obtain ⟨t1,p1,s1⟩:=hb.ex
 exact ⟨_,OM hp hc pi pg p1 hf,λσ H ρ μ E E' rl h k=>si σ H ρ μ _ _ rl h λJ H1 ds μ1 t1' m1 Y h1=>SI sg s1 k Y t1' (rl.go t1' m1) h1⟩
def jg (K:UH)(T:ETr):TE:=λσ H Q'=>∃ ρ μ Q,Rl K σ H ρ μ/\T ρ μ Q/\jx K H Q Q'
def liftT (K:UH)(T:TTr):TT:=λσ H Q'=>∃ ρ μ Q,Rl K σ H ρ μ/\T ρ μ Q/\∀ b H' μ',Tk H H'->bB K H' μ'->Q b μ'->Q' b H'
abbrev Nh (K:UH)(n:Nat)(σ:L2.St)(H:Hp)(k:ST->Mu->Prop)(k':L2.St->Hp->Prop):Prop:=∀ σ' H' ρ' μ',Tk H H'->Rl K σ' H' ρ' μ'->(σ'.length=σ.length/\∀ j,n<=j->σ'[j]? = σ[j]?)->k ρ' μ'->k' σ' H'
def ji (K:UH)(n:Nat)(G:GTr):TG:=λv σ H k'=>∃ ρ μ d k,Rl K σ H ρ μ/\Dp K H v d/\G d ρ μ k/\Nh K n σ H k k'
theorem LE.pe (h:LE X e Te):PE X e (jg X.K Te):=by
 obtain ⟨t,p,s⟩:=h.ex
 exact λpins st σ H Q I ⟨ρ,μ,Q0,rl,hT,k⟩=>p pins st σ H Q I (s σ H ρ μ Q0 Q rl hT k)
structure vy (X:Cx) (ifs:List Ve) (Tt:TTr):Prop where
 pe:yi X ifs (liftT X.K Tt)
theorem b7:vy X [] dX:=⟨λpins s σ H Q I ⟨ρ,μ,Q0,rl,hT,k⟩=>Jp pins s σ H Q I (k true H μ (.refl H) rl.mu hT)⟩
theorem eV (h:LT X c Tt):vy X [c] Tt:=by
 obtain ⟨t,p,s⟩:=h.ex
 exact ⟨λpins st σ H Q I ⟨ρ,μ,Q0,rl,hT,k⟩=>Mz p pins st σ H Q I (s σ H ρ μ Q0 Q rl hT k)⟩
structure LGc (X:Cx) (n:Nat) (tg:Ve) (G:GTr):Prop where
 pe:PG X tg (ji X.K n G)
theorem bj {x:Str}{n:Nat}(i:Nat)(hN:X.N.Nodup)(hin:i < n:=by decide)(hi:X.N[i]? = some x:=by rfl)(hx:Loc X.env.scope x:=by first | exact Yt rfl | exact Yu rfl)(hf:X.fn x=true∨X.env.scope.names.lookup x=some .local:=by first | exact .inr rfl | exact .inl rfl | assumption):LGc X n (.Name x pos) (aw i):=
 ⟨λpins s σ H v u k' I r ⟨ρ,μ,d,k,rl,p,h,post⟩=>ir hN hi hx hf pins s σ H v u k' I r (post _ H _ μ (.refl H) (rl.set p i) ⟨by simp,λj hj=>by rw[W5 (by omega)]⟩ h)⟩
theorem kT {K:UH}{σ:L2.St}{H:Hp}{ρ:ST}{μ:Mu}(rl:Rl K σ H ρ μ)(n:Nat)(caps:List Nat):Rl K (jJ σ n caps) H (dh ρ n caps) μ:=by
 refine ⟨by unfold jJ dh;simp,λi d e=>?_,rl.mu⟩
 have gen:∀ (n i:Nat),lk (Ww n none++caps.map (lk ρ)) i=some d->∃ j,i=n+j/\∃ k,caps[j]? = some k/\lk ρ k=some d:=by
  intro n
  induction n with
  | zero=>
   intro i h
   have h':lk (caps.map (lk ρ)) i=some d:=by simpa using h
   have g2:∀ (cs:List Nat) (i:Nat),lk (cs.map (lk ρ)) i=some d->∃ k,cs[i]? = some k/\lk ρ k=some d:=by
    intro cs
    induction cs with
    | nil=>intro i h;cases i<;>cases h
    | cons c r ih=>intro i h;cases i with
     | zero=>exact ⟨c,rfl,h⟩
     | succ i=>simpa using ih i h
   exact ⟨i,by omega,g2 caps i h'⟩
  | succ n ih=>
   intro i h
   cases i with
   | zero=>cases h
   | succ i=>
    obtain ⟨j,rfl,k,h1,h2⟩:=ih i h
    exact ⟨j,by omega,k,h1,h2⟩
 obtain ⟨j,rfl,k,h1,h2⟩:=gen n i e
 obtain ⟨v,h3,h4⟩:=rl.loc k d h2
 refine ⟨v,?_,h4⟩
 unfold jJ
 rw[XC (by simp)]
 simp[h1,h3]
theorem Ju {ifs:List Ve}{scope:Scope}{Nc:List Str}{n:Nat}{caps:List Nat}(hxe:X.xe=λ_ _=>False)(hcalm:X.calm=true)(hi:LI X tg iter It')
  (hbody:∀ (cl:List (Str×Addr)) (C:Addr) (s₀:UN) (H₀:Hp) (ex:List Addr),LGc (a5 X scope Nc cl C s₀ H₀ ex) n tg G/\vy (a5 X scope Nc cl C s₀ H₀ ex) ifs Tt/\LE (a5 X scope Nc cl C s₀ H₀ ex) elt Te)
  (hfree:∀ y∈scope.names,y.2=.free->X.env.kindOf y.1=some .cell) (hcell:∀ y∈scope.names,y.2≠.cell) (fM:scope.kind=.function)
  (hnames:∀ y∈scope.names,y.2=.local->scope.names.lookup y.1=some .local) (hlen:Nc.length=n+caps.length)
  (hcap:∀ (j k:Nat),caps[j]? = some k->∃ x,Nc[n+j]? = some x/\X.N[k]? = some x/\scope.names.lookup x=some .free)
  (hs:∀ x,Vx iter X.env x=pure x:=by intro _;rfl) :
  LE X (.ListComp elt [⟨tg,iter,ifs,0⟩] scope pos) (b8 It' G Tt Te n caps):=by
 obtain ⟨wi,pi,si⟩:=hi.ex
 refine ⟨_,iB (uf (g:=ji X.K n G) (tt:=liftT X.K Tt) (te:=jg X.K Te) hxe hcalm pi (λcl C s₀ H₀ ex=>let ⟨h1,h2,h3⟩:=hbody cl C s₀ H₀ ex;⟨h1.pe,h2.pe,h3.pe⟩) hfree hcell fM hnames hlen hcap hs),?_⟩
 intro σ H ρ μ Q Q' rl h k
 refine si σ H ρ μ _ _ rl h λJ H1 ds μ1 t1 m1 Y h1 D hD=>?_
 have hp:=h1 D (m1.free hD)
 have tD:Tk H1 (L2.upd H1 D (.lst [])):=.new hD
 have mD:bB X.K (L2.upd H1 D (.lst [])) (up μ1 D (.lst [])):=λa o e=>by
  by_cases ha:a=D
  ·subst ha
   rw[aF] at e;cases e
   exact ⟨[],aK,.nil⟩
  ·rw[aU ha] at e
   exact cJ m1 hD a o e
 refine ⟨λi m ys H2=>m=ds.length - i/\i<=ds.length/\Tk H1 H2/\∃ μ2,bB X.K H2 μ2/\fo D G Tt Te (dh ρ n caps) (λμ'=>kL μ' D λzs=>Q (.ls zs) (dn μ' D)) (ds.drop i) μ2,
  ⟨ds.length,by simp,Wj _,tD,_,mD,by simpa using hp⟩,?_⟩
 rintro i m ys H2 ⟨rfl,hi,t12,μ2,m2,h2⟩
 by_cases hlt:i < ds.length
 ·refine .inr ⟨Y.go i H2 t12 hlt,λys' H'=>Tk H1 H'/\∃ μ',bB X.K H' μ'/\fo D G Tt Te (dh ρ n caps) (λμ'=>kL μ' D λzs=>Q (.ls zs) (dn μ' D)) (ds.drop (i+1)) μ',λys' H' ⟨t',μ',m',h'⟩=>⟨ds.length - (i+1),by omega,rfl,hlt,t',μ',m',h'⟩,λx H3 y=>?_⟩
  obtain ⟨t23,⟨d,ed,pd⟩,mk⟩:=Y.yld i H2 x H3 t12 hlt y
  have e:ds.drop i=d::ds.drop (i+1):=by
   refine (We hlt).trans ?_
   congr 1
   rw[UY hlt] at ed
   exact Vt ed
  rw[e] at h2
  have t13:=t12.trans t23
  have r3:Rl X.K (jJ σ n caps) H3 (dh ρ n caps) μ2:=kT (rl.go (t1.trans t13) (mk _ m2)) n caps
  refine ⟨_,_,d,_,r3,pd,h2,λσ4 H4 ρ4 μ4 t4 r4 kp h4=>⟨⟨kp.1.symm,λj v ej=>?_⟩,_,_,_,r4,h4,λb H5 μ5 t5 m5 h5=>?_⟩⟩
  ·by_cases hj:n<=j
   ·rw[kp.2 j hj];exact ej
   ·obtain ⟨j',k',e1,_⟩:=hX ej
    omega
  ·have t15:=t13.trans (t4.trans t5)
   cases b with
   | false=>exact nY ⟨t15,μ5,m5,h5⟩
   | true=>
    refine nU ⟨_,_,_,r4.go t5 m5,h5,λv H6 d6 μ6 t6 m6 p6 h6=>?_⟩
    obtain ⟨zs,ez,lz,h7⟩:=bA h6
    obtain ⟨xs,ex,lx⟩:=m6 D _ ez
    have t67:Tk H6 (L2.upd H6 D (.lst (xs++[v]))):=.upd (λys z=>by rw[ex] at z;cases z) λo' u z=>by rw[ex] at z;cases z
    refine ⟨xs,ex,by rw[lx.length];exact U6 lz (by decide),(t15.trans t6).trans t67,up μ6 D (.lst (zs++[d6])),λa o ea=>?_,h7⟩
    by_cases ha:a=D
    ·subst ha
     rw[aF] at ea;cases ea
     exact ⟨_,aK,(lx.append (.cons p6 .nil)).mono t67⟩
    ·rw[aU ha] at ea
     exact (m6 a _ ea).ne t67 ha
 ·have e:i=ds.length:=by omega
  subst e
  rw[WG] at h2
  obtain ⟨zs,ez,hq⟩:=bA (show kL μ2 D λzs=>Q (.ls zs) (dn μ2 D) from h2)
  obtain ⟨xs,ex,lx⟩:=m2 D _ ez
  refine .inl ⟨Y.stop _ H2 t12 (U2 _),D,xs,rfl,ex,λo=>?_⟩
  have t2f:Tk H2 (L2.upd H2 D (.frz o (.lst xs))):=.upd (λys z=>by rw[ex] at z;cases z) λo' u z=>by rw[ex] at z;cases z
  refine k _ _ _ (dn μ2 D) ((t1.trans t12).trans t2f) (λa o' ea=>?_) (.ls (.inl ⟨o,aK⟩) (lx.mono t2f)) hq
  have ha:a≠D:=λz=>by subst z;unfold dn at ea;rw[if_pos rfl] at ea;cases ea
  have ea':μ2 a=some o':=by unfold dn at ea;rw[if_neg ha] at ea;exact ea
  exact (m2 a _ ea').ne t2f ha
end
end
section
open PySem PySem.Spec PyProof.Rows L2
def fi (fn:List (Str×YK))(XN:List Str)(sc:Scope)(Nc:List Str)(n:Nat)(caps:List Nat):Bool:=
 sc.names.all (λy=>(y.2 != .free || fn.lookup y.1 == some .cell)&&y.2 != .cell&&(y.2 != .local || sc.names.lookup y.1 == some .local))&&sc.kind == .function&&Nc.length == n+caps.length &&
 (Vd caps.length).all λj=>match caps[j]? with
  | some k=>(match XN[k]? with
   | some x=>Nc[n+j]? == some x&&sc.names.lookup x == some .free
   | none=>false)
  | none=>false
section
variable {X:Cx} {tg a b c e elt iter:Ve} {Ta Tb Te:ETr} {Tt:TTr} {pos:Pos} {It':ATr} {G:GTr}
theorem bZ {ifs:List Ve}{scope fsc:Scope}(XN Nc:List Str)(n:Nat)(caps:List Nat)(hxe:X.xe=λ_ _=>False)(hcalm:X.calm=true)(hi:LI X tg iter It')
  (hbody:∀ (cl:List (Str×Addr)) (C:Addr) (s₀:UN) (H₀:Hp) (ex:List Addr),LGc (a5 X scope Nc cl C s₀ H₀ ex) n tg G/\vy (a5 X scope Nc cl C s₀ H₀ ex) ifs Tt/\LE (a5 X scope Nc cl C s₀ H₀ ex) elt Te)
  (hsc:X.env.scope=fsc) (hXN:X.N=XN) (hok:fi fsc.names XN scope Nc n caps=true)
  (hs:∀ x,Vx iter X.env x=pure x:=by intro _;rfl) :
  LE X (.ListComp elt [⟨tg,iter,ifs,0⟩] scope pos) (b8 It' G Tt Te n caps):=by
 unfold fi at hok
 simp only[Vj,Xg] at hok
 obtain ⟨⟨⟨h1,h2⟩,h3⟩,h4⟩:=hok
 refine Ju hxe hcalm hi hbody (λy hy hf=>?_) (λy hy hf=>?_) (by simpa using h2) (λy hy hf=>?_) (by simpa using h3) (λj k hj=>?_) hs
 ·have:=(h1 y hy).1.1
  show X.env.scope.names.lookup y.1=_
  rw[hsc]
  simpa[hf] using this
 ·have:=(h1 y hy).1.2
  simp[hf] at this
 ·have:=(h1 y hy).2
  simpa[hf] using this
 ·have hl:j < caps.length:=(Vh.mp hj).1
  have:=h4 j (WW.mpr hl)
  rw[hj] at this
  dsimp only at this
  rw[hXN]
  cases e:XN[k]? with
  | none=>rw[e] at this;cases this
  | some x=>
   rw[e] at this
   dsimp only at this
   rw[Vj] at this
   exact ⟨x,by simpa using this.1,rfl,by simpa using this.2⟩
end
theorem m4:∀ {bs:List Bool} {us:List UK},Vals (bs.map V.bl) us->LSm.BoolsAre us bs
 | [],_,.nil=>.nil
 | b::r,_,.cons h t=>by
  cases (show _=Y7 b from h)
  exact .cons b (m4 t)
theorem C4 {X:Cx}(hc:X.calm=true):b6 X (.builtin "all") (λxs H Q=>∃ (p:Addr) (ys:List V) (bs:List Bool),xs=[.ref p]/\SqL X.K H p ys/\ys=bs.map V.bl/\Q (.bl (bs.all id)) H):=λpins s σ H xs us Q I rx ⟨p,ys,bs,e1,sq,e2,q⟩=>by
 subst e1 e2
 cases rx with | cons r1 r2=>
 cases r2
 cases (show _=Vs p from r1)
 obtain ⟨its,rv,pl,_⟩:=I.list sq
 have ils:s.heap.IsList p its.toArray:=by
  obtain ⟨o,n,h1,h2,_,h3⟩:=pl
  exact ⟨o,h1,h2,n,h3⟩
 have bls:=m4 rv
 have hlt:p < s.heap.objs.size:=by obtain ⟨_,e,_⟩:=ils;exact U1 e
 refine call_all_walk (Xx ils ?_)
 refine ⟨s.heap.objs.size,[s.heap.objs.size,p],[s.heap.objs.size],its.toArray.size,_,_,λi=>(bs[i]?).getD true,rfl,zc5 (A:=X.A.in1) (I.ok.hd hc) _ p (Vc hlt) its.toArray,
  ⟨⟨_,U3 _ rfl,rfl,rfl⟩,ils.push _⟩,λi v s' Q' E' gP gQ=>?_,λh' tk hk=>?_⟩
 ·obtain ⟨b,e,rfl⟩:=bls.get i v (by simpa using gP)
  simp only[e,YF] at gQ
  exact WK gQ
 ·have e:((Vd its.toArray.size).all λi=>(bs[i]?).getD true)=bs.all id:=by
   rw[U4,bls.length];exact LSm.range_all bs
  rw[e]
  exact ⟨.bl _,H,I.kept (LSm.kept_iter hk),rfl,q⟩
theorem DpL.bools {K:UH}{H:Hp}:∀ {xs:List V} {bs:List Bool},DpL K H xs (bs.map .bl)->xs=bs.map V.bl
 | _,[],.nil=>rfl
 | _,b::r,.cons h l=>by cases h;rw[DpL.bools l];rfl
theorem Kz {K:UH}:ki K (λxs H Q=>∃ (p:Addr) (ys:List V) (bs:List Bool),xs=[.ref p]/\SqL K H p ys/\ys=bs.map V.bl/\Q (.bl (bs.all id)) H) HJ:=λH μ xs ds Q Q' m p h k=>by
 unfold HJ at h
 split at h
 ·obtain ⟨bs,rfl,h⟩:=h
  cases p with | cons p1 p2=>cases p2;cases p1 with | ls q l=>exact ⟨_,_,bs,rfl,q.sq,l.bools,k _ H _ μ (.refl H) m (.bl _) h⟩
 ·exact h.elim
end
section
open PySem PySem.Spec PyProof.Rows L2
def GV (K:UH)(mg:Str->Option UK)(x:Str)(d:D):Prop:=∃ u v,mg x=some u/\RelV v u/\∀ H,Dp K H v d
theorem aG {X:Cx}{x:Str}{pos:Pos}{d:D}(hg:Gl X x)(h:GV X.K X.mg x d)(hd:(x == ("__debug__" : Str))=false:=by decide):LE X (.Name x pos) (TC d):=by
 obtain ⟨u,v,hm,r,p⟩:=h
 exact ⟨_,Lf hg hm r hd,λσ H ρ μ Q Q' rl h k=>k v H d μ (.refl H) rl.mu (p H) h⟩
section
variable {K:UH} {h:Heap} {mg:Str->Option UK} {x:Str}
theorem bc {i:Int}{t:Tok}(X:K.In h)(G:h.Ns Wo mg)(a:zcS K Wo x=some (some (.int i t))):GV K mg x (.int i):=⟨_,.int i,zcJ X G a,⟨t,rfl⟩,λ_=>.int i⟩
theorem Bj {p:Addr}{o:Obj}{its:Array UK}{n:Nat}{xs:List V}{ds:List D}(X:K.In h)(G:h.Ns Wo mg)(a:zcS K Wo x=some (some (.ref p)))(l:K.lookup p=some o)(c:o.cls=.type "tuple")(dn:o.dict=none)(d:o.data=.seq its n)
  (z:its.size<=sizeLine) (r:Vals xs its.toList) (q:∀ H,DpL K H xs ds):GV K mg x (.tup ds):=⟨_,.ref p,zcJ X G a,rfl,λH=>.tup (.inr ⟨o,its,n,l,c,dn,d,z,r⟩) (q H)⟩
end
def kr:ST->List Nat->List D->ST
 | ρ,i::is,d::ds=>kr (ρ.set i (some d)) is ds
 | ρ,_,_=>ρ
def dY (is:List Nat):GTr:=λd ρ μ k=>match d with
 | .tup ds=>ds.length=is.length/\k (kr ρ is ds) μ
 | _=>False
def Sj (K:UH)(t:TGs)(is:List Nat):Prop:=∀ σ H ρ μ vs ds (k:ST->Mu->Prop) (k':L2.St->Hp->Prop),Rl K σ H ρ μ->DpL K H vs ds->ds.length=is.length->k (kr ρ is ds) μ->wY K H k k'->t vs σ H k'
structure LGs (X:Cx) (es:List Ve) (is:List Nat):Prop where
 ex:∃ t,PGs X es t/\Sj X.K t is
section
variable {X:Cx} {e tg:Ve} {es:List Ve} {is:List Nat} {pos:Pos} {x:Str} {Ta:ETr} {G:GTr}
theorem gE:LGs X [] []:=⟨_,Bz,λσ H ρ μ vs ds k k' rl l hl h q=>by
 cases ds with
 | nil=>cases l;exact ⟨rfl,q _ _ _ _ (.refl H) rl h⟩
 | cons=>cases hl⟩
theorem bz (i:Nat)(hN:X.N.Nodup)(h2:LGs X es is)(hi:X.N[i]? = some x:=by rfl)(hx:Loc X.env.scope x:=by first | exact Yt rfl | exact Yu rfl)(hf:X.fn x=true∨X.env.scope.names.lookup x=some .local:=by first | exact .inl rfl | exact .inr rfl | assumption)
  (hs:(Wv (.Name x pos::es) X.env).map (·.2)=zar (.Name x pos) X.env::(Wv es X.env).map (·.2):=by rfl):LGs X (.Name x pos::es) (i::is):=by
 obtain ⟨t,pt,st⟩:=h2.ex
 refine ⟨_,xG (ir hN hi hx hf) pt hs,λσ H ρ μ vs ds k k' rl l hl h q=>?_⟩
 cases l with
 | nil=>cases hl
 | @cons v d vs ds p l=>exact ⟨v,vs,rfl,st _ H _ μ vs ds k k' (rl.set p i) l (by simpa using hl) h q⟩
theorem jy {k:Nat}(hc:X.calm=true)(h:LGs X es is)(hn:(Wv es X.env).length=is.length:=by rfl)(hst:(Wv es X.env).findIdx? (·.1)=none:=by rfl):LG X (.Tuple es k pos) (dY is):=by
 obtain ⟨t,pt,st⟩:=h.ex
 refine ⟨_,Fo hc pt hn hst,λσ H ρ μ v d k k' rl p h q=>?_⟩
 cases p with
 | @tup a xs ds sq l=>exact ⟨a,xs,rfl,sq,by rw[l.length];exact h.1,st σ H ρ μ xs ds k k' rl l h.1 h.2 q⟩
 | _=>exact UO h
theorem ER (he:LE X e Ta)(hG:LG X tg G)(hs:Zu [tg] e pos.line X.env=pure false:=by rfl)(hw:Zv [tg] e X.env=pure none:=by rfl)
  (h1:(Wv [tg] X.env).map (·.2)=[zar tg X.env]:=by rfl):LS X (.Assign [tg] e pos) (aN Ta G):=by
 obtain ⟨ta,pa,sa⟩:=he.ex
 obtain ⟨g,pg,sg⟩:=hG.ex
 exact ⟨_,NK pa pg hs hw h1,λσ H ρ μ E E' rl h k=>sa σ H ρ μ _ _ rl h λv H' d μ' t' m' p' h'=>sg σ H' ρ μ' v d _ _ (rl.go t' m') p' h' (k.go t').nx⟩
end
end
section
open PySem PySem.Spec PyProof.Rows L2
def gS (tp:Bool)(h:Heap)(it a:Addr)(i:Nat):Prop:=match tp with
 | true=>h.IsTupleIter it a i
 | false=>h.IsListIter it a i
def fA (tp:Bool)(h:Heap)(a:Addr)(xs:Array UK):Prop:=match tp with
 | true=>h.IsTuple a xs
 | false=>h.IsList a xs
theorem gS.at {tp:Bool}{h g:Heap}{it a:Addr}{i:Nat}(x:gS tp h it a i)(k:∀ o,h.get? it=some o->g.get? it=some o):gS tp g it a i:=by
 cases tp with
 | true=>obtain ⟨o,e,r⟩:=x;exact ⟨o,k o e,r⟩
 | false=>obtain ⟨o,e,r⟩:=x;exact ⟨o,k o e,r⟩
theorem fA.at {tp:Bool}{h g:Heap}{a:Addr}{xs:Array UK}(x:fA tp h a xs)(k:∀ o,h.get? a=some o->g.get? a=some o):fA tp g a xs:=by
 cases tp with
 | true=>obtain ⟨o,e,r⟩:=x;exact ⟨o,k o e,r⟩
 | false=>obtain ⟨o,e,r⟩:=x;exact ⟨o,k o e,r⟩
theorem gS.ex {tp:Bool}{h:Heap}{it a:Addr}{i:Nat}(x:gS tp h it a i):∃ o,h.get? it=some o/\∃ vs,o.data=.fields vs:=by
 cases tp with
 | true=>obtain ⟨o,e,_,d⟩:=x;exact ⟨o,e,_,d⟩
 | false=>obtain ⟨o,e,_,d⟩:=x;exact ⟨o,e,_,d⟩
section
variable {prog:Vn} {w:VB} {A:VX} {E:UK->UN->Prop} {s:UN}
theorem Hg {it t:Addr}{i:Nat}{xs:Array UK}{x:UK}{Q:UK->UN->Prop}(hi:s.heap.IsTupleIter it t i)(ht:s.heap.IsTuple t xs)(hx:xs[i]? = some x)
  (k:∀ g,g.IsTupleIter it t (i+1)->XM it s.heap g->Q x { s with heap:=g }):U9 (Vb prog w) A (Vm (.ref it)) Q E s:=by
 obtain ⟨ob,gb,cb,db⟩:=id hi
 obtain ⟨ot,gt,_,nt,dt⟩:=ht
 delta Vm
 refine UI (VO (name:=OF "__next__") hi.typeIs WY (Wq WY hi.typeIs Y4 ?_ (YX _)))
 refine UI (m:=zaw (.ref it) 0) (VD gb db (x:=.ref t) rfl ?_)
 refine (show U9 _ _ (if (Vs t == WM)=true then _ else _) _ _ s from ?_)
 rw[if_neg (show ¬ ((Vs t == WM)=true) by intro z;cases z)]
 refine UI (m:=zaw (.ref it) 1) (VD gb db (x:=.int i 0) rfl ?_)
 refine UI (m:=zaN (.ref t)) (Wa gt dt ?_)
 simp only[hx,Ys]
 refine UI (wpAny_setField gb db (by simp) (UQ ⟨x,rfl,UQ (k _ ⟨_,YA _ gb (Obj.isFreed_of_fields (zbh db _)),(Obj.cls_mapFields ..).trans cb,?_⟩ (zaR ..))⟩))
 rw[zbh db];simp[Za]
theorem oK {tp:Bool}{it a:Addr}{i:Nat}{xs:Array UK}{x:UK}{Q:UK->UN->Prop}(hi:gS tp s.heap it a i)(hs:fA tp s.heap a xs)(hx:xs[i]? = some x)
  (k:∀ g,gS tp g it a (i+1)->XM it s.heap g->Q x { s with heap:=g }):U9 (Vb prog w) A (Vm (.ref it)) Q E s:=by
 cases tp with
 | true=>exact Hg hi hs hx k
 | false=>exact wpAny_nextOf_list_item hi hs hx k
theorem LY {it t:Addr}{i:Nat}{xs:Array UK}{Q:UK->UN->Prop}(hh:A.handled=none)(hi:s.heap.IsTupleIter it t i)(ht:s.heap.IsTuple t xs)(hx:xs[i]? = none)
  (k:∀ g e,zb6 it s.heap g->(∃ o,g.get? e=some o/\o.cls=.type "StopIteration")->E (.ref e) { s with heap:=g }):U9 (Vb prog w) A (Vm (.ref it)) Q E s:=by
 obtain ⟨ob,gb,cb,db⟩:=id hi
 obtain ⟨ot,gt,_,nt,dt⟩:=ht
 delta Vm
 refine UI (VO (name:=OF "__next__") hi.typeIs WY (Wq WY hi.typeIs Y4 ?_ (YX _)))
 refine UI (m:=zaw (.ref it) 0) (VD gb db (x:=.ref t) rfl ?_)
 refine (show U9 _ _ (if (Vs t == WM)=true then _ else _) _ _ s from ?_)
 rw[if_neg (show ¬ ((Vs t == WM)=true) by intro z;cases z)]
 refine UI (m:=zaw (.ref it) 1) (VD gb db (x:=.int i 0) rfl ?_)
 refine UI (m:=zaN (.ref t)) (Wa gt dt ?_)
 simp only[hx,Ys]
 refine UI (Xk (UI (wpAny_setField gb db (by simp) (UI (m:=newExc (.type "StopIteration") []) ?_))))
 simp only[newExc,newTuple]
 refine UI (VR (UI (m:=firstArgMember _ _) (zb7 (a:=WM) (by first | rfl | (simp only[firstArgMember];rfl)) (VR ?_ (by size_fits)))) (by size_fits))
 simp only[raiseNew]
 refine UI <| wpAny_handled ?_
 rw[(show A.in1.handled=none from hh)]
 exact UI (UQ (wpAny_throw (k _ _ (((zaR ..).extBut.push _).push _) ⟨_,U3 _ rfl,rfl⟩)))
theorem zC {tp:Bool}{it a:Addr}{i:Nat}{xs:Array UK}{Q:UK->UN->Prop}(hh:A.handled=none)(hi:gS tp s.heap it a i)(hs:fA tp s.heap a xs)(hx:xs[i]? = none)
  (k:∀ g e,zb6 it s.heap g->(∃ o,g.get? e=some o/\o.cls=.type "StopIteration")->E (.ref e) { s with heap:=g }):U9 (Vb prog w) A (Vm (.ref it)) Q E s:=by
 cases tp with
 | true=>exact LY hh hi hs hx k
 | false=>exact wpAny_nextOf_list_end hh hi hs hx k
structure Zp (z ti to i j a b:Addr):Prop where
 nd:[z,ti,to,i,j].Nodup
 na:a ∉ [z,to,i,j]
 nb:b ∉ [z,to,i,j]
structure ZAt (ta tb:Bool) (h:Heap) (z ti to i j a b:Addr) (k:Nat):Prop where
 zz:W6 h z ti to .none
 zt:Wz h ti (.ref i) (.ref j)
 zo:∃ u v,Wz h to u v
 zi:gS ta h i a k
 zj:gS tb h j b k
theorem DP {ta tb:Bool}{z ti to i j a b:Addr}{k:Nat}{xs ys:Array UK}{x y:UK}{Q:Option UK->UN->Prop}(Z:Zp z ti to i j a b)(S:ZAt ta tb s.heap z ti to i j a b k)(ha:fA ta s.heap a xs)(hb:fA tb s.heap b ys)(hx:xs[k]? = some x)(hy:ys[k]? = some y)
  (q:∀ g,W6 g z ti to (Za s.heap.objs.size)->Wz g ti (.ref i) (.ref j)->Wz g to x y->gS ta g i a (k+1)->gS tb g j b (k+1)->Wz g s.heap.objs.size x y->
   (∀ c o,c≠z->c≠to->c≠i->c≠j->s.heap.get? c=some o->g.get? c=some o)->Q (some (.ref s.heap.objs.size)) { s with heap:=g }):U9 (Vb prog w) A (X6 (.ref z)) Q E s:=by
 obtain ⟨zz,zt,⟨u,v,zo⟩,zi,zj⟩:=S
 obtain ⟨nd,na,nb⟩:=Z
 simp only[VN,UZ,Vr,or_false,not_or] at nd na nb
 obtain ⟨⟨n1,n2,n3,n4⟩,⟨n5,n6,n7⟩,⟨n8,n9⟩,n10,_⟩:=nd
 obtain ⟨a1,a2,a3,a4⟩:=na
 obtain ⟨b1,b2,b3,b4⟩:=nb
 have hT:s.TypeIs (.ref z) "zip" := ⟨_,zz,rfl⟩
 unfold X6
 refine UI (ZA (VO (name:=OF "__next__") hT YY (Wq YY hT zbX ?_ (zbA _))))
 refine UI (m:=zaw (.ref z) 2) (VD zz rfl (x:=.bool false) rfl ?_)
 refine UI (m:=zaw (.ref z) 3) (VD zz rfl (x:=.ref ti) rfl (UI (Wa zt rfl (UI (m:=VC (.ref z)) ?_))))
 delta VC
 refine UI (VD zz rfl (x:=.none) rfl (UQ ?_))
 simp only[if_true]
 refine UI (Xk (UI (VD zz rfl (x:=.ref to) rfl (UI (VI zz (by simp) λg1 zz1 k1=>UI ?_)))))
 have zz1:W6 g1 z ti to .ellipsis:=zz1
 simp only[zch,zbY,zcx,YW]
 refine UI (UI (ZC (UI (m:=Vm (.ref i)) (oK (s:={ s with heap:=g1 }) (zi.at λo e=>(k1.2 i (Vo n3)).trans e) (ha.at λo e=>(k1.2 a a1).trans e) hx λg2 zi2 k2=>UQ ?_))))
 have zo2:Wz g2 to u v:=(k2.2 to n8).trans ((k1.2 to (Vo n2)).trans zo)
 refine UI (Wa zo2 rfl (UI (XE zo2 λg3 zo3 k3=>UI (XF (UQ ?_)))))
 have zo3:Wz g3 to x v:=zo3
 refine UI (UI (ZC (UI (m:=Vm (.ref j)) (oK (s:={ s with heap:=g3 }) (zj.at λo e=>(k3.2 j (Vo n9)).trans ((k2.2 j (Vo n10)).trans ((k1.2 j (Vo n4)).trans e)))
  (hb.at λo e=>(k3.2 b b2).trans ((k2.2 b b3).trans ((k1.2 b b1).trans e))) hy λg4 zj4 k4=>UQ ?_))))
 have zo4:Wz g4 to x v:=(k4.2 to n9).trans zo3
 refine UI (Wa zo4 rfl (UI (XE zo4 λg5 zo5 k5=>UI (XF (UQ (UQ ?_))))))
 have zo5:Wz g5 to x y:=zo5
 refine UI (Wa zo5 rfl (UI (wpAny_newTuple (UI (m:=Wg (.ref z) (.ref g5.objs.size)) ?_))))
 have sz:g5.objs.size=s.heap.objs.size:=by rw[k5.1,k4.1,k3.1,k2.1,k1.1]
 have zz5:W6 g5 z ti to .ellipsis:=(k5.2 z n2).trans ((k4.2 z n4).trans ((k3.2 z n2).trans ((k2.2 z n3).trans zz1)))
 have zlt:z < g5.objs.size:=U1 zz5
 delta Wg
 have zz6:W6 (g5.push { cls:=.type "tuple", data:=.seq #[x,y] }) z ti to .ellipsis:=UJ _ zz5
 refine UI (VI zz6 (by simp) λg7 zz7 k7=>?_)
 have zz7:W6 g7 z ti to (Za g5.objs.size):=zz7
 refine VI zz7 (by simp) λg8 zz8 k8=>UQ ⟨_,rfl,UQ ?_⟩
 have up5:∀ c o,c≠z->g5.get? c=some o->g8.get? c=some o:=λc o c1 e=>(k8.2 c c1).trans ((k7.2 c c1).trans (UJ _ e))
 have Si:Wz g8 g5.objs.size x y:=(k8.2 _ (Xm zlt)).trans ((k7.2 _ (Xm zlt)).trans (U3 _ rfl))
 have zz8:W6 g8 z ti to (Za g5.objs.size):=zz8
 rw[sz] at zz8 Si
 have all:∀ c o,c≠z->c≠to->c≠i->c≠j->s.heap.get? c=some o->g8.get? c=some o:=λc o c1 c2 c3 c4 e=>up5 c o c1 ((k5.2 c c2).trans ((k4.2 c c4).trans ((k3.2 c c2).trans ((k2.2 c c3).trans ((k1.2 c c1).trans e)))))
 have fin:=q g8 zz8 (all ti _ (Vo n1) n5 n6 n7 zt) (up5 to _ (Vo n2) zo5) (zi2.at λo e=>up5 i o (Vo n3) ((k5.2 i (Vo n8)).trans ((k4.2 i n10).trans ((k3.2 i (Vo n8)).trans e)))) (zj4.at λo e=>up5 j o (Vo n4) ((k5.2 j (Vo n9)).trans e)) Si all
 rw[← sz] at fin
 exact fin
theorem GZ {ta tb:Bool}{z ti to i j a b:Addr}{k:Nat}{xs ys:Array UK}{Q:Option UK->UN->Prop}(hh:A.handled=none)(Z:Zp z ti to i j a b)(S:ZAt ta tb s.heap z ti to i j a b k)(ha:fA ta s.heap a xs)(hb:fA tb s.heap b ys)(he:xs[k]? = none∨ys[k]? = none)
  (q:∀ g,(∀ c o,c≠z->c≠to->c≠i->c≠j->s.heap.get? c=some o->g.get? c=some o)->Q none { s with heap:=g }):U9 (Vb prog w) A (X6 (.ref z)) Q E s:=by
 obtain ⟨zz,zt,⟨u,v,zo⟩,zi,zj⟩:=S
 obtain ⟨nd,na,nb⟩:=Z
 simp only[VN,UZ,Vr,or_false,not_or] at nd na nb
 obtain ⟨⟨n1,n2,n3,n4⟩,⟨n5,n6,n7⟩,⟨n8,n9⟩,n10,_⟩:=nd
 obtain ⟨a1,a2,a3,a4⟩:=na
 obtain ⟨b1,b2,b3,b4⟩:=nb
 have hT:s.TypeIs (.ref z) "zip" := ⟨_,zz,rfl⟩
 have stop:∀ g e,(∃ o,g.get? e=some o/\o.cls=.type "StopIteration")->(∀ c o,c≠z->c≠to->c≠i->c≠j->s.heap.get? c=some o->g.get? c=some o)->
   U9 (Vb prog w) A (isInstance (.ref e) (.type "StopIteration") >>= λy=>if y=true then pure none else throw (.ref e)) Q E { s with heap:=g }:=λg e ⟨o,ho,hc⟩ al=>by
  refine UI <| wpAny_isInstance (T := "StopIteration") (b:=true) ⟨o,ho,hc⟩ isSubtype_stop ?_
  exact UQ (q g al)
 unfold X6
 refine UI (ZA (VO (name:=OF "__next__") hT YY (Wq YY hT zbX ?_ (zbA _))))
 refine UI (m:=zaw (.ref z) 2) (VD zz rfl (x:=.bool false) rfl ?_)
 refine UI (m:=zaw (.ref z) 3) (VD zz rfl (x:=.ref ti) rfl (UI (Wa zt rfl (UI (m:=VC (.ref z)) ?_))))
 delta VC
 refine UI (VD zz rfl (x:=.none) rfl (UQ ?_))
 simp only[if_true]
 refine UI (Xk (UI (VD zz rfl (x:=.ref to) rfl (UI (VI zz (by simp) λg1 zz1 k1=>UI ?_)))))
 have zz1:W6 g1 z ti to .ellipsis:=zz1
 simp only[zch,zbY,zcx,YW]
 have zi1:gS ta g1 i a k:=zi.at λo e=>(k1.2 i (Vo n3)).trans e
 have ha1:fA ta g1 a xs:=ha.at λo e=>(k1.2 a a1).trans e
 refine UI (UI (ZC (UI (m:=Vm (.ref i)) ?_)))
 cases hx:xs[k]? with
 | none=>
  refine zC (s:={ s with heap:=g1 }) hh zi1 ha1 hx λg2 e k2 he2=>?_
  obtain ⟨oe,ge,ce⟩:=he2
  have zz2:W6 g2 z ti to .ellipsis:=k2 z _ n3 zz1
  have ez:e≠z:=λy=>by subst y;rw[zz2] at ge;cases ge;simp at ce
  refine VI zz2 (by simp) λg3 _ k3=>stop g3 e ⟨oe,(k3.2 e ez).trans ge,ce⟩ λc o c1 _ c3 _ y=>(k3.2 c c1).trans (k2 c o c3 ((k1.2 c c1).trans y))
 | some x=>
  have hy:ys[k]? = none:=by rcases he with h | h;rw[hx] at h;cases h;exact h
  refine oK (s:={ s with heap:=g1 }) zi1 ha1 hx λg2 zi2 k2=>UQ ?_
  have zo2:Wz g2 to u v:=(k2.2 to n8).trans ((k1.2 to (Vo n2)).trans zo)
  refine UI (Wa zo2 rfl (UI (XE zo2 λg3 zo3 k3=>UI (XF (UQ ?_)))))
  refine UI (UI (ZC (UI (m:=Vm (.ref j)) (zC (s:={ s with heap:=g3 }) hh (zj.at λo e=>(k3.2 j (Vo n9)).trans ((k2.2 j (Vo n10)).trans ((k1.2 j (Vo n4)).trans e)))
   (hb.at λo e=>(k3.2 b b2).trans ((k2.2 b b3).trans ((k1.2 b b1).trans e))) hy λg4 e k4 he4=>?_))))
  obtain ⟨oe,ge,ce⟩:=he4
  have zz4:W6 g4 z ti to .ellipsis:=k4 z _ n4 ((k3.2 z n2).trans ((k2.2 z n3).trans zz1))
  have ez:e≠z:=λy=>by subst y;rw[zz4] at ge;cases ge;simp at ce
  refine VI zz4 (by simp) λg5 _ k5=>stop g5 e ⟨oe,(k5.2 e ez).trans ge,ce⟩ λc o c1 c2 c3 c4 y=>(k5.2 c c1).trans (k4 c o c4 ((k3.2 c c2).trans ((k2.2 c c3).trans ((k1.2 c c1).trans y))))
abbrev itO (tp:Bool)(a:Addr):Obj:={ cls:=.type (match tp with | true => "tuple_iterator" | false => "list_iterator"),data:=.fields #[.ref a,.int 0 0] }
theorem Ma {tp:Bool}{a:Addr}{xs:Array UK}{Q:UK->UN->Prop}(h:fA tp s.heap a xs)(q:Q (.ref s.heap.objs.size) { s with heap:=s.heap.push (itO tp a) }):U9 (Vb prog w) A (pyIter (.ref a)) Q E s:=by
 cases tp with
 | true=>exact zbi h q
 | false=>exact Xx h q
abbrev zg1 (ta:Bool)(h:Heap)(a:Addr):Heap:=h.push (itO ta a)
abbrev zg2 (ta tb:Bool)(h:Heap)(a b:Addr):Heap:=(zg1 ta h a).push (itO tb b)
abbrev zg3 (ta tb:Bool)(h:Heap)(a b:Addr):Heap:=(zg2 ta tb h a b).push { cls:=.type "tuple", data:=.seq #[.ref h.objs.size,.ref (zg1 ta h a).objs.size] }
abbrev zg4 (ta tb:Bool)(h:Heap)(a b:Addr):Heap:=(zg3 ta tb h a b).push { cls:=.type "tuple", data:=.seq #[.none,.none] }
abbrev zg5 (ta tb:Bool)(h:Heap)(a b:Addr):Heap:=(zg4 ta tb h a b).push { cls:=.type "zip", data:=.fields #[.none,.bool false,.bool false,.ref (zg2 ta tb h a b).objs.size,.ref (zg3 ta tb h a b).objs.size] }
theorem Iw (ta tb:Bool)(a b:Addr)(xs ys:Array UK):Meets (YJ.«zip.__new__» ⟨[.type "zip", .ref a,.ref b],[]⟩) (λ_ R s=>fA ta s.heap a xs/\fA tb s.heap b ys/\R (.ok (.ret (.ref (zg4 ta tb s.heap a b).objs.size))) { s with heap:=zg5 ta tb s.heap a b }):=
 .of_wp λprog w A R s h=>by
  rcases s with ⟨hp,g,d,tk,os⟩
  obtain ⟨h1,h2,h⟩:=h
  have hs0:=PySem.sub_zip
  have H1:fA ta (zb8 ⟨hp,g,d,tk,os⟩) a xs:=h1
  have H2:fA tb (zb8 ⟨hp.push (itO ta a),g,d,tk,os⟩) b ys:=fA.at h2 λo e=>UJ _ e
  wp_walk using Ma H1,Ma H2
  exact ⟨_,rfl,h⟩
theorem Dy {ta tb:Bool}{a b:Addr}{xs ys:Array UK}{Q:UK->UN->Prop}(h1:fA ta s.heap a xs)(h2:fA tb s.heap b ys)
  (q:∀ g,ZAt ta tb g (s.heap.objs.size+4) (s.heap.objs.size+2) (s.heap.objs.size+3) s.heap.objs.size (s.heap.objs.size+1) a b 0->(∀ c o,s.heap.get? c=some o->g.get? c=some o)->Q (.ref (s.heap.objs.size+4)) { s with heap:=g }) :
  U9 (Vb prog w) A (zaP (.type "zip") [.ref a,.ref b]) Q E s:=by
 refine callType_new F.called_zip (by decide) (F.typeCall_zip_2 _ _) (F.newCall_zip_2 _ _) (λobj=>F.args_object_init_3 obj _ _) F.entry_zip_new (Iw ta tb a b xs ys) ⟨h1,h2,?_⟩
 have s1:(zg1 ta s.heap a).objs.size=s.heap.objs.size+1:=XG ..
 have s2:(zg2 ta tb s.heap a b).objs.size=s.heap.objs.size+2:=by rw[XG,s1]
 have s3:(zg3 ta tb s.heap a b).objs.size=s.heap.objs.size+3:=by rw[XG,s2]
 have s4:(zg4 ta tb s.heap a b).objs.size=s.heap.objs.size+4:=by rw[XG,s3]
 have p5:(zg5 ta tb s.heap a b).get? (zg4 ta tb s.heap a b).objs.size=some _:=U3 _ rfl
 have p4:(zg5 ta tb s.heap a b).get? (zg3 ta tb s.heap a b).objs.size=some _:=UJ _ (U3 _ rfl)
 have p3:(zg5 ta tb s.heap a b).get? (zg2 ta tb s.heap a b).objs.size=some _:=UJ _ (UJ _ (U3 _ rfl))
 have p2:(zg5 ta tb s.heap a b).get? (zg1 ta s.heap a).objs.size=some (itO tb b):=UJ _ (UJ _ (UJ _ (U3 _ rfl)))
 have p1:(zg5 ta tb s.heap a b).get? s.heap.objs.size=some (itO ta a):=UJ _ (UJ _ (UJ _ (UJ _ (U3 _ rfl))))
 have i1:gS ta (zg5 ta tb s.heap a b) s.heap.objs.size a 0:=by cases ta<;>exact ⟨_,p1,rfl,rfl⟩
 have i2:gS tb (zg5 ta tb s.heap a b) (zg1 ta s.heap a).objs.size b 0:=by cases tb<;>exact ⟨_,p2,rfl,rfl⟩
 show _/\_
 rw[s2,s3,s4] at p5
 rw[s1,s2] at p3
 rw[s3] at p4
 rw[s1] at i2
 rw[s4]
 exact ⟨⟨_,p5,rfl⟩,q _ ⟨p5,p3,⟨_,_,p4⟩,i1,i2⟩ λc o x=>UJ _ (UJ _ (UJ _ (UJ _ (UJ _ x))))⟩
end
def Sq (tp:Bool)(K:UH)(H:Hp)(a:Addr)(xs:List V):Prop:=match tp with
 | true=>SqT K H a xs
 | false=>SqL K H a xs
def SqX (tp:Bool)(K:UH)(H:Hp)(a:Addr)(xs:List V):Prop:=match tp with
 | true=>SqT K H a xs
 | false=>SqF K H a xs
theorem SqX.sq {tp:Bool}{K:UH}{H:Hp}{a:Addr}{xs:List V}(h:SqX tp K H a xs):Sq tp K H a xs:=by
 cases tp with
 | true=>exact h
 | false=>exact SqF.sq h
theorem Inv.sq {X:Cx}{pins:List (Addr×Obj)}{σ:L2.St}{H:Hp}{s:UN}{tp:Bool}{a:Addr}{xs:List V}(I:Inv X pins σ H s)(h:Sq tp X.K H a xs):∃ its:List UK,Vals xs its/\fA tp s.heap a its.toArray:=by
 cases tp with
 | true=>obtain ⟨its,r,p,_⟩:=I.tuple h;exact ⟨its,r,p⟩
 | false=>
  obtain ⟨its,r,⟨o,n,e1,e2,_,e3⟩,_⟩:=I.list h
  exact ⟨its,r,o,e1,e2,n,e3⟩
theorem Inv.AM {X:Cx}{pins:List (Addr×Obj)}{σ:L2.St}{H:Hp}{s:UN}{tp:Bool}{a:Addr}{xs ys:List V}(I:Inv X pins σ H s)(h:Sq tp X.K H a xs)(h':Sq tp X.K H a ys):xs=ys:=by
 cases tp with
 | true=>exact I.tX h h'
 | false=>exact I.vZ h h'
def Itz (ta tb:Bool)(K:UH)(a b:Addr):It:=
 ⟨λi H=>∃ xs ys x y,Sq ta K H a xs/\Sq tb K H b ys/\xs[i]? = some x/\ys[i]? = some y,
  λi H v H'=>∃ x y p,(∀ xs,Sq ta K H a xs->xs[i]? = some x)/\(∀ ys,Sq tb K H b ys->ys[i]? = some y)/\v=.ref p/\H p=none/\H'=L2.upd H p (.tup [x,y]),
  λi H=>∃ xs ys,Sq ta K H a xs/\Sq tb K H b ys/\(xs.length<=i∨ys.length<=i)⟩
theorem GX {P:Vn}{w:VB}{K:UH}{es:List Ve}{ek:Nat}{ep:Pos}{ta tb:Bool}{z ti to i j a b:Addr}(Z:Zp z ti to i j a b) :
  Turn P w K (.Tuple es ek ep) (Itz ta tb K a b) [z,ti,to,i,j] z (λk h=>ZAt ta tb h z ti to i j a b k) where
 mem:=by simp
 obj:=λk h S c hc=>by
  obtain ⟨zz,zt,⟨u,v,zo⟩,zi,zj⟩:=S
  simp only[UZ,Vr,or_false] at hc
  rcases hc with rfl | rfl | rfl | rfl | rfl
  ·exact ⟨_,zz,λv y=>by cases y⟩
  ·exact ⟨_,zt,λv y=>by cases y⟩
  ·exact ⟨_,zo,λv y=>by cases y⟩
  ·obtain ⟨o,e,vs,d⟩:=zi.ex;exact ⟨o,e,λv y=>by rw[d] at y;cases y⟩
  ·obtain ⟨o,e,vs,d⟩:=zj.ex;exact ⟨o,e,λv y=>by rw[d] at y;cases y⟩
 keep:=λk h g S kp=>by
  obtain ⟨zz,zt,⟨u,v,zo⟩,zi,zj⟩:=S
  exact ⟨kp z (by simp) _ zz,kp ti (by simp) _ zt,⟨u,v,kp to (by simp) _ zo⟩,zi.at λo e=>kp i (by simp) o e,zj.at λo e=>kp j (by simp) o e⟩
 item:=by
  intro X hP hw hK hc k pins s σ H E I hf S hg
  subst hP hw hK
  obtain ⟨xs,ys,x,y,qa,qb,ex,ey⟩:=hg
  obtain ⟨ia,ra,sa⟩:=Inv.sq I qa
  obtain ⟨ib,rb,sb⟩:=Inv.sq I qb
  obtain ⟨ux,hux,rx⟩:=ra.get ex
  obtain ⟨uy,huy,ry⟩:=rb.get ey
  refine DP Z S sa sb (x:=ux) (y:=uy) (by simpa using hux) (by simpa using huy) λg zz zt zo zi zj new al=>⟨_,rfl,wpAny_letOwnedTupleGo_zip zz λg2 zz2 k2=>?_⟩
  have nd:=Z.nd
  simp only[VN,UZ,Vr,or_false,not_or] at nd
  obtain ⟨⟨n1,n2,n3,n4⟩,_⟩:=nd
  have zlt:z < s.heap.objs.size:=U1 S.zz
  have fr:H s.heap.objs.size=none:=I.hok.fresh (U2 _)
  have new2:Wz g2 s.heap.objs.size ux uy:=(k2.2 _ (Xm zlt)).trans new
  have all:∀ c o,c ∉ [z,ti,to,i,j]->s.heap.get? c=some o->g2.get? c=some o:=λc o hc e=>by
   simp only[UZ,Vr,or_false,not_or] at hc
   exact (k2.2 c hc.1).trans (al c o hc.1 hc.2.2.1 hc.2.2.2.1 hc.2.2.2.2 e)
  have nfp:∀ c u,H c=some u->c ∉ [z,ti,to,i,j]:=λc u e hc=>by rw[(hf c hc).1] at e;cases e
  refine ⟨.ref s.heap.objs.size,L2.upd H s.heap.objs.size (.tup [x,y]),?_,rfl,⟨x,y,_,λxs' q=>by rw[Inv.AM I q qa];exact ex,λys' q=>by rw[Inv.AM I q qb];exact ey,rfl,fr,rfl⟩,⟨zz2,(k2.2 ti (Vo n1)).trans zt,⟨_,_,(k2.2 to (Vo n2)).trans zo⟩,zi.at λo e=>(k2.2 i (Vo n3)).trans e,zj.at λo e=>(k2.2 j (Vo n4)).trans e⟩,λc hc=>?_⟩
  ·refine L2.Inv.step (s:=s) (H:=H) (H':=L2.upd H s.heap.objs.size (.tup [x,y])) (g':=s.gens) (d':=s.drawn) (t':=s.toks) (h':=g2) (ch:=[z,ti,to,i,j]) I (λc hc=>⟨(hf c hc).2.2.2.1,(hf c hc).2.1,(hf c hc).2.2.2.2.1,(hf c hc).2.2.2.2.2⟩) (λc o _ _ hc e _=>all c o hc e) (λc o _ _ hc e _=>⟨o.slots,all c o hc e⟩) (λc o hc e n=>?_) (λc o hc e=>⟨o,all c o hc e⟩)
    (λc xs e=>?_) (λc o u e=>?_) (λc ps e=>⟨#[],?_⟩) (λm hm=>?_) (λc u e=>?_) I.bare
   ·rw[aM (Vc (U1 e))];exact n
   ·rw[aM (ba e fr)];exact e
   ·rw[aM (ba e fr)];exact e
   ·rw[aM (ba e fr),e];simp
   ·obtain ⟨o,es',ep',ho,r⟩:=hm
    exact ⟨o,es',ep',all _ o (λhc=>(hf _ hc).2.1 rfl) ho,r⟩
   ·by_cases hcT:c=s.heap.objs.size
    ·subst hcT
     rw[aK] at e;cases e
     exact ⟨by show 2<=sizeLine;decide,[ux,uy],.cons rx (.cons ry .nil),⟨_,new2⟩⟩
    ·rw[aM hcT] at e
     refine (I.hok c u e).lO (λc' v hc' q=>all c' v ?_ q) (λc' q=>by rw[aM (ba q fr)];exact q) λc' xs q=>by rw[aM (ba q fr)];exact q
     rcases hc' with rfl | hc'
     ·exact nfp _ _ e
     ·exact nfp _ _ hc'
  ·have hcl:c≠s.heap.objs.size:=by
    obtain ⟨zz,zt,⟨u,v,zo⟩,zi,zj⟩:=S
    simp only[UZ,Vr,or_false] at hc
    rcases hc with rfl | rfl | rfl | rfl | rfl
    ·exact Vc (U1 zz)
    ·exact Vc (U1 zt)
    ·exact Vc (U1 zo)
    ·obtain ⟨o,e,_⟩:=zi.ex;exact Vc (U1 e)
    ·obtain ⟨o,e,_⟩:=zj.ex;exact Vc (U1 e)
   rw[aM hcl];exact (hf c hc).1
 done:=by
  intro X hP hw hK hc k pins s σ H E I hf S hg
  subst hP hw hK
  obtain ⟨xs,ys,qa,qb,he⟩:=hg
  obtain ⟨ia,ra,sa⟩:=Inv.sq I qa
  obtain ⟨ib,rb,sb⟩:=Inv.sq I qb
  have la:=ra.length
  have lb:=rb.length
  refine GZ (I.ok.hd hc) Z S sa sb (he.imp (λh=>by simp;omega) λh=>by simp;omega) λg al=>⟨rfl,?_⟩
  have all:∀ c o,c ∉ [z,ti,to,i,j]->s.heap.get? c=some o->g.get? c=some o:=λc o hc e=>by
   simp only[UZ,Vr,or_false,not_or] at hc
   exact al c o hc.1 hc.2.2.1 hc.2.2.2.1 hc.2.2.2.2 e
  have nfp:∀ c u,H c=some u->c ∉ [z,ti,to,i,j]:=λc u e hc=>by rw[(hf c hc).1] at e;cases e
  refine L2.Inv.step (s:=s) (H:=H) (H':=H) (g':=s.gens) (d':=s.drawn) (t':=s.toks) (h':=g) (ch:=[z,ti,to,i,j]) I (λc hc=>⟨(hf c hc).2.2.2.1,(hf c hc).2.1,(hf c hc).2.2.2.2.1,(hf c hc).2.2.2.2.2⟩) (λc o _ _ hc e _=>all c o hc e) (λc o _ _ hc e _=>⟨o.slots,all c o hc e⟩) (λc o hc e n=>n) (λc o hc e=>⟨o,all c o hc e⟩)
   (λc xs e=>e) (λc o u e=>e) (λc ps e=>⟨#[],by rw[e];simp⟩) (λm hm=>?_) (λc u e=>?_) I.bare
  ·obtain ⟨o,es',ep',ho,r⟩:=hm
   exact ⟨o,es',ep',all _ o (λhc=>(hf _ hc).2.1 rfl) ho,r⟩
  ·refine (I.hok c u e).lO (λc' v hc' q=>all c' v ?_ q) (λc' q=>q) λc' xs q=>q
   rcases hc' with rfl | hc'
   ·exact nfp _ _ e
   ·exact nfp _ _ hc'
 self:=λ_ _ _ _ _ S h=>zbZ S.zz h
theorem Sr (n a b:Nat)(ha:a < n)(hb:b < n):Zp (n+4) (n+2) (n+3) n (n+1) a b:=by
 refine ⟨?_,?_,?_⟩
 ·show ([n+4,n+2,n+3,n,n+1]:List Nat).Nodup
  simp only[VN,UZ,Vr,or_false,not_or,List.nodup_nil,and_true,not_false_eq_true]
  and_intros<;>omega
 ·show a ∉ ([n+4,n+3,n,n+1]:List Nat)
  simp only[UZ,Vr,or_false,not_or]
  omega
 ·show b ∉ ([n+4,n+3,n,n+1]:List Nat)
  simp only[UZ,Vr,or_false,not_or]
  omega
theorem Nq (n c:Nat)(h:c∈([n+4,n+2,n+3,n,n+1]:List Nat)):n<=c:=by
 simp only[UZ,Vr,or_false] at h
 omega
section
variable {X:Cx} {ea eb:Ve} {es:List Ve} {ek:Nat} {ep p pos:Pos}
def kQ (tp:Bool)(x:D)(f:List D->Prop):Prop:=match tp,x with
 | true,.tup ds=>f ds
 | false,.ls ds=>f ds
 | _,_=>False
theorem zx {K:UH}{H:Hp}{tp:Bool}{v:V}{x:D}{f:List D->Prop}(p:Dp K H v x)(h:kQ tp x f):∃ a xs ds,v=.ref a/\SqX tp K H a xs/\DpL K H xs ds/\f ds:=by
 cases tp with
 | true=>cases p with
  | @tup a xs ds q l=>exact ⟨a,xs,ds,rfl,q,l,h⟩
  | _=>exact UO h
 | false=>cases p with
  | @ls a xs ds q l=>exact ⟨a,xs,ds,rfl,q,l,h⟩
  | _=>exact UO h
theorem Tk.sq {K:UH}{H H':Hp}{tp:Bool}{a:Addr}{xs:List V}(t:Tk H H')(h:SqX tp K H a xs):Sq tp K H' a xs:=by
 cases tp with
 | true=>exact t.sqT h
 | false=>exact (t.sqF h).sq
end
end
section
open PySem PySem.Spec PyProof.Rows L2
def kObj (x:D)(f:Addr->Prop):Prop:=match x with
 | .obj a=>f a
 | _=>False
theorem gR (a:Addr)(f):kObj (.obj a) f=f a:=rfl
section
variable {X:Cx} {o a b c e:Ve} {To Ta Tb Tc Te T T':ETr} {pos:Pos}
theorem MT {K:UH}{H:Hp}{μ:Mu}{q:Addr}{u:HO}(m:bB K H μ)(t:Tk H (L2.upd H q u)):bB K (L2.upd H q u) (dn μ q):=λz y ez=>by
 have zq:z≠q:=λw=>by subst w;unfold dn at ez;rw[if_pos rfl] at ez;cases ez
 have ez':μ z=some y:=by unfold dn at ez;rw[if_neg zq] at ez;exact ez
 exact (m z _ ez').ne t zq
theorem iE {H:Hp}{q:Addr}{u:HO}{xs:List V}(ex:H q=some (.lst xs)):Tk H (L2.upd H q u):=
 .upd (λys z=>by rw[ex] at z;cases z) λo' w z=>by rw[ex] at z;cases z
theorem BR {K:UH}{H:Hp}{μ:Mu}{q:Addr}{xs ys:List V}{ds:List D}(m:bB K H μ)(ex:H q=some (.lst xs))(l:DpL K H ys ds):bB K (L2.upd H q (.lst ys)) (up μ q (.lst ds)):=λz y ez=>by
 by_cases zq:z=q
 ·subst zq
  rw[aF] at ez;cases ez
  exact ⟨ys,aK,l.mono (iE ex)⟩
 ·rw[aU zq] at ez
  exact (m z _ ez).ne (iE ex) zq
theorem uW {K:UH}{H:Hp}{μ:Mu}{q:Addr}{ys:List V}{ds:List D}(m:bB K H μ)(hq:H q=none)(l:DpL K H ys ds):bB K (L2.upd H q (.lst ys)) (up μ q (.lst ds)):=λz y ez=>by
 by_cases zq:z=q
 ·subst zq
  rw[aF] at ez;cases ez
  exact ⟨ys,aK,l.mono (.new hq)⟩
 ·rw[aU zq] at ez
  exact cJ m hq z y ez
def su (T:ETr):ETr:=λρ μ Q=>T ρ μ λx μ1=>kObj x λa=>kL μ1 a λds=>Q (.ls ds) (dn μ1 a)
theorem p9 (h:LE X e T):LE X e (su T):=by
 obtain ⟨t,p,s⟩:=h.ex
 refine ⟨_,iB p,λσ H ρ μ Q Q' rl h k=>s σ H ρ μ _ _ rl h λv H1 d μ1 t1 m1 p1 h1=>?_⟩
 cases p1 with
 | obj q=>
  obtain ⟨ds,e0,h2⟩:=bA h1
  obtain ⟨xs,ex,l⟩:=m1 q _ e0
  refine ⟨q,xs,rfl,ex,λu=>?_⟩
  have t2:Tk H1 (L2.upd H1 q (.frz u (.lst xs))):=iE ex
  exact k _ _ _ (dn μ1 q) (t1.trans t2) (MT m1 t2) (.ls (.inl ⟨u,aK⟩) (l.mono t2)) h2
 | _=>exact UO h1
def kg (To Te:ETr):ETr:=λρ μ Q=>To ρ μ λx μ1=>kObj x λa=>kL μ1 a λ_=>Te ρ μ1 λy μ2=>kL μ2 a λds=>ds.length < 1000000/\Q .non (up μ2 a (.lst (ds++[y])))
theorem le_app {apos cpos:Pos}(ho:LE X o To)(he:LE X e Te)
  (hbase:YI o (OF "append") X.env (V8 o X.env)=V8 o X.env:=by rfl)
  (hfew:((Wu cpos (UX [e] X.env)).all (λx=>!x.1)&&(ZG cpos (Ye [] X.env)).all (λx=>x.1.isSome)
   && decide ([e].length+([]:List Yq).length+(if ([]:List Yq).isEmpty then 0 else 1) < 30))=true:=by rfl)
  (hline:(apos.endLine == cpos.line)=true:=by rfl) (hs:UX [e] X.env=(false,V8 e X.env)::UX [] X.env:=by rfl) (hplain:(Wu cpos (UX [] X.env)).any (·.1)=false:=by rfl) :
  LE X (.Call (.Attribute o (OF "append") apos) [e] [] cpos) (kg To Te):=by
 obtain ⟨to,po,so⟩:=ho.ex
 obtain ⟨te,pe,se⟩:=he.ex
 refine ⟨_,B0 Xh PySem.F.slot_list_append PySem.F.type_list_append tQ po (eC pe iI hs) hbase hfew hline hs hplain,λσ H ρ μ Q Q' rl h k=>so σ H ρ μ _ _ rl h λx H1 dx μ1 t1 m1 p1 h1=>?_⟩
 cases p1 with
 | obj q=>
  obtain ⟨ds0,e0,h2⟩:=bA h1
  obtain ⟨xs0,ex0,_⟩:=m1 q _ e0
  refine ⟨.inl ⟨rfl,_,SqL.of ex0⟩,se σ H1 ρ μ1 _ _ (rl.go t1 m1) h2 λy H2 dy μ2 t2 m2 p2 h3=>?_⟩
  obtain ⟨ds,e1,lz,h4⟩:=bA h3
  obtain ⟨xs,ex,l⟩:=m2 q _ e1
  exact ⟨q,xs,y,rfl,rfl,ex,by rw[l.length];exact U6 lz (by decide),k _ _ _ _ ((t1.trans t2).trans (iE ex)) (BR m2 ex (l.append (.cons p2 .nil))) .non h4⟩
 | _=>exact UO h1
def bu:FSp:=λds μ Q=>match ds with
 | [.tup xs]=>Q (.tup xs) μ
 | [.ls xs]=>Q (.tup xs) μ
 | [.obj a]=>kL μ a λxs=>Q (.tup xs) μ
 | _=>False
theorem a7 {K:UH}:ki K (λxs H Q=>∃ p ys,xs=[.ref p]/\((SqL K H p ys/\∀ l,H l=none->Q (.ref l) (L2.upd H l (.tup ys)))∨(SqT K H p ys/\Q (.ref p) H))) bu:=λH μ xs ds Q Q' m p h k=>by
 unfold bu at h
 split at h
 ·cases p with | cons p1 p2=>cases p2;cases p1 with | tup q l=>exact ⟨_,_,rfl,.inr ⟨q,k _ H _ μ (.refl H) m (.tup q l) h⟩⟩
 ·cases p with | cons p1 p2=>cases p2;cases p1 with | ls q l=>exact ⟨_,_,rfl,.inl ⟨q.sq,λz hz=>k _ _ _ μ (.new hz) (cJ m hz) (.tup (SqT.of aK) (l.mono (.new hz))) h⟩⟩
 ·rename_i q
  cases p with | cons p1 p2=>
  cases p2;cases p1
  obtain ⟨ys,e0,h⟩:=bA h
  obtain ⟨xs,ex,l⟩:=m q _ e0
  exact ⟨_,_,rfl,.inl ⟨SqL.of ex,λz hz=>k _ _ _ μ (.new hz) (cJ m hz) (.tup (SqT.of aK) (l.mono (.new hz))) h⟩⟩
 ·exact UO h
def jT:FSp:=λds μ Q=>match ds with
 | [.tup xs]=>∀ p,μ p=none->Q (.obj p) (up μ p (.lst xs))
 | [.ls xs]=>∀ p,μ p=none->Q (.obj p) (up μ p (.lst xs))
 | [.obj a]=>kL μ a λxs=>∀ p,μ p=none->Q (.obj p) (up μ p (.lst xs))
 | _=>False
theorem tu {K:UH}:ki K (λxs H Q=>∃ p ys,xs=[.ref p]/\(SqL K H p ys∨SqT K H p ys)/\∀ l,H l=none->Q (.ref l) (L2.upd H l (.lst ys))) jT:=λH μ xs ds Q Q' m p h k=>by
 unfold jT at h
 split at h
 ·cases p with | cons p1 p2=>cases p2;cases p1 with | tup q l=>exact ⟨_,_,rfl,.inr q,λz hz=>k _ _ _ _ (.new hz) (uW m hz l) (.obj _) (h z (m.free hz))⟩
 ·cases p with | cons p1 p2=>cases p2;cases p1 with | ls q l=>exact ⟨_,_,rfl,.inl q.sq,λz hz=>k _ _ _ _ (.new hz) (uW m hz l) (.obj _) (h z (m.free hz))⟩
 ·rename_i q
  cases p with | cons p1 p2=>
  cases p2;cases p1
  obtain ⟨ys,e0,h⟩:=bA h
  obtain ⟨xs,ex,l⟩:=m q _ e0
  exact ⟨_,_,rfl,.inl (SqL.of ex),λz hz=>k _ _ _ _ (.new hz) (uW m hz l) (.obj _) (h z (m.free hz))⟩
 ·exact UO h
def je:FSp:=λds μ Q=>match ds with
 | [.tup xs]=>Q (.ls xs) μ
 | [.ls xs]=>Q (.ls xs) μ
 | [.obj a]=>kL μ a λxs=>Q (.ls xs) μ
 | _=>False
def Qn (Q:VK):VK:=λv H1=>∃ a xs,v=.ref a/\H1 a=some (.lst xs)/\∀ o,Q v (L2.upd H1 a (.frz o (.lst xs)))
theorem gn {K:UH}{H:Hp}{μ:Mu}{ys:List V}{ds:List D}{Q:DK}{Q':VK}{z:Addr}(m:bB K H μ)(l:DpL K H ys ds)(h:Q (.ls ds) μ)(k:jx K H Q Q')(hz:H z=none):Qn Q' (.ref z) (L2.upd H z (.lst ys)):=
 ⟨z,ys,rfl,aK,λo=>by
  have e:L2.upd (L2.upd H z (.lst ys)) z (.frz o (.lst ys))=L2.upd H z (.frz o (.lst ys)):=uc
  rw[e]
  exact k _ _ _ μ (.new hz) (cJ m hz) (.ls (.inl ⟨o,aK⟩) (l.mono (.new hz))) h⟩
theorem DO {K:UH}:ki K (λxs H Q=>∃ p ys,xs=[.ref p]/\(SqL K H p ys∨SqT K H p ys)/\∀ l,H l=none->Qn Q (.ref l) (L2.upd H l (.lst ys))) je:=λH μ xs ds Q Q' m p h k=>by
 unfold je at h
 split at h
 ·cases p with | cons p1 p2=>cases p2;cases p1 with | tup q l=>exact ⟨_,_,rfl,.inr q,λz hz=>gn m l h k hz⟩
 ·cases p with | cons p1 p2=>cases p2;cases p1 with | ls q l=>exact ⟨_,_,rfl,.inl q.sq,λz hz=>gn m l h k hz⟩
 ·rename_i q
  cases p with | cons p1 p2=>
  cases p2;cases p1
  obtain ⟨ys,e0,h⟩:=bA h
  obtain ⟨xs,ex,l⟩:=m q _ e0
  exact ⟨_,_,rfl,.inl (SqL.of ex),λz hz=>gn m l h k hz⟩
 ·exact UO h
theorem IL {x:Str}{p:Pos}{At:ATr}(hx:x = "list")(hg:Gl X x)(hm:X.mg x=none)(hv:Wc x=some (.type "list"))(ha:LA X [e] At)(hn:x ≠ "__name__" := by decide)(hdb:(x == ("__debug__" : Str))=false:=by decide)
  (h1:UX [e] X.env=(false,V8 e X.env)::UX [] X.env:=by rfl) (h2:(Wu pos (UX [] X.env)).any (·.1)=false:=by rfl):LE X (.Call (.Name x p) [e] [] pos) (aq je At):=by
 obtain ⟨ta,pa,sa⟩:=ha.ex
 exact ⟨_,iB (tU iW hg hm hv pa hn hdb h1 h2),λσ H ρ μ Q Q' rl h k=>sa σ H ρ μ _ _ rl h λxs H1 ds μ1 t1 m1 p1 h1=>DO H1 μ1 xs ds Q Q' m1 p1 h1 (k.go t1)⟩
def i7:D->Bool
 | .non=>true
 | .bl _=>true
 | .int _=>true
 | .str _=>true
 | _=>false
def inD (x:D)(xs:List D):Bool:=xs.any λy=>eqD y x
def rIn (neg:Bool):DR2:=λx y μ Q=>match y with
 | .tup xs=>(i7 x=true/\xs.all i7=true)/\Q (.bl (if neg then !inD x xs else inD x xs)) μ
 | .ls xs=>(i7 x=true/\xs.all i7=true)/\Q (.bl (if neg then !inD x xs else inD x xs)) μ
 | .obj a=>kL μ a λxs=>(i7 x=true/\xs.all i7=true)/\Q (.bl (if neg then !inD x xs else inD x xs)) μ
 | _=>False
end
end
section
open PySem PySem.Spec PyProof.Rows L2
section
variable {X:Cx} {a b e:Ve} {Ta Tb T:ETr} {pos:Pos}
def Q9 (t:TE):TE:=λσ H Q=>t σ H λv H1=>Q v H1∨Qn Q v H1
theorem BS {t:TE}(h:PE X e t):PE X e (Q9 t):=by
 have g:PE X e (λσ H Q=>∃ P:VK,Ay t σ H P/\∀ v H',P v H'->Q v H'):=λpins s σ H Q I ⟨P,hP,k⟩=>
  thn (iB h pins s σ H P I hP) λu s1 ⟨v,H1,I1,r,q⟩=>⟨v,H1,I1,r,k _ _ q⟩
 intro pins s σ H Q I hh
 refine thn (h pins s σ H _ I hh) λu s1 ⟨v,H1,I1,r,q⟩=>?_
 rcases q with q | ⟨c,xs,rfl,ec,q⟩
 ·exact ⟨v,H1,I1,r,q⟩
 ·have hz:=I1.hok c _ ec
  obtain ⟨z,its,n,rv,hg⟩:=hz
  have nl:∀ d o,H1 d=some o->(∀ ys,o≠.lst ys)->d≠c:=λd o e1 e2 w=>by subst w;rw[ec] at e1;cases e1;exact e2 _ rfl
  refine ⟨.ref c,_,I1.un (h':=s1.heap) (t':=s1.toks) (H':=L2.upd H1 c (.frz { cls:=.type "list", data:=.seq its.toArray n } (.lst xs))) ⟨λd o e _ _ _=>e,λd o e _ _ _=>⟨o.slots,e⟩,λd o e w _=>?_,λd o e _=>⟨o,e⟩,λd ys e=>?_,λd o u e=>?_,λd ps e=>⟨#[],?_⟩⟩ (λd u e=>?_),r,q _⟩
  ·rw[aM (λz=>by subst z;rw[ec] at w;cases w)];exact w
  ·rw[aM (nl d _ e (λ_=>nofun))];exact e
  ·rw[aM (nl d _ e (λ_=>nofun))];exact e
  ·rw[aM (nl d _ e (λ_=>nofun)),e];simp
  ·by_cases hd:d=c
   ·subst hd
    rw[aK] at e;cases e
    exact ⟨hg,z,its,n,rv,hg⟩
   ·rw[aM hd] at e
    refine (I1.hok d u e).lO (λk w _ q=>q) (λk q=>?_) λk ys q=>?_
    ·rw[aM (nl k _ q (λ_=>nofun))];exact q
    ·rw[aM (nl k _ q (λ_=>nofun))];exact q
def Nb (K:UH):R2:=λx y H Q=>∃ p q ys,x=.ref p/\y=.ref q/\SqT K H p []/\SqT K H q ys/\Q (.ref q) H
theorem Mw:OpR X (Xe .Add) (Nb X.K):=λpins s σ H x y v u Q I rx ry ⟨p,q,ys,e1,e2,hp,hq,h⟩=>by
 subst e1 e2
 cases rx
 cases ry
 obtain ⟨its,r1,p1,_⟩:=I.tuple hp
 obtain ⟨its2,r2,p2,_⟩:=I.tuple hq
 cases r1
 obtain ⟨⟨c1,d1,t1,l1⟩,ho,hc,n,hd⟩:=id p1
 obtain ⟨⟨c2,d2,t2,l2⟩,ho2,hc2,n2,hd2⟩:=id p2
 simp only at hc hd hc2 hd2
 subst hc hd hc2 hd2
 exact Z1 ⟨_,ho,rfl⟩ ⟨_,ho2,rfl⟩ ZI zaX Yr Yf (X0 _ _)
  (tuple_addW0 p q #[] its2.toArray n n2 d1 d2 l1 l2 rfl) ⟨ho,ho2,⟨.ref q,H,I,rfl,h⟩⟩
def M6 (K:UH):R2:=λx y H Q=>∃ p q xs ys,x=.ref p/\y=.ref q/\SqL K H p xs/\SqL K H q ys/\xs.length+ys.length<=sizeLine/\∀ z,H z=none->Q (.ref z) (L2.upd H z (.lst (xs++ys)))
theorem K5:OpR X (Xe .Add) (M6 X.K):=λpins s σ H x y v u Q I rx ry ⟨p,q,xs,ys,e1,e2,hp,hq,hz,h⟩=>by
 subst e1 e2
 cases rx
 cases ry
 obtain ⟨its,r1,p1,_⟩:=I.list hp
 obtain ⟨its2,r2,p2,_⟩:=I.list hq
 obtain ⟨⟨c1,d1,t1,l1⟩,n,ho,hc,hx,hd⟩:=id p1
 obtain ⟨⟨c2,d2,t2,l2⟩,n2,ho2,hc2,hx2,hd2⟩:=id p2
 simp only at hc hd hc2 hd2
 subst hc hd hc2 hd2
 have z1:=r1.length
 have z2:=r2.length
 refine Z1 ⟨_,ho,rfl⟩ ⟨_,ho2,rfl⟩ PySem.noFill_list_add PySem.seq_list_add PySem.F.slot_list_add PySem.F.entry_list_add (PySem.F.args_list_add_2 _ _)
  (list_addW p q its.toArray its2.toArray n n2 d1 d2 l1 l2 (by rw[U4,U4];omega)) ⟨ho,ho2,?_⟩
 have ea:its.toArray++its2.toArray=(its++its2).toArray:=by simp
 rw[ea]
 exact ⟨.ref _,_,I.Tn (t':=s.toks) (r1.append r2) (by rw[US];omega),rfl,h _ I.fresh⟩
def aT:DR2:=λx y μ Q=>match x,y with
 | .int i,.int j=>Q (.int (i+j)) μ
 | .str i,.str j=>i.length+j.length<=1000000/\Q (.str (i++j)) μ
 | .tup a,.tup b=>a.length+b.length<=1000000/\Q (.tup (a++b)) μ
 | .ls a,.ls b=>a.length+b.length<=1000000/\Q (.ls (a++b)) μ
 | _,_=>False
def rPl (K:UH):R2:=λx y H Q=>(rI0 λi j=>.int (i+j)) x y H Q∨(∃ i j,x=.str i/\y=.str j/\i.length+j.length<=sizeLine/\Q (.str (i++j)) H)∨MW K x y H Q∨Nb K x y H Q∨M6 K x y H Q
theorem Kj:OpR X (Xe .Add) (rPl X.K):=λpins s σ H x y v u Q I rx ry h=>by
 rcases h with h | h | h | h | h
 ·exact QG pins s σ H x y v u Q I rx ry h
 ·exact zV pins s σ H x y v u Q I rx ry h
 ·exact K1 pins s σ H x y v u Q I rx ry h
 ·exact Mw pins s σ H x y v u Q I rx ry h
 ·exact K5 pins s σ H x y v u Q I rx ry h
theorem aJ (ha:LE X a Ta)(hb:LE X b Tb):LE X (.BinOp a .Add b pos) (aj aT Ta Tb):=by
 obtain ⟨ta,pa,sa⟩:=ha.ex
 obtain ⟨tb,pb,sb⟩:=hb.ex
 refine ⟨_,BS (MU Kj pa pb),λσ H ρ μ Q Q' rl h k=>sa σ H ρ μ _ _ rl h λx H1 dx μ1 t1 m1 p1 h1=>sb σ H1 ρ μ1 _ _ (rl.go t1 m1) h1 λy H2 dy μ2 t2 m2 p2 h2=>?_⟩
 have p1:=p1.mono t2
 have k:=k.go (t1.trans t2)
 cases p1 with
 | int i=>
  cases p2 with
  | int j=>exact .inl ⟨i,j,rfl,rfl,.inl (k _ H2 _ μ2 (.refl H2) m2 (.int _) h2)⟩
  | _=>exact UO h2
 | str i=>
  cases p2 with
  | str j=>exact .inr (.inl ⟨i,j,rfl,rfl,big h2.1,.inl (k _ H2 _ μ2 (.refl H2) m2 (.str _) h2.2)⟩)
  | _=>exact UO h2
 | @tup q xs ds sq l=>
  cases p2 with
  | @tup q' ys es sq' l'=>
   obtain ⟨hz,h3⟩:=h2
   by_cases hx:xs=[]
   ·subst hx
    cases l
    exact .inr (.inr (.inr (.inl ⟨q,q',ys,rfl,rfl,sq,sq',.inl (k _ H2 _ μ2 (.refl H2) m2 (.tup sq' l') h3)⟩)))
   ·refine .inr (.inr (.inl ⟨q,q',xs,ys,rfl,rfl,sq,sq',hx,by rw[l.length,l'.length];exact big hz,λhy=>?_,λ_ z hzn=>.inl ?_⟩))
    ·subst hy
     cases l'
     rw[Vk] at h3
     exact .inl (k _ H2 _ μ2 (.refl H2) m2 (.tup sq l) h3)
    ·exact k _ _ _ μ2 (.new hzn) (cJ m2 hzn) (.tup (SqT.of aK) ((l.append l').mono (.new hzn))) h3
  | _=>exact UO h2
 | @ls q xs ds sq l=>
  cases p2 with
  | @ls q' ys es sq' l'=>exact .inr (.inr (.inr (.inr ⟨q,q',xs,ys,rfl,rfl,sq.sq,sq'.sq,by rw[l.length,l'.length];exact big h2.1,λz hz=>.inr (gn m2 (l.append l') h2.2 k hz)⟩)))
  | _=>exact UO h2
 | _=>cases p2<;>exact UO h2
abbrev OTr:=ST->Mu->(Option Int->Mu->Prop)->Prop
def ONo:OTr:=λ_ μ Q=>Q none μ
def lr (T:ETr):OTr:=λρ μ Q=>T ρ μ λx μ1=>kI x λi=>Q (some i) μ1
def SY (K:UH)(t:TO)(T:OTr):Prop:=∀ σ H ρ μ (Q:Option Int->Mu->Prop) (Q':Option Int->Hp->Prop),Rl K σ H ρ μ->T ρ μ Q->(∀ i H' μ',Tk H H'->bB K H' μ'->Q i μ'->Q' i H')->t σ H Q'
structure LO (X:Cx) (o:Option Ve) (T:OTr):Prop where
 ex:∃ t,PO X o t/\SY X.K t T
theorem ql:LO X none ONo:=⟨_,L8,λσ H ρ μ Q Q' rl h k=>k none H μ (.refl H) rl.mu h⟩
theorem iT (h:LE X e T):LO X (some e) (lr T):=by
 obtain ⟨t,p,s⟩:=h.ex
 refine ⟨_,JG p,λσ H ρ μ Q Q' rl h k=>s σ H ρ μ _ _ rl h λv H1 d μ1 t1 m1 p1 h1=>?_⟩
 cases p1 with
 | int i=>exact ⟨i,rfl,k _ H1 μ1 t1 m1 h1⟩
 | _=>exact UO h1
def cutD {α:Type}(xs:List α)(lo hi:Option Int):List α:=(xs.drop (HT.sIx xs.length 0 lo)).take (HT.sIx xs.length xs.length hi - HT.sIx xs.length 0 lo)
theorem zJ {α:Type}{xs:List α}{lo hi:Option Int}(h:HT.sIx xs.length 0 lo=0/\HT.sIx xs.length xs.length hi=xs.length):cutD xs lo hi=xs:=by
 unfold cutD;rw[h.1,h.2];simp
theorem DpL.take {K:UH}{H:Hp}:∀ {vs:List V} {ds:List D} (n:Nat),DpL K H vs ds->DpL K H (vs.take n) (ds.take n)
 | _,_,0,_=>.nil
 | _,_,_+1,.nil=>.nil
 | _,_,n+1,.cons h l=>.cons h (DpL.take n l)
theorem DpL.drop {K:UH}{H:Hp}:∀ {vs:List V} {ds:List D} (n:Nat),DpL K H vs ds->DpL K H (vs.drop n) (ds.drop n)
 | _,_,0,l=>l
 | _,_,_+1,.nil=>.nil
 | _,_,n+1,.cons _ l=>DpL.drop n l
theorem DpL.cut {K:UH}{H:Hp}{vs:List V}{ds:List D}(lo hi:Option Int)(l:DpL K H vs ds):DpL K H (vG vs lo hi) (cutD ds lo hi):=by
 unfold vG cutD;rw[l.length];exact (l.drop _).take _
theorem xj {prog:Vn}{w:VB}{A:VX}{E:UK->UN->Prop}{s:UN}{t sl:Addr}{items:Array UK}{vl vu:UK}{lo hi:Option Int}{Q:UK->UN->Prop}(ht:zb4 s.heap t items)(hs:s.heap.IsSliceOf sl vl vu .none)(pl:IsPart vl lo)(pu:IsPart vu hi)
  (hw:HT.sIx items.size 0 lo=0/\HT.sIx items.size items.size hi=items.size) (h:Q (.ref t) s):U9 (Vb prog w) A (Y3 (.ref t) (.ref sl)) Q E s:=by
 obtain ⟨os,hos,hcs,hds⟩:=id hs
 have hTs:s.TypeIs (.ref sl) "slice" := ⟨os,hos,hcs⟩
 unfold Y3
 try with_reducible refine Xt ?_
 first | refine UI (UQ ?_) | skip
 refine UI (zbu ht.typeIs (by decide) ?_)
 refine UI (VO (name:=OF "__getitem__") ht.typeIs VJ (Wq VJ ht.typeIs zaQ ?_ (zbe _ _)))
 show U9 _ _ (Zd (.ref t) >>= _) _ _ s
 refine UI (tupleItemsOf_ ht ?_)
 refine UI <| wpAny_typeOf hTs ?_
 rw[if_pos (by decide)]
 refine UI (HT.gW hs pl pu ?_)
 rw[hw.1,hw.2]
 refine (show U9 _ _ (if (((0:Nat):Int) == 0&&(1:Int) == 1&&(items.size - 0) == items.size)=true then _ else _) _ _ s from ?_)
 rw[if_pos (by simp)]
 unfold zcy
 refine UI (UI (wpAny_typeOf ht.typeIs (UQ ?_)))
 rw[if_pos (by decide)]
 first
  | exact UI (Xk (UI (UQ (UQ ⟨_,rfl,UQ h⟩))))
  | exact UI (Xk (UQ ⟨_,rfl,UQ h⟩))
  | exact UI (UI (Xk (UQ (UQ ⟨_,rfl,UQ h⟩))))
def Ux (K:UH):V->Option Int->Option Int->Hp->VK->Prop:=λx lo hi H Q=>∃ a xs,x=.ref a/\SqT K H a xs/\(HT.sIx xs.length 0 lo=0/\HT.sIx xs.length xs.length hi=xs.length)/\Q (.ref a) H
theorem EX:SlR X (Ux X.K):=λpins s σ H x v vl vu lo hi sl Q I rx hs pl pu ⟨q,xs,e,hx,hw,h⟩=>by
 subst e
 cases rx
 obtain ⟨its,r,ht,_⟩:=I.tuple hx
 have hlen:its.toArray.size=xs.length:=by rw[U4];exact r.length.symm
 exact ⟨"tuple", _,VJ.lookup,ht.typeIs,xj ht hs pl pu (by rw[hlen];exact hw) ⟨.ref q,H,I,rfl,h⟩⟩
def rSl:D->Option Int->Option Int->Mu->DK->Prop:=λx lo hi μ Q=>match x with
 | .tup xs=>Q (.tup (cutD xs lo hi)) μ
 | .ls xs=>Q (.ls (cutD xs lo hi)) μ
 | .obj a=>kL μ a λxs=>Q (.ls (cutD xs lo hi)) μ
 | _=>False
def TSl (a:ETr)(lo hi:OTr):ETr:=λρ μ Q=>a ρ μ λx μ1=>lo ρ μ1 λl μ2=>hi ρ μ2 λh μ3=>rSl x l h μ3 Q
theorem nE {lo hi:Option Ve}{Tl Th:OTr}{p2:Pos}(ha:LE X a Ta)(hl:LO X lo Tl)(hh:LO X hi Th):LE X (.Subscript a (.Slice lo hi none p2) pos) (TSl Ta Tl Th):=by
 obtain ⟨ta,pa,sa⟩:=ha.ex
 obtain ⟨tl,pl,sl⟩:=hl.ex
 obtain ⟨th,ph,sh⟩:=hh.ex
 refine ⟨_,BS (Iq (SlR.or EX (SlR.or Qq KN)) pa pl ph),λσ H ρ μ Q Q' rl h k=>sa σ H ρ μ _ _ rl h λx H1 dx μ1 t1 m1 p1 h1=>sl σ H1 ρ μ1 _ _ (rl.go t1 m1) h1 λi H2 μ2 t2 m2 h2=>sh σ H2 ρ μ2 _ _ (rl.go (t1.trans t2) m2) h2 λj H3 μ3 t3 m3 h3=>?_⟩
 have p1:=p1.mono (t2.trans t3)
 have k:=k.go (t1.trans (t2.trans t3))
 cases p1 with
 | @tup q xs ds sq l=>
  by_cases hw:HT.sIx xs.length 0 i=0/\HT.sIx xs.length xs.length j=xs.length
  ·refine .inl ⟨q,xs,rfl,sq,hw,.inl (k _ H3 _ μ3 (.refl H3) m3 (.tup sq l) ?_)⟩
   rw[l.length] at hw
   have h3:Q (.tup (cutD ds i j)) μ3:=h3
   rw[zJ hw] at h3;exact h3
  ·exact .inr (.inl ⟨q,xs,rfl,sq,hw,λz hz=>.inl (k _ _ _ μ3 (.new hz) (cJ m3 hz) (.tup (SqT.of aK) ((l.cut i j).mono (.new hz))) h3)⟩)
 | @ls q xs ds sq l=>exact .inr (.inr ⟨q,xs,rfl,sq.sq,λz hz=>.inr (gn m3 (l.cut i j) h3 k hz)⟩)
 | obj q=>
  obtain ⟨ds,e0,h4⟩:=bA h3
  obtain ⟨xs,ex,l⟩:=m3 q _ e0
  exact .inr (.inr ⟨q,xs,rfl,SqL.of ex,λz hz=>.inr (gn m3 (l.cut i j) h4 k hz)⟩)
 | _=>exact UO h3
theorem Cf {α:Type}(xs:List α)(k:Nat):cutD xs none (some (k:Int))=xs.take k:=by
 unfold cutD
 rw[HT.yB,HT.BH,List.drop_zero,Nat.sub_zero]
 rcases zcT k xs.length with h | h
 ·rw[zaf h]
 ·rw[ZL h,List.take_length,Xn h]
theorem sV {α:Type}(xs:List α)(k:Nat):cutD xs (some (k:Int)) none=xs.drop k:=by
 unfold cutD
 rw[HT.yB,HT.BH]
 rcases zcT k xs.length with h | h
 ·rw[zaf h,Xn (by rw[XR];omega)]
 ·rw[ZL h,WG,List.drop_of_length_le h];simp
end
end
section
open PySem PySem.Spec PyProof.Rows L2
theorem iw:∀ {us:List UK} {ns:List Int},X2 us ns->Vals (ns.map V.int) us
 | _,_,.nil=>.nil
 | _,_,.cons n t h=>.cons ⟨t,rfl⟩ (iw h)
def Pj (K:UH):List V->Hp->VK->Prop:=λxs H Q=>∃ (p:Addr) (ns:List Int),xs=[.ref p]/\SqL K H p (ns.map V.int)/\ns.length < 64/\∀ ns':List Int,ns'.Perm ns->ns'.Pairwise (·<=·)->∀ z,H z=none->Q (.ref z) (L2.upd H z (.lst (ns'.map V.int)))
theorem Bh {X:Cx}:b6 X (.builtin "sorted") (Pj X.K):=λpins s σ H xs us Q I rx ⟨p,ns,e1,sq,hl,q⟩=>by
 subst e1
 obtain ⟨u,rfl,ru⟩:=vals1 rx
 cases ru
 obtain ⟨its,rv,pl,hz⟩:=I.list sq
 have hi:X2 its ns:=intsAre_of rv
 have hlen:its.length < 64:=by rw[hi.length];exact hl
 refine sorted_ints pl.isList hi hlen λout ns' a1 a2 a3=>?_
 obtain ⟨n,en⟩:=sortedAll_at s.heap its out
 refine ⟨.ref _,_,I.laid (t':=s.toks) (o:=.lst (ns'.map V.int)) (λb o e=>sortedAll_old e) (YL _) ?_,rfl,q ns' a2 a3 _ (I.hok.fresh (YL _))⟩
 have z1:ns'.length=ns.length:=a2.length_eq
 exact ⟨by rw[UL,z1];exact Yn (U6 hl (by decide)),out.toList,n,iw a1,by simpa[YZ] using en⟩
theorem DpL.ints_of {K:UH}{H:Hp}:∀ {xs:List V} {ns:List Int},DpL K H xs (ns.map .int)->xs=ns.map V.int
 | _,[],.nil=>rfl
 | _,n::r,.cons h l=>by cases h;rw[DpL.ints_of l];rfl
end
section
open PySem PySem.Spec PyProof.Rows L2
theorem _root_.L2.Inv.frz {X:Cx}{pins:List (Addr×Obj)}{σ:L2.St}{H:Hp}{s:UN}{c:Addr}{xs:List V}(I1:Inv X pins σ H s)(ec:H c=some (.lst xs)):∃ o,Inv X pins σ (L2.upd H c (.frz o (.lst xs))) s:=by
 obtain ⟨z,its,n,rv,hg⟩:=I1.hok c _ ec
 have nl:∀ d o,H d=some o->(∀ ys,o≠.lst ys)->d≠c:=λd o e1 e2 w=>by subst w;rw[ec] at e1;cases e1;exact e2 _ rfl
 refine ⟨_,I1.un (h':=s.heap) (t':=s.toks) (H':=L2.upd H c (.frz { cls:=.type "list", data:=.seq its.toArray n } (.lst xs))) ⟨λd o e _ _ _=>e,λd o e _ _ _=>⟨o.slots,e⟩,λd o e w _=>?_,λd o e _=>⟨o,e⟩,λd ys e=>?_,λd o u e=>?_,λd ps e=>⟨#[],?_⟩⟩ (λd u e=>?_)⟩
 ·rw[aM (λz=>by subst z;rw[ec] at w;cases w)];exact w
 ·rw[aM (nl d _ e (λ_=>nofun))];exact e
 ·rw[aM (nl d _ e (λ_=>nofun))];exact e
 ·rw[aM (nl d _ e (λ_=>nofun)),e];simp
 ·by_cases hd:d=c
  ·subst hd
   rw[aK] at e;cases e
   exact ⟨hg,z,its,n,rv,hg⟩
  ·rw[aM hd] at e
   refine (I1.hok d u e).lO (λk w _ q=>q) (λk q=>?_) λk ys q=>?_
   ·rw[aM (nl k _ q (λ_=>nofun))];exact q
   ·rw[aM (nl k _ q (λ_=>nofun))];exact q
theorem BY {X:Cx}{tg iter elt:Ve}{ifs:List Ve}{scope:Scope}{pos spos py:Pos}{y:Str}{iy:Nat}{wi:TI}{g:TG}{tt:TT}{te:TE}{Nc:List Str}{n:Nat}{caps:List Nat}
  (hxe:X.xe=λ_ _=>False) (hcalm:X.calm=true) (hi:PI X tg iter wi)
  (hbody:∀ (cl:List (Str×Addr)) (C:Addr) (s₀:UN) (H₀:Hp) (ex:List Addr),PG (a5 X scope Nc cl C s₀ H₀ ex) tg g/\yi (a5 X scope Nc cl C s₀ H₀ ex) ifs tt/\PE (a5 X scope Nc cl C s₀ H₀ ex) elt te)
  (hfree:∀ y∈scope.names,y.2=.free->X.env.kindOf y.1=some .cell) (hcell:∀ y∈scope.names,y.2≠.cell) (fM:scope.kind=.function)
  (hnames:∀ y∈scope.names,y.2=.local->scope.names.lookup y.1=some .local) (hlen:Nc.length=n+caps.length)
  (hcap:∀ (j k:Nat),caps[j]? = some k->∃ x,Nc[n+j]? = some x/\X.N[k]? = some x/\scope.names.lookup x=some .free)
  (pgy:PG X (.Name y py) (l4 iy))
  (hsw:Xd (.ListComp elt [⟨tg,iter,ifs,0⟩] scope pos) (some (.Name y py)) spos.line X.env=pure true)
  (hs:∀ x,Vx iter X.env x=pure x:=by intro _;rfl) :
  PS X (.Assign [.Name y py] (.ListComp elt [⟨tg,iter,ifs,0⟩] scope pos) spos) (Eu (Ay (jI wi g tt te n caps)) (l4 iy)):=
 yh (Z:=Ay) hxe hcalm hi hbody hfree hcell fM hnames hlen hcap pgy hsw (λσ H Q h=>⟨_,h,λpins D H5 s5 I5 ⟨a,xs,ea,eH,q⟩=>by
  cases ea
  obtain ⟨o,I6⟩:=I5.frz eH
  exact ⟨_,λb hb=>by rw[aM (λz=>by rw[z,eH] at hb;cases hb)];exact hb,I6,q o⟩⟩) hs
theorem Io {K:UH}{wi:TI}{It':ATr}{G:GTr}{Tt:TTr}{Te:ETr}{n:Nat}{caps:List Nat}(si:N9 K wi It'):Sim K (Ay (jI wi (ji K n G) (liftT K Tt) (jg K Te) n caps)) (b8 It' G Tt Te n caps):=by
 intro σ H ρ μ Q Q' rl h k
 refine si σ H ρ μ _ _ rl h λJ H1 ds μ1 t1 m1 Y h1 D hD=>?_
 have hp:=h1 D (m1.free hD)
 have tD:Tk H1 (L2.upd H1 D (.lst [])):=.new hD
 have mD:bB K (L2.upd H1 D (.lst [])) (up μ1 D (.lst [])):=λa o e=>by
  by_cases ha:a=D
  ·subst ha
   rw[aF] at e;cases e
   exact ⟨[],aK,.nil⟩
  ·rw[aU ha] at e
   exact cJ m1 hD a o e
 refine ⟨λi m ys H2=>m=ds.length - i/\i<=ds.length/\Tk H1 H2/\∃ μ2,bB K H2 μ2/\fo D G Tt Te (dh ρ n caps) (λμ'=>kL μ' D λzs=>Q (.ls zs) (dn μ' D)) (ds.drop i) μ2,
  ⟨ds.length,by simp,Wj _,tD,_,mD,by simpa using hp⟩,?_⟩
 rintro i m ys H2 ⟨rfl,hi,t12,μ2,m2,h2⟩
 by_cases hlt:i < ds.length
 ·refine .inr ⟨Y.go i H2 t12 hlt,λys' H'=>Tk H1 H'/\∃ μ',bB K H' μ'/\fo D G Tt Te (dh ρ n caps) (λμ'=>kL μ' D λzs=>Q (.ls zs) (dn μ' D)) (ds.drop (i+1)) μ',λys' H' ⟨t',μ',m',h'⟩=>⟨ds.length - (i+1),by omega,rfl,hlt,t',μ',m',h'⟩,λx H3 y=>?_⟩
  obtain ⟨t23,⟨d,ed,pd⟩,mk⟩:=Y.yld i H2 x H3 t12 hlt y
  have e:ds.drop i=d::ds.drop (i+1):=by
   refine (We hlt).trans ?_
   congr 1
   rw[UY hlt] at ed
   exact Vt ed
  rw[e] at h2
  have t13:=t12.trans t23
  have r3:Rl K (jJ σ n caps) H3 (dh ρ n caps) μ2:=kT (rl.go (t1.trans t13) (mk _ m2)) n caps
  refine ⟨_,_,d,_,r3,pd,h2,λσ4 H4 ρ4 μ4 t4 r4 kp h4=>⟨⟨kp.1.symm,λj v ej=>?_⟩,_,_,_,r4,h4,λb H5 μ5 t5 m5 h5=>?_⟩⟩
  ·by_cases hj:n<=j
   ·rw[kp.2 j hj];exact ej
   ·obtain ⟨j',k',e1,_⟩:=hX ej
    omega
  ·have t15:=t13.trans (t4.trans t5)
   cases b with
   | false=>exact nY ⟨t15,μ5,m5,h5⟩
   | true=>
    refine nU ⟨_,_,_,r4.go t5 m5,h5,λv H6 d6 μ6 t6 m6 p6 h6=>?_⟩
    obtain ⟨zs,ez,lz,h7⟩:=bA h6
    obtain ⟨xs,ex,lx⟩:=m6 D _ ez
    have t67:Tk H6 (L2.upd H6 D (.lst (xs++[v]))):=.upd (λys z=>by rw[ex] at z;cases z) λo' u z=>by rw[ex] at z;cases z
    refine ⟨xs,ex,by rw[lx.length];exact U6 lz (by decide),(t15.trans t6).trans t67,up μ6 D (.lst (zs++[d6])),λa o ea=>?_,h7⟩
    by_cases ha:a=D
    ·subst ha
     rw[aF] at ea;cases ea
     exact ⟨_,aK,(lx.append (.cons p6 .nil)).mono t67⟩
    ·rw[aU ha] at ea
     exact (m6 a _ ea).ne t67 ha
 ·have e:i=ds.length:=by omega
  subst e
  rw[WG] at h2
  obtain ⟨zs,ez,hq⟩:=bA (show kL μ2 D λzs=>Q (.ls zs) (dn μ2 D) from h2)
  obtain ⟨xs,ex,lx⟩:=m2 D _ ez
  refine .inl ⟨Y.stop _ H2 t12 (U2 _),D,xs,rfl,ex,λo=>?_⟩
  have t2f:Tk H2 (L2.upd H2 D (.frz o (.lst xs))):=.upd (λys z=>by rw[ex] at z;cases z) λo' u z=>by rw[ex] at z;cases z
  refine k _ _ _ (dn μ2 D) ((t1.trans t12).trans t2f) (λa o' ea=>?_) (.ls (.inl ⟨o,aK⟩) (lx.mono t2f)) hq
  have ha:a≠D:=λz=>by subst z;unfold dn at ea;rw[if_pos rfl] at ea;cases ea
  have ea':μ2 a=some o':=by unfold dn at ea;rw[if_neg ha] at ea;exact ea
  exact (m2 a _ ea').ne t2f ha
theorem fN {X:Cx}{tg elt iter:Ve}{Te:ETr}{Tt:TTr}{pos spos py:Pos}{y:Str}{It':ATr}{G:GTr}{ifs:List Ve}{scope fsc:Scope}(iy:Nat)(hN:X.N.Nodup)(XN Nc:List Str)(n:Nat)(caps:List Nat)(hxe:X.xe=λ_ _=>False)(hcalm:X.calm=true)(hi:LI X tg iter It')
  (hbody:∀ (cl:List (Str×Addr)) (C:Addr) (s₀:UN) (H₀:Hp) (ex:List Addr),LGc (a5 X scope Nc cl C s₀ H₀ ex) n tg G/\vy (a5 X scope Nc cl C s₀ H₀ ex) ifs Tt/\LE (a5 X scope Nc cl C s₀ H₀ ex) elt Te)
  (hsc:X.env.scope=fsc) (hXN:X.N=XN) (hok:fi fsc.names XN scope Nc n caps=true)
  (hiy:X.N[iy]? = some y:=by rfl) (hx:Loc X.env.scope y:=by first | exact Yt rfl | exact Yu rfl) (hf:X.fn y=true∨X.env.scope.names.lookup y=some .local:=by first | exact .inl rfl | exact .inr rfl | assumption)
  (hsw:Xd (.ListComp elt [⟨tg,iter,ifs,0⟩] scope pos) (some (.Name y py)) spos.line X.env=pure true:=by rfl)
  (hs:∀ x,Vx iter X.env x=pure x:=by intro _;rfl) :
  LS X (.Assign [.Name y py] (.ListComp elt [⟨tg,iter,ifs,0⟩] scope pos) spos) (aN (b8 It' G Tt Te n caps) (aw iy)):=by
 unfold fi at hok
 simp only[Vj,Xg] at hok
 obtain ⟨⟨⟨h1,h2⟩,h3⟩,h4⟩:=hok
 obtain ⟨wi,pi,si⟩:=hi.ex
 refine ⟨_,BY (g:=ji X.K n G) (tt:=liftT X.K Tt) (te:=jg X.K Te) hxe hcalm pi (λcl C s₀ H₀ ex=>let ⟨h1,h2,h3⟩:=hbody cl C s₀ H₀ ex;⟨h1.pe,h2.pe,h3.pe⟩) (λy hy hf=>?_) (λy hy hf=>?_) (by simpa using h2) (λy hy hf=>?_) (by simpa using h3) (λj k hj=>?_) (ir hN hiy hx hf) hsw hs,λσ H ρ μ E E' rl h k=>Io si σ H ρ μ _ _ rl h λv H' d μ' t' m' p' h'=>hV iy σ H' ρ μ' v d _ _ (rl.go t' m') p' h' (k.go t').nx⟩
 ·have:=(h1 y hy).1.1
  show X.env.scope.names.lookup y.1=_
  rw[hsc]
  simpa[hf] using this
 ·have:=(h1 y hy).1.2
  simp[hf] at this
 ·have:=(h1 y hy).2
  simpa[hf] using this
 ·have hl:j < caps.length:=(Vh.mp hj).1
  have:=h4 j (WW.mpr hl)
  rw[hj] at this
  dsimp only at this
  rw[hXN]
  cases e:XN[k]? with
  | none=>rw[e] at this;cases this
  | some x=>
   rw[e] at this
   dsimp only at this
   rw[Vj] at this
   exact ⟨x,by simpa using this.1,rfl,by simpa using this.2⟩
end
section
open PySem PySem.Spec PyProof.Rows L2
section
variable {X:Cx} {ea:Ve} {es:List Ve} {ek:Nat} {ep p pos:Pos}
def i5 (ds:List D):List D:=(Vd ds.length).zipWith (λi d=>.tup [.int (i:Nat),d]) ds
def SK (t:ATr):ATr:=λρ μ Q=>t ρ μ λvs μ1=>match vs with
 | [.ls ds]=>Q (i5 ds) μ1
 | _=>False
theorem sG (ds:List D)(i:Nat):(i5 ds)[i]? = (ds[i]?).map λd=>.tup [.int (i:Nat),d]:=by
 unfold i5
 rw[YB]
 by_cases h:i < ds.length
 ·rw[zaS h,UY h];rfl
 ·rw[XW.mpr (by simpa using h),XW.mpr (by simpa using h)];rfl
theorem sT (ds:List D):(i5 ds).length=ds.length:=by unfold i5;simp
variable {eb:Ve} {tg:Ve} {Ta Tb:ETr}
end
end
section
open PySem PySem.Spec PyProof PyProof.Rows L2
theorem gL:∀ {us:List UK} {ns:List Int},X2 us ns->∃ ps:List (Int×Tok),us=ps.map (λp=>Yc p.1 p.2)/\ps.map zcz=ns
 | _,_,.nil=>⟨[],⟨rfl,rfl⟩⟩
 | _,_,.cons n t h=>by
  obtain ⟨ps,e1,e2⟩:=gL h
  exact ⟨(n,t)::ps,by rw[e1];rfl,by rw[← e2];rfl⟩
theorem rh (ps:List (Int×Tok))(i:Nat):zb9 ps.toArray i=((ps.map zcz)[i]?).getD 0:=by
 unfold zb9
 simp only[List.getElem?_toArray,Wx]
section
variable {X:Cx} {a b:Ve} {Ta Tb:ETr} {pos:Pos}
end
end
theorem u5 (i j:Int)(μ Q):aT (.int i) (.int j) μ Q=Q (.int (i+j)) μ:=rfl
theorem vc (i j:Str)(μ Q):aT (.str i) (.str j) μ Q=(i.length+j.length<=1000000/\Q (.str (i++j)) μ):=rfl
theorem uJ (a b:List D)(μ Q):aT (.tup a) (.tup b) μ Q=(a.length+b.length<=1000000/\Q (.tup (a++b)) μ):=rfl
theorem uz (a b:List D)(μ Q):aT (.ls a) (.ls b) μ Q=(a.length+b.length<=1000000/\Q (.ls (a++b)) μ):=rfl
theorem qM (a:List D)(μ Q):bu [.tup a] μ Q=Q (.tup a) μ:=rfl
theorem qC (a:List D)(μ Q):bu [.ls a] μ Q=Q (.tup a) μ:=rfl
theorem rD (a:Addr)(μ Q):bu [.obj a] μ Q=kL μ a λxs=>Q (.tup xs) μ:=rfl
theorem qS (a:List D)(μ Q):je [.tup a] μ Q=Q (.ls a) μ:=rfl
theorem pL (a:List D)(μ Q):je [.ls a] μ Q=Q (.ls a) μ:=rfl
theorem qH (a:Addr)(μ Q):je [.obj a] μ Q=kL μ a λxs=>Q (.ls xs) μ:=rfl
theorem pN (a:List D)(μ Q):jT [.tup a] μ Q = ∀ p,μ p=none->Q (.obj p) (up μ p (.lst a)):=rfl
theorem pB (a:List D)(μ Q):jT [.ls a] μ Q = ∀ p,μ p=none->Q (.obj p) (up μ p (.lst a)):=rfl
theorem pF (a:Addr)(μ Q):jT [.obj a] μ Q=kL μ a λxs=>∀ p,μ p=none->Q (.obj p) (up μ p (.lst xs)):=rfl
theorem GG (a:List D)(lo hi)(μ Q):rSl (.tup a) lo hi μ Q=Q (.tup (cutD a lo hi)) μ:=rfl
theorem G8 (a:List D)(lo hi)(μ Q):rSl (.ls a) lo hi μ Q=Q (.ls (cutD a lo hi)) μ:=rfl
theorem HS (a:Addr)(lo hi)(μ Q):rSl (.obj a) lo hi μ Q=kL μ a λxs=>Q (.ls (cutD xs lo hi)) μ:=rfl
theorem Iu (n:Bool)(x:D)(a:List D)(μ Q):L3.rIn n x (.tup a) μ Q=((i7 x=true/\a.all i7=true)/\Q (.bl (if n then !inD x a else inD x a)) μ):=rfl
theorem Hl (n:Bool)(x:D)(a:List D)(μ Q):L3.rIn n x (.ls a) μ Q=((i7 x=true/\a.all i7=true)/\Q (.bl (if n then !inD x a else inD x a)) μ):=rfl
theorem Iy (n:Bool)(x:D)(a:Addr)(μ Q):L3.rIn n x (.obj a) μ Q=kL μ a λxs=>(i7 x=true/\xs.all i7=true)/\Q (.bl (if n then !inD x xs else inD x xs)) μ:=rfl
theorem y9 (a:Addr)(μ Q):cS [.obj a] μ Q=kL μ a λxs=>Q (.int xs.length) μ:=rfl
theorem z9 (x:Str)(μ Q):cS [.str x] μ Q=(x.length<=1000000/\Q (.int x.length) μ):=rfl
theorem Er (μ Q):rIs .non .non μ Q=Q (.bl true) μ:=rfl
theorem IB (i:Int)(μ Q):rIs (.int i) .non μ Q=Q (.bl false) μ:=rfl
theorem HE (i:List D)(μ Q):rIs (.tup i) .non μ Q=Q (.bl false) μ:=rfl
theorem qh (μ Q):Bi .non .non μ Q=Q (.bl false) μ:=rfl
theorem qm (i:Int)(μ Q):Bi (.int i) .non μ Q=Q (.bl true) μ:=rfl
theorem pI (i:List D)(μ Q):Bi (.tup i) .non μ Q=Q (.bl true) μ:=rfl
theorem zR (c:String)(i:List D)(μ Q):DN c (.ls i) μ Q=Q (.bl (de "list" c)) μ:=rfl
theorem yS (c:String)(i:Str)(μ Q):DN c (.str i) μ Q=Q (.bl (de "str" c)) μ:=rfl
theorem Ar (c:String)(μ Q):DN c .non μ Q=Q (.bl (de "NoneType" c)) μ:=rfl
theorem cv (k:Nat)(ds:List D):atD ds (k:Int)=ds[k]?:=by
 unfold atD L2.atI L2.ixN
 rw[if_pos (Ya k)]
 by_cases h:k < ds.length
 ·rw[if_pos (by omega)];simp
 ·rw[if_neg (by omega)];simp;omega
theorem xx (ds:List D):atD ds 0=ds[0]?:=cv 0 ds
theorem xY (ds:List D):atD ds 1=ds[1]?:=cv 1 ds
theorem CH (ds:List D):atD ds 2=ds[2]?:=cv 2 ds
theorem Cg (ds:List D):atD ds 3=ds[3]?:=cv 3 ds
theorem Cs (ds:List D):atD ds 4=ds[4]?:=cv 4 ds
theorem Bx (ds:List D):atD ds 5=ds[5]?:=cv 5 ds
theorem Jh (n k:Nat):L2.ixN n (k:Int)=if k < n then some k else none:=by
 unfold L2.ixN
 rw[if_pos (Ya k)]
 by_cases h:k < n
 ·rw[if_pos (by omega),if_pos h];simp
 ·rw[if_neg (by omega),if_neg h]
theorem eQ:de "int" "int" = true:=by decide
theorem eU:de "int" "bool" = false:=by decide
theorem eS:de "bool" "bool" = true:=by decide
theorem fb:de "bool" "int" = true:=by decide
theorem eR:de "tuple" "tuple" = true:=by decide
theorem eZ:de "int" "tuple" = false:=by decide
theorem eP:de "bool" "tuple" = false:=by decide
theorem fm0 {a n:Int}(h:0 < n):0<=a.fmod n:=Int.fmod_nonneg_of_pos a h
theorem fm1 {a n:Int}(h:0 < n):a.fmod n < n:=Int.fmod_lt_of_pos a h
theorem E6 (A B:Prop):kIf true A B=A:=rfl
theorem HW (A B:Prop):kIf false A B=B:=rfl
theorem EE (p:Prop) [Decidable p] (A B:Prop):kIf (decide p) A B=if p then A else B:=by by_cases h:p<;>simp[h,kIf]
theorem Fz (c:Bool)(A B:Prop):kIf (!c) A B=kIf c B A:=by cases c<;>rfl
theorem IA (c:Bool)(f):kB (.bl c) f=f c:=rfl
theorem AW (c:Int)(f):kI (.int c) f=f c:=rfl
theorem oO (c:D)(f):kO (some c) f=f c:=rfl
theorem zO (c:List D)(f):kS (.tup c) f=f c:=rfl
theorem Ey (c:List D)(f):kS (.ls c) f=f c:=rfl
theorem yZ (a b:D)(f):k2 [a,b] f=f a b:=rfl
theorem uh (c:Nat)(f):kN (some c) f=f c:=rfl
theorem CL (μ:Mu)(a:Addr)(ds:List D)(f):kL (up μ a (.lst ds)) a f=f ds:=by unfold kL;rw[aF]
theorem Q6 {μ:Mu}{a:Addr}{ds:List D}(h:μ a=some (.lst ds))(f):kL μ a f=f ds:=by unfold kL;rw[h]
theorem rM (a:Addr)(n:Int)(y:D)(μ:Mu)(f):RY (.obj a) (.int n) y μ f=kL μ a λds=>kN (L2.ixN ds.length n) λj=>f (up μ a (.lst (ds.set j y))):=rfl
theorem AX (i j:Int)(μ Q):kA (.int i) (.int j) μ Q=Q (.int (i - j)) μ:=rfl
theorem zD (i j:Int)(μ Q):eJ (.int i) (.int j) μ Q=(MulOk i j/\Q (.int (i*j)) μ):=rfl
theorem zY (i j:Int)(μ Q):mx (.int i) (.int j) μ Q=(jO j/\Q (.int (i.fdiv j)) μ):=rfl
theorem Bn (i j:Int)(μ Q):lK (.int i) (.int j) μ Q=(j≠0/\Q (.int (i.fmod j)) μ):=rfl
theorem As (i j:Int)(μ Q):IC (.int i) (.int j) μ Q=(qi i j/\Q (.int (i ^ j.toNat)) μ):=rfl
theorem zk (i:Int)(μ Q):JC (.int i) μ Q=Q (.int (-i)) μ:=rfl
theorem Hi (i j:Int)(μ Q):rLt (.int i) (.int j) μ Q=Q (.bl (decide (i < j))) μ:=rfl
theorem Em (i j:Int)(μ Q):rLe (.int i) (.int j) μ Q=Q (.bl (decide (i<=j))) μ:=rfl
theorem Fu (i j:Int)(μ Q):rGt (.int i) (.int j) μ Q=Q (.bl (decide (j < i))) μ:=rfl
theorem Ij (i j:Int)(μ Q):rGe (.int i) (.int j) μ Q=Q (.bl (decide (j<=i))) μ:=rfl
theorem E1 (x y:D)(μ Q):L3.rEq x y μ Q=((okD 40 x=true/\okD 40 y=true)/\Q (.bl (eqD x y)) μ):=rfl
theorem FO (x y:D)(μ Q):L3.rNe x y μ Q=((okD 40 x=true/\okD 40 y=true)/\Q (.bl (!eqD x y)) μ):=rfl
theorem qr (ds:List D)(i:Int)(μ Q):L3.rIx (.tup ds) (.int i) μ Q=kO (atD ds i) λd=>Q d μ:=rfl
theorem HY (ds:List D)(i:Int)(μ Q):L3.rIx (.ls ds) (.int i) μ Q=kO (atD ds i) λd=>Q d μ:=rfl
theorem Fj (a:Addr)(i:Int)(μ Q):L3.rIx (.obj a) (.int i) μ Q=kL μ a λds=>kO (atD ds i) λd=>Q d μ:=rfl
theorem zg (c:String)(i:Int)(μ Q):DN c (.int i) μ Q=Q (.bl (de "int" c)) μ:=rfl
theorem AI (c:String)(i:Bool)(μ Q):DN c (.bl i) μ Q=Q (.bl (de "bool" c)) μ:=rfl
theorem A3 (c:String)(i:List D)(μ Q):DN c (.tup i) μ Q=Q (.bl (de "tuple" c)) μ:=rfl
theorem yY (i:Int)(μ Q):xw [.int i] μ Q=Q (.int (if i < 0 then -i else i)) μ:=rfl
theorem yT (i j:Int)(μ Q):tW [.int i,.int j] μ Q=Q (.int (if j > i then j else i)) μ:=rfl
theorem AY (i j:Int)(μ Q):sL [.int i,.int j] μ Q=Q (.int (if j < i then j else i)) μ:=rfl
theorem AE (i:Int)(μ Q):ya [.int i] μ Q=Q (.int i) μ:=rfl
theorem yR (i:Bool)(μ Q):ya [.bl i] μ Q=Q (.int (if i then 1 else 0)) μ:=rfl
theorem AH (i:List D)(μ Q):cS [.tup i] μ Q=Q (.int i.length) μ:=rfl
theorem zT (i:List D)(μ Q):cS [.ls i] μ Q=Q (.int i.length) μ:=rfl
local macro_rules | `(tactic| walk_at "rd")=>zzS "L3.ah L3.TC L3.aj L3.TUn L3.ik L3.FG L3.rG L3.TB L3.mw L3.TOr L3.Bl L3.lA L3.AU L3.ar L3.af L3.bf L3.eM L3.kC L3.aq L3.a8 L3.aB L3.Ax L3.GF L3.d8 L3.aW L3.FR L3.bK L3.aw L3.aN L3.qG L3.zm L3.iS L3.fE L3.dW L3.E6 L3.HW L3.EE L3.Fz L3.IA L3.AW L3.oO L3.zO L3.Ey L3.yZ L3.uh L3.CL L3.rM L3.u5 L3.vc L3.uJ L3.uz L3.kg L3.gR L3.su L3.qM L3.qC L3.rD L3.qS L3.pL L3.qH L3.pN L3.pB L3.pF L3.TSl L3.ONo L3.lr L3.GG L3.G8 L3.HS L3.Iu L3.Hl L3.Iy L3.y9 L3.z9 L3.Er L3.IB L3.HE L3.qh L3.qm L3.pI L3.zR L3.yS L3.Ar L3.AX L3.zD L3.zY L3.Bn L3.As L3.zk L3.Hi L3.Em L3.Fu L3.Ij L3.E1 L3.FO L3.qr L3.HY L3.Fj L3.zg L3.AI L3.A3 L3.yY L3.yT L3.AY L3.AE L3.yR L3.AH L3.zT L3.lk L3.ini zbB WC Ww zca zc1 ZM X3 zbC za1 za2 L3.xx L3.xY L3.CH L3.Cg L3.Cs L3.Bx Yh Yi L3.aF zbD ZN if_true if_false true_and and_true za3 zax zay ZO YM zag decide_eq_true_eq X9 ite_false ite_true ne_eq not_false_eq_true zah za4 za5 za6 za7 za8 zbE L3.okD L3.cY L3.eqD L3.nS za9 zba zbb L3.eQ L3.eU L3.eS L3.fb L3.eR L3.eZ L3.eP"
local macro_rules | `(tactic| walk_at "ok")=>`(tactic| (simp only[L3.jO,L3.MulOk,L3.S64,L3.fU,L3.qi] at *;omega))
def Box (μ:Mu)(b:Addr):Prop:=∃ g s c:Int,μ b=some (.lst [.int g,.int s,.int c])/\0<=s/\s < 2147483647
structure pD (b:Addr) (μ μ':Mu):Prop where
 box:Box μ' b
 oth:∀ a,a≠b->μ' a=μ a
theorem pD.trans {b:Addr}{μ μ1 μ2:Mu}(x:pD b μ μ1)(y:pD b μ1 μ2):pD b μ μ2:=⟨y.box,λa h=>(y.oth a h).trans (x.oth a h)⟩
theorem xg (x y:Int):Vi y (x.fmod y)=Vi x y:=by
 rw[Int.fmod_def,Int.gcd_sub_mul_left_right,Z7]
theorem Hv (a:Int):(if a < 0 then -a else a)=(a.natAbs:Int):=by
 split<;>omega
def mz (i:Nat):ST->Mu->Nat:=λρ _=>match lk ρ i with
 | some (.int z)=>z.toNat
 | _=>0
structure Fr (p q:Int):Prop where
 q0:0 < q
 q1:q < 100000000000
 p0:-100000000000 < p
 p1:p < 100000000000
 g:Vi p q=1
theorem jQ {a b:Int}(h:0 < b):a.fdiv b=a / b:=Int.fdiv_eq_ediv_of_nonneg a (Z8 h)
theorem IK {ns:List Int}{k:Int}(h0:0<=k)(h1:k < (ns.length:Int)):∃ z,atD (ns.map D.int) k=some (.int z):=by
 rcases Yj h0 with ⟨j,rfl⟩
 rw[cv]
 have hj:j < ns.length:=by omega
 exact ⟨ns[j],by simp[hj]⟩
theorem qE {lo:Int}{n:Nat}{d:D}(h:d∈cB lo n):∃ k:Int,d=.int k/\lo<=k/\k < lo+n:=by
 unfold cB at h
 rcases UP.mp h with ⟨i,hi,rfl⟩
 have:=WW.mp hi
 exact ⟨_,rfl,by omega,by omega⟩
def gO:FSp:=λds μ Q=>kcL ds λxs ds=>kcN ds ((∃ ns:List Int,xs=ns.map .int/\ns.length<=63)/\∀ μ',Q (.bl true) μ')
theorem uD:∀ ds μ Q,gO ds μ Q->ds.length=1:=λ_ _ _ h=>lcL h λ_ _ h=>by rw[(ecN h).1];rfl
theorem my (ns:List Int)(h:ns.length<=63)(μ:Mu):gO [.ls (ns.map .int)] μ (λd _=>d=.bl true):=⟨⟨ns,rfl,h⟩,λ_=>rfl⟩
local macro_rules | `(tactic| walk_at "rd")=>zzS "L3.ah L3.TC L3.aj L3.TUn L3.ik L3.FG L3.rG L3.TB L3.mw L3.TOr L3.Bl L3.lA L3.AU L3.ar L3.af L3.bf L3.eM L3.kC L3.aq L3.a8 L3.aB L3.Ax L3.GF L3.d8 L3.aW L3.FR L3.bK L3.aw L3.aN L3.qG L3.zm L3.iS L3.fE L3.dW L3.b8 L3.fo L3.dh L3.dX L3.RM L3.ILs L3.E6 L3.HW L3.EE L3.Fz L3.IA L3.AW L3.oO L3.zO L3.Ey L3.yZ L3.uh L3.CL L3.rM L3.u5 L3.vc L3.uJ L3.uz L3.kg L3.gR L3.su L3.qM L3.qC L3.rD L3.qS L3.pL L3.qH L3.pN L3.pB L3.pF L3.TSl L3.ONo L3.lr L3.GG L3.G8 L3.HS L3.Iu L3.Hl L3.Iy L3.y9 L3.z9 L3.Er L3.IB L3.HE L3.qh L3.qm L3.pI L3.zR L3.yS L3.Ar L3.AX L3.zD L3.zY L3.Bn L3.As L3.zk L3.Hi L3.Em L3.Fu L3.Ij L3.E1 L3.FO L3.qr L3.HY L3.Fj L3.zg L3.AI L3.A3 L3.yY L3.yT L3.AY L3.AE L3.yR L3.AH L3.zT L3.lk L3.ini zbB WC Ww zca zc1 ZM X3 zbC za1 za2 L3.xx L3.xY L3.CH L3.Cg L3.Cs L3.Bx Yh Yi L3.aF L3.fQ zbD ZN if_true if_false true_and and_true za3 zax zay ZO YM zag decide_eq_true_eq X9 ite_false ite_true ne_eq not_false_eq_true zah za4 za5 za6 za7 za8 zbE L3.okD L3.cY L3.eqD L3.nS za9 zba zbb L3.eQ L3.eU L3.eS L3.fb L3.eR L3.eZ L3.eP"
structure IsPart (a b p q:Int):Prop where
 q0:0 < q
 g:Vi p q=1
 e:p*b=a*q
 pa:p.natAbs<=a.natAbs
 qb:q.natAbs<=b.natAbs
theorem qQ {g c:Int}(hg:0 < g):c.natAbs<=(g*c).natAbs:=by
 rw[zcA]
 exact Nat.le_mul_of_pos_left _ (by omega)
theorem BE {a b:Int}(hb:b≠0):IsPart a b (a.fdiv (if b < 0 then -(Vi a b:Int) else Vi a b)) (b.fdiv (if b < 0 then -(Vi a b:Int) else Vi a b)):=by
 have gp:0 < Vi a b:=WQ a hb
 have gz:0 < (Vi a b:Int):=by omega
 obtain ⟨c,hc⟩:=zb0 a b
 obtain ⟨d,hd⟩:=zbF a b
 have g1:=Zh gp
 have e1:a / (Vi a b:Int)=c:=WT (by omega) hc
 have e2:b / (Vi a b:Int)=d:=WT (by omega) hd
 rw[e1,e2] at g1
 generalize (Vi a b:Int)=g at *
 clear e1 e2 gp
 subst hc hd
 have p1:=qQ (c:=c) gz
 have p2:=qQ (c:=d) gz
 split
 ·rename_i hneg
  have d0:d < 0:=by
   rcases Yw d 0 with h | h | h
   ·exact h
   ·subst h;omega
   ·have:=Wr gz h;omega
  have x1:(g*c).fdiv (-g) = -c:=by rw[show g*c = -g * -c by rw[zci]];exact Xa _ (by omega)
  have x2:(g*d).fdiv (-g) = -d:=by rw[show g*d = -g * -d by rw[zci]];exact Xa _ (by omega)
  rw[x1,x2]
  refine ⟨by omega,by rw[Int.neg_gcd,Int.gcd_neg];exact g1,?_,by omega,by omega⟩
  rw[Int.neg_mul,Int.mul_neg,zbG,zcK]
 ·rename_i hneg
  have d0:0 < d:=by
   rcases Yw d 0 with h | h | h
   ·have:=XX gz h;omega
   ·subst h;omega
   ·exact h
  have x1:(g*c).fdiv g=c:=Xa _ (by omega)
  have x2:(g*d).fdiv g=d:=Xa _ (by omega)
  rw[x1,x2]
  refine ⟨d0,g1,?_,by omega,by omega⟩
  rw[zbG,zcK]
theorem JA {p q p' q':Int}(q0:0 < q)(q0':0 < q')(g:Vi p q=1)(g':Vi p' q'=1)(e:p*q'=p'*q):p=p'/\q=q':=by
 have h1:q ∣ q':=by
  have:q ∣ p*q':=⟨p',by rw[e,Wm]⟩
  have h:=WU.mpr this
  rw[Z7,g] at h
  simpa using h
 have h2:q' ∣ q:=by
  have:q' ∣ p'*q:=⟨p,by rw[← e,Wm]⟩
  have h:=WU.mpr this
  rw[Z7,g'] at h
  simpa using h
 have e3:q=q':=Int.dvd_antisymm (by omega) (by omega) h1 h2
 subst e3
 exact ⟨XH (by omega) e,rfl⟩
theorem IsPart.same {a b p q a' b' p' q':Int}(h:IsPart a b p q)(h':IsPart a' b' p' q')(hb:b≠0)(hb':b'≠0)(e:a*b'=a'*b):p=p'/\q=q':=by
 refine JA h.q0 h'.q0 h.g h'.g ?_
 have e1:=h.e
 have e2:=h'.e
 have x:(p*q')*(b*b')=(p'*q)*(b*b'):=by
  calc (p*q')*(b*b')=(p*b)*(q'*b'):=by ac_rfl
   _=(a*q)*(q'*b'):=by rw[e1]
   _=(a*b')*(q*q'):=by ac_rfl
   _=(a'*b)*(q*q'):=by rw[e]
   _=(a'*q')*(q*b):=by ac_rfl
   _=(p'*b')*(q*b):=by rw[e2]
   _=(p'*q)*(b*b'):=by ac_rfl
 exact XH (Int.mul_ne_zero hb hb') x
def fH:FSp:=λds μ Q=>kcI ds λa ds=>kcI ds λb ds=>kcN ds (Q (.int (Vi a b)) μ)
theorem rV:∀ ds μ Q,fH ds μ Q->ds.length=2:=λ_ _ _ h=>lcI h λ_ _ h=>lcI h λ_ _ h=>by rw[(ecN h).1];rfl
def nH:STr:=aB (aN (aq xw (af (ah 0) (ar))) (aw 2)) (aB (aN (aq xw (af (ah 1) (ar))) (aw 3)) (aB (uV (TB (aj rGt (ah 3) (TC (.int 0)))) (aB (aN (aj lK (ah 2) (ah 3)) (aw 4)) (aB (aN (ah 3) (aw 2)) (aN (ah 4) (aw 3))))) (aW (ah 2))))
theorem um:∀ ds μ Q,fH ds μ Q->nH { nx:=λ_ μ'=>RT Q .non μ',rt:=RT Q } (ini 5 ds) μ:=by
 intro ds μ Q k
 replace k:=ecI k
 obtain ⟨a,ds,rfl,k⟩:=k
 replace k:=ecI k
 obtain ⟨b,ds,rfl,k⟩:=k
 replace k:=ecN k
 obtain ⟨rfl,k⟩:=k
 unfold nH
 walk_at "rd"
 refine ⟨λρ μ'=>μ'=μ/\∃ (x y:Int) (z:Option D),ρ=[some (.int a),some (.int b),some (.int x),some (.int y),z]/\0<=x/\0<=y/\Vi x y=Vi a b,mz 3,⟨rfl,_,_,_,rfl,?_,?_,?_⟩,?_⟩
 ·split<;>omega
 ·split<;>omega
 ·rw[Hv,Hv];unfold Vi;rw[zbj,zbj]
 ·rintro ρ _ ⟨rfl,x,y,z,rfl,x0,y0,e⟩
  walk_at "rd"
  split
  ·rename_i hy
   refine ⟨by omega,⟨_,_,_,rfl,y0,fm0 hy,?_⟩,?_⟩
   ·rw[xg];exact e
   ·have:=fm1 (a:=x) hy
    have:=fm0 (a:=x) hy
    simp only[mz,lk]
    omega
  ·rename_i hy
   have hy0:y=0:=by omega
   subst hy0
   rw[zbk] at e
   have hx:x=(Vi a b:Int):=by omega
   subst hx
   exact ⟨_,.refl _,k⟩
def gw:FSp:=λds μ Q=>kcI ds λa ds=>kcI ds λb ds=>kcN ds ((b≠0/\fU b)/\∀ p q,IsPart a b p q->Q (.tup [.int p,.int q]) μ)
theorem F5:∀ ds μ Q,gw ds μ Q->ds.length=2:=λ_ _ _ h=>lcI h λ_ _ h=>lcI h λ_ _ h=>by rw[(ecN h).1];rfl
def Gw:STr:=aB (aN (aq fH (af (ah 0) (af (ah 1) (ar)))) (aw 2)) (aB (bK (TB (aj rLt (ah 1) (TC (.int 0)))) (aN (TUn JC (ah 2)) (aw 2)) (a8)) (aW (bf (af (aj mx (ah 0) (ah 2)) (af (aj mx (ah 1) (ah 2)) (ar))))))
theorem JB:∀ ds μ Q,gw ds μ Q->Gw { nx:=λ_ μ'=>RT Q .non μ',rt:=RT Q } (ini 3 ds) μ:=by
 intro ds μ Q h
 replace h:=ecI h
 obtain ⟨a,ds,rfl,h⟩:=h
 replace h:=ecI h
 obtain ⟨b,ds,rfl,h⟩:=h
 replace h:=ecN h
 obtain ⟨rfl,h⟩:=h
 obtain ⟨⟨hb,hm⟩,k⟩:=h
 have P:=k _ _ (BE (a:=a) hb)
 have gp:0 < Vi a b:=WQ a hb
 have gl:Vi a b<=b.natAbs:=Int.gcd_le_natAbs_right a hb
 unfold Gw
 walk_at "rd"
 show (if b < 0 then _ else _)
 split
 ·rename_i hn
  rw[if_pos hn] at P
  have dv:jO (-(Vi a b:Int)):=by walk_at "ok"
  exact ⟨dv,dv,_,.refl _,P⟩
 ·rename_i hn
  rw[if_neg hn] at P
  have dv:jO (Vi a b:Int):=by walk_at "ok"
  exact ⟨dv,dv,_,.refl _,P⟩
structure FrB (lo hi p q:Int):Prop where
 q0:0 < q
 q1:q<=10000002
 g:Vi p q=1
 ge:lo*q<=p
 le:p<=hi*q
structure FrA (lo hi p q:Int):Prop extends FrB lo hi p q where
 ab:lo*q < p
structure FrL (hi p q:Int):Prop extends FrB 0 hi p q where
 ab:0 < p
 be:p < hi*q
theorem jZ {a b:Int}(b0:0 < b):∃ g p q:Int,0 < g/\a=g*p/\b=g*q/\a.fdiv (Vi a b)=p/\b.fdiv (Vi a b)=q/\0 < q/\q<=b/\Vi p q=1:=by
 have gp:0 < Vi a b:=WQ a (by omega)
 have gz:0 < (Vi a b:Int):=by omega
 obtain ⟨c,hc⟩:=zb0 a b
 obtain ⟨d,hd⟩:=zbF a b
 have g1:=Zh gp
 have e1:a / (Vi a b:Int)=c:=WT (by omega) hc
 have e2:b / (Vi a b:Int)=d:=WT (by omega) hd
 rw[e1,e2] at g1
 refine ⟨_,c,d,gz,hc,hd,by rw[jQ gz];exact e1,by rw[jQ gz];exact e2,?_,?_,g1⟩
 all_goals generalize (Vi a b:Int)=g at *
 ·rcases Yw d 0 with h | h | h
  ·have:=XX gz h;omega
  ·subst h;omega
  ·exact h
 ·have d0:0 < d:=by
   rcases Yw d 0 with h | h | h
   ·have:=XX gz h;omega
   ·subst h;omega
   ·exact h
  have h:=U5 (show (1:Int)<=g by omega) (show (0:Int)<=d by omega)
  omega
theorem E7 {lo hi a b:Int}(b0:0 < b)(b1:b<=10000002)(h1:lo*b<=a)(h2:a<=hi*b):FrB lo hi (a.fdiv (Vi a b)) (b.fdiv (Vi a b)):=by
 obtain ⟨g,p,q,g0,ea,eb,ep,eq,q0,qb,gg⟩:=jZ (a:=a) b0
 rw[ep,eq]
 subst ea
 have e1:lo*b=g*(lo*q):=by rw[eb];ac_rfl
 have e2:hi*b=g*(hi*q):=by rw[eb];ac_rfl
 exact ⟨q0,by omega,gg,Zi (by rw[← e1];exact h1) g0,Zi (by rw[← e2];exact h2) g0⟩
theorem FP {lo hi a b:Int}(b0:0 < b)(b1:b<=10000002)(h1:lo*b < a)(h2:a<=hi*b):FrA lo hi (a.fdiv (Vi a b)) (b.fdiv (Vi a b)):=by
 refine ⟨E7 b0 b1 (by omega) h2,?_⟩
 obtain ⟨g,p,q,g0,ea,eb,ep,eq,q0,qb,gg⟩:=jZ (a:=a) b0
 rw[ep,eq]
 have e1:lo*b=g*(lo*q):=by rw[eb];ac_rfl
 exact XY (by rw[← e1,← ea];exact h1) (by omega)
theorem Q3 {hi a b:Int}(b0:0 < b)(b1:b<=10000002)(h1:0 < a)(h2:a < hi*b):FrL hi (a.fdiv (Vi a b)) (b.fdiv (Vi a b)):=by
 refine ⟨E7 b0 b1 (by omega) (by omega),?_,?_⟩
 all_goals
  obtain ⟨g,p,q,g0,ea,eb,ep,eq,q0,qb,gg⟩:=jZ (a:=a) b0
 ·rw[ep]
  exact XY (a:=g) (by rw[← ea];simpa using h1) (by omega)
 ·rw[ep,eq]
  have e1:hi*b=g*(hi*q):=by rw[eb];ac_rfl
  exact XY (by rw[← e1,← ea];exact h2) (by omega)
theorem dq:(OF "still" = OF "step")=False:=eq_false (by decide +kernel)
theorem c5:(OF "still" = OF "swell")=False:=eq_false (by decide +kernel)
theorem di:(OF "still" = OF "heed")=False:=eq_false (by decide +kernel)
theorem dH:(OF "still" = OF "calm")=False:=eq_false (by decide +kernel)
theorem dk:(OF "step" = OF "still")=False:=eq_false (by decide +kernel)
theorem dr:(OF "step" = OF "swell")=False:=eq_false (by decide +kernel)
theorem d7:(OF "step" = OF "heed")=False:=eq_false (by decide +kernel)
theorem eg:(OF "step" = OF "calm")=False:=eq_false (by decide +kernel)
theorem c7:(OF "swell" = OF "still")=False:=eq_false (by decide +kernel)
theorem dE:(OF "swell" = OF "step")=False:=eq_false (by decide +kernel)
theorem dm:(OF "swell" = OF "heed")=False:=eq_false (by decide +kernel)
theorem dG:(OF "swell" = OF "calm")=False:=eq_false (by decide +kernel)
theorem dF:(OF "heed" = OF "still")=False:=eq_false (by decide +kernel)
theorem dZ:(OF "heed" = OF "step")=False:=eq_false (by decide +kernel)
theorem dD:(OF "heed" = OF "swell")=False:=eq_false (by decide +kernel)
theorem eG:(OF "heed" = OF "calm")=False:=eq_false (by decide +kernel)
theorem dA:(OF "calm" = OF "still")=False:=eq_false (by decide +kernel)
theorem eE:(OF "calm" = OF "step")=False:=eq_false (by decide +kernel)
theorem dj:(OF "calm" = OF "swell")=False:=eq_false (by decide +kernel)
theorem eA:(OF "calm" = OF "heed")=False:=eq_false (by decide +kernel)
theorem mI:UU (OF "still")=true:=by decide +kernel
theorem pT:UU (OF "step")=true:=by decide +kernel
theorem me:UU (OF "swell")=true:=by decide +kernel
theorem rK:UU (OF "heed")=true:=by decide +kernel
theorem oX:UU (OF "calm")=true:=by decide +kernel
abbrev fr (p q:Int):D:=.tup [.int p,.int q]
theorem bR (i:Decidable (OF "still" = OF "step")):@decide (OF "still" = OF "step") i=false:=by cases i with | isTrue h=>exact absurd h (by rw[dq];exact not_false) | isFalse _=>rfl
theorem bD (i:Decidable (OF "still" = OF "swell")):@decide (OF "still" = OF "swell") i=false:=by cases i with | isTrue h=>exact absurd h (by rw[c5];exact not_false) | isFalse _=>rfl
theorem bO (i:Decidable (OF "still" = OF "heed")):@decide (OF "still" = OF "heed") i=false:=by cases i with | isTrue h=>exact absurd h (by rw[di];exact not_false) | isFalse _=>rfl
theorem bU (i:Decidable (OF "still" = OF "calm")):@decide (OF "still" = OF "calm") i=false:=by cases i with | isTrue h=>exact absurd h (by rw[dH];exact not_false) | isFalse _=>rfl
theorem bM (i:Decidable (OF "step" = OF "still")):@decide (OF "step" = OF "still") i=false:=by cases i with | isTrue h=>exact absurd h (by rw[dk];exact not_false) | isFalse _=>rfl
theorem bS (i:Decidable (OF "step" = OF "swell")):@decide (OF "step" = OF "swell") i=false:=by cases i with | isTrue h=>exact absurd h (by rw[dr];exact not_false) | isFalse _=>rfl
theorem cA (i:Decidable (OF "step" = OF "heed")):@decide (OF "step" = OF "heed") i=false:=by cases i with | isTrue h=>exact absurd h (by rw[d7];exact not_false) | isFalse _=>rfl
theorem ck (i:Decidable (OF "step" = OF "calm")):@decide (OF "step" = OF "calm") i=false:=by cases i with | isTrue h=>exact absurd h (by rw[eg];exact not_false) | isFalse _=>rfl
theorem bC (i:Decidable (OF "swell" = OF "still")):@decide (OF "swell" = OF "still") i=false:=by cases i with | isTrue h=>exact absurd h (by rw[c7];exact not_false) | isFalse _=>rfl
theorem bW (i:Decidable (OF "swell" = OF "step")):@decide (OF "swell" = OF "step") i=false:=by cases i with | isTrue h=>exact absurd h (by rw[dE];exact not_false) | isFalse _=>rfl
theorem bX (i:Decidable (OF "swell" = OF "heed")):@decide (OF "swell" = OF "heed") i=false:=by cases i with | isTrue h=>exact absurd h (by rw[dm];exact not_false) | isFalse _=>rfl
theorem bP (i:Decidable (OF "swell" = OF "calm")):@decide (OF "swell" = OF "calm") i=false:=by cases i with | isTrue h=>exact absurd h (by rw[dG];exact not_false) | isFalse _=>rfl
theorem bQ (i:Decidable (OF "heed" = OF "still")):@decide (OF "heed" = OF "still") i=false:=by cases i with | isTrue h=>exact absurd h (by rw[dF];exact not_false) | isFalse _=>rfl
theorem cq (i:Decidable (OF "heed" = OF "step")):@decide (OF "heed" = OF "step") i=false:=by cases i with | isTrue h=>exact absurd h (by rw[dZ];exact not_false) | isFalse _=>rfl
theorem bT (i:Decidable (OF "heed" = OF "swell")):@decide (OF "heed" = OF "swell") i=false:=by cases i with | isTrue h=>exact absurd h (by rw[dD];exact not_false) | isFalse _=>rfl
theorem cy (i:Decidable (OF "heed" = OF "calm")):@decide (OF "heed" = OF "calm") i=false:=by cases i with | isTrue h=>exact absurd h (by rw[eG];exact not_false) | isFalse _=>rfl
theorem bL (i:Decidable (OF "calm" = OF "still")):@decide (OF "calm" = OF "still") i=false:=by cases i with | isTrue h=>exact absurd h (by rw[dA];exact not_false) | isFalse _=>rfl
theorem cu (i:Decidable (OF "calm" = OF "step")):@decide (OF "calm" = OF "step") i=false:=by cases i with | isTrue h=>exact absurd h (by rw[eE];exact not_false) | isFalse _=>rfl
theorem bV (i:Decidable (OF "calm" = OF "swell")):@decide (OF "calm" = OF "swell") i=false:=by cases i with | isTrue h=>exact absurd h (by rw[dj];exact not_false) | isFalse _=>rfl
theorem cz (i:Decidable (OF "calm" = OF "heed")):@decide (OF "calm" = OF "heed") i=false:=by cases i with | isTrue h=>exact absurd h (by rw[eA];exact not_false) | isFalse _=>rfl
theorem gj (a:Str)(i:Decidable (a=a)):@decide (a=a) i=true:=by cases i with | isTrue _=>rfl | isFalse h=>exact absurd rfl h
def kLs (x:D)(f:List D->Prop):Prop:=match x with
 | .ls ds=>f ds
 | _=>False
def gG (sp:FSp)(ds:List D)(μ:Mu)(Q:DK):Prop:=sp ds μ Q
def LEN (ds:List D)(P:Prop):Prop:=ds.length<=1000000/\P
theorem O1 (d:D)(r:ST)(μ:Mu)(Q:DK):ah 0 (some d::r) μ Q=Q d μ:=propext UM
theorem KC (x0:Option D)(r:ST)(d:D)(μ:Mu)(k:ST->Mu->Prop):aw 0 d (x0::r) μ k=k (some d::r) μ:=propext UM
theorem NJ (x0:Option D)(d:D)(r:ST)(μ:Mu)(Q:DK):ah 1 (x0::some d::r) μ Q=Q d μ:=propext UM
theorem LR (x0 x1:Option D)(r:ST)(d:D)(μ:Mu)(k:ST->Mu->Prop):aw 1 d (x0::x1::r) μ k=k (x0::some d::r) μ:=propext UM
theorem Qi (x0 x1:Option D)(d:D)(r:ST)(μ:Mu)(Q:DK):ah 2 (x0::x1::some d::r) μ Q=Q d μ:=propext UM
theorem J8 (x0 x1 x2:Option D)(r:ST)(d:D)(μ:Mu)(k:ST->Mu->Prop):aw 2 d (x0::x1::x2::r) μ k=k (x0::x1::some d::r) μ:=propext UM
theorem Qo (x0 x1 x2:Option D)(d:D)(r:ST)(μ:Mu)(Q:DK):ah 3 (x0::x1::x2::some d::r) μ Q=Q d μ:=propext UM
theorem Mr (x0 x1 x2 x3:Option D)(r:ST)(d:D)(μ:Mu)(k:ST->Mu->Prop):aw 3 d (x0::x1::x2::x3::r) μ k=k (x0::x1::x2::some d::r) μ:=propext UM
theorem Oi (x0 x1 x2 x3:Option D)(d:D)(r:ST)(μ:Mu)(Q:DK):ah 4 (x0::x1::x2::x3::some d::r) μ Q=Q d μ:=propext UM
theorem Ld (x0 x1 x2 x3 x4:Option D)(r:ST)(d:D)(μ:Mu)(k:ST->Mu->Prop):aw 4 d (x0::x1::x2::x3::x4::r) μ k=k (x0::x1::x2::x3::some d::r) μ:=propext UM
theorem Po (x0 x1 x2 x3 x4:Option D)(d:D)(r:ST)(μ:Mu)(Q:DK):ah 5 (x0::x1::x2::x3::x4::some d::r) μ Q=Q d μ:=propext UM
theorem Ln (x0 x1 x2 x3 x4 x5:Option D)(r:ST)(d:D)(μ:Mu)(k:ST->Mu->Prop):aw 5 d (x0::x1::x2::x3::x4::x5::r) μ k=k (x0::x1::x2::x3::x4::some d::r) μ:=propext UM
theorem Qb (x0 x1 x2 x3 x4 x5:Option D)(d:D)(r:ST)(μ:Mu)(Q:DK):ah 6 (x0::x1::x2::x3::x4::x5::some d::r) μ Q=Q d μ:=propext UM
theorem J1 (x0 x1 x2 x3 x4 x5 x6:Option D)(r:ST)(d:D)(μ:Mu)(k:ST->Mu->Prop):aw 6 d (x0::x1::x2::x3::x4::x5::x6::r) μ k=k (x0::x1::x2::x3::x4::x5::some d::r) μ:=propext UM
theorem Ob (x0 x1 x2 x3 x4 x5 x6:Option D)(d:D)(r:ST)(μ:Mu)(Q:DK):ah 7 (x0::x1::x2::x3::x4::x5::x6::some d::r) μ Q=Q d μ:=propext UM
theorem KA (x0 x1 x2 x3 x4 x5 x6 x7:Option D)(r:ST)(d:D)(μ:Mu)(k:ST->Mu->Prop):aw 7 d (x0::x1::x2::x3::x4::x5::x6::x7::r) μ k=k (x0::x1::x2::x3::x4::x5::x6::some d::r) μ:=propext UM
theorem O8 (x0 x1 x2 x3 x4 x5 x6 x7:Option D)(d:D)(r:ST)(μ:Mu)(Q:DK):ah 8 (x0::x1::x2::x3::x4::x5::x6::x7::some d::r) μ Q=Q d μ:=propext UM
theorem Kf (x0 x1 x2 x3 x4 x5 x6 x7 x8:Option D)(r:ST)(d:D)(μ:Mu)(k:ST->Mu->Prop):aw 8 d (x0::x1::x2::x3::x4::x5::x6::x7::x8::r) μ k=k (x0::x1::x2::x3::x4::x5::x6::x7::some d::r) μ:=propext UM
theorem Om (x0 x1 x2 x3 x4 x5 x6 x7 x8:Option D)(d:D)(r:ST)(μ:Mu)(Q:DK):ah 9 (x0::x1::x2::x3::x4::x5::x6::x7::x8::some d::r) μ Q=Q d μ:=propext UM
theorem KR (x0 x1 x2 x3 x4 x5 x6 x7 x8 x9:Option D)(r:ST)(d:D)(μ:Mu)(k:ST->Mu->Prop):aw 9 d (x0::x1::x2::x3::x4::x5::x6::x7::x8::x9::r) μ k=k (x0::x1::x2::x3::x4::x5::x6::x7::x8::some d::r) μ:=propext UM
theorem KU (x0 x1 x2 x3 x4 x5 x6 x7 x8 x9:Option D)(d:D)(r:ST)(μ:Mu)(Q:DK):ah 10 (x0::x1::x2::x3::x4::x5::x6::x7::x8::x9::some d::r) μ Q=Q d μ:=propext UM
theorem Gv (x0 x1 x2 x3 x4 x5 x6 x7 x8 x9 x10:Option D)(r:ST)(d:D)(μ:Mu)(k:ST->Mu->Prop):aw 10 d (x0::x1::x2::x3::x4::x5::x6::x7::x8::x9::x10::r) μ k=k (x0::x1::x2::x3::x4::x5::x6::x7::x8::x9::some d::r) μ:=propext UM
theorem Mj (x0 x1 x2 x3 x4 x5 x6 x7 x8 x9 x10:Option D)(d:D)(r:ST)(μ:Mu)(Q:DK):ah 11 (x0::x1::x2::x3::x4::x5::x6::x7::x8::x9::x10::some d::r) μ Q=Q d μ:=propext UM
theorem Ih (x0 x1 x2 x3 x4 x5 x6 x7 x8 x9 x10 x11:Option D)(r:ST)(d:D)(μ:Mu)(k:ST->Mu->Prop):aw 11 d (x0::x1::x2::x3::x4::x5::x6::x7::x8::x9::x10::x11::r) μ k=k (x0::x1::x2::x3::x4::x5::x6::x7::x8::x9::x10::some d::r) μ:=propext UM
theorem L5 (x0 x1 x2 x3 x4 x5 x6 x7 x8 x9 x10 x11:Option D)(d:D)(r:ST)(μ:Mu)(Q:DK):ah 12 (x0::x1::x2::x3::x4::x5::x6::x7::x8::x9::x10::x11::some d::r) μ Q=Q d μ:=propext UM
theorem EI (x0 x1 x2 x3 x4 x5 x6 x7 x8 x9 x10 x11 x12:Option D)(r:ST)(d:D)(μ:Mu)(k:ST->Mu->Prop):aw 12 d (x0::x1::x2::x3::x4::x5::x6::x7::x8::x9::x10::x11::x12::r) μ k=k (x0::x1::x2::x3::x4::x5::x6::x7::x8::x9::x10::x11::some d::r) μ:=propext UM
theorem Fl (x0 x1 x2 x3 x4 x5 x6 x7 x8 x9 x10 x11 x12 x13:Option D)(r:ST)(d:D)(μ:Mu)(k:ST->Mu->Prop):aw 13 d (x0::x1::x2::x3::x4::x5::x6::x7::x8::x9::x10::x11::x12::x13::r) μ k=k (x0::x1::x2::x3::x4::x5::x6::x7::x8::x9::x10::x11::x12::some d::r) μ:=propext UM
theorem KW (x0 x1 x2 x3 x4 x5 x6 x7 x8 x9 x10 x11 x12 x13:Option D)(d:D)(r:ST)(μ:Mu)(Q:DK):ah 14 (x0::x1::x2::x3::x4::x5::x6::x7::x8::x9::x10::x11::x12::x13::some d::r) μ Q=Q d μ:=propext UM
theorem GU (x0 x1 x2 x3 x4 x5 x6 x7 x8 x9 x10 x11 x12 x13 x14:Option D)(r:ST)(d:D)(μ:Mu)(k:ST->Mu->Prop):aw 14 d (x0::x1::x2::x3::x4::x5::x6::x7::x8::x9::x10::x11::x12::x13::x14::r) μ k=k (x0::x1::x2::x3::x4::x5::x6::x7::x8::x9::x10::x11::x12::x13::some d::r) μ:=propext UM
theorem Lq (x0 x1 x2 x3 x4 x5 x6 x7 x8 x9 x10 x11 x12 x13 x14:Option D)(d:D)(r:ST)(μ:Mu)(Q:DK):ah 15 (x0::x1::x2::x3::x4::x5::x6::x7::x8::x9::x10::x11::x12::x13::x14::some d::r) μ Q=Q d μ:=propext UM
theorem F7 (x0 x1 x2 x3 x4 x5 x6 x7 x8 x9 x10 x11 x12 x13 x14 x15:Option D)(r:ST)(d:D)(μ:Mu)(k:ST->Mu->Prop):aw 15 d (x0::x1::x2::x3::x4::x5::x6::x7::x8::x9::x10::x11::x12::x13::x14::x15::r) μ k=k (x0::x1::x2::x3::x4::x5::x6::x7::x8::x9::x10::x11::x12::x13::x14::some d::r) μ:=propext UM
theorem S3 (d:D)(ρ:ST)(μ:Mu)(Q:DK):TC d ρ μ Q=Q d μ:=propext UM
theorem OH (r:DR2)(a b:ETr)(ρ:ST)(μ:Mu)(Q:DK):aj r a b ρ μ Q=a ρ μ λx μ1=>b ρ μ1 λy μ2=>r x y μ2 Q:=propext UM
theorem RJ (r:DR)(a:ETr)(ρ:ST)(μ:Mu)(Q:DK):TUn r a ρ μ Q=a ρ μ λx μ1=>r x μ1 Q:=propext UM
theorem L9 (a b:ETr)(ρ:ST)(μ:Mu)(Q:DK):ik a b ρ μ Q=a ρ μ λx μ1=>kB x λc=>kIf c (b ρ μ1 Q) (Q (.bl false) μ1):=propext UM
theorem J9 (a:ETr)(ρ:ST)(μ:Mu)(Q:DK):rG a ρ μ Q=a ρ μ λx μ1=>kB x λc=>Q (.bl (!c)) μ1:=propext UM
theorem TJ (t:ETr)(ρ:ST)(μ:Mu)(Q:Bool->Mu->Prop):TB t ρ μ Q=t ρ μ λx μ1=>kB x λc=>Q c μ1:=propext UM
theorem O7 (t u:TTr)(ρ:ST)(μ:Mu)(Q:Bool->Mu->Prop):mw t u ρ μ Q=t ρ μ λc μ1=>kIf c (u ρ μ1 Q) (Q false μ1):=propext UM
theorem R5 (t u:TTr)(ρ:ST)(μ:Mu)(Q:Bool->Mu->Prop):TOr t u ρ μ Q=t ρ μ λc μ1=>kIf c (Q true μ1) (u ρ μ1 Q):=propext UM
theorem Nx (t:TTr)(ρ:ST)(μ:Mu)(Q:Bool->Mu->Prop):Bl t ρ μ Q=t ρ μ λc μ1=>Q (!c) μ1:=propext UM
theorem Qs (c:TTr)(a b:ETr)(ρ:ST)(μ:Mu)(Q:DK):lA c a b ρ μ Q=c ρ μ λk μ1=>kIf k (a ρ μ1 Q) (b ρ μ1 Q):=propext UM
theorem N0 (ρ:ST)(μ:Mu)(Q:List D->Mu->Prop):ar ρ μ Q=Q [] μ:=propext UM
theorem Mg (a:ETr)(r:ATr)(ρ:ST)(μ:Mu)(Q:List D->Mu->Prop):af a r ρ μ Q=a ρ μ λx μ1=>r ρ μ1 λxs μ2=>Q (x::xs) μ2:=propext UM
theorem NP (t:ATr)(ρ:ST)(μ:Mu)(Q:DK):bf t ρ μ Q=t ρ μ λds μ1=>LEN ds (Q (.tup ds) μ1):=propext UM
theorem OB (t:ATr)(ρ:ST)(μ:Mu)(Q:DK):eM t ρ μ Q=t ρ μ λds μ1=>LEN ds (Q (.ls ds) μ1):=propext UM
theorem O3 (t:ATr)(ρ:ST)(μ:Mu)(Q:DK):kC t ρ μ Q=t ρ μ λds μ1=>LEN ds (∀ p,μ1 p=none->Q (.obj p) (up μ1 p (.lst ds))):=propext UM
theorem Jj (sp:FSp)(t:ATr)(ρ:ST)(μ:Mu)(Q:DK):aq sp t ρ μ Q=t ρ μ λds μ1=>gG sp ds μ1 Q:=propext UM
theorem Lh (nx:ST->Mu->Prop)(rt:DK)(bk ct:ST->Mu->Prop)(ρ:ST)(μ:Mu):a8 ⟨nx,rt,bk,ct⟩ ρ μ=nx ρ μ:=propext UM
theorem PZ (t u:STr)(nx:ST->Mu->Prop)(rt:DK)(bk ct:ST->Mu->Prop)(ρ:ST)(μ:Mu):aB t u ⟨nx,rt,bk,ct⟩ ρ μ=t ⟨u ⟨nx,rt,bk,ct⟩,rt,bk,ct⟩ ρ μ:=propext UM
theorem LH (e:ETr)(nx:ST->Mu->Prop)(rt:DK)(bk ct:ST->Mu->Prop)(ρ:ST)(μ:Mu):d8 e ⟨nx,rt,bk,ct⟩ ρ μ=e ρ μ λ_ μ1=>nx ρ μ1:=propext UM
theorem Py (e:ETr)(nx:ST->Mu->Prop)(rt:DK)(bk ct:ST->Mu->Prop)(ρ:ST)(μ:Mu):aW e ⟨nx,rt,bk,ct⟩ ρ μ=e ρ μ rt:=propext UM
theorem OK (c:TTr)(t u:STr)(nx:ST->Mu->Prop)(rt:DK)(bk ct:ST->Mu->Prop)(ρ:ST)(μ:Mu):bK c t u ⟨nx,rt,bk,ct⟩ ρ μ=c ρ μ λb μ1=>kIf b (t ⟨nx,rt,bk,ct⟩ ρ μ1) (u ⟨nx,rt,bk,ct⟩ ρ μ1):=propext UM
theorem Oa (e:ETr)(g:GTr)(nx:ST->Mu->Prop)(rt:DK)(bk ct:ST->Mu->Prop)(ρ:ST)(μ:Mu):aN e g ⟨nx,rt,bk,ct⟩ ρ μ=e ρ μ λd μ1=>g d ρ μ1 nx:=propext UM
theorem OC (i j:Nat)(a:ATr)(nx:ST->Mu->Prop)(rt:DK)(bk ct:ST->Mu->Prop)(ρ:ST)(μ:Mu):qG i j a ⟨nx,rt,bk,ct⟩ ρ μ=a ρ μ λds μ1=>k2 ds λv w=>aw i v ρ μ1 λρ2 μ2=>aw j w ρ2 μ2 nx:=propext UM
theorem PV (it:ATr)(g:GTr)(b:STr)(nx:ST->Mu->Prop)(rt:DK)(bk ct:ST->Mu->Prop)(ρ:ST)(μ:Mu):iS it g b ⟨nx,rt,bk,ct⟩ ρ μ=it ρ μ λds μ1=>forR g b ⟨nx,rt,bk,ct⟩ ds ρ μ1:=propext UM
theorem DU (a:ETr)(ρ:ST)(μ:Mu)(Q:List D->Mu->Prop):fE a ρ μ Q=a ρ μ λx μ1=>kI x λj=>(-4611686018427387904<=j/\j < 4611686018427387904)/\Q (cB 0 j.toNat) μ1:=propext UM
theorem iz (a:ETr)(ρ:ST)(μ:Mu)(Q:List D->Mu->Prop):SK (af a ar) ρ μ Q=a ρ μ λx μ1=>kLs x λds=>Q (i5 ds) μ1:=propext (Iff.of_eq (congrArg (a ρ μ) (funext λx=>funext λμ1=>by cases x<;>rfl)))
theorem NG (a:ETr)(ρ:ST)(μ:Mu)(Q:DK):su a ρ μ Q=a ρ μ λx μ1=>kObj x λb=>kL μ1 b λds=>Q (.ls ds) (dn μ1 b):=propext UM
theorem NM (To Te:ETr)(ρ:ST)(μ:Mu)(Q:DK):kg To Te ρ μ Q=To ρ μ λx μ1=>kObj x λa=>kL μ1 a λ_=>Te ρ μ1 λy μ2=>kL μ2 a λds=>ds.length < 1000000/\Q .non (up μ2 a (.lst (ds++[y]))):=propext UM
theorem RG (a:ETr)(lo hi:OTr)(ρ:ST)(μ:Mu)(Q:DK):TSl a lo hi ρ μ Q=a ρ μ λx μ1=>lo ρ μ1 λl μ2=>hi ρ μ2 λh μ3=>rSl x l h μ3 Q:=propext UM
theorem Q4 (ρ:ST)(μ:Mu)(Q:Option Int->Mu->Prop):ONo ρ μ Q=Q none μ:=propext UM
theorem Pe (T:ETr)(ρ:ST)(μ:Mu)(Q:Option Int->Mu->Prop):lr T ρ μ Q=T ρ μ λx μ1=>kI x λi=>Q (some i) μ1:=propext UM
theorem Pw (i0 i1:Nat)(d0 d1:D)(ρ:ST)(μ:Mu)(k:ST->Mu->Prop):dY [i0,i1] (.tup [d0,d1]) ρ μ k=aw i0 d0 ρ μ λρ1 _=>aw i1 d1 ρ1 μ λρ2 _=>k ρ2 μ:=by simp[dY,kr,aw]
theorem Ow (i0 i1 i2 i3:Nat)(d0 d1 d2 d3:D)(ρ:ST)(μ:Mu)(k:ST->Mu->Prop):dY [i0,i1,i2,i3] (.tup [d0,d1,d2,d3]) ρ μ k=aw i0 d0 ρ μ λρ1 _=>aw i1 d1 ρ1 μ λρ2 _=>aw i2 d2 ρ2 μ λρ3 _=>aw i3 d3 ρ3 μ λρ4 _=>k ρ4 μ:=by simp[dY,kr,aw]
theorem RR (P:Prop):LEN [] P=P:=by simp[LEN]
theorem Rv (x0:D)(P:Prop):LEN [x0] P=P:=by simp[LEN]
theorem Ra (x0 x1:D)(P:Prop):LEN [x0,x1] P=P:=by simp[LEN]
theorem QV (x0 x1 x2:D)(P:Prop):LEN [x0,x1,x2] P=P:=by simp[LEN]
theorem SD (x0 x1 x2 x3:D)(P:Prop):LEN [x0,x1,x2,x3] P=P:=by simp[LEN]
theorem Rn (x0 x1 x2 x3 x4:D)(P:Prop):LEN [x0,x1,x2,x3,x4] P=P:=by simp[LEN]
theorem R9 (x0 x1 x2 x3 x4 x5:D)(P:Prop):LEN [x0,x1,x2,x3,x4,x5] P=P:=by simp[LEN]
theorem RU (x0 x1 x2 x3 x4 x5 x6 x7:D)(P:Prop):LEN [x0,x1,x2,x3,x4,x5,x6,x7] P=P:=by simp[LEN]
theorem PC (x0 x1 x2 x3 x4 x5 x6 x7 x8 x9 x10:D)(P:Prop):LEN [x0,x1,x2,x3,x4,x5,x6,x7,x8,x9,x10] P=P:=by simp[LEN]
theorem PN (x0:D)(r:List D)(μ:Mu)(Q:DK):L3.rIx (.tup (x0::r)) (.int 0) μ Q=Q x0 μ:=by rw[qr];exact congrArg (λo=>kO o λd=>Q d μ) (cv 0 _)
theorem Oh (x0 x1:D)(r:List D)(μ:Mu)(Q:DK):L3.rIx (.tup (x0::x1::r)) (.int 1) μ Q=Q x1 μ:=by rw[qr];exact congrArg (λo=>kO o λd=>Q d μ) (cv 1 _)
theorem NF (x0 x1 x2:D)(r:List D)(μ:Mu)(Q:DK):L3.rIx (.tup (x0::x1::x2::r)) (.int 2) μ Q=Q x2 μ:=by rw[qr];exact congrArg (λo=>kO o λd=>Q d μ) (cv 2 _)
theorem PX (x0 x1 x2 x3:D)(r:List D)(μ:Mu)(Q:DK):L3.rIx (.tup (x0::x1::x2::x3::r)) (.int 3) μ Q=Q x3 μ:=by rw[qr];exact congrArg (λo=>kO o λd=>Q d μ) (cv 3 _)
theorem Pk (i j:Int)(μ:Mu)(Q:DK):L3.rEq (.int i) (.int j) μ Q=Q (.bl (decide (i=j))) μ:=by simp[L3.rEq,okD,eqD]
theorem OO (i j:Str)(μ:Mu)(Q:DK):L3.rEq (.str i) (.str j) μ Q=((UU i=true/\UU j=true)/\Q (.bl (decide (i=j))) μ):=by simp[L3.rEq,okD,eqD]
theorem OQ (i j:Bool)(μ:Mu)(Q:DK):L3.rNe (.bl i) (.bl j) μ Q=Q (.bl (!(i == j))) μ:=by simp[L3.rNe,okD,eqD]
theorem QJ (i:Int)(μ:Mu)(Q:DK):gG xw [.int i] μ Q=Q (.int (if i < 0 then -i else i)) μ:=propext UM
theorem N4 (i j:Int)(μ:Mu)(Q:DK):gG tW [.int i,.int j] μ Q=Q (.int (max i j)) μ:=by show Q (.int (if j > i then j else i)) μ=_;congr 2;omega
theorem Qk (i j:Int)(μ:Mu)(Q:DK):gG sL [.int i,.int j] μ Q=Q (.int (min i j)) μ:=by show Q (.int (if j < i then j else i)) μ=_;congr 2;omega
theorem Qr (i:Bool)(μ:Mu)(Q:DK):gG ya [.bl i] μ Q=Q (.int (if i then 1 else 0)) μ:=propext UM
theorem Hy (a:List D)(μ:Mu)(Q:DK):gG bu [.tup a] μ Q=Q (.tup a) μ:=propext UM
theorem ET (a:List D)(μ:Mu)(Q:DK):gG bu [.ls a] μ Q=Q (.tup a) μ:=propext UM
theorem FW (a:Addr)(μ:Mu)(Q:DK):gG bu [.obj a] μ Q=kL μ a λxs=>Q (.tup xs) μ:=propext UM
theorem G9 (a:List D)(μ:Mu)(Q:DK):gG je [.ls a] μ Q=Q (.ls a) μ:=propext UM
theorem Ge (a:List D)(μ:Mu)(Q:DK):gG jT [.tup a] μ Q = ∀ p,μ p=none->Q (.obj p) (up μ p (.lst a)):=propext UM
theorem QD (a:Addr)(μ:Mu)(Q:DK):gG cS [.obj a] μ Q=kL μ a λxs=>Q (.int xs.length) μ:=propext UM
theorem Qu (x:Str)(μ:Mu)(Q:DK):gG cS [.str x] μ Q=(x.length<=1000000/\Q (.int x.length) μ):=propext UM
theorem kz (a:List D)(μ:Mu)(Q:DK):gG cS [.tup a] μ Q=Q (.int a.length) μ:=propext UM
theorem ky (a:List D)(μ:Mu)(Q:DK):gG cS [.ls a] μ Q=Q (.int a.length) μ:=propext UM
theorem Aj (n:Nat)(i:Int):okD n (.int i)=true:=by cases n<;>simp[okD]
theorem zK (n:Nat)(i:Bool):okD n (.bl i)=true:=by cases n<;>simp[okD]
theorem wx (n:Nat)(x:Str):okD n (.str x)=UU x:=by cases n<;>simp[okD]
theorem y3 (n:Nat)(ds:List D):okD (n+1) (.tup ds)=cY n ds:=by simp[okD]
theorem Ap (n:Nat)(ds:List D):okD (n+1) (.ls ds)=cY n ds:=by simp[okD]
theorem fg (n:Nat)(d:D)(r:List D):cY n (d::r)=(okD n d&&cY n r):=by simp[cY]
theorem rJ (i j:Int):eqD (.int i) (.int j)=decide (i=j):=by simp[eqD]
theorem kG (i j:Str):eqD (.str i) (.str j)=decide (i=j):=by simp[eqD]
theorem rj (a b:List D):eqD (.tup a) (.tup b)=nS a b:=by simp[eqD]
theorem rg (a b:List D):eqD (.ls a) (.ls b)=nS a b:=by simp[eqD]
theorem La (A B:Prop):kIf true A B=A:=propext UM
theorem Kg (A B:Prop):kIf false A B=B:=propext UM
theorem Lp (c:Bool)(f):kB (.bl c) f=f c:=propext UM
theorem GR (c:Int)(f):kI (.int c) f=f c:=propext UM
theorem CQ (c:D)(f):kO (some c) f=f c:=propext UM
theorem FH (c:List D)(f):kS (.tup c) f=f c:=propext UM
theorem MG (c:List D)(f):kS (.ls c) f=f c:=propext UM
theorem Fs (a b:D)(f):k2 [a,b] f=f a b:=propext UM
theorem CS (c:Nat)(f):kN (some c) f=f c:=propext UM
theorem Ds (i j:Int)(μ Q):aT (.int i) (.int j) μ Q=Q (.int (i+j)) μ:=propext UM
theorem Ed (a b:List D)(μ Q):aT (.tup a) (.tup b) μ Q=(a.length+b.length<=1000000/\Q (.tup (a++b)) μ):=propext UM
theorem DJ (a b:List D)(μ Q):aT (.ls a) (.ls b) μ Q=(a.length+b.length<=1000000/\Q (.ls (a++b)) μ):=propext UM
theorem EG (i j:Int)(μ Q):kA (.int i) (.int j) μ Q=Q (.int (i - j)) μ:=propext UM
theorem GC (i j:Int)(μ Q):eJ (.int i) (.int j) μ Q=(MulOk i j/\Q (.int (i*j)) μ):=propext UM
theorem Fb (i j:Int)(μ Q):mx (.int i) (.int j) μ Q=(jO j/\Q (.int (i.fdiv j)) μ):=propext UM
theorem Gx (i j:Int)(μ Q):lK (.int i) (.int j) μ Q=(j≠0/\Q (.int (i.fmod j)) μ):=propext UM
theorem EB (i j:Int)(μ Q):IC (.int i) (.int j) μ Q=(qi i j/\Q (.int (i ^ j.toNat)) μ):=propext UM
theorem KL (i j:Int)(μ Q):rLt (.int i) (.int j) μ Q=Q (.bl (decide (i < j))) μ:=propext UM
theorem Jk (i j:Int)(μ Q):rGt (.int i) (.int j) μ Q=Q (.bl (decide (j < i))) μ:=propext UM
theorem JP (i j:Int)(μ Q):rGe (.int i) (.int j) μ Q=Q (.bl (decide (j<=i))) μ:=propext UM
theorem J3 (μ Q):rIs .non .non μ Q=Q (.bl true) μ:=propext UM
theorem J2 (i:Int)(μ Q):rIs (.int i) .non μ Q=Q (.bl false) μ:=propext UM
theorem JM (i:List D)(μ Q):rIs (.tup i) .non μ Q=Q (.bl false) μ:=propext UM
theorem K9 (a:List D)(lo hi)(μ Q):rSl (.tup a) lo hi μ Q=Q (.tup (cutD a lo hi)) μ:=propext UM
theorem iU (ds:List D)(i:Int)(μ Q):L3.rIx (.tup ds) (.int i) μ Q=kO (atD ds i) λd=>Q d μ:=propext UM
theorem iQ (ds:List D)(i:Int)(μ Q):L3.rIx (.ls ds) (.int i) μ Q=kO (atD ds i) λd=>Q d μ:=propext UM
theorem iM (x y:D)(μ Q):L3.rEq x y μ Q=((okD 40 x=true/\okD 40 y=true)/\Q (.bl (eqD x y)) μ):=propext UM
theorem iJ (x y:D)(μ Q):L3.rNe x y μ Q=((okD 40 x=true/\okD 40 y=true)/\Q (.bl (!eqD x y)) μ):=propext UM
theorem kif {p:Prop} [Decidable p] {A B:Prop}(h1:p->A)(h2:¬ p->B):kIf (decide p) A B:=by
 by_cases h:p
 ·rw[decide_eq_true h];exact h1 h
 ·rw[decide_eq_false h];exact h2 h
theorem Tr {p:Prop} [Decidable p] {A B:Prop}(h1:¬ p->A)(h2:p->B):kIf (!decide p) A B:=by
 by_cases h:p
 ·rw[decide_eq_true h];exact h2 h
 ·rw[decide_eq_false h];exact h1 h
theorem pX {p:Prop} [Decidable p] {A B:Prop}(h:p)(hA:A):kIf (decide p) A B:=by rw[decide_eq_true h];exact hA
theorem vS {p:Prop} [Decidable p] {A B:Prop}(h:¬ p)(hB:B):kIf (decide p) A B:=by rw[decide_eq_false h];exact hB
theorem Gy {c:Bool}{A B:Prop}(h1:c=true->A)(h2:c=false->B):kIf c A B:=by
 cases c
 ·exact h2 rfl
 ·exact h1 rfl
theorem xF {o:Option D}{d:D}{f:D->Prop}(e:o=some d)(h:f d):kO o f:=by rw[e];exact h
theorem a9 {μ:Mu}{a:Addr}{ds:List D}{f:List D->Prop}(e:μ a=some (.lst ds))(h:f ds):kL μ a f:=by rw[Q6 e];exact h
section
open PySem PySem.Spec PyProof.Rows L2
def MH (kvs:List (Str×D))(s:Str):Option D:=(kvs.find? λkv=>decide (kv.1=s)).map (·.2)
def CG (K:UH):List DictEntry->List (Str×D)->Prop
 | [],[]=>True
 | e::es,(x,d)::r=>(∃ t,e.key=.str x t)/\(∃ v,RelV v e.val/\∀ H,Dp K H v d)/\CG K es r
 | _,_=>False
theorem vO (s x:Str)(t:Tok):Xr s (.str x t)=decide (x=s):=by
 by_cases h:x=s
 ·subst h;simp[Xr]
 ·rw[decide_eq_false h];simp[Xr];first | exact h | exact λz=>h z.symm
theorem CG.find {K:UH}(s:Str):∀ {es:List DictEntry} {kvs:List (Str×D)},CG K es kvs->
  match MH kvs s with
  | none=>(es.find? λe=>Xr s e.key)=none
  | some d=>∃ e v,(es.find? λe=>Xr s e.key)=some e/\RelV v e.val/\∀ H,Dp K H v d
 | [],[],_=>rfl
 | e::es,(x,d)::r,h=>by
  obtain ⟨⟨t,ht⟩,⟨v,rv,pv⟩,hr⟩:=h
  have ih:=CG.find s hr
  unfold MH at ih ⊢
  rw[Wb,Wb,ht,vO]
  by_cases hx:x=s
  ·simp only[decide_eq_true hx,zai]
   exact ⟨e,v,rfl,rv,pv⟩
  ·simp only[decide_eq_false hx]
   exact ih
 | [],_::_,h=>UO h
 | _::_,[],h=>UO h
section
variable {X:Cx} {a b c e:Ve} {Ta Tb Te:ETr} {pos gpos:Pos} {x:Str} {kvs:List (Str×D)}
end
section
variable {X:Cx} {a b:Ve} {Ta Tb:ETr} {pos:Pos}
end
end
section
open PySem PySem.Spec PyProof.Rows L2
def dR {κ:Type} [DecidableEq κ] (kvs:List (κ×D))(k:κ):Option D:=(kvs.find? λkv=>decide (kv.1=k)).map (·.2)
def putD {κ:Type} [DecidableEq κ] (kvs:List (κ×D))(k:κ)(v:D):List (κ×D):=
 if (kvs.any λkv=>decide (kv.1=k))=true then kvs.map (λkv=>if kv.1=k then (kv.1,v) else kv) else kvs++[(k,v)]
def xZ (x:D)(f:Key->Prop):Prop:=match x with
 | .int i=>f (.inl i)
 | .str s=>f (.inr s)
 | _=>False
theorem DpK.nil {κ:Type}{K:UH}{H:Hp}:DpK (κ:=κ) K H [] []:=⟨rfl,.nil⟩
theorem DpK.cons {κ:Type}{K:UH}{H:Hp}{k:κ}{v:V}{d:D}{xs:List (κ×V)}{kvs:List (κ×D)}(h:Dp K H v d)(r:DpK K H xs kvs):DpK K H ((k,v)::xs) ((k,d)::kvs):=
 ⟨by simp[r.1],.cons h r.2⟩
theorem DpK.ind {κ:Type}{K:UH}{H:Hp}{P:List (κ×V)->List (κ×D)->Prop}(h0:P [] [])(h1:∀ k v d xs kvs,Dp K H v d->DpK K H xs kvs->P xs kvs->P ((k,v)::xs) ((k,d)::kvs)) :
  ∀ {xs:List (κ×V)} {kvs:List (κ×D)},DpK K H xs kvs->P xs kvs
 | [],[],_=>h0
 | [],_::_,h=>by cases h.1
 | _::_,[],h=>by cases h.1
 | (k,v)::xs,(k',d)::kvs,h=>by
  obtain ⟨h2,h3⟩:=h
  simp only[UT,List.cons.injEq] at h2
  obtain ⟨rfl,h2⟩:=h2
  cases h3 with
  | cons p l=>exact h1 k v d xs kvs p ⟨h2,l⟩ (DpK.ind h0 h1 ⟨h2,l⟩)
theorem DpK.look {κ:Type} [DecidableEq κ] {K:UH}{H:Hp}{xs:List (κ×V)}{kvs:List (κ×D)}(h:DpK K H xs kvs)(k:κ) :
  (dR kvs k=none/\gM xs k=none)∨∃ v d,dR kvs k=some d/\gM xs k=some v/\Dp K H v d:=by
 refine DpK.ind (P:=λxs kvs=>(dR kvs k=none/\gM xs k=none)∨∃ v d,dR kvs k=some d/\gM xs k=some v/\Dp K H v d) (.inl ⟨rfl,rfl⟩) (λj v d xs kvs p _ ih=>?_) h
 by_cases e:j=k
 ·refine .inr ⟨v,d,?_,lR (p:=(j,v)) e,p⟩
  unfold dR;rw[Wb];simp[e]
 ·have e1:dR ((j,d)::kvs) k=dR kvs k:=by unfold dR;rw[Wb];simp[e]
  rw[e1,kJ (p:=(j,v)) e]
  exact ih
theorem DpK.any {κ:Type} [DecidableEq κ] {K:UH}{H:Hp}{xs:List (κ×V)}{kvs:List (κ×D)}(h:DpK K H xs kvs)(k:κ):(xs.any λkv=>decide (kv.1=k))=kvs.any λkv=>decide (kv.1=k):=by
 refine DpK.ind (P:=λxs kvs=>(xs.any λkv=>decide (kv.1=k))=kvs.any λkv=>decide (kv.1=k)) rfl (λj v d xs kvs p _ ih=>?_) h
 rw[Xu,Xu,ih]
theorem DpK.put {κ:Type} [DecidableEq κ] {K:UH}{H:Hp}{xs:List (κ×V)}{kvs:List (κ×D)}(h:DpK K H xs kvs)(k:κ){v:V}{d:D}(p:Dp K H v d):DpK K H (putK xs k v) (putD kvs k d):=by
 unfold putK putD
 rw[h.any k]
 split
 ·refine DpK.ind (P:=λxs kvs=>DpK K H (xs.map λkv=>if kv.1=k then (kv.1,v) else kv) (kvs.map λkv=>if kv.1=k then (kv.1,d) else kv)) .nil (λj v' d' xs kvs p' _ ih=>?_) h
  rw[UT,UT]
  by_cases e:j=k
  ·rw[if_pos e,if_pos e];exact .cons p ih
  ·rw[if_neg e,if_neg e];exact .cons p' ih
 ·refine DpK.ind (P:=λxs kvs=>DpK K H (xs++[(k,v)]) (kvs++[(k,d)])) (.cons p .nil) (λj v' d' xs kvs p' _ ih=>?_) h
  exact .cons p' ih
theorem DpK.length {κ:Type}{K:UH}{H:Hp}{xs:List (κ×V)}{kvs:List (κ×D)}(h:DpK K H xs kvs):xs.length=kvs.length:=by
 have:=h.2.length
 simpa using this
theorem qk {K:UH}{H:Hp}{y:V}{dy:D}{f:Key->Prop}(p:Dp K H y dy)(h:xZ dy f):∃ k,y=kV k/\f k:=by
 cases p with
 | int i=>exact ⟨.inl i,rfl,h⟩
 | str s=>exact ⟨.inr s,rfl,h⟩
 | _=>exact UO h
theorem hU {K:UH}{H:Hp}{x:V}{dx:D}{f:Addr->Prop}(p:Dp K H x dx)(h:kObj dx f):∃ a,x=.ref a/\f a:=by
 cases p with
 | obj a=>exact ⟨a,rfl,h⟩
 | _=>exact UO h
theorem pK {H:Hp}{q:Addr}{u:HO}{xs:List (Key×V)}(ex:H q=some (.dK xs)):Tk H (L2.upd H q u):=
 .upd (λys z=>by rw[ex] at z;cases z) λo' w z=>by rw[ex] at z;cases z
theorem Av {K:UH}{H:Hp}{μ:Mu}{q:Addr}{xs ys:List (Key×V)}{ds:List (Key×D)}(m:bB K H μ)(ex:H q=some (.dK xs))(l:DpK K H ys ds):bB K (L2.upd H q (.dK ys)) (up μ q (.dct ds)):=λz y ez=>by
 by_cases zq:z=q
 ·subst zq
  rw[aF] at ez;cases ez
  exact ⟨ys,aK,l.mono (pK ex)⟩
 ·rw[aU zq] at ez
  exact (m z _ ez).ne (pK ex) zq
theorem Cn {K:UH}{H:Hp}{μ:Mu}{q:Addr}{ys:List (Key×V)}{ds:List (Key×D)}(m:bB K H μ)(hq:H q=none)(l:DpK K H ys ds):bB K (L2.upd H q (.dK ys)) (up μ q (.dct ds)):=λz y ez=>by
 by_cases zq:z=q
 ·subst zq
  rw[aF] at ez;cases ez
  exact ⟨ys,aK,l.mono (.new hq)⟩
 ·rw[aU zq] at ez
  exact cJ m hq z y ez
section
variable {X:Cx} {o i a b c e value:Ve} {To Ti Ta Tb Te:ETr} {pos tpos:Pos}
theorem hu1 (hu:X.A.units+64 < cLine):X.A.units+1 < cLine:=by omega
def bH (To Ti:ETr):ETr:=λρ μ Q=>To ρ μ λx μ1=>Ti ρ μ1 λy μ2=>kObj x λa=>kD μ2 a λkvs=>xZ y λk=>kO (dR kvs k) λd=>Q d μ2
theorem cD (hu:X.A.units+64 < cLine)(ho:LE X o To)(hi:LE X i Ti)(hs:ND i:=by intro _ _;rfl):LE X (.Subscript o i pos) (bH To Ti):=by
 obtain ⟨to,po,so⟩:=ho.ex
 obtain ⟨ti,pi,si⟩:=hi.ex
 refine ⟨_,KS (hu1 hu) po pi hs,λσ H ρ μ Q Q' rl h k=>so σ H ρ μ _ _ rl h λx H1 dx μ1 t1 m1 p1 h1=>si σ H1 ρ μ1 _ _ (rl.go t1 m1) h1 λy H2 dy μ2 t2 m2 p2 h2=>?_⟩
 obtain ⟨q,rfl,h2⟩:=hU p1 h2
 obtain ⟨kvs,e0,h2⟩:=qf h2
 obtain ⟨kk,rfl,h2⟩:=qk p2 h2
 obtain ⟨d,e1,h2⟩:=kq h2
 obtain ⟨xs,ex,l⟩:=m2 q _ e0
 rcases l.look kk with ⟨z,_⟩ | ⟨v,d',z,ev,pv⟩
 ·rw[z] at e1;cases e1
 ·rw[z] at e1;cases e1
  exact ⟨q,v,rfl,by rw[← ev];exact sE.k ex,k _ H2 _ μ2 (t1.trans t2) m2 pv h2⟩
def ja (To Ti Te:ETr):STr:=λE ρ μ=>Te ρ μ λv μ1=>To ρ μ1 λx μ2=>Ti ρ μ2 λy μ3=>kObj x λa=>kD μ3 a λkvs=>xZ y λk=>kvs.length < 1000000/\E.nx ρ (up μ3 a (.dct (putD kvs k v)))
theorem ly (hu:X.A.units+64 < cLine)(ho:LE X o To)(hi:LE X i Ti)(he:LE X value Te)(hs:Xd value (some (.Subscript o i tpos)) pos.line X.env=pure false:=by rfl) :
  LS X (.Assign [.Subscript o i tpos] value pos) (ja To Ti Te):=by
 obtain ⟨to,po,so⟩:=ho.ex
 obtain ⟨ti,pi,si⟩:=hi.ex
 obtain ⟨te,pe,se⟩:=he.ex
 refine ⟨_,JT (hu1 hu) po pi pe hs,λσ H ρ μ E E' rl h k=>se σ H ρ μ _ _ rl h λv H1 dv μ1 t1 m1 p1 h1=>so σ H1 ρ μ1 _ _ (rl.go t1 m1) h1 λx H2 dx μ2 t2 m2 p2 h2=>
  si σ H2 ρ μ2 _ _ (rl.go (t1.trans t2) m2) h2 λy H3 dy μ3 t3 m3 p3 h3=>?_⟩
 obtain ⟨q,rfl,h3⟩:=hU p2 h3
 obtain ⟨kvs,e0,h3⟩:=qf h3
 obtain ⟨kk,rfl,h3⟩:=qk p3 h3
 obtain ⟨xs,ex,l⟩:=m3 q _ e0
 have t4:Tk H3 (L2.upd H3 q (.dK (putK xs kk v))):=pK ex
 have t14:=t1.trans (t2.trans (t3.trans t4))
 refine ⟨q,_,rfl,uv.k ex (by rw[l.length];exact U6 h3.1 (by decide)),k.nx _ _ ρ _ t14 (rl.go t14 (Av m3 ex (l.put kk (p1.mono (t2.trans t3))))) h3.2⟩
def kP (f:Int->Int->Int)(To Ti Te:ETr):STr:=λE ρ μ=>To ρ μ λx μ1=>Ti ρ μ1 λy μ2=>kObj x λa=>kD μ2 a λkvs=>xZ y λk=>kO (dR kvs k) λd=>kI d λm=>
 Te ρ μ2 λw μ3=>kI w λn=>kD μ3 a λkvs3=>kvs3.length < 1000000/\E.nx ρ (up μ3 a (.dct (putD kvs3 k (.int (f m n)))))
theorem Ex {to ti te:TE}{K:UH}{f:Int->Int->Int}{rd:V->V->Hp->VK->Prop}(hrd:∀ i j H Q,Q (.int (f i j)) H->rd (.int i) (.int j) H Q)(so:Sim K to To)(si:Sim K ti Ti)(se:Sim K te Te) :
  HG K (M3 to ti te rd) (kP f To Ti Te):=λσ H ρ μ E E' rl h k=>so σ H ρ μ _ _ rl h λx H1 dx μ1 t1 m1 p1 h1=>si σ H1 ρ μ1 _ _ (rl.go t1 m1) h1 λy H2 dy μ2 t2 m2 p2 h2=>by
  obtain ⟨q,rfl,h2⟩:=hU p1 h2
  obtain ⟨kvs,e0,h2⟩:=qf h2
  obtain ⟨kk,rfl,h2⟩:=qk p2 h2
  obtain ⟨d,e1,h2⟩:=kq h2
  obtain ⟨xs,ex,l⟩:=m2 q _ e0
  rcases l.look kk with ⟨z,_⟩ | ⟨v,d',z,ev,pv⟩
  ·rw[z] at e1;cases e1
  ·rw[z] at e1;cases e1
   cases pv with
   | int m=>
    refine ⟨q,.int m,rfl,by rw[← ev];exact sE.k ex,se σ H2 ρ μ2 _ _ (rl.go (t1.trans t2) m2) h2 λw H3 dw μ3 t3 m3 p3 h3=>?_⟩
    cases p3 with
    | int n=>
     obtain ⟨kvs3,e3,h3⟩:=qf (show kD μ3 q _ from h3)
     obtain ⟨xs3,ex3,l3⟩:=m3 q _ e3
     have t4:Tk H3 (L2.upd H3 q (.dK (putK xs3 kk (.int (f m n))))):=pK ex3
     have t14:=t1.trans (t2.trans (t3.trans t4))
     exact hrd m n H3 _ ⟨_,uv.k ex3 (by rw[l3.length];exact U6 h3.1 (by decide)),k.nx _ _ ρ _ t14 (rl.go t14 (Av m3 ex3 (l3.put kk (.int _)))) h3.2⟩
    | _=>exact UO h3
   | _=>exact UO h2
theorem kE (hu:X.A.units+64 < cLine)(ho:LE X o To)(hi:LE X i Ti)(he:LE X value Te)(ha:∀ ov iv new,augStore i ov iv new=(do ZY [new,ov,iv] (setItem ov iv new);release [new,ov,iv] [];pure .next):=by intros;rfl) :
  LS X (.AugAssign (.Subscript o i tpos) .Add value pos) (kP (λm n=>m+n) To Ti Te):=by
 obtain ⟨to,po,so⟩:=ho.ex
 obtain ⟨ti,pi,si⟩:=hi.ex
 obtain ⟨te,pe,se⟩:=he.ex
 exact ⟨_,Ml (hu1 hu) po pi pe Qa ha,Ex (λi j H Q q=>⟨i,j,rfl,rfl,q⟩) so si se⟩
def Lz (f:Int->Int->Int)(i:Nat)(Te:ETr):STr:=λE ρ μ=>kO (lk ρ i) λd=>kI d λm=>Te ρ μ λw μ1=>kI w λn=>aw i (.int (f m n)) ρ μ1 E.nx
theorem J5 {te:TE}{K:UH}{f:Int->Int->Int}{j:Nat}(se:Sim K te Te):HG K (QY j te (ipI f)) (Lz f j Te):=λσ H ρ μ E E' rl h k=>by
 obtain ⟨d,e1,h⟩:=kq h
 obtain ⟨v,ev,pv⟩:=rl.loc j d e1
 cases pv with
 | int m=>
  refine ⟨.int m,ev,se σ H ρ μ _ _ rl h λw H1 dw μ1 t1 m1 p1 h1=>?_⟩
  cases p1 with
  | int n=>exact ⟨m,n,rfl,rfl,k.nx _ _ _ _ t1 ((rl.go t1 m1).set (.int _) j) h1⟩
  | _=>exact UO h1
 | _=>exact UO h
theorem DL (j:Nat){x:Str}(hN:X.N.Nodup)(he:LE X e Te)(hi:X.N[j]? = some x:=by rfl)(hx:Loc X.env.scope x:=by first | exact Yt rfl | exact Yu rfl)(hf:X.fn x=true∨X.env.scope.names.lookup x=some .local:=by first | exact .inl rfl | exact .inr rfl | assumption) :
  LS X (.AugAssign (.Name x tpos) .Add e pos) (Lz (λm n=>m+n) j Te):=by
 obtain ⟨te,pe,se⟩:=he.ex
 exact ⟨_,Pp hN hi hx pe Pf hf,J5 se⟩
def SS (K:UH)(trs:List (TE×TE))(ks:List Key)(T:ATr):Prop:=∀ σ H ρ μ (Q:List D->Mu->Prop) (Q':List (V×V)->Hp->Prop),Rl K σ H ρ μ->T ρ μ Q->
 (∀ vs H' ds μ',Tk H H'->bB K H' μ'->vs.length=ks.length->DpL K H' vs ds->Q ds μ'->Q' ((ks.map kV).zip vs) H')->uk trs σ H Q'
structure LPs (X:Cx) (pos:Pos) (keys:List (Option Ve)) (values:List Ve) (ks:List Key) (T:ATr):Prop where
 ex:∃ trs,PPs X pos keys values trs/\SS X.K trs ks T
theorem J7:LPs X pos [] [] [] ar:=⟨[],KY,λσ H ρ μ Q Q' rl h k=>k [] H [] μ (.refl H) rl.mu rfl .nil h⟩
theorem jY {s:Str}{j}{p:Pos}{ks:List (Option Ve)}{vs:List Ve}{kk:List Key}{At:ATr}(hv:LE X value Te)(hr:LPs X pos ks vs kk At):LPs X pos (some (.Constant (.str s) j p)::ks) (value::vs) (.inr s::kk) (af Te At):=by
 obtain ⟨te,pe,se⟩:=hv.ex
 obtain ⟨trs,pr,sr⟩:=hr.ex
 refine ⟨_,FA HN pe pr,λσ H ρ μ Q Q' rl h k=>?_⟩
 refine se σ H ρ μ _ _ rl h λy H1 dy μ1 t1 m1 p1 h1=>sr σ H1 ρ μ1 _ _ (rl.go t1 m1) h1 λvs H2 ds μ2 t2 m2 hl p2 h2=>?_
 exact k (y::vs) H2 (dy::ds) μ2 (t1.trans t2) m2 (by simp[hl]) (.cons (p1.mono t2) p2) h2
def EJ (ks:List Key)(At:ATr):ETr:=λρ μ Q=>∀ p,μ p=none->At ρ (up μ p (.dct [])) λds μ2=>kD μ2 p λkvs=>kvs=[]/\Q (.obj p) (up μ2 p (.dct (ks.zip ds)))
theorem GL {acc:List (Key×V)}{k:Key}{v:V}(h:gM acc k=some v):k∈acc.map (·.1):=by
 unfold gM at h
 obtain ⟨p,hp,_⟩:=Z6.mp h
 have h1:=Zj hp
 have h2:=List.find?_some hp
 exact UP.mpr ⟨p,h1,of_decide_eq_true h2⟩
theorem pV:∀ (kvs acc:List (Key×V)),((acc++kvs).map (·.1)).Nodup->dP acc kvs=acc++kvs
 | [],acc,_=>by simp[dP]
 | p::r,acc,h=>by
  have hn:gM acc p.1=none:=by
   cases e:gM acc p.1 with
   | none=>rfl
   | some v=>
    exfalso
    have:=GL e
    rw[Vq,UT] at h
    exact (zbH.mp h).2.2 _ this _ U0 rfl
  show dP (putK acc p.1 p.2) r=_
  rw[Fy p.2 hn]
  rw[pV r (acc++[(p.1,p.2)]) (by simpa using h)]
  simp
theorem vL:∀ (ks:List Key) (vs:List V),(ks.map kV).zip vs=(ks.zip vs).map λkv=>(kV kv.1,kv.2)
 | [],_=>by simp
 | _::_,[]=>by simp
 | k::ks,v::vs=>by simp[vL ks vs]
theorem DpK.zip {K:UH}{H:Hp}:∀ {ks:List Key} {vs:List V} {ds:List D},DpL K H vs ds->DpK K H (ks.zip vs) (ks.zip ds)
 | [],_,_,_=>by simp;exact .nil
 | _::_,_,_,.nil=>by simp;exact .nil
 | k::ks,_,_,.cons p l=>.cons p (DpK.zip l)
theorem Ji {keys:List (Option Ve)}{values:List Ve}{ks:List Key}{At:ATr}(h:LPs X pos keys values ks At)(hall:keys.all (·.isSome)=true:=by rfl)(hl:keys.length=values.length:=by rfl)(h0:keys≠[]:=by nofun)
  (h15:keys.length<=15:=by decide) (hk:keys.length=ks.length:=by rfl) (hn:ks.Nodup:=by decide):LE X (.Dict keys values pos) (EJ ks At):=by
 obtain ⟨trs,pr,sr⟩:=h.ex
 refine ⟨_,JE pr hall hl h0 h15,λσ H ρ μ Q Q' rl h k p hp=>?_⟩
 refine sr σ _ ρ _ _ _ (rl.go (.new hp) (Cn rl.mu hp .nil)) (h p (rl.mu.free hp)) λvs H2 ds μ2 t2 m2 hvl p2 h2=>?_
 obtain ⟨kvs,e0,rfl,h2⟩:=qf h2
 obtain ⟨xs,ex,l⟩:=m2 p _ e0
 have:xs=[]:=by have:=l.length;cases xs with | nil=>rfl | cons=>simp at this
 subst this
 refine ⟨ex,ks.zip vs,vL ks vs,by rw[List.length_zip];omega,?_⟩
 have e:dP [] (ks.zip vs)=ks.zip vs:=by
  have:=pV (ks.zip vs) [] (by rw[X3,List.map_fst_zip (by omega)];exact hn)
  simpa using this
 rw[e]
 exact k _ _ _ _ ((Tk.new hp).trans (t2.trans (pK ex))) (Av m2 ex (.zip p2)) (.obj p) h2
end
end
section
open PySem PySem.Spec PyProof.Rows L2
theorem DT:zcp (.type "list") (OF "keys")=pure none:=am_miss_of_fast (by kernel_rfl)
theorem QE {prog:Vn}{w:VB}{A:VX}{E:UK->UN->Prop}{s:UN}{a:Addr}{o:Obj}{xs:Array UK}{k:Nat}{Q:Option UK->UN->Prop}
  (hx:s.heap.get? a=some o) (hc:o.cls=.type "list") (hdat:o.data=.seq xs k) (hd:o.dict=none) (hA:A.handled=none)
  (h:∀ h' tk,(∀ b ob,s.heap.get? b=some ob->h'.get? b=some ob)->Q none { s with heap:=h',toks:=tk }) :
  U9 (Vb prog w) A (getAttr? (.ref a) "keys") Q E s:=by
 obtain ⟨c,dct,dat,sl⟩:=o
 simp only at hc hdat hd
 subst hc hdat hd
 obtain ⟨hp,g,d,tk,os⟩:=s
 have hT:∀ tk',(⟨hp,g,d,tk',os⟩:UN).TypeIs (.ref a) "list" := λ_=>⟨_,hx,rfl⟩
 have f1:=sub_AttributeError
 have f3:=X1.lookup
 have f4:=X1.bind (.ref a)
 have f5:=am_list_getattr_none
 unfold getAttr? getAttrBy? getAttrBy
 repeat (any_goals (first | assumption | exact hT _ | ((with_reducible show U9 _ _ (zaP (Value.builtin "list.__getattribute__") _ _) _ _ _);refine Ze X1 (hT _) am_entry_list_getattribute (F.args_list_getattribute_2 _ _) (meets_getattribute_miss_list a xs k sl (OF "keys") _ DT (by decide +kernel) (by decide +kernel)) ⟨hx,hA,λh' tk' e hx'=>?_⟩) | wp_step))
 obtain ⟨t',u',he⟩:=hx'.there
 show U9 _ _ (zbl _ _ _ _ _ _ _) _ _ _
 unfold zbl
 repeat (any_goals (first | assumption | wp_step))
 exact h _ _ hx'.keeps
theorem kM:plainId "dict.update.loop" = true:=by decide +kernel
theorem yj:entryFor table "dict.update.loop" = some YJ.«dict.update.loop»:=entryFor_of_fast (by kernel_rfl)
inductive fB {prog:Vn} {w:VB} {κ:Type} [DecidableEq κ] (knd:KeyKind prog w κ) (h:Heap):List UK->List (κ×UK)->Prop
 | nil:fB knd h [] []
 | cons {a:Addr} {u v:UK} {k:κ} {us:List UK} {r:List (κ×UK)}:zb4 h a #[u,v]->knd.is k u=true->fB knd h us r->fB knd h (.ref a::us) ((k,v)::r)
section
variable {prog:Vn} {w:VB} {κ:Type} [DecidableEq κ] {knd:KeyKind prog w κ}
theorem fB.keeps {h h':Heap}(kp:∀ b o,h.get? b=some o->o.cls=.type "tuple" -> h'.get? b=some o):∀ {us:List UK} {r:List (κ×UK)},fB knd h us r->fB knd h' us r
 | _,_,.nil=>.nil
 | _,_,.cons t k r=>.cons (by obtain ⟨o,e,c,n,d⟩:=t;exact ⟨o,kp _ o e c,c,n,d⟩) k (r.keeps kp)
theorem xP {A:VX}{R:zbS->UN->Prop}{d it l:Addr}{items:Array UK}(hA:A.handled=none)(n1:d≠it)(n2:l≠it)(n3:l≠d) :
  ∀ (us:List UK) (r:List (κ×UK)) (i:Nat) (kvs:List (κ×UK)) (s:UN),items.toList.drop i=us->fB knd s.heap us r->s.heap.IsListIter it l i->s.heap.IsList l items->s.heap.DictOf knd d kvs->kvs.length+r.length<=sizeLine->
   (∀ h' tk,h'.DictOf knd d (merged kvs r)->(∀ b o,b≠it->b≠d->s.heap.get? b=some o->h'.get? b=some o)->R (.ok (.ret .none)) { s with heap:=h',toks:=tk })->
   U9 (Vb prog w) A.in1 (YJ.«dict.update.loop» ⟨[.ref d,.ref it,Za i,.none],[]⟩) (λfin s'=>match fin with | .done f=>R (.ok f) s' | .again c'=>c'.quiet=true/\Xy (Vb prog w) A c' R s') (λe s'=>R (.error e) s') s
 | [],r,i,kvs,s,hd,P,hit,hl,hm,hz,h=>by
  cases P
  have hx:items[i]? = none:=by
   have:items.toList.length<=i:=by
    have:=congrArg WC hd
    simp at this;simp;omega
   simpa using this
  show U9 _ _ (X6 (.ref it) >>= _) _ _ _
  refine UI (zam (by exact hA) hit hl hx λh' k=>?_)
  show U9 _ _ (zcL d [] >>= _) _ _ _
  refine UI (UQ (UQ ?_))
  refine h h' s.toks ?_ λb o hb _ e=>k b o hb e
  obtain ⟨o,es,ep,ho,rest⟩:=hm
  exact ⟨o,es,ep,k d o n1 ho,rest⟩
 | u::us,r,i,kvs,s,hd,P,hit,hl,hm,hz,h=>by
  cases P with
  | @cons a ku v k _ r tp hk P=>
  have hx:items[i]? = some (.ref a):=by
   have:items.toList[i]? = some (.ref a):=by
    have:=congrArg (λl=>l[0]?) hd
    simpa using this
   simpa using this
  have hd':items.toList.drop (i+1)=us:=by
   have:=congrArg List.tail hd
   simpa using this
  show U9 _ _ (X6 (.ref it) >>= _) _ _ _
  refine UI (ZZ hit hl hx λh1 it1 k1=>?_)
  have ne_it:∀ b o,s.heap.get? b=some o->o.cls≠.type "list_iterator" -> b≠it:=λb o e c z=>by
   subst z
   obtain ⟨o',e',c',_⟩:=hit
   rw[e] at e';cases e';exact c c'
  have tp1:zb4 h1 a #[ku,v]:=by
   obtain ⟨o,e,c,n,dd⟩:=tp
   exact ⟨o,(k1.2 a (ne_it a o e (by rw[c];decide))).trans e,c,n,dd⟩
  obtain ⟨o,e,c,n,dd⟩:=tp1
  have hm1:h1.DictOf knd d kvs:=by
   obtain ⟨o,es,ep,ho,rest⟩:=hm
   exact ⟨o,es,ep,(k1.2 d n1).trans ho,rest⟩
  have hl1:h1.IsList l items:=by
   obtain ⟨o,e,c,n,dd⟩:=hl
   exact ⟨o,(k1.2 l n2).trans e,c,n,dd⟩
  dsimp only
  refine UI (Xt ?_)
  refine UI (XI ?_)
  unfold zcU
  refine UI (wpAny_typeOf (T := "tuple") ⟨o,e,c⟩ ?_)
  rw[if_pos (by decide)]
  refine UI (Wa e dd (UQ ?_))
  show U9 _ _ (ZY [ku,v] (dictSet d ku v)) _ _ _
  refine Xt (wpAny_dictSet_pairs (hsz:=by have:=hz;simp at this;omega) hk hm1 λh2 hm2 k2=>?_)
  refine UQ ?_
  refine ⟨Xb kM _,zaj yj ?_⟩
  rw[YN kM _]
  have kp:∀ b o,b≠it->b≠d->s.heap.get? b=some o->h2.get? b=some o:=λb o b1 b2 q=>(k2.2 b b2).trans ((k1.2 b b1).trans q)
  have ci:((i:Int)+1)=((i+1:Nat):Int):=by push_cast;rfl
  have nd:∀ b o,s.heap.get? b=some o->o.cls≠.type "dict" -> b≠d:=λb o q c z=>by
   subst z
   obtain ⟨o',_,_,e',ex,_⟩:=hm
   rw[q] at e';cases e';exact c ex.1
  show U9 _ _ (YJ.«dict.update.loop» ⟨[.ref d,.ref it,Za ((i:Int)+1),.none],[]⟩) _ _ _
  rw[ci]
  refine xP hA n1 n2 n3 us r (i+1) (stored kvs k v) _ hd' (P.keeps λb o q c=>kp b o (ne_it b o q (by rw[c];decide)) (nd b o q (by rw[c];decide)) q) ?_ ?_ hm2 ?_ ?_
  ·obtain ⟨o,e,c⟩:=it1
   exact ⟨o,(k2.2 it (Vo n1)).trans e,c⟩
  ·obtain ⟨o,e,c⟩:=hl1
   exact ⟨o,(k2.2 l n3).trans e,c⟩
  ·have:=stored_length_le kvs k v
   simp at hz;omega
  ·intro h' tk hm' kp'
   exact h h' tk hm' λb o b1 b2 q=>kp' b o b1 b2 (kp b o b1 b2 q)
end
end
section
open PySem PySem.Spec PyProof.Rows L2
section
variable {prog:Vn} {w:VB} {κ:Type} [DecidableEq κ] {knd:KeyKind prog w κ}
theorem om {A:VX}{E:UK->UN->Prop}{s:UN}{l:Addr}{o:Obj}{items:Array UK}{k:Nat}{r:List (κ×UK)}{Q:UK->UN->Prop}(hA:A.handled=none)
  (hx:s.heap.get? l=some o) (hc:o.cls=.type "list") (hdat:o.data=.seq items k) (hd:o.dict=none) (P:fB knd s.heap items.toList r) (hz:r.length<=sizeLine)
  (h:∀ h' tk,h'.DictOf knd s.heap.objs.size (merged [] r)->(∀ b o,s.heap.get? b=some o->h'.get? b=some o)->Q (.ref s.heap.objs.size) { s with heap:=h',toks:=tk }) :
  U9 (Vb prog w) A (zaP (.type "dict") [.ref l]) Q E s:=by
 refine callType_codes (Q₁:=λobj s₁=>obj=.ref s.heap.objs.size/\s₁={ s with heap:=s.heap.push { cls:=.type "dict", data:=.dict #[] } }) F.kt_called_dict (F.kt_typeCall_dict_1 _) F.entry_dict_init (kt_code_dict_new _ ⟨rfl,rfl⟩) ?_
 rintro obj s₁ ⟨rfl,rfl⟩
 have Mi:(s.heap.push { cls:=.type "dict", data:=.dict #[] }).DictOf knd s.heap.objs.size []:=zcf s.heap
 have hx1:(s.heap.push { cls:=.type "dict", data:=.dict #[] }).get? l=some o:=UJ _ hx
 have ll:l < s.heap.objs.size:=U1 hx
 refine ⟨Mi.typeIs,F.args_dict_init_2 _ _,?_⟩
 unfold YJ.«dict.__init__»
 refine UI ?_
 unfold zcM
 refine UI (wpAny_notOrdered_dict Mi.typeIs ?_)
 show U9 _ _ (pure (s.heap.objs.size,[Vs l])) _ _ _
 refine UQ ?_
 show U9 _ _ (ZP "dict.__init__" s.heap.objs.size (.ref l) [] .none) _ _ _
 unfold ZP
 refine UI (wpAny_typeOf (T := "list") ⟨o,hx1,hc⟩ ?_)
 rw[if_pos (by decide)]
 refine UI (QE hx1 hc hdat hd hA λh1 tk1 kp1=>?_)
 rw[if_pos (by decide)]
 refine UI (Xk ?_)
 have hx2:h1.get? l=some o:=kp1 _ _ hx1
 have hl2:h1.IsList l items:=⟨o,hx2,hc,k,hdat⟩
 have lt1:s.heap.objs.size < h1.objs.size:=by
  obtain ⟨o',es,ep,ho,_⟩:=Mi
  exact U1 (kp1 _ _ ho)
 refine UI (Xx hl2 ?_)
 refine UI (UQ (UQ ?_))
 refine ⟨Xb kM _,zaj yj ?_⟩
 rw[YN kM _]
 have kp2:∀ b o,s.heap.get? b=some o->(h1.push { cls:=.type "list_iterator", data:=.fields #[.ref l,.int 0 0] }).get? b=some o:=λb o q=>UJ _ (kp1 _ _ (UJ _ q))
 refine xP (A:=A.in1) (knd:=knd) (it:=h1.objs.size) (d:=s.heap.objs.size) (l:=l) (items:=items) (R:=wants (λr s₂=>r=WM/\Q (Vs s.heap.objs.size) s₂) E) hA (Vc lt1) (Vc (zbw ll lt1)) (Vc ll) items.toList r 0 [] _ rfl ?_ ?_ ?_ ?_ (by simpa using hz) ?_
 ·exact P.keeps λb o q _=>kp2 b o q
 ·exact ⟨_,U3 _ rfl,rfl,rfl⟩
 ·exact ⟨o,UJ _ hx2,hc,k,hdat⟩
 ·obtain ⟨o',es,ep,ho,rest⟩:=Mi
  exact ⟨o',es,ep,UJ _ (kp1 _ _ ho),rest⟩
 ·intro h' tk hm' kp'
  refine ⟨rfl,h h' tk hm' λb o q=>?_⟩
  have hb:b < s.heap.objs.size:=U1 q
  exact kp' b o (Vc (zbw hb lt1)) (Vc hb) (kp2 b o q)
end
def dK:Key->D
 | .inl i=>.int i
 | .inr s=>.str s
def zd (kv:Key×D):D:=.tup [dK kv.1,kv.2]
def jd (kvs more:List (Key×D)):List (Key×D):=more.foldl (λacc kv=>putD acc kv.1 kv.2) kvs
inductive fh (K:UH) (H:Hp):List V->List (Key×V)->Prop
 | nil:fh K H [] []
 | cons {a:Addr} {k:Key} {v:V} {ys:List V} {r:List (Key×V)}:SqT K H a [kV k,v]->fh K H ys r->fh K H (.ref a::ys) ((k,v)::r)
theorem fh.at {X:Cx}{pins:List (Addr×Obj)}{σ:L2.St}{H:Hp}{s:UN}(I:Inv X pins σ H s):∀ {ys:List V} {kvs:List (Key×V)} {us:List UK},fh X.K H ys kvs->Vals ys us->∃ r,fB (cp X.prog X.w) s.heap us r/\KV kvs r
 | _,_,_,.nil,.nil=>⟨[],.nil,.nil⟩
 | _,_,_,@fh.cons _ _ a k v ys r sq h,.cons ru rs=>by
  cases (show _=Vs a from ru)
  obtain ⟨r,p,q⟩:=h.at I rs
  obtain ⟨its,vs,it,_⟩:=I.tuple sq
  cases vs with | @cons _ u1 _ _ r1 vs=>cases vs with | @cons _ u2 _ _ r2 vs=>
  cases vs
  exact ⟨(k,u2)::r,.cons it (wM r1) p,.cons ⟨rfl,r2⟩ q⟩
theorem zE {X:Cx}(hc:X.calm=true):b6 X (.type "dict") (λxs H Q=>∃ l ys kvs,xs=[.ref l]/\SqL X.K H l ys/\fh X.K H ys kvs/\kvs.length<=sizeLine/\∀ p,H p=none->Q (.ref p) (L2.upd H p (.dK (dP [] kvs)))):=by
 intro pins s σ H xs us Q I rx h
 obtain ⟨l,ys,kvs,rfl,sq,pv,hz,q⟩:=h
 obtain ⟨u,rfl,ru⟩:=vals1 rx
 cases (show u=Vs l from ru)
 obtain ⟨its,vs,pl,_⟩:=I.list sq
 obtain ⟨o,n,e,c,hd,hdat⟩:=pl
 obtain ⟨r,pr,kv⟩:=pv.at I vs
 refine om (knd:=cp X.prog X.w) (I.ok.hd hc) e c hdat hd (r:=r) (by simpa using pr) (by rw[← kv.length];exact hz) λh' tk dd kp=>?_
 have hl:(dP [] kvs).length<=sizeLine:=by have:=gK kvs [];simp at this;omega
 exact ⟨.ref s.heap.objs.size,_,I.laid (a:=s.heap.objs.size) (o:=.dK (dP [] kvs)) kp (U2 _) (zW hl (beq_eq_false_iff_ne.mpr (Vo (Vc I.big))) (KV.merge kv .nil) dd),rfl,q _ (I.hok.fresh (U2 _))⟩
def B9:FSp:=λds μ Q=>match ds with
 | [.ls xs]=>∃ kvs:List (Key×D),xs=kvs.map zd/\kvs.length<=1000000/\∀ p,μ p=none->Q (.obj p) (up μ p (.dct (jd [] kvs)))
 | _=>False
theorem Pb {K:UH}{H:Hp}{v:V}{k:Key}(h:Dp K H v (dK k)):v=kV k:=by
 cases k with
 | inl i=>cases h;rfl
 | inr s=>cases h;rfl
theorem fh.of {K:UH}{H:Hp}:∀ {kvs:List (Key×D)} {xs:List V},DpL K H xs (kvs.map zd)->∃ r,fh K H xs r/\DpK K H r kvs
 | [],_,h=>by cases h;exact ⟨[],.nil,.nil⟩
 | kv::kvs,_,h=>by
  obtain ⟨k,d⟩:=kv
  cases h with
  | cons p l=>
   obtain ⟨r,h1,h2⟩:=fh.of l
   cases p with
   | tup sq lp=>
    cases lp with | cons p1 lp=>cases lp with | cons p2 lp=>
    cases lp
    cases Pb p1
    exact ⟨(k,_)::r,.cons sq h1,.cons p2 h2⟩
theorem DpK.merge {K:UH}{H:Hp}{xs:List (Key×V)}{kvs:List (Key×D)}(h:DpK K H xs kvs):∀ {axs:List (Key×V)} {akvs:List (Key×D)},DpK K H axs akvs->DpK K H (dP axs xs) (jd akvs kvs):=
 DpK.ind (P:=λxs kvs=>∀ {axs:List (Key×V)} {akvs:List (Key×D)},DpK K H axs akvs->DpK K H (dP axs xs) (jd akvs kvs)) (λh=>h) (λk v d xs kvs p _ ih axs akvs ha=>ih (ha.put k p)) h
theorem Iv {K:UH}:ki K (λxs H Q=>∃ l ys kvs,xs=[.ref l]/\SqL K H l ys/\fh K H ys kvs/\kvs.length<=sizeLine/\∀ p,H p=none->Q (.ref p) (L2.upd H p (.dK (dP [] kvs)))) B9:=λH μ xs ds Q Q' m p h k=>by
 unfold B9 at h
 split at h
 ·obtain ⟨kvs,rfl,hl,h⟩:=h
  cases p with | cons p1 p2=>
  cases p2
  cases p1 with
  | ls q l=>
   obtain ⟨r,h1,h2⟩:=fh.of l
   exact ⟨_,_,r,rfl,q.sq,h1,by rw[h2.length];exact big hl,λz hz=>k _ _ _ _ (.new hz) (Cn m hz (h2.merge .nil)) (.obj z) (h z (m.free hz))⟩
 ·exact UO h
end
section
open PySem PySem.Spec PyProof.Rows L2
theorem BL (K:UH){t:String}(ht:t∈tys):∀ (cs:List String),(∀ c∈cs,c∈qA)->zcB K (.type t) (cs.map .type)=some (cs.any λc=>de t c)
 | [],_=>rfl
 | c::cs,h=>by
  have e:=ur K t ht c (h c U0)
  have ih:=BL K ht cs λx hx=>h x (U7 _ hx)
  rw[UT,Xu]
  unfold zcB
  rw[e]
  cases de t c with
  | true=>rfl
  | false=>rw[zaZ];exact ih
def FF (K:UH):List V->Hp->VK->Prop:=λxs H Q=>∃ x d t p,∃ cs:List String,xs=[x,.ref p]/\SqT K H p (cs.map V.ty)/\Dp K H x d/\tyD d=some t/\(∀ c∈cs,c∈qA)/\Q (.bl (cs.any λc=>de t c)) H
theorem B5:∀ {cs:List String} {us:List UK},Vals (cs.map V.ty) us->us=cs.map .type
 | [],_,h=>by cases h;rfl
 | c::cs,_,h=>by
  cases h with
  | cons r h=>rw[B5 h,UT];congr 1
theorem Dg {X:Cx}:b6 X (.builtin "isinstance") (FF X.K):=λpins s σ H xs us Q I rx ⟨x,d,t,p,cs,ex,sq,px,et,hc,q⟩=>by
 subst ex
 cases rx with | @cons _ u _ _ r1 r2=>cases r2 with | cons r2 r3=>
 cases r3
 cases (show _=Vs p from r2)
 obtain ⟨its,rv,⟨o,ho,hcl,n,hd⟩,_⟩:=I.tuple sq
 have ei:=B5 rv
 subst ei
 have htp:s.heap.get? p=some ⟨.type "tuple", o.dict,.seq (cs.map ZX).toArray n,o.slots⟩:=by
  rw[ho];obtain ⟨c,dd,dt,sl⟩:=o;simp only at hcl hd;subst hcl hd;rfl
 have e:=BL X.K (He et) cs hc
 have fin:∀ tk,EP X pins σ Q (.bool (cs.any λc=>de t c)) { s with toks:=tk }:=λtk=>⟨.bl _,H,I.tok tk,rfl,q⟩
 cases px with
 | non=>cases et;cases (show u=WM from r1);exact Xq zby I.kIn VP htp e (λz=>nomatch z) fin
 | bl y=>cases et;cases (show u=Y7 y from r1);exact Xq zbz I.kIn VP htp e (λz=>nomatch z) fin
 | int i=>cases et;obtain ⟨t,z⟩:=(show ∃ t,u=Yc i t from r1);cases z;exact Xq zbV I.kIn VP htp e (λz=>nomatch z) fin
 | str y=>cases et;obtain ⟨t,z⟩:=(show ∃ t,u=Y6 y t from r1);cases z;exact Xq zbW I.kIn VP htp e (λz=>nomatch z) fin
 | ty _=>cases et
 | obj _=>cases et
 | @tup a xs ds sq l=>
  cases et
  cases (show u=Vs a from r1)
  obtain ⟨its,_,⟨o,h1,h2,_⟩,_⟩:=I.tuple sq
  exact Xq zbg I.kIn ⟨o,h1,h2⟩ htp e (λz=>nomatch z) fin
 | @ls a xs ds sq l=>
  cases et
  cases (show u=Vs a from r1)
  obtain ⟨its,_,⟨o,n,h1,h2,_⟩,_⟩:=I.list sq.sq
  exact Xq Zm I.kIn ⟨o,h1,h2⟩ htp e (λz=>nomatch z) fin
def wZ (cs:List String):FSp:=λds μ Q=>match ds with
 | [x,.tup ts]=>(ts=cs.map .ty/\∀ c∈cs,c∈qA)/\(match tyD x with
  | some t=>Q (.bl (cs.any λc=>de t c)) μ
  | none=>False)
 | _=>False
theorem Im {K:UH}{H:Hp}:∀ {cs:List String} {xs:List V},DpL K H xs (cs.map .ty)->xs=cs.map V.ty
 | [],_,h=>by cases h;rfl
 | c::cs,_,h=>by
  cases h with
  | cons p l=>cases p;rw[Im l,UT]
theorem EL {K:UH}(cs:List String):ki K (FF K) (wZ cs):=λH μ xs ds Q Q' m p h k=>by
 unfold wZ at h
 split at h
 ·obtain ⟨⟨rfl,hc⟩,h⟩:=h
  cases p with | cons p1 p2=>cases p2 with | cons p2 p3=>
  cases p3
  cases p2 with
  | tup sq l=>
   cases Im l
   split at h
   ·rename_i t et
    exact ⟨_,_,t,_,cs,rfl,sq,p1,et,hc,k _ H _ μ (.refl H) m (.bl _) h⟩
   ·exact UO h
 ·exact UO h
section
variable {X:Cx} {o i a b c e value:Ve} {To Ti Ta Tb Te:ETr} {pos tpos apos cpos:Pos}
def QF (To Ti:ETr):ETr:=λρ μ Q=>To ρ μ λx μ1=>kObj x λa=>kL μ1 a λ_=>Ti ρ μ1 λy μ2=>kI y λj=>(-9223372036854775808<=j/\j < 9223372036854775808)/\kL μ2 a λds=>kN (L2.ixN ds.length j) λk=>kO ds[k]? λd=>Q d (up μ2 a (.lst (ds.eraseIdx k)))
theorem Fv {n k:Nat}{j:Int}(h:L2.ixN n j=some k):zaL j n=some k:=by
 unfold L2.ixN at h
 unfold zaL
 split at h
 ·split at h
  ·cases h
   rename_i h1 h2
   simp[show ¬ (j < 0) by omega,h1,h2]
  ·cases h
 ·split at h
  ·cases h
   rename_i h1 h2
   simp[show j < 0 by omega]
   omega
  ·cases h
theorem DpL.erase {K:UH}{H:Hp}:∀ {vs:List V} {ds:List D} (i:Nat),DpL K H vs ds->DpL K H (vs.eraseIdx i) (ds.eraseIdx i)
 | _,_,_,.nil=>by simp;exact .nil
 | _,_,0,.cons _ l=>l
 | _,_,i+1,.cons q l=>.cons q (DpL.erase i l)
theorem Pa (ho:LE X o To)(hi:LE X i Ti)
  (hbase:YI o "pop" X.env (V8 o X.env)=V8 o X.env:=by rfl)
  (hfew:((Wu cpos (UX [i] X.env)).all (λx=>!x.1)&&(ZG cpos (Ye [] X.env)).all (λx=>x.1.isSome)
   && decide (([i]:List Ve).length+([]:List Yq).length+(if ([]:List Yq).isEmpty then 0 else 1) < 30))=true:=by rfl)
  (hline:(apos.endLine == cpos.line)=true:=by rfl) (hs:UX [i] X.env=(false,V8 i X.env)::UX [] X.env:=by rfl) (hplain:(Wu cpos (UX [] X.env)).any (·.1)=false:=by rfl) :
  LE X (.Call (.Attribute o "pop" apos) [i] [] cpos) (QF To Ti):=by
 obtain ⟨to,po,so⟩:=ho.ex
 obtain ⟨ti,pi,si⟩:=hi.ex
 refine ⟨_,B0 Xh PySem.F.slot_list_pop PySem.F.type_list_pop Fm po (eC pi iI hs) hbase hfew hline hs hplain,λσ H ρ μ Q Q' rl h k=>so σ H ρ μ _ _ rl h λx H1 dx μ1 t1 m1 p1 h1=>?_⟩
 obtain ⟨q,rfl,h1⟩:=hU p1 h1
 obtain ⟨ds0,e0,h1⟩:=bA h1
 obtain ⟨xs0,ex0,_⟩:=m1 q _ e0
 refine ⟨.inl ⟨rfl,_,SqL.of ex0⟩,si σ H1 ρ μ1 _ _ (rl.go t1 m1) h1 λy H2 dy μ2 t2 m2 p2 h2=>?_⟩
 cases p2 with
 | int j=>
  obtain ⟨hr,h2⟩:=h2
  obtain ⟨ds,e2,h3⟩:=bA (show kL μ2 q _ from h2)
  obtain ⟨kk,e3,h3⟩:=IU h3
  obtain ⟨d,e4,h3⟩:=kq h3
  obtain ⟨xs,ex,l⟩:=m2 q _ e2
  obtain ⟨v,ev,pv⟩:=l.get e4
  have e3':L2.ixN xs.length j=some kk:=by rw[l.length];exact e3
  exact ⟨q,xs,j,kk,v,rfl,rfl,ex,by omega,by omega,Fv e3',ev,k _ _ _ _ ((t1.trans t2).trans (iE ex)) (BR m2 ex (l.erase kk)) (pv.mono (iE ex)) h3⟩
 | _=>exact UO h2
end
noncomputable def qV (h:Heap) (dx:PyData) (y:UK):Bool:=@decide (∃ d as,Reads h y d as/\zct d=true/\W9 d dx=true) (Yk _)
theorem Mc {h:Heap}{dx d:PyData}{y:UK}{as:List Addr}(r:Reads h y d as)(hd:d.canLay0=true):qV h dx y=W9 d dx:=by
 unfold qV
 cases e:W9 d dx with
 | true=>exact @decide_eq_true _ (Yk _) ⟨d,as,r,hd,e⟩
 | false=>
  refine @decide_eq_false _ (Yk _) ?_
  rintro ⟨d',as',r',hd',e'⟩
  cases SeqAt.Reads.unique _ _ _ _ _ hd r r'
  rw[e] at e';cases e'
theorem BI {n:Nat}:∀ {ds:List D} {d:D},cY n ds=true->d∈ds->okD n d=true
 | x::r,d,h,hm=>by
  have h':okD n x=true/\cY n r=true:=by simpa[cY] using h
  rcases UZ.mp hm with rfl | hm
  ·exact h'.1
  ·exact BI h'.2 hm
section
variable {X:Cx} {pins:List (Addr×Obj)} {σ:L2.St} {H:Hp} {s:UN}
theorem item_at (I:Inv X pins σ H s){vs:List V}{ds:List D}{us:List UK}(l:DpL X.K H vs ds)(r:Vals vs us)(ok:cY 38 ds=true){dy:D}{y:UK}{bs:List Addr}(oy:okD 38 dy=true)(ry:Reads s.heap y (toP dy) bs)(hu:X.A.units+64 < cLine)
  {m:Nat} {u:UK} (hm:us[m]? = some u):∃ d,ds[m]? = some d/\qV s.heap (toP dy) u=eqD d dy/\zcC X.A.in1 s u y (qV s.heap (toP dy) u):=by
 have hlt:m < vs.length:=by rw[r.length];exact (Vh.mp hm).1
 obtain ⟨u',e1,rv⟩:=r.get (UY hlt)
 rw[hm] at e1;cases e1
 obtain ⟨d,ed,pd⟩:=l.get' (UY hlt)
 have od:=BI ok (XD ed)
 obtain ⟨as,ra⟩:=fc I pd od rv
 obtain ⟨l1,d1⟩:=iV 38 d od
 obtain ⟨l2,d2⟩:=iV 38 dy oy
 have e:=Mc (dx:=toP dy) ra l1
 refine ⟨d,ed,by rw[e,oF 38 38 d dy od oy],?_⟩
 rw[e]
 exact SeqAt.eqAt_reads _ _ _ s _ _ _ _ ra ry l1 l2 (by have:=zae (toP d).depth (toP dy).depth;rw[Around.in1_units];omega)
end
def DI (ds:List D)(x:D):Option Nat:=ds.findIdx? λy=>eqD y x
theorem EV {X:Cx}(hu:X.A.units+64 < cLine):MtM X "list.index" (λx vs H Q=>∃ p xs y ds dy,∃ j:Nat,x=.ref p/\vs=[y]/\SqL X.K H p xs/\DpL X.K H xs ds/\Dp X.K H y dy/\cY 38 ds=true/\okD 38 dy=true/\DI ds dy=some j/\j < 1000000/\Q (.int j) H):=by
 intro pins s σ H x vs v us Q I rx rv h
 obtain ⟨p,xs,y,ds,dy,j,rfl,rfl,sq,l,py,ok,oy,hj,hj2,q⟩:=h
 cases (show v=Vs p from rx)
 obtain ⟨u,rfl,ru⟩:=rv.one
 obtain ⟨its,r,⟨o,n,e,c,hd,hdat⟩,_⟩:=I.list sq
 obtain ⟨bs,rb⟩:=fc I py oy ru
 have he:s.heap.get? p=some ⟨.type "list", none,.seq its.toArray n,o.slots⟩:=by
  rw[e];obtain ⟨c',dd,dt,sl⟩:=o;simp only at c hd hdat;subst c hd hdat;rfl
 unfold DI at hj
 rw[Yl] at hj
 obtain ⟨h1,h2,h3⟩:=hj
 have hl:ds.length=its.length:=by rw[← l.length,r.length]
 have at':∀ m (hm:m < its.toArray.size),∃ d,ds[m]? = some d/\qV s.heap (toP dy) its.toArray[m]=eqD d dy/\zcC X.A.in1 s its.toArray[m] u (qV s.heap (toP dy) its.toArray[m]):=λm hm=>
  item_at I l r ok oy rb hu (by simp at hm ⊢)
 refine Ze F.slot_list_index ⟨_,he,rfl⟩ F.entry_list_index (F.args_list_index_2 _ _) (SeqAt.list_indexAt p its.toArray n none o.slots u (qV s.heap (toP dy)) j (by simp;omega) (by omega) ?_ ?_) ⟨he,λw hw=>?_,?_⟩
 ·obtain ⟨d,e1,e2,_⟩:=at' j (by simp;omega)
  rw[e2]
  rw[UY h1] at e1;cases e1
  exact h2
 ·intro m hm hlt
  obtain ⟨d,e1,e2,_⟩:=at' m hm
  rw[e2]
  have hm':m < ds.length:=by simp at hm;omega
  rw[UY hm'] at e1;cases e1
  have:=h3 m hlt
  simpa using this
 ·obtain ⟨m,hm,rfl⟩:=zan.mp hw
  obtain ⟨d,_,_,e3⟩:=at' m hm
  exact e3
 ·exact ⟨.int j,H,I.tok _,⟨_,rfl⟩,q⟩
section
variable {X:Cx} {o i a b c e value:Ve} {To Ti Ta Tb Te:ETr} {pos tpos apos cpos:Pos}
def DQ (μ:Mu)(x:D)(f:List D->Prop):Prop:=match x with
 | .ls ds=>f ds
 | .obj a=>kL μ a f
 | _=>False
theorem vQ {K:UH}{H:Hp}{μ:Mu}{x:V}{dx:D}{f:List D->Prop}(m:bB K H μ)(p:Dp K H x dx)(h:DQ μ dx f):∃ q xs ds,x=.ref q/\SqL K H q xs/\DpL K H xs ds/\f ds:=by
 cases p with
 | ls sq l=>exact ⟨_,_,_,rfl,sq.sq,l,h⟩
 | obj q=>
  obtain ⟨ds,e0,h⟩:=bA h
  obtain ⟨xs,ex,l⟩:=m q _ e0
  exact ⟨q,xs,ds,rfl,SqL.of ex,l,h⟩
 | _=>exact UO h
def Ag (To Ti:ETr):ETr:=λρ μ Q=>To ρ μ λx μ1=>DQ μ1 x λ_=>Ti ρ μ1 λy μ2=>DQ μ2 x λds=>(cY 38 ds=true/\okD 38 y=true)/\kN (DI ds y) λj=>j < 1000000/\Q (.int j) μ2
theorem FY (hu:X.A.units+64 < cLine)(ho:LE X o To)(hi:LE X i Ti)
  (hbase:YI o "index" X.env (V8 o X.env)=V8 o X.env:=by rfl)
  (hfew:((Wu cpos (UX [i] X.env)).all (λx=>!x.1)&&(ZG cpos (Ye [] X.env)).all (λx=>x.1.isSome)
   && decide (([i]:List Ve).length+([]:List Yq).length+(if ([]:List Yq).isEmpty then 0 else 1) < 30))=true:=by rfl)
  (hline:(apos.endLine == cpos.line)=true:=by rfl) (hs:UX [i] X.env=(false,V8 i X.env)::UX [] X.env:=by rfl) (hplain:(Wu cpos (UX [] X.env)).any (·.1)=false:=by rfl) :
  LE X (.Call (.Attribute o "index" apos) [i] [] cpos) (Ag To Ti):=by
 obtain ⟨to,po,so⟩:=ho.ex
 obtain ⟨ti,pi,si⟩:=hi.ex
 refine ⟨_,B0 Xh PySem.F.slot_list_index PySem.F.type_list_index (EV hu) po (eC pi iI hs) hbase hfew hline hs hplain,λσ H ρ μ Q Q' rl h k=>so σ H ρ μ _ _ rl h λx H1 dx μ1 t1 m1 p1 h1=>?_⟩
 obtain ⟨q,xs0,ds0,rfl,sq0,l0,h1⟩:=vQ m1 p1 h1
 refine ⟨.inl ⟨rfl,_,sq0⟩,si σ H1 ρ μ1 _ _ (rl.go t1 m1) h1 λy H2 dy μ2 t2 m2 p2 h2=>?_⟩
 obtain ⟨q',xs,ds,eq,sq,l,h2⟩:=vQ m2 (p1.mono t2) h2
 cases eq
 obtain ⟨⟨o1,o2⟩,h2⟩:=h2
 obtain ⟨j,ej,hj,h2⟩:=IU h2
 exact ⟨q,xs,y,ds,dy,j,rfl,rfl,sq,l,p2,o1,o2,ej,hj,k _ H2 _ μ2 (t1.trans t2) m2 (.int _) h2⟩
def inG (x:D)(ds:List D):Bool:=ds.any λy=>eqD y x
def Nu (K:UH)(neg:Bool):L2.R2:=λx y H Q=>∃ p xs ds dx,y=.ref p/\(SqL K H p xs∨SqT K H p xs)/\DpL K H xs ds/\Dp K H x dx/\cY 38 ds=true/\okD 38 dx=true/\Q (.bl (if neg then !inG dx ds else inG dx ds)) H
theorem IY {pins:List (Addr×Obj)}{σ:L2.St}{H:Hp}{s:UN}(I:Inv X pins σ H s)(hu:X.A.units+64 < cLine){vs:List V}{ds:List D}{us:List UK}(l:DpL X.K H vs ds)(r:Vals vs us)(ok:cY 38 ds=true){dy:D}{y:UK}{bs:List Addr}(oy:okD 38 dy=true)(ry:Reads s.heap y (toP dy) bs) :
  (∀ w,w∈us.toArray->zcC X.A.in1 s w y (qV s.heap (toP dy) w))/\us.toArray.any (qV s.heap (toP dy))=inG dy ds:=by
 have hl:ds.length=us.length:=by rw[← l.length,r.length]
 constructor
 ·intro w hw
  obtain ⟨m,hm,rfl⟩:=zan.mp hw
  obtain ⟨d,_,_,e3⟩:=item_at I l r ok oy ry hu (m:=m) (u:=us.toArray[m]) (by simp at hm ⊢)
  exact e3
 ·unfold inG
  rw[show us.toArray.any (qV s.heap (toP dy))=us.any (qV s.heap (toP dy)) by simp]
  rw[Bool.eq_iff_iff,ZQ,ZQ]
  constructor
  ·rintro ⟨w,hw,e⟩
   obtain ⟨m,hm,rfl⟩:=zaz.mp hw
   obtain ⟨d,e1,e2,_⟩:=item_at I l r ok oy ry hu (m:=m) (u:=us[m]) (by simp)
   exact ⟨d,XD e1,by rw[← e2];exact e⟩
  ·rintro ⟨d,hd,e⟩
   obtain ⟨m,hm,rfl⟩:=zaz.mp hd
   obtain ⟨d',e1,e2,_⟩:=item_at I l r ok oy ry hu (m:=m) (u:=us[m]'(by omega)) (by simp)
   rw[UY hm] at e1;cases e1
   exact ⟨us[m]'(by omega),WH _,by rw[e2];exact e⟩
theorem Pg (hu:X.A.units+64 < cLine):OpR X (Xf .In) (Nu X.K false):=by
 intro pins s σ H x y v u Q I rx ry h
 obtain ⟨p,xs,ds,dx,rfl,hq,l,px,o1,o2,q⟩:=h
 cases (show u=Vs p from ry)
 obtain ⟨bs,rb⟩:=fc I px o2 rx
 rcases hq with hq | hq
 ·obtain ⟨its,r,pl,hz⟩:=I.list hq
  obtain ⟨h1,h2⟩:=IY I hu l r o1 o2 rb
  exact SeqAt.in_listAt _ pl.isList h1 ⟨.bl _,H,I,rfl,by rw[h2];exact q⟩
 ·obtain ⟨its,r,pl,hz⟩:=I.tuple hq
  obtain ⟨h1,h2⟩:=IY I hu l r o1 o2 rb
  exact SeqAt.in_tupleAt _ pl h1 ⟨.bl _,H,I,rfl,by rw[h2];exact q⟩
def Dm (μ:Mu)(x:D)(f:List D->Prop):Prop:=match x with
 | .tup ds=>f ds
 | .ls ds=>f ds
 | .obj a=>kL μ a f
 | _=>False
def JQ (neg:Bool):DR2:=λx y μ Q=>Dm μ y λds=>(cY 38 ds=true/\okD 38 x=true)/\Q (.bl (if neg then !inG x ds else inG x ds)) μ
theorem Lb {K:UH}(neg:Bool):gT K (Nu K neg) (JQ neg):=λH μ x y dx dy Q Q' m px py h k=>by
 cases py with
 | tup sq l=>exact ⟨_,_,_,dx,rfl,.inr sq,l,px,h.1.1,h.1.2,k _ H _ μ (.refl H) m (.bl _) h.2⟩
 | ls sq l=>exact ⟨_,_,_,dx,rfl,.inl sq.sq,l,px,h.1.1,h.1.2,k _ H _ μ (.refl H) m (.bl _) h.2⟩
 | obj q=>
  obtain ⟨ds,e0,h⟩:=bA (show kL μ q _ from h)
  obtain ⟨xs,ex,l⟩:=m q _ e0
  exact ⟨_,_,_,dx,rfl,.inl (SqL.of ex),l,px,h.1.1,h.1.2,k _ H _ μ (.refl H) m (.bl _) h.2⟩
 | _=>exact UO h
theorem Of (hu:X.A.units+64 < cLine)(ha:LE X a Ta)(hb:LE X b Tb)(hm:Xs .In b=false:=by rfl):LT X (.Compare a [.In] [b] pos) (TB (aj (JQ false) Ta Tb)):=gy (Pg hu) (Lb false) ha hb hm
end
end
section
open PySem PySem.Spec PyProof.Rows L2
def Qw (K:UH)(n:Nat)(t:TGs)(is:List Nat):Prop:=∀ σ H ρ μ vs ds (k:ST->Mu->Prop) (k':L2.St->Hp->Prop),Rl K σ H ρ μ->DpL K H vs ds->ds.length=is.length->k (kr ρ is ds) μ->Nh K n σ H k k'->t vs σ H k'
structure Kr (X:Cx) (n:Nat) (es:List Ve) (is:List Nat):Prop where
 ex:∃ t,PGs X es t/\Qw X.K n t is
section
variable {X:Cx} {e tg:Ve} {es:List Ve} {is:List Nat} {pos:Pos} {x:Str} {n:Nat}
theorem fe:Kr X n [] []:=⟨_,Bz,λσ H ρ μ vs ds k k' rl l hl h q=>by
 cases ds with
 | nil=>cases l;exact ⟨rfl,q _ _ _ _ (.refl H) rl ⟨rfl,λ_ _=>rfl⟩ h⟩
 | cons=>cases hl⟩
theorem bw (i:Nat)(hN:X.N.Nodup)(h2:Kr X n es is)(hin:i < n:=by decide)(hi:X.N[i]? = some x:=by rfl)(hx:Loc X.env.scope x:=by first | exact Yt rfl | exact Yu rfl)(hf:X.fn x=true∨X.env.scope.names.lookup x=some .local:=by first | exact .inr rfl | exact .inl rfl | assumption)
  (hs:(Wv (.Name x pos::es) X.env).map (·.2)=zar (.Name x pos) X.env::(Wv es X.env).map (·.2):=by rfl):Kr X n (.Name x pos::es) (i::is):=by
 obtain ⟨t,pt,st⟩:=h2.ex
 refine ⟨_,xG (ir hN hi hx hf) pt hs,λσ H ρ μ vs ds k k' rl l hl h q=>?_⟩
 cases l with
 | nil=>cases hl
 | @cons v d vs ds p l=>
  refine ⟨v,vs,rfl,st _ H _ μ vs ds k k' (rl.set p i) l (by simpa using hl) h λσ' H' ρ' μ' t' r' hk kk=>q σ' H' ρ' μ' t' r' ⟨?_,λj hj=>?_⟩ kk⟩
  ·rw[hk.1];simp
  ·rw[hk.2 j hj,W5 (by omega)]
theorem gq {k:Nat}(hc:X.calm=true)(h:Kr X n es is)(hn:(Wv es X.env).length=is.length:=by rfl)(hst:(Wv es X.env).findIdx? (·.1)=none:=by rfl):LGc X n (.Tuple es k pos) (dY is):=by
 obtain ⟨t,pt,st⟩:=h.ex
 refine ⟨λpins s σ H v u k' I r ⟨ρ,μ,d,k,rl,p,h,post⟩=>Fo hc pt hn hst pins s σ H v u k' I r ?_⟩
 cases p with
 | @tup a xs ds sq l=>exact ⟨a,xs,rfl,sq,by rw[l.length];exact h.1,st σ H ρ μ xs ds k k' rl l h.1 h.2 post⟩
 | _=>exact UO h
end
section
variable {X:Cx} {o i a b c e value:Ve} {To Ti Ta Tb Te:ETr} {pos tpos apos cpos:Pos}
theorem C6 (l:Addr)(its:Array UK)(n:Nat)(q:Addr)(its2:Array UK)(n2:Nat)(sl:Array (Option UK))(h0:¬ (!its.isEmpty&&Wl (its.size+its2.size))=true)(h1:its.size<=sizeLine)(h2:its.size+its2.size<=sizeLine+1) :
  Meets (YJ.«list.extend» ⟨[.ref l,.ref q],[]⟩) (λ_ R s=>s.heap.get? l=some { cls:=.type "list", dict:=none,data:=.seq its n,slots:=#[] }/\s.heap.get? q=some { cls:=.type "list", dict:=none,data:=.seq its2 n2,slots:=sl }/\
   R (.ok (.ret WM)) { s with heap:=s.heap.update l (Z3 λx=>x++its2) }):=
 .of_wp λprog w A R s h=>by
  obtain ⟨hp,g,d,tk,os⟩:=s
  obtain ⟨hl,hb,h⟩:=h
  have z1:=Z9
  have z2:=YG
  have z3:=Y0
  have z4:=YO
  have z5:=YQ
  have hz':(its++its2).size<=sizeLine+1:=by rw[zbI];omega
  wp_walk using (X4 hl rfl (hz:=h1) (_hz':=hz')),Y1 hl,Y1 hb
  exact ⟨_,rfl,h⟩
def RO (K:UH):V->List V->Hp->VK->Prop:=λx vs H Q=>∃ l b xs zs,x=.ref l/\vs=[.ref b]/\H l=some (.lst xs)/\SqL K H b zs/\xs.length+zs.length<=sizeLine/\Q .non (L2.upd H l (.lst (xs++zs)))
theorem PU:MtM X "list.extend" (RO X.K):=by
 intro pins s σ H x vs v us Q I rx rv h
 obtain ⟨l,q,xs,zs,rfl,rfl,hH,hB,hz,qq⟩:=h
 cases (show v=Vs l from rx)
 obtain ⟨u,rfl,ru⟩:=rv.one
 cases (show u=Vs q from ru)
 obtain ⟨z,its,n,r,hl,e⟩:=I.GW hH
 obtain ⟨its2,r2,⟨o,n2,e2,c2,d2,dat2⟩,_⟩:=I.list hB
 have e2':s.heap.get? q=some ⟨.type "list", none,.seq its2.toArray n2,o.slots⟩:=by
  rw[e2];obtain ⟨c',dd,dt,sl⟩:=o;simp only at c2 d2 dat2;subst c2 d2 dat2;rfl
 have hl2:=r2.length
 have hs2:its.toArray.size+its2.toArray.size<=sizeLine:=by rw[U4,U4];omega
 have HL:¬ (!its.toArray.isEmpty&&Wl (its.toArray.size+its2.toArray.size))=true:=by
  rw[wc hs2,zaA];decide
 refine Ze zbm ⟨_,e,rfl⟩ zaT (zaB _ _) (C6 l its.toArray n q its2.toArray n2 o.slots HL (by omega) (by omega)) ⟨e,e2',?_⟩
 refine ⟨.non,_,I.Lw (its':=its++its2) hH e (by simp) (r.append r2) ?_,rfl,qq⟩
 rw[US];omega
end
section
variable {P:Vn} {w:VB} {K:UH} {mg:Str->Option UK} {base:Heap}
theorem RK {k:Nat}{f:Addr}{fd:U8}{ps:List Str}{x qual:Str}{st:Stmt}{N:List Str}(F:Fun K x qual st f fd)(S:aH N ps (av st)):jb P w K mg base CX0 (k+1) f fd ps (lift K λ_ _ _=>False):=by
 refine F.ok S (λvs H Q E h=>?_) (λcdv A outer s H vs Q E hroom h=>?_)
 ·obtain ⟨ds,μ,QQ,l,m,h1,k⟩:=h;exact h1.elim
 ·obtain ⟨ds,μ,QQ,l,m,h1,k⟩:=h;exact h1.elim
end
end
section
open PySem PySem.Spec PyProof.Rows L2
section
variable {X:Cx} {tg a ea eb:Ve} {Ta:ETr} {es:List Ve} {ek:Nat} {ep p pos:Pos}
def Tp (K:UH)(tl:TE):TI:=λσ H R=>tl σ H λx H1=>∃ q,x=.ref q/\(((∃ xs,SqL K H1 q xs)/\R (Itl K q) H1)∨((∃ xs,SqT K H1 q xs)/\R (Itt K q) H1))
theorem NW {tl:TE}(hl:PE X a tl):PI X tg a (Tp X.K tl):=by
 intro pins s σ H R I h
 refine thn (hl pins s σ H _ I h) λv s1 ⟨x,H1,I1,r1,q,ex,qq⟩=>?_
 subst ex
 cases (show v=Vs q from r1)
 have fp:∀ b∈[s1.heap.objs.size],_:=λb hb=>by
  have e:b=s1.heap.objs.size:=by simpa using hb
  subst e
  exact I1.Eb (U2 _) (I1.hok.fresh (U2 _))
 rcases qq with ⟨⟨xs,sq⟩,qq⟩ | ⟨⟨xs,sq⟩,qq⟩
 ·obtain ⟨its,rv,pl,hz⟩:=I1.list sq
  exact Xx pl.isList ⟨s1.heap.objs.size,[s1.heap.objs.size],_,_,H1,rfl,I1.kept (t':=s1.toks) (λb o e=>UJ _ e),tV q _,⟨_,U3 _ rfl,rfl,rfl⟩,fp,qq⟩
 ·obtain ⟨its,rv,pl,hz⟩:=I1.tuple sq
  exact zbi (show s1.heap.IsTuple q its.toArray from pl) ⟨s1.heap.objs.size,[s1.heap.objs.size],_,_,H1,rfl,I1.kept (t':=s1.toks) (λb o e=>UJ _ e),zr q _,⟨_,U3 _ rfl,rfl,rfl⟩,fp,qq⟩
theorem bI (ha:LE X a Ta):LI X tg a (dW Ta):=by
 obtain ⟨ta,pa,sa⟩:=ha.ex
 refine ⟨_,NW pa,λσ H ρ μ Q R rl h k=>sa σ H ρ μ _ _ rl h λx H1 d μ1 t1 m1 p1 h1=>?_⟩
 cases p1 with
 | @tup p xs ds q l=>exact ⟨p,rfl,.inr ⟨⟨xs,q⟩,k _ H1 ds μ1 t1 m1 (IS q l) h1⟩⟩
 | @ls p xs ds q l=>exact ⟨p,rfl,.inl ⟨⟨xs,q.sq⟩,k _ H1 ds μ1 t1 m1 (MC q l) h1⟩⟩
 | _=>exact UO h1
def Nn (K:UH)(t:TA):TI:=λσ H R=>t σ H λvs H1=>∃ (ta tb:Bool) (a b:Addr),vs=[.ref a,.ref b]/\(∃ xs,Sq ta K H1 a xs)/\(∃ ys,Sq tb K H1 b ys)/\R (Itz ta tb K a b) H1
theorem Co {t:TA}(hg:Gl X "zip")(hm:X.mg "zip" = none)(ha:PA X [ea,eb] t)(hs:UX [ea,eb] X.env=[(false,V8 ea X.env),(false,V8 eb X.env)]:=by rfl)(hs2:UX [eb] X.env=[(false,V8 eb X.env)]:=by rfl) :
  PI X (.Tuple es ek ep) (.Call (.Name "zip" p) [ea,eb] [] pos) (Nn X.K t):=by
 intro pins s σ H R I h
 refine Call_ (iq I hg hm boot_zip (V7 (thn (ha pos pins s σ H _ I h) λus s1 ⟨vs,H1,I1,r1,ta,tb,a,b,e,⟨xs,qa⟩,⟨ys,qb⟩,q⟩=>?_) (by rw[hs,hs2]) (by rw[hs2];rfl)))
 subst e
 cases r1 with | cons r rr=>cases rr with | cons r' rr=>
 cases rr
 cases (show _=Vs a from r)
 cases (show _=Vs b from r')
 obtain ⟨ia,ra,sa⟩:=Inv.sq I1 qa
 obtain ⟨ib,rb,sb⟩:=Inv.sq I1 qb
 have alt:a < s1.heap.objs.size:=by cases ta<;>(obtain ⟨o,e,_⟩:=sa;exact U1 e)
 have blt:b < s1.heap.objs.size:=by cases tb<;>(obtain ⟨o,e,_⟩:=sb;exact U1 e)
 refine Dy sa sb λg S kp=>zbZ S.zz ⟨s1.heap.objs.size+4,[s1.heap.objs.size+4,s1.heap.objs.size+2,s1.heap.objs.size+3,s1.heap.objs.size,s1.heap.objs.size+1],_,_,H1,rfl,I1.kept (t':=s1.toks) kp,GX (Sr _ _ _ alt blt),S,λc hc=>?_,q⟩
 exact I1.Eb (Nq _ _ hc) (I1.hok.fresh (Nq _ _ hc))
def nj (t:ATr):ATr:=λρ μ Q=>t ρ μ λvs μ1=>k2 vs λx y=>kS x λds=>kS y λes=>Q (VH (λd e=>.tup [d,e]) ds es) μ1
theorem yN {K:UH}{H:Hp}{v:V}{x:D}{f:List D->Prop}(p:Dp K H v x)(h:kS x f):∃ (tp:Bool) (a:Addr) (xs:List V) (ds:List D),v=.ref a/\SqX tp K H a xs/\DpL K H xs ds/\kQ tp x f:=by
 cases p with
 | @tup a xs ds q l=>exact ⟨true,a,xs,ds,rfl,q,l,h⟩
 | @ls a xs ds q l=>exact ⟨false,a,xs,ds,rfl,q,l,h⟩
 | _=>exact UO h
theorem jX {At:ATr}(hg:Gl X "zip")(hm:X.mg "zip" = none)(ha:LA X [ea,eb] At)
  (hs:UX [ea,eb] X.env=[(false,V8 ea X.env),(false,V8 eb X.env)]:=by rfl) (hs2:UX [eb] X.env=[(false,V8 eb X.env)]:=by rfl) :
  LI X (.Tuple es ek ep) (.Call (.Name "zip" p) [ea,eb] [] pos) (nj At):=by
 obtain ⟨t,pt,st⟩:=ha.ex
 refine ⟨_,Co hg hm pt hs hs2,λσ H ρ μ Q R rl h k=>st σ H ρ μ _ _ rl h λvs H1 ds μ1 t1 m1 p1 h1=>?_⟩
 unfold L3.k2 at h1
 split at h1
 case h_2=>exact UO h1
 cases p1 with | cons pa p2=>cases p2 with | cons pb p3=>
 cases p3
 obtain ⟨ta,a,xs,dx,rfl,qa,la,h2⟩:=yN pa h1
 obtain ⟨a',xs',dx',ea',qa',la',h2⟩:=zx pa h2
 cases ea'
 obtain ⟨tb,b,ys,dy,rfl,qb,lb,h3⟩:=yN pb h2
 obtain ⟨b',ys',dy',eb',qb',lb',h3⟩:=zx pb h3
 cases eb'
 refine ⟨ta,tb,a,b,rfl,⟨xs',qa'.sq⟩,⟨ys',qb'.sq⟩,k _ H1 _ μ1 t1 m1 ⟨λi H' tk hi=>?_,λi H' v H'' tk hi yv=>?_,λi H' tk hi=>?_⟩ h3⟩
 ·have l1:=la'.length
  have l2:=lb'.length
  rw[V4] at hi
  exact ⟨xs',ys',xs'[i],ys'[i],tk.sq qa',tk.sq qb',by simp[show i < xs'.length by omega],by simp[show i < ys'.length by omega]⟩
 ·obtain ⟨x,y,q,fx,fy,rfl,fr,rfl⟩:=yv
  obtain ⟨d,ed,pd⟩:=la'.get' (fx _ (tk.sq qa'))
  obtain ⟨e,ee,pe⟩:=lb'.get' (fy _ (tk.sq qb'))
  have tn:Tk H' (L2.upd H' q (.tup [x,y])):=.new fr
  exact ⟨tn,⟨.tup [d,e],by simp[YB,ed,ee],.tup (SqT.of aK) (.cons ((pd.mono tk).mono tn) (.cons ((pe.mono tk).mono tn) .nil))⟩,λμ' m'=>cJ m' fr⟩
 ·have l1:=la'.length
  have l2:=lb'.length
  rw[V4] at hi
  exact ⟨xs',ys',tk.sq qa',tk.sq qb',by omega⟩
variable {i o:Ve} {Ti To:ETr}
end
end
section
open PySem PySem.Spec PyProof.Rows L2
def ltS (x y:Str):Bool:=decide (x.cps.toList < y.cps.toList)
theorem lg:∀ {us:List UK} {ss:List Str},StrsAre us ss->Vals (ss.map V.str) us
 | _,_,.nil=>.nil
 | _,_,.cons n t h=>.cons ⟨t,rfl⟩ (lg h)
theorem CN:∀ {us:List UK} {ss:List Str},Vals (ss.map V.str) us->StrsAre us ss
 | _,[],h=>by cases h;exact .nil
 | _,s::r,h=>by
  cases h with
  | cons q h=>obtain ⟨t,rfl⟩:=(show ∃ t,_=Y6 s t from q);exact .cons s t (CN h)
def O2 (K:UH):List V->Hp->VK->Prop:=λxs H Q=>∃ (p:Addr) (ss:List Str),xs=[.ref p]/\SqL K H p (ss.map V.str)/\ss.length < 64/\∀ ss':List Str,ss'.Perm ss->ss'.Pairwise (λa b=>ltS b a=false)->∀ z,H z=none->Q (.ref z) (L2.upd H z (.lst (ss'.map V.str)))
theorem DD:∀ (p:Str) (l:List Str),risingS p l=true->(p::l).Pairwise (λa b=>ltS b a=false):=by
 have tr:∀ a b c:Str,ltS b a=false->ltS c b=false->ltS c a=false:=by
  intro a b c h1 h2
  unfold ltS at *
  rw[decide_eq_false_iff_not,zcb] at *
  exact List.le_trans h1 h2
 intro p l
 induction l generalizing p with
 | nil=>intro _;exact List.pairwise_singleton _ _
 | cons x r ih=>
  intro h
  have h':ltCps x.cps.toList p.cps.toList=false/\risingS x r=true:=by
   have:(!ltCps x.cps.toList p.cps.toList&&risingS x r)=true:=h
   simpa using this
  have hx:=ih x h'.2
  have hpx:ltS x p=false:=by unfold ltS;rw[← ltCps_eq];exact h'.1
  refine Yb.mpr ⟨λy hy=>?_,hx⟩
  rcases UZ.mp hy with rfl | hy
  ·exact hpx
  ·exact tr p x y hpx ((Yb.mp hx).1 y hy)
theorem D7:∀ (l:List Str),sortedS l=true->l.Pairwise (λa b=>ltS b a=false)
 | [],_=>.nil
 | p::l,h=>DD p l h
theorem AG {X:Cx}:b6 X (.builtin "sorted") (O2 X.K):=λpins s σ H xs us Q I rx ⟨p,ss,e1,sq,hl,q⟩=>by
 subst e1
 obtain ⟨u,rfl,ru⟩:=vals1 rx
 cases (show u=Vs p from ru)
 obtain ⟨its,rv,pl,hz⟩:=I.list sq
 have hi:StrsAre its ss:=CN rv
 have hlen:its.length < 64:=by have:=rv.length;simp at this;omega
 refine sorted_strs pl.isList hi hlen λout ss' a1 a2 a3=>?_
 obtain ⟨n,en⟩:=sortedAll_at s.heap its out
 refine ⟨.ref _,_,I.laid (t':=s.toks) (o:=.lst (ss'.map V.str)) (λb o e=>sortedAll_old e) (YL _) ?_,rfl,q ss' a2 (D7 _ a3) _ (I.hok.fresh (YL _))⟩
 have z1:ss'.length=ss.length:=a2.length_eq
 exact ⟨by rw[UL,z1];exact Yn (U6 hl (by decide)),out.toList,n,lg a1,by simpa[YZ] using en⟩
def Az:FSp:=λds μ Q=>match ds with
 | [.ls xs]=>∃ ss:List Str,(xs=ss.map .str/\ss.length < 64)/\∀ ss':List Str,ss'.Perm ss->ss'.Pairwise (λa b=>ltS b a=false)->Q (.ls (ss'.map .str)) μ
 | _=>False
theorem DpL.strs {K:UH}{H:Hp}:∀ ss:List Str,DpL K H (ss.map V.str) (ss.map D.str)
 | []=>.nil
 | s::r=>.cons (.str s) (DpL.strs r)
theorem DpL.lg {K:UH}{H:Hp}:∀ {xs:List V} {ss:List Str},DpL K H xs (ss.map .str)->xs=ss.map V.str
 | _,[],.nil=>rfl
 | _,s::r,.cons h l=>by cases h;rw[DpL.lg l];rfl
section
variable {X:Cx} {e a b:Ve} {x:Str} {p pos:Pos} {At:ATr} {Ta Tb:ETr}
theorem EC (hg:Gl X x)(hm:X.mg x=none)(hv:Wc x=some (.builtin "sorted"))(ha:LA X [e] At)(hn:x ≠ "__name__" := by decide)(hdb:(x == ("__debug__" : Str))=false:=by decide)
  (h1:UX [e] X.env=(false,V8 e X.env)::UX [] X.env:=by rfl) (h2:(Wu pos (UX [] X.env)).any (·.1)=false:=by rfl):LE X (.Call (.Name x p) [e] [] pos) (aq Az At):=by
 obtain ⟨ta,pa,sa⟩:=ha.ex
 refine ⟨_,iB (lM AG hg hm hv pa hn hdb h1 h2),λσ H ρ μ Q Q' rl h k=>sa σ H ρ μ _ _ rl h λxs H1 ds μ1 t1 m1 p1 h1=>?_⟩
 unfold Az at h1
 split at h1
 ·obtain ⟨ss,⟨rfl,hl⟩,h2⟩:=h1
  cases p1 with | cons p1 p2=>
  cases p2
  cases p1 with
  | @ls a ys _ q l=>
   cases DpL.lg l
   refine ⟨a,ss,rfl,q.sq,hl,λss' a2 a3 z hz=>⟨z,_,rfl,aK,λo=>?_⟩⟩
   have e:L2.upd (L2.upd H1 z (.lst (ss'.map V.str))) z (.frz o (.lst (ss'.map V.str)))=L2.upd H1 z (.frz o (.lst (ss'.map V.str))):=uc
   rw[e]
   exact k _ _ _ μ1 (t1.trans (.new hz)) (cJ m1 hz) (.ls (.inl ⟨o,aK⟩) (.strs ss')) (h2 ss' a2 a3)
 ·exact UO h1
def Np (f:Str->Str->Bool):DR2:=λx y μ Q=>match x,y with
 | .str i,.str j=>Q (.bl (f i j)) μ
 | _,_=>False
theorem Qt:OpR X (Xf .Gt) (λx y H Q=>∃ i j,x=.str i/\y=.str j/\Q (.bl (ltS j i)) H):=by
 intro pins s σ H x y v u Q I rx ry h
 obtain ⟨i,j,rfl,rfl,q⟩:=h
 obtain ⟨t,rfl⟩:=rx
 obtain ⟨t',rfl⟩:=ry
 exact PySem.P.gt_str ⟨.bl _,H,I,rfl,q⟩
theorem E5 {K:UH}(f:Str->Str->Bool):gT K (λx y H Q=>∃ i j,x=.str i/\y=.str j/\Q (.bl (f i j)) H) (Np f):=λH μ x y dx dy Q Q' m px py h k=>by
 cases px with
 | str i=>cases py with
  | str j=>exact ⟨i,j,rfl,rfl,k _ H _ μ (.refl H) m (.bl _) h⟩
  | _=>exact UO h
 | _=>cases py<;>exact UO h
def OL:DR2:=Np λi j=>ltS j i
theorem OZ (ha:LE X a Ta)(hb:LE X b Tb):LT X (.Compare a [.Gt] [b] pos) (TB (aj OL Ta Tb)):=gy Qt (E5 _) ha hb (fS _)
end
end
section
open PySem PySem.Spec PyProof.Rows L2
def fV (C:Mu->Prop)(p:Addr)(G:GTr)(tt:TTr)(te:ETr)(ρc:ST)(K:Mu->Prop):List D->Mu->Prop
 | [],μ=>C μ/\K μ
 | d::r,μ=>C μ/\G d ρc μ λρ1 μ1=>tt ρ1 μ1 λb μ2=>kIf b (te ρ1 μ2 λy μ3=>kL μ3 p λzs=>zs.length < 1000000/\fV C p G tt te ρc K r (up μ3 p (.lst (zs++[y])))) (fV C p G tt te ρc K r μ2)
def jC (To:ETr)(G:GTr)(tt:TTr)(te:ETr)(n:Nat)(caps:List Nat):ETr:=λρ μ Q=>To ρ μ λx μ1=>kObj x λa=>kL μ1 a λds=>∀ p,μ1 p=none->
 fV (λμ=>μ a=some (.lst ds)) p G tt te (dh ρ n caps) (λμ'=>kL μ' p λzs=>Q (.ls zs) (dn μ' p)) ds (up μ1 p (.lst []))
theorem sS {K:UH}{ta:TE}{To:ETr}{G:GTr}{Tt:TTr}{Te:ETr}{n:Nat}{caps:List Nat}(sa:Sim K ta To):Sim K (Ay (jI (M5 K ta) (ji K n G) (liftT K Tt) (jg K Te) n caps)) (jC To G Tt Te n caps):=by
 intro σ H ρ μ Q Q' rl h k
 refine sa σ H ρ μ _ _ rl h λx H1 dx μ1 t1 m1 px hx=>?_
 obtain ⟨q,rfl,hx⟩:=hU px hx
 obtain ⟨ds,eq0,h1⟩:=bA hx
 obtain ⟨xs0,exs0,l0⟩:=m1 q _ eq0
 refine ⟨q,rfl,⟨_,SqL.of exs0⟩,λD hD=>?_⟩
 have hp:=h1 D (m1.free hD)
 have tD:Tk H1 (L2.upd H1 D (.lst [])):=.new hD
 have mD:bB K (L2.upd H1 D (.lst [])) (up μ1 D (.lst [])):=λa o e=>by
  by_cases ha:a=D
  ·subst ha
   rw[aF] at e;cases e
   exact ⟨[],aK,.nil⟩
  ·rw[aU ha] at e
   exact cJ m1 hD a o e
 refine ⟨λi m ys H2=>m=ds.length - i/\i<=ds.length/\Tk H1 H2/\∃ μ2,bB K H2 μ2/\fV (λμ=>μ q=some (.lst ds)) D G Tt Te (dh ρ n caps) (λμ'=>kL μ' D λzs=>Q (.ls zs) (dn μ' D)) (ds.drop i) μ2,
  ⟨ds.length,by simp,Wj _,tD,_,mD,by simpa using hp⟩,?_⟩
 rintro i m ys H2 ⟨rfl,hi,t12,μ2,m2,h2⟩
 have hg:μ2 q=some (.lst ds):=by
  cases hdr:ds.drop i with
  | nil=>rw[hdr] at h2;exact h2.1
  | cons=>rw[hdr] at h2;exact h2.1
 obtain ⟨xs2,ex2,l2⟩:=m2 q _ hg
 have ll:=l2.length
 by_cases hlt:i < ds.length
 ·refine .inr ⟨⟨xs2,xs2[i]'(by omega),SqL.of ex2,UY (by omega)⟩,λys' H'=>Tk H1 H'/\∃ μ',bB K H' μ'/\fV (λμ=>μ q=some (.lst ds)) D G Tt Te (dh ρ n caps) (λμ'=>kL μ' D λzs=>Q (.ls zs) (dn μ' D)) (ds.drop (i+1)) μ',λys' H' ⟨t',μ',m',h'⟩=>⟨ds.length - (i+1),by omega,rfl,hlt,t',μ',m',h'⟩,λx H3 y=>?_⟩
  obtain ⟨rfl,y⟩:=y
  have exi:=y xs2 (SqL.of ex2)
  obtain ⟨d,ed,pd⟩:=l2.get' exi
  have e:ds.drop i=d::ds.drop (i+1):=by
   refine (We hlt).trans ?_
   congr 1
   rw[UY hlt] at ed
   exact Vt ed
  rw[e] at h2
  have t13:=t12
  have r3:Rl K (jJ σ n caps) H3 (dh ρ n caps) μ2:=kT (rl.go (t1.trans t13) m2) n caps
  refine ⟨_,_,d,_,r3,pd,h2.2,λσ4 H4 ρ4 μ4 t4 r4 kp h4=>⟨⟨kp.1.symm,λj v ej=>?_⟩,_,_,_,r4,h4,λb H5 μ5 t5 m5 h5=>?_⟩⟩
  ·by_cases hj:n<=j
   ·rw[kp.2 j hj];exact ej
   ·obtain ⟨j',k',e1,_⟩:=hX ej
    omega
  ·have t15:=t13.trans (t4.trans t5)
   cases b with
   | false=>exact nY ⟨t15,μ5,m5,h5⟩
   | true=>
    refine nU ⟨_,_,_,r4.go t5 m5,h5,λv H6 d6 μ6 t6 m6 p6 h6=>?_⟩
    obtain ⟨zs,ez,lz,h7⟩:=bA h6
    obtain ⟨xs,ex,lx⟩:=m6 D _ ez
    have t67:Tk H6 (L2.upd H6 D (.lst (xs++[v]))):=.upd (λys z=>by rw[ex] at z;cases z) λo' u z=>by rw[ex] at z;cases z
    refine ⟨xs,ex,by rw[lx.length];exact U6 lz (by decide),(t15.trans t6).trans t67,up μ6 D (.lst (zs++[d6])),λa o ea=>?_,h7⟩
    by_cases ha:a=D
    ·subst ha
     rw[aF] at ea;cases ea
     exact ⟨_,aK,(lx.append (.cons p6 .nil)).mono t67⟩
    ·rw[aU ha] at ea
     exact (m6 a _ ea).ne t67 ha
 ·have e:i=ds.length:=by omega
  subst e
  rw[WG] at h2
  obtain ⟨zs,ez,hq⟩:=bA (show kL μ2 D λzs=>Q (.ls zs) (dn μ2 D) from h2.2)
  obtain ⟨xs,ex,lx⟩:=m2 D _ ez
  refine .inl ⟨⟨xs2,SqL.of ex2,by omega⟩,D,xs,rfl,ex,λo=>?_⟩
  have t2f:Tk H2 (L2.upd H2 D (.frz o (.lst xs))):=.upd (λys z=>by rw[ex] at z;cases z) λo' u z=>by rw[ex] at z;cases z
  refine k _ _ _ (dn μ2 D) ((t1.trans t12).trans t2f) (λa o' ea=>?_) (.ls (.inl ⟨o,aK⟩) (lx.mono t2f)) hq
  have ha:a≠D:=λz=>by subst z;unfold dn at ea;rw[if_pos rfl] at ea;cases ea
  have ea':μ2 a=some o':=by unfold dn at ea;rw[if_neg ha] at ea;exact ea
  exact (m2 a _ ea').ne t2f ha
theorem mH {X:Cx}{tg elt iter:Ve}{Te:ETr}{Tt:TTr}{pos spos py:Pos}{y:Str}{To:ETr}{G:GTr}{ifs:List Ve}{scope fsc:Scope}(iy:Nat)(hN:X.N.Nodup)(XN Nc:List Str)(n:Nat)(caps:List Nat)(hxe:X.xe=λ_ _=>False)(hcalm:X.calm=true)(hi:LE X iter To)
  (hbody:∀ (cl:List (Str×Addr)) (C:Addr) (s₀:UN) (H₀:Hp) (ex:List Addr),LGc (a5 X scope Nc cl C s₀ H₀ ex) n tg G/\vy (a5 X scope Nc cl C s₀ H₀ ex) ifs Tt/\LE (a5 X scope Nc cl C s₀ H₀ ex) elt Te)
  (hsc:X.env.scope=fsc) (hXN:X.N=XN) (hok:fi fsc.names XN scope Nc n caps=true)
  (hiy:X.N[iy]? = some y:=by rfl) (hx:Loc X.env.scope y:=by first | exact Yt rfl | exact Yu rfl) (hf:X.fn y=true∨X.env.scope.names.lookup y=some .local:=by first | exact .inl rfl | exact .inr rfl | assumption)
  (hsw:Xd (.ListComp elt [⟨tg,iter,ifs,0⟩] scope pos) (some (.Name y py)) spos.line X.env=pure true:=by rfl)
  (hs:∀ x,Vx iter X.env x=pure x:=by intro _;rfl) :
  LS X (.Assign [.Name y py] (.ListComp elt [⟨tg,iter,ifs,0⟩] scope pos) spos) (aN (jC To G Tt Te n caps) (aw iy)):=by
 unfold fi at hok
 simp only[Vj,Xg] at hok
 obtain ⟨⟨⟨h1,h2⟩,h3⟩,h4⟩:=hok
 obtain ⟨ta,pa,sa⟩:=hi.ex
 refine ⟨_,BY (g:=ji X.K n G) (tt:=liftT X.K Tt) (te:=jg X.K Te) hxe hcalm (By pa) (λcl C s₀ H₀ ex=>let ⟨h1,h2,h3⟩:=hbody cl C s₀ H₀ ex;⟨h1.pe,h2.pe,h3.pe⟩) (λy hy hf=>?_) (λy hy hf=>?_) (by simpa using h2) (λy hy hf=>?_) (by simpa using h3) (λj k hj=>?_) (ir hN hiy hx hf) hsw hs,λσ H ρ μ E E' rl h k=>sS sa σ H ρ μ _ _ rl h λv H' d μ' t' m' p' h'=>hV iy σ H' ρ μ' v d _ _ (rl.go t' m') p' h' (k.go t').nx⟩
 ·have:=(h1 y hy).1.1
  show X.env.scope.names.lookup y.1=_
  rw[hsc]
  simpa[hf] using this
 ·have:=(h1 y hy).1.2
  simp[hf] at this
 ·have:=(h1 y hy).2
  simpa[hf] using this
 ·have hl:j < caps.length:=(Vh.mp hj).1
  have:=h4 j (WW.mpr hl)
  rw[hj] at this
  dsimp only at this
  rw[hXN]
  cases e:XN[k]? with
  | none=>rw[e] at this;cases this
  | some x=>
   rw[e] at this
   dsimp only at this
   rw[Vj] at this
   exact ⟨x,by simpa using this.1,rfl,by simpa using this.2⟩
theorem D8 {X:Cx}{tg elt iter:Ve}{Te:ETr}{Tt:TTr}{pos:Pos}{To:ETr}{G:GTr}{ifs:List Ve}{scope fsc:Scope}(XN Nc:List Str)(n:Nat)(caps:List Nat)(hxe:X.xe=λ_ _=>False)(hcalm:X.calm=true)(hi:LE X iter To)
  (hbody:∀ (cl:List (Str×Addr)) (C:Addr) (s₀:UN) (H₀:Hp) (ex:List Addr),LGc (a5 X scope Nc cl C s₀ H₀ ex) n tg G/\vy (a5 X scope Nc cl C s₀ H₀ ex) ifs Tt/\LE (a5 X scope Nc cl C s₀ H₀ ex) elt Te)
  (hsc:X.env.scope=fsc) (hXN:X.N=XN) (hok:fi fsc.names XN scope Nc n caps=true)
  (hs:∀ x,Vx iter X.env x=pure x:=by intro _;rfl) :
  LE X (.ListComp elt [⟨tg,iter,ifs,0⟩] scope pos) (jC To G Tt Te n caps):=by
 unfold fi at hok
 simp only[Vj,Xg] at hok
 obtain ⟨⟨⟨h1,h2⟩,h3⟩,h4⟩:=hok
 obtain ⟨ta,pa,sa⟩:=hi.ex
 refine ⟨_,iB (uf (g:=ji X.K n G) (tt:=liftT X.K Tt) (te:=jg X.K Te) hxe hcalm (By pa) (λcl C s₀ H₀ ex=>let ⟨h1,h2,h3⟩:=hbody cl C s₀ H₀ ex;⟨h1.pe,h2.pe,h3.pe⟩) (λy hy hf=>?_) (λy hy hf=>?_) (by simpa using h2) (λy hy hf=>?_) (by simpa using h3) (λj k hj=>?_) hs),sS sa⟩
 ·have:=(h1 y hy).1.1
  show X.env.scope.names.lookup y.1=_
  rw[hsc]
  simpa[hf] using this
 ·have:=(h1 y hy).1.2
  simp[hf] at this
 ·have:=(h1 y hy).2
  simpa[hf] using this
 ·have hl:j < caps.length:=(Vh.mp hj).1
  have:=h4 j (WW.mpr hl)
  rw[hj] at this
  dsimp only at this
  rw[hXN]
  cases e:XN[k]? with
  | none=>rw[e] at this;cases this
  | some x=>
   rw[e] at this
   dsimp only at this
   rw[Vj] at this
   exact ⟨x,by simpa using this.1,rfl,by simpa using this.2⟩
end
theorem JO (a b:ETr)(ρ:ST)(μ:Mu)(Q:DK):bH a b ρ μ Q=a ρ μ λx μ1=>b ρ μ1 λy μ2=>kObj x λa=>kD μ2 a λkvs=>xZ y λk=>kO (dR kvs k) λd=>Q d μ2:=propext UM
theorem Kx (a b e:ETr)(nx:ST->Mu->Prop)(rt:DK)(bk ct:ST->Mu->Prop)(ρ:ST)(μ:Mu):ja a b e ⟨nx,rt,bk,ct⟩ ρ μ=e ρ μ λv μ1=>a ρ μ1 λx μ2=>b ρ μ2 λy μ3=>kObj x λa=>kD μ3 a λkvs=>xZ y λk=>kvs.length < 1000000/\nx ρ (up μ3 a (.dct (putD kvs k v))):=propext UM
theorem J4 (f:Int->Int->Int)(a b e:ETr)(nx:ST->Mu->Prop)(rt:DK)(bk ct:ST->Mu->Prop)(ρ:ST)(μ:Mu):kP f a b e ⟨nx,rt,bk,ct⟩ ρ μ=a ρ μ λx μ1=>b ρ μ1 λy μ2=>kObj x λa=>kD μ2 a λkvs=>xZ y λk=>kO (dR kvs k) λd=>kI d λm=>e ρ μ2 λw μ3=>kI w λn=>kD μ3 a λkvs3=>kvs3.length < 1000000/\nx ρ (up μ3 a (.dct (putD kvs3 k (.int (f m n))))):=propext UM
theorem OJ (f:Int->Int->Int)(i:Nat)(e:ETr)(nx:ST->Mu->Prop)(rt:DK)(bk ct:ST->Mu->Prop)(ρ:ST)(μ:Mu):Lz f i e ⟨nx,rt,bk,ct⟩ ρ μ=ah i ρ μ λd _=>kI d λm=>e ρ μ λw μ1=>kI w λn=>aw i (.int (f m n)) ρ μ1 nx:=propext UM
theorem L0 (ks:List L2.Key)(t:ATr)(ρ:ST)(μ:Mu)(Q:DK):EJ ks t ρ μ Q = ∀ p,μ p=none->t ρ (up μ p (.dct [])) λds μ2=>kD μ2 p λkvs=>kvs=[]/\Q (.obj p) (up μ2 p (.dct (ks.zip ds))):=propext UM
theorem O6 (a b:ETr)(ρ:ST)(μ:Mu)(Q:DK):QF a b ρ μ Q=a ρ μ λx μ1=>kObj x λa=>kL μ1 a λ_=>b ρ μ1 λy μ2=>kI y λj=>(-9223372036854775808<=j/\j < 9223372036854775808)/\kL μ2 a λds=>kN (L2.ixN ds.length j) λk=>kO ds[k]? λd=>Q d (up μ2 a (.lst (ds.eraseIdx k))):=propext UM
theorem HV (a b:ETr)(ρ:ST)(μ:Mu)(Q:DK):Ag a b ρ μ Q=a ρ μ λx μ1=>DQ μ1 x λ_=>b ρ μ1 λy μ2=>DQ μ2 x λds=>(cY 38 ds=true/\okD 38 y=true)/\kN (DI ds y) λj=>j < 1000000/\Q (.int j) μ2:=propext UM
theorem PR (a:ETr)(ρ:ST)(μ:Mu)(Q:List D->Mu->Prop):dW a ρ μ Q=a ρ μ λx μ1=>kS x λds=>Q ds μ1:=propext UM
theorem Kc (t:ATr)(ρ:ST)(μ:Mu)(Q:List D->Mu->Prop):nj t ρ μ Q=t ρ μ λvs μ1=>k2 vs λx y=>kS x λds=>kS y λes=>Q (VH (λd e=>.tup [d,e]) ds es) μ1:=propext UM
theorem Qe (n:Bool)(x:D)(ds:List D)(μ:Mu)(Q:DK):JQ n x (.ls ds) μ Q=((cY 38 ds=true/\okD 38 x=true)/\Q (.bl (if n then !inG x ds else inG x ds)) μ):=propext UM
theorem Oj (μ:Mu)(ds:List D)(f:List D->Prop):DQ μ (.ls ds) f=f ds:=propext UM
theorem PY (s:Str)(f:L2.Key->Prop):xZ (.str s) f=f (.inr s):=propext UM
theorem MN {μ:Mu}{a:Addr}{ds:List (L2.Key×D)}(h:μ a=some (.dct ds))(f):kD μ a f=f ds:=by unfold kD;rw[h]
theorem RP (μ:Mu)(a:Addr)(ds:List (L2.Key×D))(f:List (L2.Key×D)->Prop):kD (up μ a (.dct ds)) a f=f ds:=MN aF f
theorem QS {μ:Mu}{a:Addr}{ds:List (L2.Key×D)}{f:List (L2.Key×D)->Prop}(e:μ a=some (.dct ds))(h:f ds):kD μ a f:=by rw[MN e];exact h
theorem K0 (cs:List String)(x:D)(ts:List D)(μ:Mu)(Q:DK):gG (wZ cs) [x,.tup ts] μ Q=((ts=cs.map .ty/\∀ c∈cs,c∈qA)/\(match tyD x with | some t=>Q (.bl (cs.any λc=>de t c)) μ | none=>False)):=propext UM
theorem K7 (xs:List D)(μ:Mu)(Q:DK):gG B9 [.ls xs] μ Q=(∃ kvs:List (L2.Key×D),xs=kvs.map zd/\kvs.length<=1000000/\∀ p,μ p=none->Q (.obj p) (up μ p (.dct (jd [] kvs)))):=propext UM
theorem NX (i j:Str)(μ:Mu)(Q:DK):OL (.str i) (.str j) μ Q=Q (.bl (ltS j i)) μ:=propext UM
theorem IsPart.of_eq {a b c d x y:Int}(h:IsPart a b x y)(hb:0 < b)(hd:0 < d)(e:a*d=c*b):IsPart c d x y:=by
 have xd:x*d=c*y:=by
  refine XH (a:=b) (by omega) ?_
  calc x*d*b=(x*b)*d:=by ac_rfl
   _=(a*y)*d:=by rw[h.e]
   _=(a*d)*y:=by ac_rfl
   _=(c*b)*y:=by rw[e]
   _=c*y*b:=by ac_rfl
 have y0:=h.q0
 have dx:x ∣ c:=by
  have:x ∣ y*c:=⟨d,by rw[Wm y c];exact xd.symm⟩
  have h':=WU.mpr this
  rw[h.g] at h'
  simpa using h'
 have dy:y ∣ d:=by
  have:y ∣ x*d:=⟨c,by rw[xd,Wm]⟩
  have h':=WU.mpr this
  rw[Z7,h.g] at h'
  simpa using h'
 refine ⟨h.q0,h.g,xd,?_,zcN (by omega) (zao.mpr dy)⟩
 by_cases hc:c=0
 ·subst hc
  have:x=0:=by
   rcases Int.mul_eq_zero.mp (show x*d=0 by rw[xd,Int.zero_mul]) with z | z
   ·exact z
   ·omega
  rw[this];exact U2 _
 ·exact zcN (by omega) (zao.mpr dx)
structure Vl (d:D) (a b:Int):Prop where
 ex:∃ p q,d=fr p q/\IsPart a b p q
 b0:0 < b
theorem Vl.of_eq {d:D}{a b a' b':Int}(h:Vl d a b)(hb:0 < b')(e:a*b'=a'*b):Vl d a' b':=by
 obtain ⟨⟨p,q,rfl,P⟩,b0⟩:=h
 exact ⟨⟨p,q,rfl,P.of_eq b0 hb e⟩,hb⟩
theorem Vl.uniq {d d':D}{a b:Int}(h:Vl d a b)(h':Vl d' a b):d=d':=by
 obtain ⟨⟨p,q,rfl,P⟩,b0⟩:=h
 obtain ⟨⟨p',q',rfl,P'⟩,_⟩:=h'
 obtain ⟨rfl,rfl⟩:=P.same P' (by omega) (by omega) rfl
 rfl
theorem ON (a:Int){b:Int}(b0:0 < b):Vl (.tup [.int (a.fdiv (Vi a b)),.int (b.fdiv (Vi a b))]) a b:=by
 have h:=BE (a:=a) (b:=b) (by omega)
 rw[if_neg (by omega)] at h
 exact ⟨⟨_,_,rfl,h⟩,b0⟩
theorem iL {lo hi p q:Int}(h:FrB lo hi p q):Vl (fr p q) p q:=⟨⟨p,q,rfl,h.q0,h.g,rfl,U2 _,U2 _⟩,h.q0⟩
theorem Ce {a b x y:Int}(h:IsPart a b x y)(b0:0 < b):Vl (fr x y) a b:=⟨⟨x,y,rfl,h⟩,b0⟩
theorem Nk {p q a b:Int}(g:Int)(q0:0 < q)(b0:0 < b)(e:p*b=a*q):p*g / q=a*g / b:=by
 calc p*g / q=(p*g)*b / (q*b):=(Wn _ _ b0).symm
  _=(a*g)*q / (b*q):=by rw[show p*g*b=(p*b)*g by ac_rfl,e,Wm q b,show a*q*g=a*g*q by ac_rfl]
  _=a*g / b:=Wn _ _ q0
theorem NN {p q a b:Int}(q0:0 < q)(b0:0 < b)(e:p*b=a*q):p / q=a / b:=by
 have:=Nk 1 q0 b0 e
 simpa using this
theorem RL {p q r s a b c e:Int}(q0:0 < q)(s0:0 < s)(b0:0 < b)(e0:0 < e)(h1:p*b=a*q)(h2:r*e=c*s):(p*s < r*q)↔(a*e < c*b):=by
 have k1:(p*s)*(b*e)=(a*e)*(q*s):=by
  calc (p*s)*(b*e)=(p*b)*(s*e):=by ac_rfl
   _=(a*q)*(s*e):=by rw[h1]
   _=(a*e)*(q*s):=by ac_rfl
 have k2:(r*q)*(b*e)=(c*b)*(q*s):=by
  calc (r*q)*(b*e)=(r*e)*(q*b):=by ac_rfl
   _=(c*s)*(q*b):=by rw[h2]
   _=(c*b)*(q*s):=by ac_rfl
 have be:0 < b*e:=Wr b0 e0
 have qs:0 < q*s:=Wr q0 s0
 constructor
 ·intro h
  have:=Xz h be
  rw[k1,k2] at this
  exact Zf this (Z8 qs)
 ·intro h
  have:=Xz h qs
  rw[← k1,← k2] at this
  exact Zf this (Z8 be)
def Le (a A:Int):Prop:=-A<=a/\a<=A
theorem Le.mono {a A B:Int}(h:Le a A)(hb:A<=B):Le a B:=⟨by have:=h.1;omega,by have:=h.2;omega⟩
theorem Le.of {a A:Int}(h0:0<=a)(h1:a<=A):Le a A:=⟨by omega,h1⟩
theorem Le.add {a b A B:Int}(h:Le a A)(k:Le b B):Le (a+b) (A+B):=⟨by have:=h.1;have:=k.1;omega,by have:=h.2;have:=k.2;omega⟩
theorem Le.sub {a b A B:Int}(h:Le a A)(k:Le b B):Le (a - b) (A+B):=⟨by have:=h.1;have:=k.2;omega,by have:=h.2;have:=k.1;omega⟩
theorem Le.neg {a A:Int}(h:Le a A):Le (-a) A:=⟨by have:=h.2;omega,by have:=h.1;omega⟩
theorem Le.abs {a A:Int}(h:Le a A):(a.natAbs:Int)<=A:=by have:=h.1;have:=h.2;omega
theorem Le.EN {a A:Int}(h:(a.natAbs:Int)<=A):Le a A:=⟨by omega,by omega⟩
theorem Le.mul {a b A B:Int}(h:Le a A)(k:Le b B):Le (a*b) (A*B):=by
 refine .EN ?_
 rw[zcA,Int.natCast_mul]
 have a0:(0:Int)<=(a.natAbs:Int):=Ya _
 have b0:(0:Int)<=(b.natAbs:Int):=Ya _
 exact zcD h.abs k.abs b0 (Int.le_trans a0 h.abs)
abbrev Bd (a:Int):Prop:=Le a 1000000000000000000000000000000
theorem Bd.m {a:Int}(h:Bd a):fU a:=by have:=h.1;have:=h.2;unfold fU;omega
theorem Bd.mm {a b:Int}(h:Bd a)(k:Bd b):fU (a*b):=by
 have:=(h.mul k).1;have:=(h.mul k).2
 unfold fU;omega
theorem Bd.mul {a b:Int}(h:Bd a)(k:Bd b):MulOk a b:=.inr ⟨h.m,k.m⟩
theorem IsPart.bp {a b x y:Int}(h:IsPart a b x y)(ha:Bd a):Bd x:=.EN (by have:=h.pa;have:=ha.abs;omega)
theorem IsPart.bq {a b x y:Int}(h:IsPart a b x y)(hb:Bd b):Bd y:=.EN (by have:=h.qb;have:=hb.abs;omega)
inductive Wd | still | step | swell | heed | calm
 deriving DecidableEq
structure RN where
 wd:Wd
 p:Int
 q:Int
 x:Int
 y:Int
 a:Int
 b:Int
 l:Int
 h:Int
 r:Int
 s:Int
def Wd.str:Wd->Str
 | .still=>OF "still"
 | .step=>OF "step"
 | .swell=>OF "swell"
 | .heed=>OF "heed"
 | .calm=>OF "calm"
def RN.toD (R:RN):D:=match R.wd with
 | .still=>.tup [.str "still", fr R.p R.q]
 | .step=>.tup [.str "step", fr R.p R.q,fr R.x R.y,fr R.a R.b,fr R.r R.s]
 | .swell=>.tup [.str "swell", fr R.p R.q,fr R.x R.y,fr R.a R.b,fr R.r R.s]
 | .heed=>.tup [.str "heed", fr R.p R.q,fr R.x R.y,fr R.a R.b,fr R.r R.s]
 | .calm=>.tup [.str "calm", fr R.p R.q,fr R.x R.y,.int R.l,.int R.h,fr R.r R.s]
structure RN.Ok (R:RN):Prop where
 w:FrB 1 60 R.p R.q
 t:FrB 1 60 R.r R.s
 wt:R.p*R.s<=R.r*R.q
 u:FrA 0 60 R.x R.y
 u1:R.wd=.swell->R.y < R.x
 g:FrA 0 1 R.a R.b
 d1:R.wd=.step∨R.wd=.swell->R.a < R.b
 l0:0<=R.l
 lh:R.l<=R.h
 h1:R.h<=60
 st:R.wd=.still->R.r=R.p/\R.s=R.q
theorem Gr {lo hi:Int}(h0:lo < 1)(h1:1<=hi):FrA lo hi 1 1:=⟨⟨by decide,by decide,by decide,by omega,by omega⟩,by omega⟩
theorem Rf {p q:Int}(h:FrL 1 p q):FrA 0 1 p q:=⟨h.toFrB,by have:=h.ab;omega⟩
structure Hd where
 good:Int
 mark:Int
 br:Int
 wt:Int
structure Hd.Ok (h:Hd):Prop where
 g0:0<=h.good
 g1:h.good<=1000000
 m0:0<=h.mark
 m1:h.mark<=1000000
 l0:0<=h.br
 l1:h.br<=1000000
 w0:0<=h.wt
def Hd.toD (h:Hd):D:=.tup [.int h.good,.int h.mark,.int h.br,.int h.wt]
def Hd.bad (h:Hd):Int:=h.mark+h.br
def Hd.many (h:Hd):Int:=h.good+h.bad
def RN.idle (R:RN)(h:Hd):Prop:=R.wd=.still∨h.good+h.mark+h.br=0
instance (R:RN) (h:Hd):Decidable (R.idle h):=by unfold RN.idle;infer_instance
def RN.cap (R:RN)(g:Int):Int:=R.r*g / R.s
def RN.shr (R:RN)(g S:Int)(h:Hd):Int:=if R.wd=.heed then (S*R.b*h.many+R.a*(h.bad*g - S*h.many)) / (R.b*h.many) else S
def RN.fac (R:RN)(g S:Int)(h:Hd):Option (Int×Int):=match R.wd with
 | .still=>none
 | .calm=>if 0 < h.br then some (1,2) else none
 | .heed=>if h.bad=0 then none else some (2*g - S,2*g)
 | .swell=>if h.bad=0 then some (R.x,R.y) else some (R.a,R.b)
 | .step=>if h.bad=0 then none else some (R.a,R.b)
def RN.mvd (R:RN)(g W:Int)(h:Hd):Int:=if R.wd=.calm then (if h.wt < R.l then W*R.y+g*R.x else if R.h < h.wt then W*R.y - g*R.x else W*R.y) else W*R.y+g*R.x
def RN.mv (R:RN)(g W S:Int)(h:Hd):Int:=match R.fac g S h with
 | some f=>W*f.1 / f.2
 | none=>R.mvd g W h / R.y
def RN.clip (R:RN)(g z:Int):Int:=min (max z g) (R.cap g)
def RN.beh (R:RN)(g W S:Int)(h:Hd):Int×Int:=if R.idle h then (W,S) else (R.clip g (R.mv g W (R.shr g S h) h),R.shr g S h)
theorem ES {R:RN}(k:R.Ok){g:Int}(g0:0 < g):g<=R.cap g:=by
 unfold RN.cap
 rw[WA k.t.q0]
 have:=U5 k.t.ge (show 0<=g by omega)
 have e:g*R.s=1*R.s*g:=by rw[zaC,Wm]
 omega
theorem Ik {R:RN}(k:R.Ok){g:Int}(g0:0 < g):R.cap g<=60*g:=by
 unfold RN.cap
 refine Xv k.t.q0 ?_
 have:=U5 k.t.le (show 0<=g by omega)
 have e:60*g*R.s=60*R.s*g:=by ac_rfl
 omega
theorem Jg {R:RN}(k:R.Ok){g S:Int}{h:Hd}(H:h.Ok)(hn:¬ R.idle h)(g0:0 < g)(S0:0<=S)(S1:S<=g):0<=R.shr g S h/\R.shr g S h<=g:=by
 unfold RN.shr
 split
 ·rename_i hw
  have m0:0 < h.many:=by
   unfold RN.idle at hn
   unfold Hd.many Hd.bad
   have:=H.g0;have:=H.m0;have:=H.l0
   have:¬ (h.good+h.mark+h.br=0):=λz=>hn (.inr z)
   omega
  have bb:h.bad<=h.many:=by unfold Hd.many;have:=H.g0;omega
  have b0:0<=h.bad:=by unfold Hd.bad;have:=H.m0;have:=H.l0;omega
  have q0:=k.g.q0
  have a0:0 < R.a:=by have:=k.g.ab;omega
  have ab:R.a<=R.b:=by have:=k.g.le;omega
  have Y:0 < R.b*h.many:=Wr q0 m0
  have e:S*R.b*h.many+R.a*(h.bad*g - S*h.many)=(R.b - R.a)*(S*h.many)+R.a*(h.bad*g):=by
   rw[Int.mul_sub,Zn,show S*R.b*h.many=R.b*(S*h.many) by ac_rfl];omega
  have z1:0<=(R.b - R.a)*(S*h.many):=Xi (by omega) (Xi S0 (by omega))
  have z2:0<=R.a*(h.bad*g):=Xi (by omega) (Xi b0 (by omega))
  have z3:(R.b - R.a)*(S*h.many)<=(R.b - R.a)*(g*h.many):=YR (U5 S1 (by omega)) (by omega)
  have z4:R.a*(h.bad*g)<=R.a*(h.many*g):=YR (U5 bb (by omega)) (by omega)
  have e2:(R.b - R.a)*(g*h.many)+R.a*(h.many*g)=g*(R.b*h.many):=by
   rw[Zn,show R.b*(g*h.many)=g*(R.b*h.many) by ac_rfl,show R.a*(h.many*g)=R.a*(g*h.many) by ac_rfl];omega
  rw[e]
  exact ⟨Int.ediv_nonneg (by omega) (by omega),Xv Y (by omega)⟩
 ·exact ⟨S0,S1⟩
local macro_rules | `(tactic| walk_at "rd")=>zzS "L3.ah L3.TC L3.aj L3.TUn L3.ik L3.FG L3.rG L3.TB L3.mw L3.TOr L3.Bl L3.lA L3.AU L3.ar L3.af L3.bf L3.eM L3.kC L3.aq L3.a8 L3.aB L3.Ax L3.GF L3.d8 L3.aW L3.FR L3.bK L3.aw L3.aN L3.qG L3.zm L3.iS L3.fE L3.dW L3.b8 L3.fo L3.dh L3.dX L3.RM L3.ILs L3.E6 L3.HW L3.EE L3.Fz L3.IA L3.AW L3.oO L3.zO L3.Ey L3.yZ L3.uh L3.CL L3.rM L3.u5 L3.vc L3.uJ L3.uz L3.kg L3.gR L3.su L3.qM L3.qC L3.rD L3.qS L3.pL L3.qH L3.pN L3.pB L3.pF L3.TSl L3.ONo L3.lr L3.GG L3.G8 L3.HS L3.Iu L3.Hl L3.Iy L3.y9 L3.z9 L3.Er L3.IB L3.HE L3.qh L3.qm L3.pI L3.zR L3.yS L3.Ar L3.AX L3.zD L3.zY L3.Bn L3.As L3.zk L3.Hi L3.Em L3.Fu L3.Ij L3.E1 L3.FO L3.qr L3.HY L3.Fj L3.zg L3.AI L3.A3 L3.yY L3.yT L3.AY L3.AE L3.yR L3.AH L3.zT L3.lk L3.ini zbB WC Ww zca zc1 ZM X3 zbC za1 za2 L3.xx L3.xY L3.CH L3.Cg L3.Cs L3.Bx Yh Yi L3.aF L3.fQ zbD ZN if_true if_false true_and and_true za3 zax zay ZO YM zag decide_eq_true_eq X9 ite_false ite_true ne_eq not_false_eq_true zah za4 za5 za6 za7 za8 zbE L3.okD L3.cY L3.eqD L3.nS za9 zba zbb L3.dY L3.kr decide_true decide_false Bool.or_true zcH zcR zaZ zaA zcm and_self L3.bR L3.bD L3.bO L3.bU L3.bM L3.bS L3.cA L3.ck L3.bC L3.bW L3.bX L3.bP L3.bQ L3.cq L3.bT L3.cy L3.bL L3.cu L3.bV L3.cz L3.gj L3.mI L3.pT L3.me L3.rK L3.oX L3.eQ L3.eU L3.eS L3.fb L3.eR L3.eZ L3.eP"
def jV:FSp:=λds μ Q=>kcA ds λd1 ds=>kcA ds λd2 ds=>kcN ds (∃ a b c e,((Vl d1 a b/\Vl d2 c e)/\Bd a/\Bd b/\Bd c/\Bd e)/\∀ z,Vl z (a*e+c*b) (b*e)->Q z μ)
theorem I0:∀ ds μ Q,jV ds μ Q->ds.length=2:=λ_ _ _ h=>lcA h λ_ _ h=>lcA h λ_ _ h=>by rw[(ecN h).1];rfl
def G3:STr:=aW (aq gw (af (aj aT (aj eJ (aj L3.rIx (ah 0) (TC (.int 0))) (aj L3.rIx (ah 1) (TC (.int 1)))) (aj eJ (aj L3.rIx (ah 1) (TC (.int 0))) (aj L3.rIx (ah 0) (TC (.int 1))))) (af (aj eJ (aj L3.rIx (ah 0) (TC (.int 1))) (aj L3.rIx (ah 1) (TC (.int 1)))) (ar))))
theorem LD:∀ ds μ Q,jV ds μ Q->G3 { nx:=λ_ μ'=>RT Q .non μ',rt:=RT Q } (ini 2 ds) μ:=by
 intro ds μ Q h
 replace h:=ecA h
 obtain ⟨d1,ds,rfl,h⟩:=h
 replace h:=ecA h
 obtain ⟨d2,ds,rfl,h⟩:=h
 replace h:=ecN h
 obtain ⟨rfl,h⟩:=h
 unfold G3
 walk_at "rd"
 obtain ⟨a,b,c,e,⟨⟨V1,V2⟩,Ba,Bb,Bc,Be⟩,k⟩:=h
 obtain ⟨⟨p,q,rfl,P⟩,b0⟩:=V1
 obtain ⟨⟨r,s,rfl,S⟩,e0⟩:=V2
 have q0:=P.q0
 have s0:=S.q0
 have be:0 < b*e:=Wr b0 e0
 have qs:0 < q*s:=Wr q0 s0
 have Bp:=P.bp Ba
 have Bq:=P.bq Bb
 have Br:=S.bp Bc
 have Bs:=S.bq Be
 walk_at "rd"
 refine ⟨Bp.mul Bs,Br.mul Bq,Bq.mul Bs,⟨by omega,Bq.mm Bs⟩,λx y Pt=>⟨_,.refl _,k _ ⟨⟨x,y,rfl,Pt.of_eq qs be ?_⟩,be⟩⟩⟩
 calc (p*s+r*q)*(b*e)=(p*b)*(s*e)+(r*e)*(q*b):=by rw[zaD];congr 1<;>ac_rfl
  _=(a*q)*(s*e)+(c*s)*(q*b):=by rw[P.e,S.e]
  _=(a*e+c*b)*(q*s):=by rw[zaD];congr 1<;>ac_rfl
def gX:FSp:=λds μ Q=>kcA ds λd1 ds=>kcA ds λd2 ds=>kcN ds (∃ a b c e,((Vl d1 a b/\Vl d2 c e)/\Bd a/\Bd b/\Bd c/\Bd e)/\∀ z,Vl z (a*e - c*b) (b*e)->Q z μ)
theorem Ej:∀ ds μ Q,gX ds μ Q->ds.length=2:=λ_ _ _ h=>lcA h λ_ _ h=>lcA h λ_ _ h=>by rw[(ecN h).1];rfl
def CF:STr:=aW (aq gw (af (aj kA (aj eJ (aj L3.rIx (ah 0) (TC (.int 0))) (aj L3.rIx (ah 1) (TC (.int 1)))) (aj eJ (aj L3.rIx (ah 1) (TC (.int 0))) (aj L3.rIx (ah 0) (TC (.int 1))))) (af (aj eJ (aj L3.rIx (ah 0) (TC (.int 1))) (aj L3.rIx (ah 1) (TC (.int 1)))) (ar))))
theorem F8:∀ ds μ Q,gX ds μ Q->CF { nx:=λ_ μ'=>RT Q .non μ',rt:=RT Q } (ini 2 ds) μ:=by
 intro ds μ Q h
 replace h:=ecA h
 obtain ⟨d1,ds,rfl,h⟩:=h
 replace h:=ecA h
 obtain ⟨d2,ds,rfl,h⟩:=h
 replace h:=ecN h
 obtain ⟨rfl,h⟩:=h
 unfold CF
 walk_at "rd"
 obtain ⟨a,b,c,e,⟨⟨V1,V2⟩,Ba,Bb,Bc,Be⟩,k⟩:=h
 obtain ⟨⟨p,q,rfl,P⟩,b0⟩:=V1
 obtain ⟨⟨r,s,rfl,S⟩,e0⟩:=V2
 have q0:=P.q0
 have s0:=S.q0
 have be:0 < b*e:=Wr b0 e0
 have qs:0 < q*s:=Wr q0 s0
 have Bp:=P.bp Ba
 have Bq:=P.bq Bb
 have Br:=S.bp Bc
 have Bs:=S.bq Be
 walk_at "rd"
 refine ⟨Bp.mul Bs,Br.mul Bq,Bq.mul Bs,⟨by omega,Bq.mm Bs⟩,λx y Pt=>⟨_,.refl _,k _ ⟨⟨x,y,rfl,Pt.of_eq qs be ?_⟩,be⟩⟩⟩
 calc (p*s - r*q)*(b*e)=(p*b)*(s*e) - (r*e)*(q*b):=by rw[Zn];congr 1<;>ac_rfl
  _=(a*q)*(s*e) - (c*s)*(q*b):=by rw[P.e,S.e]
  _=(a*e - c*b)*(q*s):=by rw[Zn];congr 1<;>ac_rfl
def gZ:FSp:=λds μ Q=>kcA ds λd1 ds=>kcA ds λd2 ds=>kcN ds (∃ a b c e,((Vl d1 a b/\Vl d2 c e)/\Bd a/\Bd b/\Bd c/\Bd e)/\∀ z,Vl z (a*c) (b*e)->Q z μ)
theorem D3:∀ ds μ Q,gZ ds μ Q->ds.length=2:=λ_ _ _ h=>lcA h λ_ _ h=>lcA h λ_ _ h=>by rw[(ecN h).1];rfl
def BQ:STr:=aW (aq gw (af (aj eJ (aj L3.rIx (ah 0) (TC (.int 0))) (aj L3.rIx (ah 1) (TC (.int 0)))) (af (aj eJ (aj L3.rIx (ah 0) (TC (.int 1))) (aj L3.rIx (ah 1) (TC (.int 1)))) (ar))))
theorem HA:∀ ds μ Q,gZ ds μ Q->BQ { nx:=λ_ μ'=>RT Q .non μ',rt:=RT Q } (ini 2 ds) μ:=by
 intro ds μ Q h
 replace h:=ecA h
 obtain ⟨d1,ds,rfl,h⟩:=h
 replace h:=ecA h
 obtain ⟨d2,ds,rfl,h⟩:=h
 replace h:=ecN h
 obtain ⟨rfl,h⟩:=h
 unfold BQ
 walk_at "rd"
 obtain ⟨a,b,c,e,⟨⟨V1,V2⟩,Ba,Bb,Bc,Be⟩,k⟩:=h
 obtain ⟨⟨p,q,rfl,P⟩,b0⟩:=V1
 obtain ⟨⟨r,s,rfl,S⟩,e0⟩:=V2
 have q0:=P.q0
 have s0:=S.q0
 have be:0 < b*e:=Wr b0 e0
 have qs:0 < q*s:=Wr q0 s0
 have Bp:=P.bp Ba
 have Bq:=P.bq Bb
 have Br:=S.bp Bc
 have Bs:=S.bq Be
 walk_at "rd"
 refine ⟨Bp.mul Br,Bq.mul Bs,⟨by omega,Bq.mm Bs⟩,λx y Pt=>⟨_,.refl _,k _ ⟨⟨x,y,rfl,Pt.of_eq qs be ?_⟩,be⟩⟩⟩
 calc (p*r)*(b*e)=(p*b)*(r*e):=by ac_rfl
  _=(a*q)*(c*s):=by rw[P.e,S.e]
  _=(a*c)*(q*s):=by ac_rfl
def lC:FSp:=λds μ Q=>kcA ds λd1 ds=>kcA ds λd2 ds=>kcN ds (∃ a b c e,((Vl d1 a b/\Vl d2 c e)/\Bd a/\Bd b/\Bd c/\Bd e)/\Q (.bl (decide (a*e < c*b))) μ)
theorem EU:∀ ds μ Q,lC ds μ Q->ds.length=2:=λ_ _ _ h=>lcA h λ_ _ h=>lcA h λ_ _ h=>by rw[(ecN h).1];rfl
def Fp:STr:=aW (aj rLt (aj eJ (aj L3.rIx (ah 0) (TC (.int 0))) (aj L3.rIx (ah 1) (TC (.int 1)))) (aj eJ (aj L3.rIx (ah 1) (TC (.int 0))) (aj L3.rIx (ah 0) (TC (.int 1)))))
theorem LQ:∀ ds μ Q,lC ds μ Q->Fp { nx:=λ_ μ'=>RT Q .non μ',rt:=RT Q } (ini 2 ds) μ:=by
 intro ds μ Q h
 replace h:=ecA h
 obtain ⟨d1,ds,rfl,h⟩:=h
 replace h:=ecA h
 obtain ⟨d2,ds,rfl,h⟩:=h
 replace h:=ecN h
 obtain ⟨rfl,h⟩:=h
 unfold Fp
 walk_at "rd"
 obtain ⟨a,b,c,e,⟨⟨V1,V2⟩,Ba,Bb,Bc,Be⟩,k⟩:=h
 obtain ⟨⟨p,q,rfl,P⟩,b0⟩:=V1
 obtain ⟨⟨r,s,rfl,S⟩,e0⟩:=V2
 walk_at "rd"
 refine ⟨(P.bp Ba).mul (S.bq Be),(S.bp Bc).mul (P.bq Bb),_,.refl _,?_⟩
 rw[show decide (p*s < r*q)=decide (a*e < c*b) from decide_eq_decide.mpr (RL P.q0 S.q0 b0 e0 P.e S.e)]
 exact k
def gv:FSp:=λds μ Q=>kcA ds λd1 ds=>kcN ds (∃ a b,(Vl d1 a b/\Bd b)/\Q (.int (a / b)) μ)
theorem va:∀ ds μ Q,gv ds μ Q->ds.length=1:=λ_ _ _ h=>lcA h λ_ _ h=>by rw[(ecN h).1];rfl
def qd:STr:=aW (aj mx (aj L3.rIx (ah 0) (TC (.int 0))) (aj L3.rIx (ah 0) (TC (.int 1))))
theorem xS:∀ ds μ Q,gv ds μ Q->qd { nx:=λ_ μ'=>RT Q .non μ',rt:=RT Q } (ini 1 ds) μ:=by
 intro ds μ Q h
 replace h:=ecA h
 obtain ⟨d1,ds,rfl,h⟩:=h
 replace h:=ecN h
 obtain ⟨rfl,h⟩:=h
 unfold qd
 walk_at "rd"
 obtain ⟨a,b,⟨⟨⟨p,q,rfl,P⟩,b0⟩,Bb⟩,k⟩:=h
 have q0:=P.q0
 walk_at "rd"
 rw[jQ q0,NN q0 b0 P.e]
 exact ⟨⟨by omega,(P.bq Bb).m⟩,_,.refl _,k⟩
def eN:FSp:=λds μ Q=>kcA ds λd1 ds=>kcI ds λg ds=>kcN ds (∃ a b,(Vl d1 a b/\Bd a/\Bd b/\0 < g/\g<=1000000)/\∀ z,Vl z (a*g / b) g->Q z μ)
theorem AV:∀ ds μ Q,eN ds μ Q->ds.length=2:=λ_ _ _ h=>lcA h λ_ _ h=>lcI h λ_ _ h=>by rw[(ecN h).1];rfl
def wN:STr:=aW (aq gw (af (aj mx (aj eJ (aj L3.rIx (ah 0) (TC (.int 0))) (ah 1)) (aj L3.rIx (ah 0) (TC (.int 1)))) (af (ah 1) (ar))))
theorem Dz:∀ ds μ Q,eN ds μ Q->wN { nx:=λ_ μ'=>RT Q .non μ',rt:=RT Q } (ini 2 ds) μ:=by
 intro ds μ Q h
 replace h:=ecA h
 obtain ⟨d1,ds,rfl,h⟩:=h
 replace h:=ecI h
 obtain ⟨g,ds,rfl,h⟩:=h
 replace h:=ecN h
 obtain ⟨rfl,h⟩:=h
 unfold wN
 walk_at "rd"
 obtain ⟨a,b,⟨⟨⟨p,q,rfl,P⟩,b0⟩,Ba,Bb,g0,g1⟩,k⟩:=h
 have q0:=P.q0
 walk_at "rd"
 rw[jQ q0,Nk g q0 b0 P.e]
 exact ⟨.inl (.inr (by unfold S64;omega)),⟨by omega,(P.bq Bb).m⟩,⟨by omega,by unfold fU;omega⟩,λx y Pt=>⟨_,.refl _,k _ (Ce Pt g0)⟩⟩
theorem Ja {xs:List D}{d:D}(h:xs[xs.length - 1]? = some d)(h0:xs≠[]):atD xs ((xs.length:Int) - 1)=some d:=by
 have:0 < xs.length:=List.length_pos_iff.mpr h0
 have e:((xs.length:Int) - 1)=((xs.length - 1:Nat):Int):=by omega
 rw[e,cv,h]
theorem RN.tup (R:RN)(hst:R.wd=.still->R.r=R.p/\R.s=R.q):∃ xs,R.toD=.tup xs/\xs[0]? = some (.str R.wd.str)/\xs[1]? = some (fr R.p R.q)/\xs[xs.length - 1]? = some (fr R.r R.s)/\xs≠[]:=by
 obtain ⟨wd,p,q,x,y,a,b,l,h,r,s⟩:=R
 cases wd
 ·obtain ⟨e1,e2⟩:=hst rfl
  dsimp only at e1 e2
  subst e1 e2
  exact ⟨_,rfl,rfl,rfl,rfl,nofun⟩
 all_goals exact ⟨_,rfl,rfl,rfl,rfl,nofun⟩
def ig:FSp:=λds μ Q=>kcA ds λd ds=>kcN ds (∃ R:RN,(R.Ok/\d=R.toD)/\Q (fr R.r R.s) μ)
theorem AJ:∀ ds μ Q,ig ds μ Q->ds.length=1:=λ_ _ _ h=>lcA h λ_ _ h=>by rw[(ecN h).1];rfl
def xV:STr:=aW (aj L3.rIx (ah 0) (aj kA (aq cS (af (ah 0) (ar))) (TC (.int 1))))
theorem DG:∀ ds μ Q,ig ds μ Q->xV { nx:=λ_ μ'=>RT Q .non μ',rt:=RT Q } (ini 1 ds) μ:=by
 intro ds μ Q h
 replace h:=ecA h
 obtain ⟨d,ds,rfl,h⟩:=h
 replace h:=ecN h
 obtain ⟨rfl,h⟩:=h
 unfold xV
 walk_at "rd"
 obtain ⟨R,⟨K,rfl⟩,k⟩:=h
 obtain ⟨xs,e,_,_,e3,e4⟩:=R.tup K.st
 rw[e]
 walk_at "rd"
 rw[Ja e3 e4]
 exact ⟨_,.refl _,k⟩
def iF:FSp:=λds μ Q=>kcA ds λd ds=>kcA ds λe ds=>kcN ds (∃ (R:RN) (h:Hd),(d=R.toD/\e=h.toD)/\Q (.bl (decide (R.idle h))) μ)
theorem yn:∀ ds μ Q,iF ds μ Q->ds.length=2:=λ_ _ _ h=>lcA h λ_ _ h=>lcA h λ_ _ h=>by rw[(ecN h).1];rfl
def tP:STr:=aW (FG (aj rEq (aj L3.rIx (ah 0) (TC (.int 0))) (TC (.str "still"))) (aj rEq (aj aT (aj aT (aj L3.rIx (ah 1) (TC (.int 0))) (aj L3.rIx (ah 1) (TC (.int 1)))) (aj L3.rIx (ah 1) (TC (.int 2)))) (TC (.int 0))))
theorem Bg:∀ ds μ Q,iF ds μ Q->tP { nx:=λ_ μ'=>RT Q .non μ',rt:=RT Q } (ini 2 ds) μ:=by
 intro ds μ Q h
 replace h:=ecA h
 obtain ⟨d,ds,rfl,h⟩:=h
 replace h:=ecA h
 obtain ⟨e,ds,rfl,h⟩:=h
 replace h:=ecN h
 obtain ⟨rfl,h⟩:=h
 unfold tP
 walk_at "rd"
 obtain ⟨R,h,⟨rfl,rfl⟩,k⟩:=h
 obtain ⟨wd,p,q,x,y,a,b,l,hh,r,s⟩:=R
 obtain ⟨good,mark,br,wt⟩:=h
 unfold RN.idle at k
 cases wd
 all_goals
  simp only[RN.toD,Hd.toD,fr]
  walk_at "rd"
  refine ⟨_,.refl _,?_⟩
  simpa using k
def Gd (g:Int):Prop:=1<=g/\g<=60
theorem Es {R:RN}{h:Hd}(H:h.Ok)(hn:¬ R.idle h):0 < h.many/\h.many<=3000000:=by
 have:=H.g0;have:=H.m0;have:=H.l0;have:=H.g1;have:=H.m1;have:=H.l1
 have:¬ (h.good+h.mark+h.br=0):=λz=>hn (.inr z)
 unfold Hd.many Hd.bad
 omega
theorem FrB.bd {lo hi p q:Int}(h:FrB lo hi p q)(l0:0<=lo)(h1:hi<=60):Le p 600000120/\Le q 10000002:=by
 have:=h.q0;have:=h.q1
 have e1:=h.ge;have e2:=h.le
 have a1:0<=lo*q:=Xi l0 (by omega)
 have a2:hi*q<=60*q:=U5 h1 (by omega)
 exact ⟨.of (by omega) (by omega),.of (by omega) (by omega)⟩
theorem Ae {R:RN}{g S:Int}{h:Hd}(hw:R.wd=.heed)(g0:0 < g)(Y:0 < R.b*h.many):(S*(R.b*(h.many*g))+R.a*(h.bad*g - S*h.many)*g)*g / (g*(R.b*(h.many*g)))=R.shr g S h:=by
 unfold RN.shr
 rw[if_pos hw]
 have e1:(S*(R.b*(h.many*g))+R.a*(h.bad*g - S*h.many)*g)*g=(S*R.b*h.many+R.a*(h.bad*g - S*h.many))*(g*g):=by
  rw[zaD,zaD];congr 1<;>ac_rfl
 have e2:g*(R.b*(h.many*g))=(R.b*h.many)*(g*g):=by ac_rfl
 rw[e1,e2]
 exact Wn _ _ (Wr g0 g0)
def dJ:FSp:=λds μ Q=>kcA ds λd ds=>kcI ds λg ds=>kcA ds λsd ds=>kcA ds λe ds=>kcN ds (∃ (R:RN) (S:Int) (h:Hd),((d=R.toD/\e=h.toD)/\R.Ok/\h.Ok/\Gd g/\Vl sd S g/\(0<=S/\S<=g)/\¬ R.idle h)/\∀ z,Vl z (R.shr g S h) g->Q z μ)
theorem l8:∀ ds μ Q,dJ ds μ Q->ds.length=4:=λ_ _ _ h=>lcA h λ_ _ h=>lcI h λ_ _ h=>lcA h λ_ _ h=>lcA h λ_ _ h=>by rw[(ecN h).1];rfl
def ju:STr:=aB (bK (TB (aj rNe (aj L3.rIx (ah 0) (TC (.int 0))) (TC (.str "heed")))) (aW (ah 2)) (a8)) (aB (aN (aj aT (aj L3.rIx (ah 3) (TC (.int 1))) (aj L3.rIx (ah 3) (TC (.int 2)))) (aw 4)) (aB (aN (aq gZ (af (aj L3.rIx (ah 0) (TC (.int 3))) (af (aq gX (af (aq gw (af (ah 4) (af (aj aT (aj L3.rIx (ah 3) (TC (.int 0))) (ah 4)) (ar)))) (af (ah 2) (ar)))) (ar)))) (aw 5)) (aW (aq eN (af (aq jV (af (ah 2) (af (ah 5) (ar)))) (af (ah 1) (ar)))))))
theorem oo:∀ ds μ Q,dJ ds μ Q->ju { nx:=λ_ μ'=>RT Q .non μ',rt:=RT Q } (ini 6 ds) μ:=by
 intro ds μ Q h
 replace h:=ecA h
 obtain ⟨d,ds,rfl,h⟩:=h
 replace h:=ecI h
 obtain ⟨g,ds,rfl,h⟩:=h
 replace h:=ecA h
 obtain ⟨sd,ds,rfl,h⟩:=h
 replace h:=ecA h
 obtain ⟨e,ds,rfl,h⟩:=h
 replace h:=ecN h
 obtain ⟨rfl,h⟩:=h
 unfold ju
 walk_at "rd"
 obtain ⟨R,S,h,⟨⟨rfl,rfl⟩,K,H,⟨g0,g1⟩,VS,⟨S0,S1⟩,hn⟩,k⟩:=h
 obtain ⟨m0,m1⟩:=Es H hn
 have hb0:=H.m0;have hb1:=H.m1;have hc0:=H.l0;have hc1:=H.l1;have hg0:=H.g0;have hg1:=H.g1
 have GB:=K.g.toFrB.bd (by decide) (by decide)
 have gp:=K.g.q0
 obtain ⟨wd,p,q,x,y,a,b,l,hh,r,s⟩:=R
 cases wd
 case heed=>
  have sh:=λY=>Ae (R:=⟨.heed,p,q,x,y,a,b,l,hh,r,s⟩) (g:=g) (S:=S) (h:=h) rfl (by omega) Y
  have k':=k
  generalize RN.shr ⟨.heed,p,q,x,y,a,b,l,hh,r,s⟩ g S h=Z at sh k'
  dsimp only at sh GB gp
  obtain ⟨good,mark,br,wt⟩:=h
  simp only[Hd.many,Hd.bad] at sh m0 m1
  dsimp only at m0 m1 hb0 hb1 hc0 hc1 hg0 hg1
  simp only[RN.toD,Hd.toD,fr]
  walk_at "rd"
  have L1:Le (mark+br) 2000000:=.of (by omega) (by omega)
  have L2:Le (good+(mark+br)) 3000000:=.of (by omega) (by omega)
  have LS:Le S 60:=.of S0 (by omega)
  have Lg:Le g 60:=.of (by omega) g1
  have e1:=L1.mul Lg
  have e2:=LS.mul L2
  have e3:=L2.mul Lg
  have e4:=e1.sub e2
  have e5:=GB.1.mul e4
  have e6:=GB.2.mul e3
  have mg:0 < (good+(mark+br))*g:=Wr m0 (by omega)
  refine ⟨⟨by omega,Bd.m (L2.mono (by decide))⟩,λu v Pt=>⟨_,_,_,_,⟨⟨Ce Pt m0,VS⟩,L1.mono (by decide),L2.mono (by decide),LS.mono (by decide),Lg.mono (by decide)⟩,λz1 V1=>?_⟩⟩
  refine ⟨a,b,_,_,⟨⟨iL K.g.toFrB,V1⟩,GB.1.mono (by decide),GB.2.mono (by decide),e4.mono (by decide),e3.mono (by decide)⟩,λz2 V2=>?_⟩
  walk_at "rd"
  refine ⟨_,_,_,_,⟨⟨VS,V2⟩,LS.mono (by decide),Lg.mono (by decide),e5.mono (by decide),e6.mono (by decide)⟩,λz3 V3=>?_⟩
  refine ⟨_,_,⟨V3,((LS.mul e6).add (e5.mul Lg)).mono (by decide),(Lg.mul e6).mono (by decide),by omega,by omega⟩,λz V=>⟨_,.refl _,k' z ?_⟩⟩
  rw[sh (Wr gp m0)] at V
  exact V
 all_goals
  simp only[RN.toD,Hd.toD,fr]
  walk_at "rd"
  refine ⟨_,.refl _,k _ ?_⟩
  exact VS
def fD:FSp:=λds μ Q=>kcA ds λd ds=>kcA ds λsd ds=>kcA ds λe ds=>kcN ds (∃ (R:RN) (g S:Int) (h:Hd),((d=R.toD/\e=h.toD)/\R.Ok/\h.Ok/\Gd g/\Vl sd S g/\(0<=S/\S<=g)/\¬ R.idle h)/\(R.fac g S h=none->Q .non μ)/\∀ f,R.fac g S h=some f->∀ z,Vl z f.1 f.2->Q z μ)
theorem rS:∀ ds μ Q,fD ds μ Q->ds.length=3:=λ_ _ _ h=>lcA h λ_ _ h=>lcA h λ_ _ h=>lcA h λ_ _ h=>by rw[(ecN h).1];rfl
def nr:STr:=aB (bK (TB (aj rEq (aj L3.rIx (ah 0) (TC (.int 0))) (TC (.str "calm")))) (aW (lA (TB (aj rGt (aj L3.rIx (ah 2) (TC (.int 2))) (TC (.int 0)))) (TC (.tup [.int 1,.int 2])) (TC .non))) (a8)) (aB (bK (TB (aj rEq (aj aT (aj L3.rIx (ah 2) (TC (.int 1))) (aj L3.rIx (ah 2) (TC (.int 2)))) (TC (.int 0)))) (aW (lA (TB (aj rEq (aj L3.rIx (ah 0) (TC (.int 0))) (TC (.str "swell")))) (aj L3.rIx (ah 0) (TC (.int 2))) (TC .non))) (a8)) (aB (bK (TB (aj rEq (aj L3.rIx (ah 0) (TC (.int 0))) (TC (.str "heed")))) (aW (aq gX (af (TC (.tup [.int 1,.int 1])) (af (aq gZ (af (TC (.tup [.int 1,.int 2])) (af (ah 1) (ar)))) (ar))))) (a8)) (aW (aj L3.rIx (ah 0) (TC (.int 3))))))
theorem uY:∀ ds μ Q,fD ds μ Q->nr { nx:=λ_ μ'=>RT Q .non μ',rt:=RT Q } (ini 3 ds) μ:=by
 intro ds μ Q h
 replace h:=ecA h
 obtain ⟨d,ds,rfl,h⟩:=h
 replace h:=ecA h
 obtain ⟨sd,ds,rfl,h⟩:=h
 replace h:=ecA h
 obtain ⟨e,ds,rfl,h⟩:=h
 replace h:=ecN h
 obtain ⟨rfl,h⟩:=h
 unfold nr
 walk_at "rd"
 obtain ⟨R,g,S,h,⟨⟨rfl,rfl⟩,K,H,⟨g0,g1⟩,VS,⟨S0,S1⟩,hn⟩,k1,k2⟩:=h
 have hb0:=H.m0;have hb1:=H.m1;have hc0:=H.l0;have hc1:=H.l1;have hg0:=H.g0;have hg1:=H.g1
 have VG:=iL K.g.toFrB
 have VU:=iL K.u.toFrB
 have LS:Le S 60:=.of S0 (by omega)
 have Lg:Le g 60:=.of (by omega) g1
 have V12:Vl (fr 1 2) 1 2:=iL (lo:=0) (hi:=1) ⟨by decide,by decide,by decide,by decide,by decide⟩
 have V11:Vl (fr 1 1) 1 1:=iL (Gr (lo:=0) (hi:=1) (by decide) (by decide)).toFrB
 obtain ⟨wd,p,q,x,y,a,b,l,hh,r,s⟩:=R
 obtain ⟨good,mark,br,wt⟩:=h
 dsimp only at hb0 hb1 hc0 hc1 hg0 hg1 VG VU
 simp only[RN.fac,Hd.bad] at k1 k2
 cases wd
 case still=>exact absurd (Yt rfl) hn
 case calm=>
  simp only[RN.toD,Hd.toD,fr]
  walk_at "rd"
  split
  ·rename_i hl
   exact ⟨_,.refl _,k2 (1,2) (if_pos hl) _ V12⟩
  ·rename_i hl
   exact ⟨_,.refl _,k1 (if_neg hl)⟩
 case heed=>
  simp only[RN.toD,Hd.toD,fr]
  walk_at "rd"
  split
  ·rename_i hl
   exact ⟨_,.refl _,k1 (if_pos hl)⟩
  ·rename_i hl
   refine ⟨1,2,S,g,⟨⟨V12,VS⟩,.of (by decide) (by decide),.of (by decide) (by decide),LS.mono (by decide),Lg.mono (by decide)⟩,λz1 V1=>?_⟩
   refine ⟨1,1,_,_,⟨⟨V11,V1⟩,.of (by decide) (by decide),.of (by decide) (by decide),?_,?_⟩,λz2 V2=>⟨_,.refl _,k2 (2*g - S,2*g) (if_neg hl) _ ?_⟩⟩
   ·rw[zaC];exact LS.mono (by decide)
   ·exact .of (by omega) (by omega)
   ·simpa using V2
 case step=>
  simp only[RN.toD,Hd.toD,fr]
  walk_at "rd"
  split
  ·rename_i hl
   exact ⟨_,.refl _,k1 (if_pos hl)⟩
  ·rename_i hl
   exact ⟨_,.refl _,k2 (a,b) (if_neg hl) _ VG⟩
 case swell=>
  simp only[RN.toD,Hd.toD,fr]
  walk_at "rd"
  split
  ·rename_i hl
   exact ⟨_,.refl _,k2 (x,y) (if_pos hl) _ VU⟩
  ·rename_i hl
   exact ⟨_,.refl _,k2 (a,b) (if_neg hl) _ VG⟩
def lY:FSp:=λds μ Q=>kcA ds λd ds=>kcA ds λwd ds=>kcA ds λe ds=>kcN ds (∃ (R:RN) (g W:Int) (h:Hd),((d=R.toD/\e=h.toD)/\R.Ok/\Gd g/\Vl wd W g/\Le W 1000000/\¬ R.idle h)/\∀ z,Vl z (R.mvd g W h) (g*R.y)->Q z μ)
theorem CT:∀ ds μ Q,lY ds μ Q->ds.length=3:=λ_ _ _ h=>lcA h λ_ _ h=>lcA h λ_ _ h=>lcA h λ_ _ h=>by rw[(ecN h).1];rfl
def Cb:STr:=aB (bK (TOr (TB (aj rNe (aj L3.rIx (ah 0) (TC (.int 0))) (TC (.str "calm")))) (TB (aj rLt (aj L3.rIx (ah 2) (TC (.int 3))) (aj L3.rIx (ah 0) (TC (.int 3)))))) (aW (aq jV (af (ah 1) (af (aj L3.rIx (ah 0) (TC (.int 2))) (ar))))) (a8)) (aB (bK (TB (aj rGt (aj L3.rIx (ah 2) (TC (.int 3))) (aj L3.rIx (ah 0) (TC (.int 4))))) (aW (aq gX (af (ah 1) (af (aj L3.rIx (ah 0) (TC (.int 2))) (ar))))) (a8)) (aW (ah 1)))
theorem Hx:∀ ds μ Q,lY ds μ Q->Cb { nx:=λ_ μ'=>RT Q .non μ',rt:=RT Q } (ini 3 ds) μ:=by
 intro ds μ Q h
 replace h:=ecA h
 obtain ⟨d,ds,rfl,h⟩:=h
 replace h:=ecA h
 obtain ⟨wd,ds,rfl,h⟩:=h
 replace h:=ecA h
 obtain ⟨e,ds,rfl,h⟩:=h
 replace h:=ecN h
 obtain ⟨rfl,h⟩:=h
 unfold Cb
 walk_at "rd"
 obtain ⟨R,g,W,h,⟨⟨rfl,rfl⟩,K,⟨g0,g1⟩,VW,LW,hn⟩,k⟩:=h
 have VU:=iL K.u.toFrB
 have UB:=K.u.toFrB.bd (by decide) (by decide)
 have y0:=K.u.q0
 have Lg:Le g 60:=.of (by omega) g1
 obtain ⟨wd',p,q,x,y,a,b,l,hh,r,s⟩:=R
 obtain ⟨good,mark,br,wt⟩:=h
 dsimp only at VU UB y0
 simp only[RN.mvd] at k
 have up:∀ Q':DK,(∀ z,Vl z (W*y+g*x) (g*y)->Q' z μ)->jV [wd,fr x y] μ Q':=λQ' kk=>
  ⟨W,g,x,y,⟨⟨VW,VU⟩,LW.mono (by decide),Lg.mono (by decide),UB.1.mono (by decide),UB.2.mono (by decide)⟩,λz V=>kk z (by rw[Wm g x];exact V)⟩
 cases wd'
 case still=>exact absurd (Yt rfl) hn
 case calm=>
  simp only[if_true] at k
  simp only[RN.toD,Hd.toD,fr]
  walk_at "rd"
  split
  ·rename_i hl
   rw[if_pos hl] at k
   exact up _ λz V=>⟨_,.refl _,k z V⟩
  ·rename_i hl
   rw[if_neg hl] at k
   split
   ·rename_i hm
    rw[if_pos hm] at k
    exact ⟨W,g,x,y,⟨⟨VW,VU⟩,LW.mono (by decide),Lg.mono (by decide),UB.1.mono (by decide),UB.2.mono (by decide)⟩,λz V=>⟨_,.refl _,k z (by rw[Wm g x];exact V)⟩⟩
   ·rename_i hm
    rw[if_neg hm] at k
    exact ⟨_,.refl _,k _ (VW.of_eq (Wr (by omega) y0) (by ac_rfl))⟩
 all_goals
  simp only[reduceCtorEq,if_false] at k
  simp only[RN.toD,Hd.toD,fr]
  walk_at "rd"
  exact up _ λz V=>⟨_,.refl _,k z V⟩
def lu:FSp:=λds μ Q=>kcA ds λd ds=>kcI ds λg ds=>kcA ds λwd ds=>kcN ds (∃ (R:RN) (N M:Int),(d=R.toD/\R.Ok/\Gd g/\Vl wd N M/\Bd N/\Bd M)/\∀ z,Vl z (R.clip g (N*g / M)) g->Q z μ)
theorem Je:∀ ds μ Q,lu ds μ Q->ds.length=3:=λ_ _ _ h=>lcA h λ_ _ h=>lcI h λ_ _ h=>lcA h λ_ _ h=>by rw[(ecN h).1];rfl
def HQ:STr:=aB (bK (TB (aq lC (af (ah 2) (af (TC (.tup [.int 1,.int 1])) (ar))))) (aW (TC (.tup [.int 1,.int 1]))) (a8)) (aB (bK (TB (aq lC (af (aq ig (af (ah 0) (ar))) (af (ah 2) (ar))))) (aW (aq eN (af (aq ig (af (ah 0) (ar))) (af (ah 1) (ar))))) (a8)) (aW (aq eN (af (ah 2) (af (ah 1) (ar))))))
theorem Mv:∀ ds μ Q,lu ds μ Q->HQ { nx:=λ_ μ'=>RT Q .non μ',rt:=RT Q } (ini 3 ds) μ:=by
 intro ds μ Q h
 replace h:=ecA h
 obtain ⟨d,ds,rfl,h⟩:=h
 replace h:=ecI h
 obtain ⟨g,ds,rfl,h⟩:=h
 replace h:=ecA h
 obtain ⟨wd,ds,rfl,h⟩:=h
 replace h:=ecN h
 obtain ⟨rfl,h⟩:=h
 unfold HQ
 walk_at "rd"
 obtain ⟨R,N,M,⟨rfl,K,⟨g0,g1⟩,V,BN,BM⟩,k⟩:=h
 have M0:=V.b0
 have V11:Vl (fr 1 1) 1 1:=iL (Gr (lo:=0) (hi:=1) (by decide) (by decide)).toFrB
 have TB:=K.t.bd (by decide) (by decide)
 have VT:=iL K.t
 have s0:=K.t.q0
 have cg:=ES K (g:=g) (by omega)
 refine ⟨N,M,1,1,⟨⟨V,V11⟩,BN,BM,.of (by decide) (by decide),.of (by decide) (by decide)⟩,?_⟩
 walk_at "rd"
 rw[Int.mul_one,zaC]
 have key:∀ z,Vl z (R.clip g (N*g / M)) g->RT Q z μ:=λz V=>⟨_,.refl _,k z V⟩
 unfold RN.clip at key
 split
 ·rename_i hl
  have f:N*g / M < g:=by
   rw[Int.ediv_lt_iff_lt_mul M0,Wm g M]
   exact Xz hl (by omega)
  rw[show min (max (N*g / M) g) (R.cap g)=g by omega] at key
  exact key _ (V11.of_eq (by omega) (by omega))
 ·rename_i hl
  refine ⟨R,⟨K,rfl⟩,R.r,R.s,N,M,⟨⟨VT,V⟩,TB.1.mono (by decide),TB.2.mono (by decide),BN,BM⟩,?_⟩
  walk_at "rd"
  have f1:g<=N*g / M:=by
   rw[WA M0,Wm g M]
   exact U5 (by omega) (by omega)
  split
  ·rename_i ht
   have f2:R.cap g<=N*g / M:=by
    unfold RN.cap
    rw[WA M0]
    have d:=zak (R.r*g) (show R.s≠0 by omega)
    have e1:R.r*g / R.s*M*R.s<=N*g*R.s:=by
     calc R.r*g / R.s*M*R.s=(R.r*g / R.s*R.s)*M:=by ac_rfl
      _<=(R.r*g)*M:=U5 d (by omega)
      _=(R.r*M)*g:=by ac_rfl
      _<=(N*R.s)*g:=U5 (by omega) (by omega)
      _=N*g*R.s:=by ac_rfl
    exact XJ e1 s0
   rw[show min (max (N*g / M) g) (R.cap g)=R.cap g by omega] at key
   exact ⟨R,⟨K,rfl⟩,R.r,R.s,⟨VT,TB.1.mono (by decide),TB.2.mono (by decide),by omega,by omega⟩,λz V=>key z V⟩
  ·rename_i ht
   have f2:N*g / M<=R.cap g:=by
    unfold RN.cap
    rw[WA s0]
    have d:=zak (N*g) (show M≠0 by omega)
    have e1:N*g / M*R.s*M<=R.r*g*M:=by
     calc N*g / M*R.s*M=(N*g / M*M)*R.s:=by ac_rfl
      _<=(N*g)*R.s:=U5 d (by omega)
      _=(N*R.s)*g:=by ac_rfl
      _<=(R.r*M)*g:=U5 (by omega) (by omega)
      _=R.r*g*M:=by ac_rfl
    exact XJ e1 M0
   rw[show min (max (N*g / M) g) (R.cap g)=N*g / M by omega] at key
   exact ⟨N,M,⟨V,BN,BM,by omega,by omega⟩,λz V=>key z V⟩
theorem RN.OD {R:RN}(K:R.Ok){g S:Int}{h:Hd}(G:Gd g)(S0:0<=S)(S1:S<=g){f:Int×Int}(e:R.fac g S h=some f):0 < f.1/\0 < f.2/\Le f.1 600000120/\Le f.2 10000002:=by
 obtain ⟨g0,g1⟩:=G
 have UB:=K.u.toFrB.bd (by decide) (by decide)
 have GB:=K.g.toFrB.bd (by decide) (by decide)
 have h1:=K.u.q0;have h2:=K.u.ab;have h3:=K.g.q0;have h4:=K.g.ab
 unfold RN.fac at e
 split at e
 ·cases e
 ·split at e
  ·cases e;exact ⟨by decide,by decide,.of (by decide) (by decide),.of (by decide) (by decide)⟩
  ·cases e
 ·split at e
  ·cases e
  ·cases e;exact ⟨by show 0 < 2*g - S;omega,by show 0 < 2*g;omega,.of (by show 0<=2*g - S;omega) (by show 2*g - S<=_;omega),.of (by show 0<=2*g;omega) (by show 2*g<=_;omega)⟩
 ·split at e
  ·cases e;exact ⟨by show 0 < R.x;omega,h1,UB.1,UB.2⟩
  ·cases e;exact ⟨by show 0 < R.a;omega,h3,GB.1,GB.2⟩
 ·split at e
  ·cases e
  ·cases e;exact ⟨by show 0 < R.a;omega,h3,GB.1,GB.2⟩
theorem RN.Oc {R:RN}(K:R.Ok){g W:Int}{h:Hd}(G:Gd g)(L:Le W 1000000):Bd (R.mvd g W h):=by
 obtain ⟨g0,g1⟩:=G
 have UB:=K.u.toFrB.bd (by decide) (by decide)
 have Lg:Le g 60:=.of (by omega) g1
 have e1:=L.mul UB.2
 have e2:=Lg.mul UB.1
 unfold RN.mvd
 split
 ·split
  ·exact (e1.add e2).mono (by decide)
  ·split
   ·exact (e1.sub e2).mono (by decide)
   ·exact e1.mono (by decide)
 ·exact (e1.add e2).mono (by decide)
def gA:FSp:=λds μ Q=>kcA ds λd ds=>kcI ds λg ds=>kcA ds λwd ds=>kcA ds λsd ds=>kcA ds λe ds=>kcN ds (∃ (R:RN) (W S:Int) (h:Hd),((d=R.toD/\e=h.toD)/\R.Ok/\h.Ok/\Gd g/\(Vl wd W g/\Le W 1000000)/\Vl sd S g/\(0<=S/\S<=g))/\∀ w z,Vl w (R.beh g W S h).1 g->Vl z (R.beh g W S h).2 g->Q (.tup [w,z]) μ)
theorem ua:∀ ds μ Q,gA ds μ Q->ds.length=5:=λ_ _ _ h=>lcA h λ_ _ h=>lcI h λ_ _ h=>lcA h λ_ _ h=>lcA h λ_ _ h=>lcA h λ_ _ h=>by rw[(ecN h).1];rfl
def rf:STr:=aB (bK (TB (aq iF (af (ah 0) (af (ah 4) (ar))))) (aW (bf (af (ah 2) (af (ah 3) (ar))))) (a8)) (aB (aN (aq dJ (af (ah 0) (af (ah 1) (af (ah 3) (af (ah 4) (ar)))))) (aw 5)) (aB (aN (aq fD (af (ah 0) (af (ah 5) (af (ah 4) (ar))))) (aw 6)) (aB (bK (TB (aj rIs (ah 6) (TC .non))) (aW (bf (af (aq lu (af (ah 0) (af (ah 1) (af (aq lY (af (ah 0) (af (ah 2) (af (ah 4) (ar))))) (ar))))) (af (ah 5) (ar))))) (a8)) (aW (bf (af (aq lu (af (ah 0) (af (ah 1) (af (aq gZ (af (ah 2) (af (ah 6) (ar)))) (ar))))) (af (ah 5) (ar))))))))
theorem yd:∀ ds μ Q,gA ds μ Q->rf { nx:=λ_ μ'=>RT Q .non μ',rt:=RT Q } (ini 7 ds) μ:=by
 intro ds μ Q h
 replace h:=ecA h
 obtain ⟨d,ds,rfl,h⟩:=h
 replace h:=ecI h
 obtain ⟨g,ds,rfl,h⟩:=h
 replace h:=ecA h
 obtain ⟨wd,ds,rfl,h⟩:=h
 replace h:=ecA h
 obtain ⟨sd,ds,rfl,h⟩:=h
 replace h:=ecA h
 obtain ⟨e,ds,rfl,h⟩:=h
 replace h:=ecN h
 obtain ⟨rfl,h⟩:=h
 unfold rf
 walk_at "rd"
 obtain ⟨R,W,S,h,⟨⟨rfl,rfl⟩,K,H,G,⟨VW,LW⟩,VS,S0,S1⟩,k⟩:=h
 have g0:=G.1
 have g1:=G.2
 have Lg:Le g 60:=.of (by omega) g1
 refine ⟨R,h,⟨rfl,rfl⟩,?_⟩
 walk_at "rd"
 unfold RN.beh at k
 split
 ·rename_i hi
  rw[if_pos hi] at k
  exact ⟨_,.refl _,k _ _ VW VS⟩
 ·rename_i hi
  rw[if_neg hi] at k
  refine ⟨R,S,h,⟨⟨rfl,rfl⟩,K,H,G,VS,⟨S0,S1⟩,hi⟩,λz VZ=>?_⟩
  walk_at "rd"
  have sin:=Jg K H hi (by omega) S0 S1
  unfold RN.mv at k
  refine ⟨R,g,_,h,⟨⟨rfl,rfl⟩,K,H,G,VZ,sin,hi⟩,λhf=>?_,λf hf v VF=>?_⟩
  ·rw[hf] at k
   walk_at "rd"
   have y0:=K.u.q0
   refine ⟨R,g,W,h,⟨⟨rfl,rfl⟩,K,G,VW,LW,hi⟩,λw Vw=>?_⟩
   refine ⟨R,_,_,⟨rfl,K,G,Vw,RN.Oc K G LW,?_⟩,λw2 Vw2=>?_⟩
   ·exact (Lg.mul (K.u.toFrB.bd (by decide) (by decide)).2).mono (by decide)
   ·walk_at "rd"
    refine ⟨_,.refl _,k _ _ ?_ VZ⟩
    rw[show R.mvd g W h*g / (g*R.y)=R.mvd g W h / R.y by rw[Wm g R.y];exact Wn _ _ (by omega)] at Vw2
    exact Vw2
  ·rw[hf] at k
   obtain ⟨f1,f2,F1,F2⟩:=RN.OD K G sin.1 sin.2 hf
   obtain ⟨⟨p,q,rfl,P⟩,b0⟩:=id VF
   walk_at "rd"
   refine ⟨W,g,f.1,f.2,⟨⟨VW,VF⟩,LW.mono (by decide),Lg.mono (by decide),F1.mono (by decide),F2.mono (by decide)⟩,λw Vw=>?_⟩
   refine ⟨R,_,_,⟨rfl,K,G,Vw,(LW.mul F1).mono (by decide),(Lg.mul F2).mono (by decide)⟩,λw2 Vw2=>?_⟩
   walk_at "rd"
   refine ⟨_,.refl _,k _ _ ?_ VZ⟩
   rw[show W*f.1*g / (g*f.2)=W*f.1 / f.2 by rw[Wm g f.2];exact Wn _ _ (by omega)] at Vw2
   exact Vw2
def SG:=Jn @O1 <| Jn @KC <| Jn @NJ <| Jn @LR <| Jn @Qi <| Jn @J8 <| Jn @Qo <| Jn @Mr <| Jn @Oi <| Jn @Ld <| Jn @Po <| Jn @Ln <| Jn @Qb <| Jn @J1 <| Jn @Ob <| Jn @KA <| Jn @O8 <| Jn @Kf <| Jn @Om <| Jn @KR <| Jn @KU <| Jn @Gv <| Jn @Mj <| Jn @Ih <| Jn @L5 <| Jn @EI <| Jn @Fl <| Jn @KW <| Jn @GU <| Jn @Lq <| Jn @F7 <| Jn @S3 <| Jn @OH <| Jn @RJ <| Jn @L9 <| Jn @J9 <| Jn @TJ <| Jn @O7 <| Jn @R5 <| Jn @Nx <| Jn @Qs <| Jn @N0 <| Jn @Mg <| Jn @NP <| Jn @OB <| Jn @O3 <| Jn @Jj <| Jn @Lh <| Jn @PZ <| Jn @LH <| Jn @Py <| Jn @OK <| Jn @Oa <| Jn @OC <| Jn @PV <| Jn @DU <| Jn @NG <| Jn @NM <| Jn @RG <| Jn @Q4 <| Jn @Pe <| Jn @Pw <| Jn @Ow <| Jn @RR <| Jn @Rv <| Jn @Ra <| Jn @QV <| Jn @SD <| Jn @Rn <| Jn @R9 <| Jn @RU <| Jn @PC <| Jn @PN <| Jn @Oh <| Jn @NF <| Jn @PX <| Jn @La <| Jn @Kg <| Jn @Lp <| Jn @GR <| Jn @CQ <| Jn @FH <| Jn @MG <| Jn @Fs <| Jn @CS <| Jn @CL <| Jn @Ds <| Jn @Ed <| Jn @DJ <| Jn @EG <| Jn @GC <| Jn @Fb <| Jn @Gx <| Jn @EB <| Jn @KL <| Jn @Jk <| Jn @JP <| Jn @J3 <| Jn @J2 <| Jn @JM <| Jn @K9 <| Jn @Pk <| Jn @OO <| Jn @OQ <| Jn @QJ <| Jn @N4 <| Jn @Qk <| Jn @Qr <| Jn @Hy <| Jn @ET <| Jn @FW <| Jn @G9 <| Jn @Ge <| Jn @QD <| @Qu
def Bm:=Jn @mI <| Jn @pT <| Jn @me <| Jn @rK <| @oX
local macro_rules | `(tactic| walk_at "go")=>zzS "↓L3.SG L3.Bm ↓L3.iz ↓L3.gR L3.bR L3.bD L3.bO L3.bU L3.bM L3.bS L3.cA L3.ck L3.bC L3.bW L3.bX L3.bP L3.bQ L3.cq L3.bT L3.cy L3.bL L3.cu L3.bV L3.cz L3.gj L3.Aj L3.zK L3.wx L3.y3 L3.Ap L3.fg L3.rJ L3.kG L3.rj L3.rg L3.kz L3.ky L3.iU L3.iQ L3.iM L3.iJ true_and and_true and_self Bool.not_true Bool.not_false decide_true decide_false Bool.or_true Bool.or_false Bool.true_or Bool.false_or Bool.and_false Bool.false_and Bool.and_true Bool.true_and Int.reduceToNat Int.reducePow Int.reduceNeg Int.reduceSub Int.reduceAdd Int.reduceMul Int.reduceEq Int.reduceLT Int.reduceLE Int.reduceBEq L3.fQ L3.eQ L3.eU L3.eS L3.fb L3.eR L3.eZ L3.eP if_true if_false Bool.false_eq_true reduceCtorEq decide_eq_true_eq"
local macro_rules | `(tactic| walk_at "ini")=>`(tactic| simp only[ini,List.map,List.length,List.replicate,Nat.reduceSub,Nat.reduceAdd,Nat.sub_self,List.cons_append,List.nil_append,List.append_nil])
theorem eL {xs:List D}{P:D->Prop}(h:∀ d∈xs,P d){k:Int}(k0:0<=k)(k1:k < xs.length):∃ d,atD xs k=some d/\P d:=by
 obtain ⟨j,rfl⟩:=Yj k0
 rw[cv]
 have hj:j < xs.length:=by omega
 exact ⟨xs[j],by simp[hj],h _ (WH hj)⟩
def IsL (hi:Int)(d:D):Prop:=∃ p q,d=fr p q/\FrL hi p q
def IsI (lo hi:Int)(d:D):Prop:=∃ i:Int,d=.int i/\lo<=i/\i<=hi
theorem ef {P:D->Prop}:∀ d∈([]:List D),P d:=λ_ h=>nomatch h
theorem aD {P:D->Prop}{a:D}{xs:List D}(h:P a)(k:∀ d∈xs,P d):∀ d∈a::xs,P d:=λd hd=>by
 rcases UZ.mp hd with e | e
 ·rw[e];exact h
 ·exact k d e
local macro_rules | `(tactic| walk_at "all")=>`(tactic| repeat' (first | exact ef | refine aD ?_ ?_))
structure nV (b p:Addr) (xs:List D) (μ μ':Mu):Prop where
 box:Box μ' b
 ne:p≠b
 new:μ p=none
 at':μ' p=some (.lst xs)
 oth:∀ a,a≠b->a≠p->μ' a=μ a
theorem nV.mk' {b p:Addr}{xs:List D}{μ:Mu}(hB:Box μ b)(hp:μ p=none):nV b p xs μ (up μ p (.lst xs)):=by
 have ne:p≠b:=λz=>by subst z;obtain ⟨_,_,_,e,_⟩:=hB;rw[hp] at e;cases e
 obtain ⟨g,s,c,e,h⟩:=hB
 exact ⟨⟨g,s,c,by rw[aU ne.symm];exact e,h⟩,ne,hp,aF,λa _ h=>aU h⟩
theorem nV.go {b p:Addr}{xs:List D}{μ μ1 μ2:Mu}(h:nV b p xs μ μ1)(B:pD b μ1 μ2):nV b p xs μ μ2:=
 ⟨B.box,h.ne,h.new,by rw[B.oth p h.ne];exact h.at',λa h1 h2=>by rw[B.oth a h1];exact h.oth a h1 h2⟩
theorem nV.set {b p:Addr}{xs ys:List D}{μ μ1:Mu}(h:nV b p xs μ μ1):nV b p ys μ (up μ1 p (.lst ys)):=by
 obtain ⟨g,s,c,e,hh⟩:=h.box
 exact ⟨⟨g,s,c,by rw[aU h.ne.symm];exact e,hh⟩,h.ne,h.new,aF,λa h1 h2=>by rw[aU h2];exact h.oth a h1 h2⟩
theorem QM (μ:Mu)(p:Addr):Sub (dn μ p) μ:=λa o e=>by
 unfold dn at e
 split at e
 ·cases e
 ·exact e
theorem nV.fin {b p:Addr}{xs:List D}{μ μ1:Mu}(h:nV b p xs μ μ1):pD b μ (dn μ1 p):=by
 obtain ⟨g,s,c,e,hh⟩:=h.box
 refine ⟨⟨g,s,c,?_,hh⟩,λa ha=>?_⟩
 ·unfold dn;rw[if_neg h.ne.symm];exact e
 ·unfold dn
  split
  ·rename_i z;subst z;exact h.new.symm
  ·rename_i z;exact h.oth a ha z
theorem nV.rt {b p:Addr}{xs:List D}{μ μ1:Mu}{Q:DK}{d:D}(h:nV b p xs μ μ1)(k:∀ μ',pD b μ μ'->Q d μ'):RT Q d μ1:=⟨_,QM μ1 p,k _ h.fin⟩
abbrev mL (hs:List Hd):List D:=hs.map Hd.toD
theorem j6 {p:Addr}{G:GTr}{tt:TTr}{te:ETr}{ρc:ST}{K:Mu->Prop}(P:List D->Mu->Prop)(hnil:∀ μ,P [] μ->K μ)
  (hcons:∀ d r μ (N:Mu->Prop),P (d::r) μ->(∀ μ',P r μ'->N μ')->G d ρc μ λρ1 μ1=>tt ρ1 μ1 λb μ2=>kIf b (te ρ1 μ2 λy μ3=>kL μ3 p λzs=>zs.length < 1000000/\N (up μ3 p (.lst (zs++[y])))) (N μ2)) :
  ∀ (ds:List D) (μ:Mu),P ds μ->fo p G tt te ρc K ds μ
 | [],μ,h=>hnil μ h
 | d::r,μ,h=>hcons d r μ _ h λμ' q=>j6 P hnil hcons r μ' q
theorem tM (d0:D)(r:List D)(f:D->Prop):kO (atD (d0::r) 0) f=f d0:=by rw[xx];rfl
theorem t7 (d0 d1:D)(r:List D)(f:D->Prop):kO (atD (d0::d1::r) 1) f=f d1:=by rw[xY];rfl
theorem tf (d0 d1 d2:D)(r:List D)(f:D->Prop):kO (atD (d0::d1::d2::r) 2) f=f d2:=by rw[CH];rfl
theorem tm (d0 d1 d2 d3:D)(r:List D)(f:D->Prop):kO (atD (d0::d1::d2::d3::r) 3) f=f d3:=by rw[Cg];rfl
theorem tN (d0 d1 d2 d3 d4:D)(r:List D)(f:D->Prop):kO (atD (d0::d1::d2::d3::d4::r) 4) f=f d4:=by rw[Cs];rfl
theorem t8 (d0 d1 d2 d3 d4 d5:D)(r:List D)(f:D->Prop):kO (atD (d0::d1::d2::d3::d4::d5::r) 5) f=f d5:=by rw[Bx];rfl
def vh (G:GTr)(tt:TTr)(te:ETr)(ρc:ST)(ds:List D)(μ:Mu)(Q:DK):Prop:=∀ p,μ p=none->fo p G tt te ρc (λμ'=>kL μ' p λzs=>Q (.ls zs) (dn μ' p)) ds (up μ p (.lst []))
theorem JS (it:ATr)(G:GTr)(tt:TTr)(te:ETr)(n:Nat)(caps:List Nat)(ρ:ST)(μ:Mu)(Q:DK):b8 it G tt te n caps ρ μ Q=it ρ μ λds μ1=>vh G tt te (dh ρ n caps) ds μ1 Q:=propext UM
theorem Qy (ρ:ST)(μ:Mu)(Q:Bool->Mu->Prop):dX ρ μ Q=Q true μ:=propext UM
section
variable {G:GTr} {tt:TTr} {te:ETr} {ρc:ST} {ds:List D} {μ:Mu} {Q:DK}
theorem vt (f:D->Option D)(hl:ds.length<=999999)
  (step:∀ d∈ds,∀ μ',Sub μ μ'->∀ (N:Option D->Mu->Prop),N (f d) μ'->G d ρc μ' λρ1 μ1=>tt ρ1 μ1 λb μ2=>kIf b (te ρ1 μ2 λy μ3=>N (some y) μ3) (N none μ2))
  (k:Q (.ls (ds.filterMap f)) μ):vh G tt te ρc ds μ Q:=by
 intro p hp
 refine j6 (λr μ'=>∃ done,ds=done++r/\μ'=up μ p (.lst (done.filterMap f))) ?_ ?_ _ _ ⟨[],rfl,rfl⟩
 ·rintro μ' ⟨done,e,rfl⟩
  rw[Vk] at e
  subst e
  refine a9 aF ?_
  rw[kZ hp];exact k
 ·rintro d r μ' N ⟨done,e,rfl⟩ hN
  have hd:d∈ds:=by rw[e];simp
  have e':ds=(done++[d])++r:=by rw[e];simp
  have lf:(done.filterMap f).length < 1000000:=by
   have h1:=WJ f done
   have h2:ds.length=done.length+(d::r).length:=by rw[e,US]
   rw[Vg] at h2;omega
  refine step d hd _ (Sub.new hp) (λoy μ3=>match oy with
   | some y=>kL μ3 p λzs=>zs.length < 1000000/\N (up μ3 p (.lst (zs++[y])))
   | none=>N μ3) ?_
  cases hf:f d with
  | none=>
   refine hN _ ⟨done++[d],e',?_⟩
   rw[VL];simp[hf]
  | some y=>
   refine a9 aF ⟨lf,hN _ ⟨done++[d],e',?_⟩⟩
   rw[VL,fQ];simp[hf]
theorem comp_map (f:D->D)(hl:ds.length<=999999)
  (step:∀ d∈ds,∀ μ',Sub μ μ'->∀ (N:DK),N (f d) μ'->G d ρc μ' λρ1 μ1=>te ρ1 μ1 N)
  (k:Q (.ls (ds.map f)) μ):vh G dX te ρc ds μ Q:=by
 refine vt (λd=>some (f d)) hl (λd hd μ' s N n=>?_) (by rw[show (λd=>some (f d))=some ∘ f from rfl,YC];exact k)
 exact step d hd μ' s (λy μ3=>N (some y) μ3) n
theorem Hw (I:List D->List D->Prop)(h0:I ds [])(hl:ds.length<=999999)
  (step:∀ d r zs μ',Sub μ μ'->I (d::r) zs->∀ (N:Option D->Mu->Prop),(∀ oy,I r (zs++oy.toList)->N oy μ')->G d ρc μ' λρ1 μ1=>tt ρ1 μ1 λb μ2=>kIf b (te ρ1 μ2 λy μ3=>N (some y) μ3) (N none μ2))
  (k:∀ zs,I [] zs->Q (.ls zs) μ):vh G tt te ρc ds μ Q:=by
 intro p hp
 refine j6 (λr μ'=>∃ zs,I r zs/\zs.length+r.length<=ds.length/\μ'=up μ p (.lst zs)) ?_ ?_ _ _ ⟨[],h0,by simp,rfl⟩
 ·rintro μ' ⟨zs,hI,_,rfl⟩
  refine a9 aF ?_
  rw[kZ hp];exact k zs hI
 ·rintro d r μ' N ⟨zs,hI,hz,rfl⟩ hN
  rw[Vg] at hz
  refine step d r zs _ (Sub.new hp) hI (λoy μ3=>match oy with
   | some y=>kL μ3 p λzs=>zs.length < 1000000/\N (up μ3 p (.lst (zs++[y])))
   | none=>N μ3) ?_
  intro oy hoy
  cases oy with
  | none=>exact hN _ ⟨zs,by simpa using hoy,by omega,rfl⟩
  | some y=>
   refine a9 aF ⟨by omega,hN _ ⟨zs++[y],hoy,by rw[US];simp;omega,?_⟩⟩
   rw[fQ]
theorem jR {α:Type}(xs:List α)(t:α->D)(h:α->Option D)(hds:ds=xs.map t)(hl:xs.length<=999999)
  (step:∀ x∈xs,∀ μ',Sub μ μ'->∀ (N:Option D->Mu->Prop),N (h x) μ'->G (t x) ρc μ' λρ1 μ1=>tt ρ1 μ1 λb μ2=>kIf b (te ρ1 μ2 λy μ3=>N (some y) μ3) (N none μ2))
  (k:Q (.ls (xs.filterMap h)) μ):vh G tt te ρc ds μ Q:=by
 subst hds
 refine Hw (λr zs=>∃ a c,xs=a++c/\r=c.map t/\zs=a.filterMap h) ⟨[],xs,rfl,rfl,rfl⟩ (by simpa using hl) ?_ ?_
 ·rintro d r zs μ' sb ⟨a,c,e,er,rfl⟩ N hN
  cases c with
  | nil=>cases er
  | cons x c=>
  cases er
  refine step x (by rw[e];simp) μ' sb N (hN _ ⟨a++[x],c,by rw[e];simp,rfl,?_⟩)
  rw[VL]
  cases hx:h x<;>simp[hx]
 ·rintro zs ⟨a,c,e,er,rfl⟩
  have:c=[]:=by cases c with | nil=>rfl | cons=>cases er
  subst this
  rw[Vk] at e
  subst e;exact k
theorem cj {α:Type}(xs:List α)(t:α->D)(h:α->D)(hds:ds=xs.map t)(hl:xs.length<=999999)
  (step:∀ x∈xs,∀ μ',Sub μ μ'->∀ (N:DK),N (h x) μ'->G (t x) ρc μ' λρ1 μ1=>te ρ1 μ1 N)
  (k:Q (.ls (xs.map h)) μ):vh G dX te ρc ds μ Q:=by
 refine jR xs t (λx=>some (h x)) hds hl (λx hx μ' s N n=>?_) (by rw[show (λx=>some (h x))=some ∘ h from rfl,YC];exact k)
 exact step x hx μ' s (λy μ3=>N (some y) μ3) n
def Cd (a:Addr)(full:List D)(G:GTr)(tt:TTr)(te:ETr)(ρc:ST)(ds:List D)(μ:Mu)(Q:DK):Prop:=∀ p,μ p=none->fV (λμ=>μ a=some (.lst full)) p G tt te ρc (λμ'=>kL μ' p λzs=>Q (.ls zs) (dn μ' p)) ds (up μ p (.lst []))
theorem GP (To:ETr)(G:GTr)(tt:TTr)(te:ETr)(n:Nat)(caps:List Nat)(ρ:ST)(μ:Mu)(Q:DK):jC To G tt te n caps ρ μ Q=To ρ μ λx μ1=>kObj x λa=>kL μ1 a λds=>Cd a ds G tt te (dh ρ n caps) ds μ1 Q:=propext UM
theorem iA {C:Mu->Prop}{p:Addr}{ρc:ST}{K:Mu->Prop}(P:List D->Mu->Prop)(hC:∀ r μ,P r μ->C μ)(hnil:∀ μ,P [] μ->K μ)
  (hcons:∀ d r μ (N:Mu->Prop),P (d::r) μ->(∀ μ',P r μ'->N μ')->G d ρc μ λρ1 μ1=>tt ρ1 μ1 λb μ2=>kIf b (te ρ1 μ2 λy μ3=>kL μ3 p λzs=>zs.length < 1000000/\N (up μ3 p (.lst (zs++[y])))) (N μ2)) :
  ∀ (ds:List D) (μ:Mu),P ds μ->fV C p G tt te ρc K ds μ
 | [],μ,h=>⟨hC _ _ h,hnil μ h⟩
 | d::r,μ,h=>⟨hC _ _ h,hcons d r μ _ h λμ' q=>iA P hC hnil hcons r μ' q⟩
theorem Fq {a:Addr}{full:List D}(hm:μ a=some (.lst full))(f:D->Option D)(hl:ds.length<=999999)
  (step:∀ d∈ds,∀ μ',Sub μ μ'->∀ (N:Option D->Mu->Prop),N (f d) μ'->G d ρc μ' λρ1 μ1=>tt ρ1 μ1 λb μ2=>kIf b (te ρ1 μ2 λy μ3=>N (some y) μ3) (N none μ2))
  (k:Q (.ls (ds.filterMap f)) μ):Cd a full G tt te ρc ds μ Q:=by
 intro p hp
 refine iA (λr μ'=>∃ done,ds=done++r/\μ'=up μ p (.lst (done.filterMap f))) ?_ ?_ ?_ _ _ ⟨[],rfl,rfl⟩
 ·rintro r μ' ⟨done,_,rfl⟩
  exact Sub.new hp _ _ hm
 ·rintro μ' ⟨done,e,rfl⟩
  rw[Vk] at e
  subst e
  refine a9 aF ?_
  rw[kZ hp];exact k
 ·rintro d r μ' N ⟨done,e,rfl⟩ hN
  have hd:d∈ds:=by rw[e];simp
  have e':ds=(done++[d])++r:=by rw[e];simp
  have lf:(done.filterMap f).length < 1000000:=by
   have h1:=WJ f done
   have h2:ds.length=done.length+(d::r).length:=by rw[e,US]
   rw[Vg] at h2;omega
  refine step d hd _ (Sub.new hp) (λoy μ3=>match oy with
   | some y=>kL μ3 p λzs=>zs.length < 1000000/\N (up μ3 p (.lst (zs++[y])))
   | none=>N μ3) ?_
  cases hf:f d with
  | none=>
   refine hN _ ⟨done++[d],e',?_⟩
   rw[VL];simp[hf]
  | some y=>
   refine a9 aF ⟨lf,hN _ ⟨done++[d],e',?_⟩⟩
   rw[VL,fQ];simp[hf]
theorem mh {α:Type}{a:Addr}(xs:List α)(t:α->D)(h:α->Option D)(hds:ds=xs.map t)(hm:μ a=some (.lst (xs.map t)))(hl:xs.length<=999999)
  (step:∀ x∈xs,∀ μ',Sub μ μ'->∀ (N:Option D->Mu->Prop),N (h x) μ'->G (t x) ρc μ' λρ1 μ1=>tt ρ1 μ1 λb μ2=>kIf b (te ρ1 μ2 λy μ3=>N (some y) μ3) (N none μ2))
  (k:Q (.ls (xs.filterMap h)) μ):Cd a (xs.map t) G tt te ρc ds μ Q:=by
 subst hds
 intro p hp
 refine iA (λr μ'=>∃ b c,xs=b++c/\r=c.map t/\μ'=up μ p (.lst (b.filterMap h))) ?_ ?_ ?_ _ _ ⟨[],xs,rfl,rfl,rfl⟩
 ·rintro r μ' ⟨b,c,_,_,rfl⟩
  exact Sub.new hp _ _ hm
 ·rintro μ' ⟨b,c,e,er,rfl⟩
  have:c=[]:=by cases c with | nil=>rfl | cons=>cases er
  subst this
  rw[Vk] at e
  subst e
  refine a9 aF ?_
  rw[kZ hp];exact k
 ·rintro d r μ' N ⟨b,c,e,er,rfl⟩ hN
  cases c with
  | nil=>cases er
  | cons x c=>
  cases er
  have e':xs=(b++[x])++c:=by rw[e];simp
  have lf:(b.filterMap h).length < 1000000:=by
   have h1:=WJ h b
   have h2:xs.length=b.length+(x::c).length:=by rw[e,US]
   rw[Vg] at h2;omega
  refine step x (by rw[e];simp) _ (Sub.new hp) (λoy μ3=>match oy with
   | some y=>kL μ3 p λzs=>zs.length < 1000000/\N (up μ3 p (.lst (zs++[y])))
   | none=>N μ3) ?_
  cases hf:h x with
  | none=>
   refine hN _ ⟨b++[x],c,e',rfl,?_⟩
   rw[VL];simp[hf]
  | some y=>
   refine a9 aF ⟨lf,hN _ ⟨b++[x],c,e',rfl,?_⟩⟩
   rw[VL,fQ];simp[hf]
theorem Du {a:Addr}{full:List D}(hm:μ a=some (.lst full))(f:D->D)(hl:ds.length<=999999)
  (step:∀ d∈ds,∀ μ',Sub μ μ'->∀ (N:DK),N (f d) μ'->G d ρc μ' λρ1 μ1=>te ρ1 μ1 N)
  (k:Q (.ls (ds.map f)) μ):Cd a full G dX te ρc ds μ Q:=by
 refine Fq hm (λd=>some (f d)) hl (λd hd μ' s N n=>?_) (by rw[show (λd=>some (f d))=some ∘ f from rfl,YC];exact k)
 exact step d hd μ' s (λy μ3=>N (some y) μ3) n
end
def Q5:=Jn @JS <| Jn @GP <| Jn @Qy <| Jn @JO <| Jn @Kx <| Jn @J4 <| Jn @OJ <| Jn @L0 <| Jn @O6 <| Jn @HV <| Jn @PR <| Jn @Kc <| Jn @Qe <| Jn @Oj <| Jn @PY <| Jn @RP <| Jn @K0 <| Jn @K7 <| Jn @NX <| @SG
local macro_rules | `(tactic| walk_at "go")=>zzS "↓L3.Q5 L3.Bm ↓L3.tM ↓L3.t7 ↓L3.tf ↓L3.tm ↓L3.tN ↓L3.t8 ↓L3.iz ↓L3.gR L3.bR L3.bD L3.bO L3.bU L3.bM L3.bS L3.cA L3.ck L3.bC L3.bW L3.bX L3.bP L3.bQ L3.cq L3.bT L3.cy L3.bL L3.cu L3.bV L3.cz L3.gj L3.dh List.map_cons List.map_nil List.replicate List.cons_append List.nil_append L3.lk L3.Aj L3.zK L3.wx L3.y3 L3.Ap L3.fg L3.rJ L3.kG L3.rj L3.rg L3.kz L3.ky L3.iU L3.iQ L3.iM L3.iJ true_and and_true and_self Bool.not_true Bool.not_false decide_true decide_false Bool.or_true Bool.or_false Bool.true_or Bool.false_or Bool.and_false Bool.false_and Bool.and_true Bool.true_and Int.reduceToNat Int.reducePow Int.reduceNeg Int.reduceSub Int.reduceAdd Int.reduceMul Int.reduceEq Int.reduceLT Int.reduceLE Int.reduceBEq L3.fQ L3.eQ L3.eU L3.eS L3.fb L3.eR L3.eZ L3.eP if_true if_false Bool.false_eq_true reduceCtorEq decide_eq_true_eq"
abbrev ks (s:String):L2.Key:=.inr (OF s)
def gU (cs:List Int)(a l g m s:Int):List (L2.Key×D):=[(ks "cells", .ls (cs.map .int)),(ks "at", .int a),(ks "left", .int l),(ks "given", .int g),(ks "many", .int m),(ks "seed", .int s)]
section
variable (cs:List Int) (a l g m s x:Int)
theorem C1:dR (gU cs a l g m s) (.inr (OF "cells"))=some (.ls (cs.map .int)):=rfl
theorem PH:dR (gU cs a l g m s) (.inr (OF "at"))=some (.int a):=rfl
theorem Gn:dR (gU cs a l g m s) (.inr (OF "left"))=some (.int l):=rfl
theorem Eh:dR (gU cs a l g m s) (.inr (OF "given"))=some (.int g):=rfl
theorem Gu:dR (gU cs a l g m s) (.inr (OF "many"))=some (.int m):=rfl
theorem Ek:dR (gU cs a l g m s) (.inr (OF "seed"))=some (.int s):=rfl
theorem QL:putD (gU cs a l g m s) (.inr (OF "at")) (.int x)=gU cs x l g m s:=rfl
theorem Ho:putD (gU cs a l g m s) (.inr (OF "left")) (.int x)=gU cs a x g m s:=rfl
theorem C3:putD (gU cs a l g m s) (.inr (OF "given")) (.int x)=gU cs a l x m s:=rfl
theorem E3:putD (gU cs a l g m s) (.inr (OF "many")) (.int x)=gU cs a l g x s:=rfl
theorem EW:putD (gU cs a l g m s) (.inr (OF "seed")) (.int x)=gU cs a l g m x:=rfl
theorem Mm:(gU cs a l g m s).length < 1000000:=by show 6 < 1000000;decide
end
local macro_rules | `(tactic| walk_at "pot")=>zzS "L3.C1 L3.PH L3.Gn L3.Eh L3.Gu L3.Ek L3.QL L3.Ho L3.C3 L3.E3 L3.EW L3.Mm true_and L3.oO"
local macro_rules | `(tactic| walk_at "gp")=>`(tactic| (walk_at "go";walk_at "pot";walk_at "go";walk_at "pot";walk_at "go";walk_at "pot";walk_at "go";walk_at "pot";walk_at "go"))
def Pot (μ:Mu)(b:Addr):Prop:=∃ (cs:List Int) (a l g m s:Int),μ b=some (.dct (gU cs a l g m s))/\0<=a
structure dB (b:Addr) (μ μ':Mu):Prop where
 pot:Pot μ' b
 oth:∀ a,a≠b->μ' a=μ a
theorem dB.trans {b:Addr}{μ μ1 μ2:Mu}(x:dB b μ μ1)(y:dB b μ1 μ2):dB b μ μ2:=⟨y.pot,λa h=>(y.oth a h).trans (x.oth a h)⟩
theorem dB.ne {b p:Addr}{μ μ1:Mu}(x:dB b μ μ1)(h:p≠b):μ1 p=μ p:=x.oth p h
theorem Pot.ne {μ:Mu}{b p:Addr}(h:Pot μ b)(hp:μ p=none):p≠b:=λz=>by subst z;obtain ⟨_,_,_,_,_,_,e,_⟩:=h;rw[hp] at e;cases e
theorem Pot.up {μ:Mu}{b p:Addr}{o:MO}(h:Pot μ b)(hp:p≠b):Pot (up μ p o) b:=by
 obtain ⟨cs,a,l,g,m,s,e,h0⟩:=h
 exact ⟨cs,a,l,g,m,s,by rw[aU (Vo hp)];exact e,h0⟩
theorem LM {μ:Mu}{b:Addr}{o:MO}(h:μ b=some o):up μ b o=μ:=by
 funext a;unfold L3.up;split
 ·rename_i e;subst e;exact h.symm
 ·rfl
def Kp (b:Addr)(μ μ':Mu):Prop:=∀ a o,a≠b->μ a=some o->μ' a=some o
theorem Kp.trans {b:Addr}{μ μ1 μ2:Mu}(x:Kp b μ μ1)(y:Kp b μ1 μ2):Kp b μ μ2:=λa o h e=>y a o h (x a o h e)
theorem dB.kp {b:Addr}{μ μ1:Mu}(x:dB b μ μ1):Kp b μ μ1:=λa o h e=>by rw[x.oth a h];exact e
theorem Kp.new {b p:Addr}{μ:Mu}{o:MO}(h:μ p=none):Kp b μ (up μ p o):=λa u _ e=>by rw[aU (λz=>by subst z;rw[h] at e;cases e)];exact e
theorem Kp.put {b p:Addr}{μ μ1:Mu}{o:MO}(x:Kp b μ μ1)(h:μ p=none):Kp b μ (up μ1 p o):=λa u n e=>by rw[aU (λz=>by subst z;rw[h] at e;cases e)];exact x a u n e
theorem Kp.dn {b p:Addr}{μ μ1:Mu}(x:Kp b μ μ1)(h:μ p=none):Kp b μ (dn μ1 p):=λa u n e=>by unfold L3.dn;rw[if_neg (λz=>by subst z;rw[h] at e;cases e)];exact x a u n e
theorem Lr {b:Addr}{μ μ':Mu}{d:D}{Q:DK}(hP:Pot μ' b)(h:Kp b μ μ')(k:∀ μ2,dB b μ μ2->Q d μ2):RT Q d μ':=by
 refine ⟨λa=>if a=b then μ' a else μ a,λa o e=>?_,k _ ⟨?_,λa ha=>by simp only[if_neg ha]⟩⟩
 ·dsimp only at e
  split at e
  ·exact e
  ·rename_i ha;exact h a o ha e
 ·obtain ⟨cs,a,l,g,m,s,e,h0⟩:=hP
  exact ⟨cs,a,l,g,m,s,by simp only[if_pos rfl];exact e,h0⟩
def oG:FSp:=λds μ Q=>kcL ds λxs ds=>kcN ds ((∃ ns:List Int,xs=ns.map .int)/\∀ p μ',μ p=none->Pot μ' p->(∀ a,a≠p->μ' a=μ a)->Q (.obj p) μ')
theorem Ew:∀ ds μ Q,oG ds μ Q->ds.length=1:=λ_ _ _ h=>lcL h λ_ _ h=>by rw[(ecN h).1];rfl
def Ic:STr:=aW (EJ [.inr (OF "cells"),.inr (OF "at"),.inr (OF "left"),.inr (OF "given"),.inr (OF "many"),.inr (OF "seed")] (af (aq je (af (ah 0) (ar))) (af (TC (.int 0)) (af (TC (.int 0)) (af (TC (.int 0)) (af (TC (.int 0)) (af (TC (.int 5)) (ar))))))))
theorem Jx:∀ ds μ Q,oG ds μ Q->Ic { nx:=λ_ μ'=>RT Q .non μ',rt:=RT Q } (ini 1 ds) μ:=by
 intro ds μ Q h
 replace h:=ecL h
 obtain ⟨xs,ds,rfl,h⟩:=h
 replace h:=ecN h
 obtain ⟨rfl,h⟩:=h
 walk_at "ini"
 unfold Ic
 walk_at "go"
 obtain ⟨⟨ns,rfl⟩,k⟩:=h
 intro p hp
 walk_at "go"
 exact ⟨_,.refl _,k p _ hp ⟨ns,0,0,0,0,5,aF,Vy 0⟩ λa ha=>aU ha⟩
def iK:FSp:=λds μ Q=>kcI ds λ_ ds=>kcI ds λ_ ds=>kcN ds (∀ k:Int,Q (.int k) μ)
theorem GJ:∀ ds μ Q,iK ds μ Q->ds.length=2:=λ_ _ _ h=>lcI h λ_ _ h=>lcI h λ_ _ h=>by rw[(ecN h).1];rfl
def Hr:STr:=aB (aN (aj lK (aj eJ (aj aT (aj aT (aj lK (ah 0) (TC (.int 2147483647))) (aj eJ (TC (.int 7919)) (ah 1))) (TC (.int 11))) (TC (.int 48271))) (TC (.int 2147483629))) (aw 2)) (aB (aN (aj lK (aj eJ (ah 2) (ah 2)) (TC (.int 2147483587))) (aw 3)) (aW (aj lK (aj eJ (aj aT (ah 3) (ah 1)) (TC (.int 69621))) (TC (.int 1999999973)))))
theorem Jt:∀ ds μ Q,iK ds μ Q->Hr { nx:=λ_ μ'=>RT Q .non μ',rt:=RT Q } (ini 4 ds) μ:=by
 intro ds μ Q h
 replace h:=ecI h
 obtain ⟨n,ds,rfl,h⟩:=h
 replace h:=ecI h
 obtain ⟨t,ds,rfl,h⟩:=h
 replace h:=ecN h
 obtain ⟨rfl,h⟩:=h
 walk_at "ini"
 unfold Hr
 walk_at "go"
 have s79:S64 7919:=by unfold S64;decide
 have s48:S64 48271:=by unfold S64;decide
 have s69:S64 69621:=by unfold S64;decide
 refine ⟨by decide,.inl (.inl s79),.inl (.inr s48),by decide,?_⟩
 walk_at "go"
 generalize hx:((n.fmod 2147483647+7919*t+11)*48271).fmod 2147483629=x
 have x0:0<=x:=by rw[← hx];exact fm0 (by decide)
 have x1:x < 2147483629:=by rw[← hx];exact fm1 (by decide)
 refine ⟨.inl (.inl (by unfold S64;omega)),by decide,?_⟩
 walk_at "go"
 exact ⟨.inl (.inr s69),by decide,_,.refl _,h _⟩
def ay:FSp:=λds μ Q=>kcO ds λb ds=>kcI ds λn ds=>kcN ds ((Pot μ b/\0 < n/\n < 18446744073709551616)/\∀ k μ',0<=k->k < n->dB b μ μ'->Q (.int k) μ')
theorem aR {μ:Mu}{b:Addr}{n:Int}{Q:DK}(hB:Pot μ b)(h0:0 < n)(h1:n < 18446744073709551616)(h:∀ k μ',0<=k->k < n->dB b μ μ'->Q (.int k) μ'):ay [.obj b,.int n] μ Q:=⟨⟨hB,h0,h1⟩,h⟩
theorem Dl:∀ ds μ Q,ay ds μ Q->ds.length=2:=λ_ _ _ h=>lcO h λ_ _ h=>lcI h λ_ _ h=>by rw[(ecN h).1];rfl
def kj:STr:=aB (bK (mw (TB (aj rGt (bH (ah 0) (TC (.str "left"))) (TC (.int 0)))) (TB (aj rLt (bH (ah 0) (TC (.str "given"))) (TC (.int 60))))) (aB (kP (λm n=>m+n) (ah 0) (TC (.str "given")) (TC (.int 1))) (aB (aN (aj lK (bH (ah 0) (TC (.str "left"))) (ah 1)) (aw 3)) (aB (ja (ah 0) (TC (.str "left")) (aj mx (bH (ah 0) (TC (.str "left"))) (ah 1))) (aW (ah 3))))) (a8)) (aB (ja (ah 0) (TC (.str "seed")) (aq iK (af (bH (ah 0) (TC (.str "seed"))) (af (bH (ah 0) (TC (.str "many"))) (ar))))) (aW (aj lK (aj mx (bH (ah 0) (TC (.str "seed"))) (TC (.int 7))) (ah 1))))
def BG:STr:=aB (kP (λm n=>m+n) (ah 0) (TC (.str "many")) (TC (.int 1))) (aB (bK (mw (TOr (TB (aj rEq (bH (ah 0) (TC (.str "left"))) (TC (.int 0)))) (TB (aj rEq (bH (ah 0) (TC (.str "given"))) (TC (.int 60))))) (TB (aj rLt (bH (ah 0) (TC (.str "at"))) (aq cS (af (bH (ah 0) (TC (.str "cells"))) (ar)))))) (aB (aN (aq xw (af (aj L3.rIx (bH (ah 0) (TC (.str "cells"))) (bH (ah 0) (TC (.str "at")))) (ar))) (aw 2)) (aB (kP (λm n=>m+n) (ah 0) (TC (.str "at")) (TC (.int 1))) (aB (ja (ah 0) (TC (.str "left")) (aj eJ (ah 2) (aq ya (af (aj rGe (ah 2) (aj IC (TC (.int 10)) (TC (.int 18)))) (ar))))) (aB (ja (ah 0) (TC (.str "given")) (TC (.int 0))) (ja (ah 0) (TC (.str "seed")) (aq iK (af (aj aT (bH (ah 0) (TC (.str "seed"))) (ah 2)) (af (bH (ah 0) (TC (.str "many"))) (ar))))))))) (a8)) (kj))
theorem IG:∀ ds μ Q,ay ds μ Q->BG { nx:=λ_ μ'=>RT Q .non μ',rt:=RT Q } (ini 4 ds) μ:=by
 intro ds μ Q h
 replace h:=ecO h
 obtain ⟨b,ds,rfl,h⟩:=h
 replace h:=ecI h
 obtain ⟨n,ds,rfl,h⟩:=h
 replace h:=ecN h
 obtain ⟨rfl,h⟩:=h
 walk_at "ini"
 unfold BG
 obtain ⟨⟨⟨cs,a,l,g,m,s,eb,a0⟩,n0,n1⟩,k⟩:=h
 have nm:fU n:=by unfold fU;omega
 have fin:∀ (μ':Mu) (c a l g m s:Int),0<=c->c < n->0<=a->RT Q (.int c) (up μ b (.dct (gU cs a l g m s))):=λμ' c a l g m s c0 c1 a0=>
  ⟨_,.refl _,k c _ c0 c1 ⟨⟨cs,a,l,g,m,s,aF,a0⟩,λz hz=>aU hz⟩⟩
 have rest:∀ (v2 v3:Option D) (a l g m s:Int),0<=a->kj { nx:=λ_ μ'=>RT Q .non μ',rt:=RT Q } [some (.obj b),some (.int n),v2,v3] (up μ b (.dct (gU cs a l g m s))):=by
  intro v2 v3 a l g m s a0
  unfold kj
  walk_at "gp"
  refine kif (λh1=>kif (λh2=>?_) λ_=>?_) λ_=>?_
  ·walk_at "gp"
   refine ⟨by omega,?_⟩
   walk_at "gp"
   exact ⟨⟨by omega,nm⟩,fin μ _ a _ _ m s (fm0 n0) (fm1 n0) a0⟩
  all_goals
   intro s2
   walk_at "gp"
   exact ⟨⟨by decide,by unfold fU;decide⟩,by omega,fin μ _ a l g m s2 (fm0 n0) (fm1 n0) a0⟩
 have e0:∀ c:Int,MulOk c (if 1000000000000000000<=c then 1 else 0):=λc=>.inl (.inr (by unfold S64;split<;>decide))
 have e1:qi 10 18:=by unfold qi;decide
 refine (LM eb).symm ▸ ?_
 walk_at "gp"
 rw[UL]
 refine kif (λ_=>kif (λh1=>?_) λ_=>rest _ _ _ _ _ _ _ a0) λ_=>kif (λ_=>kif (λh1=>?_) λ_=>rest _ _ _ _ _ _ _ a0) λ_=>rest _ _ _ _ _ _ _ a0
 all_goals
  obtain ⟨z,ez⟩:=IK a0 h1
  rw[ez]
  walk_at "gp"
  refine ⟨e1,e0 _,?_⟩
  walk_at "gp"
  intro s2
  walk_at "gp"
  exact rest _ _ _ _ _ _ _ (by omega)
def cM:List Str:=[OF "a", OF "aa", OF "ab", OF "b", OF "ba", OF "mid", OF "way", OF "zz", OF "z", OF "long", OF "longer", OF "abcdefgh", OF "x", OF "yz", OF "m", OF "az", OF "c"]
theorem Gi:∀ w∈cM,UU w=true:=by decide +kernel
theorem zh:cM.Nodup:=by decide +kernel
theorem FN:∀ f:Fin 17,∀ s:Fin 16,((Vd 17).map λk=>(f.val+(1+s.val)*k) % 17).Nodup:=by decide +kernel
def nameAt (f s:Nat)(k:Nat):Str:=cM.getD ((f+(1+s)*k) % 17) (OF "")
theorem Gj {f s n:Nat}(hf:f < 17)(hs:s < 16)(hn:n<=17):((Vd n).map (nameAt f s)).Nodup:=by
 have h1:((Vd 17).map λk=>(f+(1+s)*k) % 17).Nodup:=FN ⟨f,hf⟩ ⟨s,hs⟩
 have h2:((Vd n).map λk=>(f+(1+s)*k) % 17).Nodup:=by
  refine List.Nodup.sublist ?_ h1
  refine zc7 _ ?_
  rw[show Vd 17=Vd n++(Vd (17 - n)).map (n + ·) by rw[← List.range_add];congr 1;omega]
  exact ZD _ _
 have h3:((Vd n).map (nameAt f s))=((Vd n).map λk=>(f+(1+s)*k) % 17).map λj=>cM.getD j (OF ""):=by rw[UR];rfl
 rw[h3]
 rw[Zg,Zo]
 rw[Zg] at h2
 refine (Zo.mp h2 |> λq=>?_)
 rw[Zo]
 refine q.imp_of_mem ?_
 intro a b ha hb hne e
 refine hne ?_
 have l1:(f+(1+s)*a) % 17 < cM.length:=zbn _ (by decide)
 have l2:(f+(1+s)*b) % 17 < cM.length:=zbn _ (by decide)
 rw[WZ,WZ,UY l1,UY l2,YF,YF] at e
 exact (zbO zh).mp e
theorem A0 (f s k:Nat):nameAt f s k∈cM:=by
 unfold nameAt
 have l1:(f+(1+s)*k) % 17 < cM.length:=zbn _ (by decide)
 rw[WZ,UY l1,YF]
 exact WH _
def ie:FSp:=λds μ Q=>kcO ds λb ds=>kcI ds λm ds=>kcN ds ((Pot μ b/\0<=m/\m<=17)/\∀ (ws:List Str) μ',(ws.length:Int)=m->ws.Nodup->(∀ w∈ws,w∈cM)->dB b μ μ'->Q (.ls (ws.map .str)) μ')
theorem Ao:∀ ds μ Q,ie ds μ Q->ds.length=2:=λ_ _ _ h=>lcO h λ_ _ h=>lcI h λ_ _ h=>by rw[(ecN h).1];rfl
def wF:STr:=aB (aN (eM (af (TC (.str "a")) (af (TC (.str "aa")) (af (TC (.str "ab")) (af (TC (.str "b")) (af (TC (.str "ba")) (af (TC (.str "mid")) (af (TC (.str "way")) (af (TC (.str "zz")) (af (TC (.str "z")) (af (TC (.str "long")) (af (TC (.str "longer")) (af (TC (.str "abcdefgh")) (af (TC (.str "x")) (af (TC (.str "yz")) (af (TC (.str "m")) (af (TC (.str "az")) (ar)))))))))))))))))) (aw 2)) (aB (aN (bf (af (aq ay (af (ah 0) (af (TC (.int 17)) (ar)))) (af (aj aT (TC (.int 1)) (aq ay (af (ah 0) (af (TC (.int 16)) (ar))))) (ar)))) (dY [3,4])) (aW (b8 (fE (ah 1)) (aw 0) (dX) (aj L3.rIx (aj aT (ah 1) (eM (af (TC (.str "c")) (ar)))) (aj lK (aj aT (ah 2) (aj eJ (ah 3) (ah 0))) (TC (.int 17)))) 1 [2,3,4])))
theorem Dd:∀ ds μ Q,ie ds μ Q->wF { nx:=λ_ μ'=>RT Q .non μ',rt:=RT Q } (ini 5 ds) μ:=by
 intro ds μ Q h
 replace h:=ecO h
 obtain ⟨b,ds,rfl,h⟩:=h
 replace h:=ecI h
 obtain ⟨m,ds,rfl,h⟩:=h
 replace h:=ecN h
 obtain ⟨rfl,h⟩:=h
 walk_at "ini"
 unfold wF
 walk_at "go"
 obtain ⟨⟨hP,m0,m1⟩,k⟩:=h
 refine ⟨by decide,?_⟩
 refine aR hP (by decide) (by decide) λf μ1 f0 f1 P1=>?_
 walk_at "go"
 refine aR P1.pot (by decide) (by decide) λs μ2 s0 s1 P2=>?_
 walk_at "go"
 refine ⟨⟨by omega,by omega⟩,?_⟩
 have hw:∀ (kk:Nat),atD [D.str "a", D.str "aa", D.str "ab", D.str "b", D.str "ba", D.str "mid", D.str "way", D.str "zz", D.str "z", D.str "long", D.str "longer", D.str "abcdefgh", D.str "x", D.str "yz", D.str "m", D.str "az", D.str "c"] ((f+(1+s)*(kk:Int)).fmod 17)=some (.str (nameAt f.toNat s.toNat kk)):=by
  intro kk
  have e1:(f+(1+s)*(kk:Int)).fmod 17=(((f.toNat+(1+s.toNat)*kk) % 17:Nat):Int):=by
   rw[Int.fmod_eq_emod_of_nonneg _ (by decide)]
   push_cast
   rw[V5 f0,V5 s0]
  rw[e1,cv]
  show (cM.map D.str)[(f.toNat+(1+s.toNat)*kk) % 17]? = _
  have l1:(f.toNat+(1+s.toNat)*kk) % 17 < cM.length:=zbn _ (by decide)
  unfold nameAt
  rw[Wx,WZ,UY l1];rfl
 refine comp_map (λd=>match d with
  | .int j=>.str (nameAt f.toNat s.toNat j.toNat)
  | _=>.non) (by rw[dQ];omega) (λd hd μ' _ N n=>?_) ?_
 ·obtain ⟨j,rfl,j0,j1⟩:=qE hd
  walk_at "go"
  refine ⟨by decide,?_⟩
  walk_at "go"
  refine ⟨.inl (.inl (by unfold S64;omega)),by decide,?_⟩
  have:=hw j.toNat
  rw[V5 (by omega)] at this
  rw[this]
  walk_at "go"
  exact n
 ·refine ⟨_,.refl _,?_⟩
  have e:(cB 0 m.toNat).map (λd=>match d with
   | .int j=>D.str (nameAt f.toNat s.toNat j.toNat)
   | _=>.non)=((Vd m.toNat).map (nameAt f.toNat s.toNat)).map .str:=by
   unfold cB
   rw[UR,UR]
   refine Vf λi _=>?_
   simp
  rw[e]
  refine k _ _ (by simp;omega) (Gj (by omega) (by omega) (by omega)) (λw hw=>?_) (P1.trans P2)
  obtain ⟨i,_,rfl⟩:=UP.mp hw
  exact A0 _ _ _
section
variable {G:GTr} {tt:TTr} {te:ETr} {ρc:ST} {ds:List D} {μ:Mu} {Q:DK} {b:Addr}
theorem yk (hP:Pot μ b)(I:List D->List D->Prop)(h0:I ds [])(hl:ds.length<=999999)
  (step:∀ d r zs μ',Pot μ' b->Kp b μ μ'->I (d::r) zs->∀ (N:Option D->Mu->Prop),(∀ oy μ2,I r (zs++oy.toList)->dB b μ' μ2->N oy μ2)->G d ρc μ' λρ1 μ1=>tt ρ1 μ1 λc μ2=>kIf c (te ρ1 μ2 λy μ3=>N (some y) μ3) (N none μ2))
  (k:∀ zs μ',I [] zs->dB b μ μ'->Q (.ls zs) μ'):vh G tt te ρc ds μ Q:=by
 intro p hp
 have pb:=hP.ne hp
 refine j6 (λr μ'=>∃ zs,I r zs/\zs.length+r.length<=ds.length/\μ' p=some (.lst zs)/\Pot μ' b/\∀ a,a≠b->a≠p->μ' a=μ a) ?_ ?_ _ _ ⟨[],h0,by simp,aF,hP.up pb,λa _ h=>aU h⟩
 ·rintro μ' ⟨zs,hI,_,e,P,fr⟩
  refine a9 e (k zs _ hI ⟨?_,λa ha=>?_⟩)
  ·obtain ⟨cs,a,l,g,m,s,e,h0⟩:=P
   exact ⟨cs,a,l,g,m,s,by unfold dn;rw[if_neg (Vo pb)];exact e,h0⟩
  ·unfold dn
   split
   ·rename_i z;subst z;exact hp.symm
   ·rename_i z;exact fr a ha z
 ·rintro d r μ' N ⟨zs,hI,hz,e,P,fr⟩ hN
  rw[Vg] at hz
  refine step d r zs μ' P (λa o n h=>?_) hI (λoy μ3=>match oy with
   | some y=>kL μ3 p λzs=>zs.length < 1000000/\N (up μ3 p (.lst (zs++[y])))
   | none=>N μ3) ?_
  ·rw[fr a n (λz=>by subst z;rw[hp] at h;cases h)];exact h
  intro oy μ2 hoy P2
  have e2:μ2 p=some (.lst zs):=by rw[P2.oth p pb];exact e
  cases oy with
  | none=>exact hN _ ⟨zs,by simpa using hoy,by omega,e2,P2.pot,λa h1 h2=>(P2.oth a h1).trans (fr a h1 h2)⟩
  | some y=>
   refine a9 e2 ⟨by omega,hN _ ⟨zs++[y],hoy,by rw[US];simp;omega,aF,P2.pot.up pb,λa h1 h2=>?_⟩⟩
   rw[aU h2,P2.oth a h1,fr a h1 h2]
end
theorem Mx {xs:List D}{c:Int}(c0:0<=c):atD xs c=xs[c.toNat]?:=by
 have:=cv c.toNat xs
 rwa [V5 c0] at this
structure Lt where
 nm:Str
 nu:Int
 ag:Int
 hp:Int
 mr:Int
def Lt.toD (x:Lt):D:=.tup [.str x.nm,.int x.nu,.int x.ag,.int x.hp,.int x.mr]
abbrev ltD (ls:List Lt):List D:=ls.map Lt.toD
structure Lt.Ok (x:Lt):Prop where
 a0:0<=x.ag
 a1:x.ag < 30
 h0:0<=x.hp
 h1:x.hp < 6
 m0:0<=x.mr
 m1:x.mr<=1
structure Wy where
 nm:Str
 pc:Int
 rm:Int
 mr:Option Int
 tn:Bool
def dg:Option Int->D
 | none=>.non
 | some i=>.int i
def wq (b:Bool):Str:=if b then OF "turns" else OF "line"
def Wy.toD (x:Wy):D:=.tup [.str x.nm,.int x.pc,.int x.rm,dg x.mr,.str (wq x.tn)]
structure Wy.Ok (x:Wy):Prop where
 n:UU x.nm=true
 p0:1<=x.pc
 p1:x.pc<=20
 r0:1<=x.rm
 r1:x.rm<=60
 m:∀ i,x.mr=some i->0<=i/\i<=60
mutual
def pl:Nat->D->Bool
 | _,.non=>true
 | _,.int _=>true
 | _,.str x=>UU x
 | n+1,.tup ds=>decide (ds.length<=999999)&&pls n ds
 | n+1,.ls ds=>decide (ds.length<=999999)&&pls n ds
 | _,_=>false
def pls:Nat->List D->Bool
 | _,[]=>true
 | n,d::r=>pl n d&&pls n r
end
theorem BW {n:Nat}:∀ {ds:List D} {d:D},pls n ds=true->d∈ds->pl n d=true
 | x::r,d,h,hm=>by
  have h':pl n x=true/\pls n r=true:=by simpa[pls] using h
  rcases UZ.mp hm with rfl | hm
  ·exact h'.1
  ·exact BW h'.2 hm
theorem yF:∀ (ds:List D),VH (λd e=>D.tup [d,e]) ds ds=ds.map λd=>.tup [d,d]
 | []=>rfl
 | d::r=>by simp[yF r]
theorem GH {n:Nat}:∀ {ds:List D},(∀ d∈ds,pl n d=true)->pls n ds=true
 | [],_=>rfl
 | d::r,h=>by simp only[pls,Vj];exact ⟨h d U0,GH λx hx=>h x (U7 _ hx)⟩
def kx (w:Wy)(x:Lt)(n:Nat):Lt:=match w.mr with
 | none=>x
 | some i=>if (n:Int) < i then x else { x with mr:=1 }
def cH (w:Wy)(p:List Lt×List Lt)(y:Lt):List Lt×List Lt:=if w.rm<=(p.1.length:Int) then (p.1,p.2++[y]) else (p.1++[kx w y p.1.length],p.2)
def tk (w:Wy)(xs ys:List Lt):List Lt×List Lt:=ys.foldl (cH w) (xs,[])
theorem OY (a b c d e:D):cutD [a,b,c,d,e] none (some 4)=[a,b,c,d]:=rfl
def eT:FSp:=λds μ Q=>kcA ds λwd ds=>kcA ds λld ds=>kcI ds λn ds=>kcN ds (∃ (w:Wy) (x:Lt) (m:Nat),(wd=w.toD/\ld=x.toD/\n=m)/\Q (kx w x m).toD μ)
theorem oU:∀ ds μ Q,eT ds μ Q->ds.length=3:=λ_ _ _ h=>lcA h λ_ _ h=>lcA h λ_ _ h=>lcI h λ_ _ h=>by rw[(ecN h).1];rfl
def lB:STr:=aB (bK (TOr (TB (aj rIs (aj L3.rIx (ah 0) (TC (.int 3))) (TC .non))) (TB (aj rLt (ah 2) (aj L3.rIx (ah 0) (TC (.int 3)))))) (aW (ah 1)) (a8)) (aW (aj aT (TSl (ah 1) (ONo) (lr (TC (.int 4)))) (bf (af (TC (.int 1)) (ar)))))
theorem rO:∀ ds μ Q,eT ds μ Q->lB { nx:=λ_ μ'=>RT Q .non μ',rt:=RT Q } (ini 3 ds) μ:=by
 intro ds μ Q h
 replace h:=ecA h
 obtain ⟨wd,ds,rfl,h⟩:=h
 replace h:=ecA h
 obtain ⟨ld,ds,rfl,h⟩:=h
 replace h:=ecI h
 obtain ⟨n,ds,rfl,h⟩:=h
 replace h:=ecN h
 obtain ⟨rfl,h⟩:=h
 walk_at "ini"
 unfold lB
 walk_at "go"
 obtain ⟨w,x,m,⟨rfl,rfl,rfl⟩,k⟩:=h
 simp only[Wy.toD]
 walk_at "go"
 unfold kx at k
 cases hm:w.mr with
 | none=>
  rw[hm] at k
  simp only[dg]
  walk_at "go"
  exact ⟨_,.refl _,k⟩
 | some i=>
  rw[hm] at k
  simp only[dg]
  walk_at "go"
  refine kif (λh1=>⟨_,.refl _,?_⟩) λh1=>?_
  ·simp only[if_pos h1] at k;exact k
  ·simp only[if_neg h1] at k
   simp only[Lt.toD]
   walk_at "go"
   rw[OY]
   walk_at "go"
   exact ⟨by show 5<=1000000;decide,_,.refl _,k⟩
def gf:FSp:=λds μ Q=>kcA ds λwd ds=>kcT ds λst ds=>kcT ds λle ds=>kcN ds (∃ (w:Wy) (xs ys:List Lt),(wd=w.toD/\st=ltD xs/\le=ltD ys/\xs.length+ys.length<=900000)/\Q (.tup [.tup (ltD (tk w xs ys).1),.tup (ltD (tk w xs ys).2)]) μ)
theorem ui:∀ ds μ Q,gf ds μ Q->ds.length=3:=λ_ _ _ h=>lcA h λ_ _ h=>lcT h λ_ _ h=>lcT h λ_ _ h=>by rw[(ecN h).1];rfl
def qX:STr:=aB (aN (aq jT (af (ah 1) (ar))) (aw 3)) (aB (aN (kC (ar)) (aw 4)) (aB (iS (dW (ah 2)) (aw 5) (bK (TB (aj rGe (aq cS (af (ah 3) (ar))) (aj L3.rIx (ah 0) (TC (.int 2))))) (d8 (kg (ah 4) (ah 5))) (d8 (kg (ah 3) (aq eT (af (ah 0) (af (ah 5) (af (aq cS (af (ah 3) (ar))) (ar))))))))) (aW (bf (af (aq bu (af (ah 3) (ar))) (af (aq bu (af (ah 4) (ar))) (ar)))))))
theorem yy:∀ ds μ Q,gf ds μ Q->qX { nx:=λ_ μ'=>RT Q .non μ',rt:=RT Q } (ini 6 ds) μ:=by
 intro ds μ Q h
 replace h:=ecA h
 obtain ⟨wd,ds,rfl,h⟩:=h
 replace h:=ecT h
 obtain ⟨st,ds,rfl,h⟩:=h
 replace h:=ecT h
 obtain ⟨le,ds,rfl,h⟩:=h
 replace h:=ecN h
 obtain ⟨rfl,h⟩:=h
 walk_at "ini"
 unfold qX
 walk_at "go"
 obtain ⟨w,xs,ys,⟨rfl,rfl,rfl,hl⟩,k⟩:=h
 intro p hp
 walk_at "go"
 intro q hq
 have qp:q≠p:=λz=>by subst z;rw[aF] at hq;cases hq
 have hqn:μ q=none:=by rw[aU qp] at hq;exact hq
 refine bY (λr ρ μ'=>∃ (a b:List Lt) (rs:List Lt) (v5:Option D),r=ltD rs/\ρ=[some w.toD,some (.tup (ltD xs)),some (.tup (ltD ys)),some (.obj p),some (.obj q),v5]/\μ' p=some (.lst (ltD a))/\μ' q=some (.lst (ltD b))/\Sub μ μ'/\rs.foldl (cH w) (a,b)=tk w xs ys/\a.length+b.length+rs.length<=900000) ?_ ?_ _ _ _ ⟨xs,[],ys,_,rfl,rfl,by rw[aU (Vo qp),aF],aF,(Sub.new hp).trans (Sub.new hq),rfl,by simpa using hl⟩
 ·rintro ρ μ' ⟨a,b,rs,v5,er,rfl,ep,eq,s,e,_⟩
  have:rs=[]:=by cases rs with | nil=>rfl | cons=>cases er
  subst this
  have e:(a,b)=tk w xs ys:=e
  rw[← e] at k
  walk_at "go"
  refine a9 ep ?_
  walk_at "go"
  refine a9 eq ?_
  exact ⟨_,s,k⟩
 ·rintro d r ρ μ' N ⟨a,b,rs,v5,er,rfl,ep,eq,s,e,hz⟩ hN
  cases rs with
  | nil=>cases er
  | cons y rs=>
  cases er
  rw[Vg] at hz
  rw[WD] at e
  unfold cH at e
  simp only[Wy.toD]
  walk_at "go"
  refine a9 ep ?_
  walk_at "go"
  rw[UL]
  refine kif (λh1=>?_) λh1=>?_
  ·rw[if_pos h1] at e
   walk_at "go"
   refine a9 eq ?_
   walk_at "go"
   refine a9 eq ⟨by simp;omega,hN _ _ ⟨a,b++[y],rs,_,rfl,rfl,by rw[aU (Vo qp)];exact ep,by rw[aF];simp[ltD],λz o h=>?_,e,by simp;omega⟩⟩
   rw[aU (λe=>by subst e;rw[hqn] at h;cases h)];exact s z o h
  ·rw[if_neg h1] at e
   walk_at "go"
   refine a9 ep ?_
   walk_at "go"
   refine a9 ep ?_
   rw[UL]
   refine ⟨w,y,a.length,⟨rfl,rfl,rfl⟩,?_⟩
   walk_at "go"
   refine a9 ep ⟨by simp;omega,hN _ _ ⟨a++[kx w y a.length],b,rs,_,rfl,rfl,by rw[aF];simp[ltD],by rw[aU qp];exact eq,λz o h=>?_,e,by simp;omega⟩⟩
   rw[aU (λe=>by subst e;rw[hp] at h;cases h)];exact s z o h
theorem SU (w:Wy)(μ:Mu)(Q:DK):L3.rIx w.toD (.int 0) μ Q=Q (.str w.nm) μ:=propext UM
theorem Uc (w:Wy)(μ:Mu)(Q:DK):L3.rIx w.toD (.int 1) μ Q=Q (.int w.pc) μ:=propext UM
theorem T4 (w:Wy)(μ:Mu)(Q:DK):L3.rIx w.toD (.int 4) μ Q=Q (.str (wq w.tn)) μ:=propext UM
theorem lt_0 (x:Lt)(μ:Mu)(Q:DK):L3.rIx x.toD (.int 0) μ Q=Q (.str x.nm) μ:=propext UM
theorem T7 (x:Lt)(μ:Mu)(Q:DK):L3.rIx x.toD (.int 1) μ Q=Q (.int x.nu) μ:=propext UM
theorem TY (x:Lt)(μ:Mu)(Q:DK):L3.rIx x.toD (.int 2) μ Q=Q (.int x.ag) μ:=propext UM
theorem SV (x:Lt)(μ:Mu)(Q:DK):L3.rIx x.toD (.int 3) μ Q=Q (.int x.hp) μ:=propext UM
theorem SO (x:Lt)(μ:Mu)(Q:DK):L3.rIx x.toD (.int 4) μ Q=Q (.int x.mr) μ:=propext UM
theorem Ub (xs:List D){k:Int}(k0:0<=k):cutD xs none (some k)=xs.take k.toNat:=by
 have:=Cf xs k.toNat
 rwa [V5 k0] at this
theorem S2 (xs:List D){k:Int}(k0:0<=k):cutD xs (some k) none=xs.drop k.toNat:=by
 have:=sV xs k.toNat
 rwa [V5 k0] at this
theorem Jr (ls:List Lt)(n:Nat):(ltD ls).take n=ltD (ls.take n):=by simp[ltD,zcO]
theorem LL (ls:List Lt)(n:Nat):(ltD ls).drop n=ltD (ls.drop n):=by simp[ltD,zcP]
theorem jW {w:Wy}{a b:List Lt}{y:Lt}(h:w.rm<=(a.length:Int)):cH w (a,b) y=(a,b++[y]):=by unfold cH;rw[if_pos h]
theorem tF {w:Wy}{a b:List Lt}{y:Lt}(h:¬ w.rm<=(a.length:Int)):cH w (a,b) y=(a++[kx w y a.length],b):=by unfold cH;rw[if_neg h]
theorem uA:dg none=.non:=rfl
theorem uw (i:Int):dg (some i)=.int i:=rfl
theorem Aq (w:Wy):∀ (ys:List Lt) (a b:List Lt),(ys.foldl (cH w) (a,b)).1.length+(ys.foldl (cH w) (a,b)).2.length=a.length+b.length+ys.length
 | [],a,b=>by simp
 | y::ys,a,b=>by
  rw[WD]
  by_cases h:w.rm<=(a.length:Int)
  ·rw[jW h,Aq w ys];simp;omega
  ·rw[tF h,Aq w ys];simp;omega
theorem Bu (w:Wy)(y:Lt)(n:Nat):(kx w y n).nm=y.nm:=by
 unfold kx
 split
 ·rfl
 ·split<;>rfl
theorem EZ (w:Wy)(P:Str->Prop):∀ (ys:List Lt) (a b:List Lt),(∀ x∈a,P x.nm)->(∀ x∈b,P x.nm)->(∀ x∈ys,P x.nm)->(∀ x∈(ys.foldl (cH w) (a,b)).1,P x.nm)/\∀ x∈(ys.foldl (cH w) (a,b)).2,P x.nm
 | [],a,b,h1,h2,_=>⟨h1,h2⟩
 | y::ys,a,b,h1,h2,h3=>by
  rw[WD]
  have hy:=h3 y U0
  have hr:∀ x∈ys,P x.nm:=λx hx=>h3 x (U7 _ hx)
  by_cases h:w.rm<=(a.length:Int)
  ·rw[jW h]
   refine EZ w P ys _ _ h1 (λx hx=>?_) hr
   rcases Vu.mp hx with z | z
   ·exact h2 x z
   ·have:x=y:=by simpa using z
    subst this;exact hy
  ·rw[tF h]
   refine EZ w P ys _ _ (λx hx=>?_) h2 hr
   rcases Vu.mp hx with z | z
   ·exact h1 x z
   ·have:x=kx w y a.length:=by simpa using z
    subst this;rw[Bu];exact hy
def Sm:=Jn @SU <| Jn @Uc <| Jn @T4 <| Jn @lt_0 <| Jn @T7 <| Jn @TY <| Jn @SV <| Jn @SO <| @Q5
local macro_rules | `(tactic| walk_at "go")=>zzS "↓L3.Sm L3.Bm ↓L3.tM ↓L3.t7 ↓L3.tf ↓L3.tm ↓L3.tN ↓L3.t8 ↓L3.iz ↓L3.gR L3.bR L3.bD L3.bO L3.bU L3.bM L3.bS L3.cA L3.ck L3.bC L3.bW L3.bX L3.bP L3.bQ L3.cq L3.bT L3.cy L3.bL L3.cu L3.bV L3.cz L3.gj L3.uA L3.uw L3.dh List.map_cons List.map_nil List.replicate List.cons_append List.nil_append L3.lk L3.Aj L3.zK L3.wx L3.y3 L3.Ap L3.fg L3.rJ L3.kG L3.rj L3.rg L3.kz L3.ky L3.iU L3.iQ L3.iM L3.iJ true_and and_true and_self Bool.not_true Bool.not_false decide_true decide_false Bool.or_true Bool.or_false Bool.true_or Bool.false_or Bool.and_false Bool.false_and Bool.and_true Bool.true_and Int.reduceToNat Int.reducePow Int.reduceNeg Int.reduceSub Int.reduceAdd Int.reduceMul Int.reduceEq Int.reduceLT Int.reduceLE Int.reduceBEq L3.fQ L3.eQ L3.eU L3.eS L3.fb L3.eR L3.eZ L3.eP if_true if_false Bool.false_eq_true reduceCtorEq decide_eq_true_eq"
def nC (ws os:List Str)(l:Str):Option Str:=match (ws.filter λw=>decide (w∈os)).filter λw=>ltS l w with
 | x::_=>some x
 | []=>(ws.filter λw=>decide (w∈os)).head?
theorem GO {ws os:List Str}{l n:Str}(h:nC ws os l=some n):n∈ws/\n∈os:=by
 unfold nC at h
 have hm:n∈ws.filter λw=>decide (w∈os):=by
  split at h
  ·rename_i x r e
   cases h
   have:n∈(ws.filter λw=>decide (w∈os)).filter λw=>ltS l w:=by rw[e];exact U0
   exact (VM.mp this).1
  ·exact List.mem_of_head? h
 have:=VM.mp hm
 exact ⟨this.1,by simpa using this.2⟩
theorem Ai {ws os:List Str}{l w:Str}(h1:w∈ws)(h2:w∈os):∃ n,nC ws os l=some n:=by
 have hm:w∈ws.filter λw=>decide (w∈os):=VM.mpr ⟨h1,by simpa using h2⟩
 unfold nC
 split
 ·exact ⟨_,rfl⟩
 ·cases e:(ws.filter λw=>decide (w∈os)) with
  | nil=>rw[e] at hm;cases hm
  | cons x r=>exact ⟨x,rfl⟩
theorem Lm (w:Str)(os:List Str):inG (.str w) (os.map .str)=decide (w∈os):=by
 unfold inG
 rw[List.any_map]
 induction os with
 | nil=>simp
 | cons o r ih=>
  rw[Xu,ih]
  simp only[Function.comp_apply,kG]
  by_cases h:o=w
  ·simp[h]
  ·simp[h,Vo h,eq_comm]
theorem B6 {n:Nat}{os:List Str}(h:∀ o∈os,UU o=true):cY n (os.map .str)=true:=by
 induction os with
 | nil=>rfl
 | cons o r ih=>
  rw[UT,fg,wx,h o U0,ih λx hx=>h x (U7 _ hx)];rfl
theorem vF (os:List Str)(p:Str->Bool):(os.map D.str).filterMap (λd=>match d with
  | .str w=>if p w then some (D.str w) else none
  | _=>none)=(os.filter p).map D.str:=by
 induction os with
 | nil=>rfl
 | cons o r ih=>
  rw[UT,WS,VQ]
  dsimp only
  cases p o with
  | true=>simp[ih]
  | false=>simp[ih]
def fG:FSp:=λds μ Q=>kcA ds λd ds=>kcL ds λos' ds=>kcS ds λl ds=>kcN ds (∃ (ws os:List Str) (n:Str),((d=.tup (ws.map .str)∨d=.ls (ws.map .str))/\os'=os.map .str/\(∀ w∈ws,UU w=true)/\(∀ w∈os,UU w=true)/\ws.length<=900000/\nC ws os l=some n)/\Q (.str n) μ)
theorem r8:∀ ds μ Q,fG ds μ Q->ds.length=3:=λ_ _ _ h=>lcA h λ_ _ h=>lcL h λ_ _ h=>lcS h λ_ _ h=>by rw[(ecN h).1];rfl
def nq:STr:=aB (aN (b8 (dW (ah 0)) (aw 0) (TB (aj (JQ false) (ah 0) (ah 1))) (ah 0) 1 [1]) (aw 3)) (aB (aN (b8 (dW (ah 3)) (aw 0) (TB (aj OL (ah 0) (ah 1))) (ah 0) 1 [2]) (aw 4)) (aW (lA (TB (aj rGt (aq cS (af (ah 4) (ar))) (TC (.int 0)))) (aj L3.rIx (ah 4) (TC (.int 0))) (aj L3.rIx (ah 3) (TC (.int 0))))))
theorem uj:∀ ds μ Q,fG ds μ Q->nq { nx:=λ_ μ'=>RT Q .non μ',rt:=RT Q } (ini 5 ds) μ:=by
 intro ds μ Q h
 replace h:=ecA h
 obtain ⟨d,ds,rfl,h⟩:=h
 replace h:=ecL h
 obtain ⟨os',ds,rfl,h⟩:=h
 replace h:=ecS h
 obtain ⟨l,ds,rfl,h⟩:=h
 replace h:=ecN h
 obtain ⟨rfl,h⟩:=h
 walk_at "ini"
 unfold nq
 walk_at "go"
 obtain ⟨ws,os,n,⟨hd,rfl,h1,h2,hl,hn⟩,k⟩:=h
 have go:∀ d,d=.tup (ws.map .str)∨d=.ls (ws.map .str)->∀ f:List D->Prop,f (ws.map .str)->kS d f:=λd h f hf=>by rcases h with rfl | rfl<;>exact hf
 refine go d hd _ ?_
 refine vt (λd=>match d with
  | .str w=>if decide (w∈os) then some (.str w) else none
  | _=>none) (by rw[UL];omega) (λd hd μ' _ N n=>?_) ?_
 ·obtain ⟨w,hw,rfl⟩:=UP.mp hd
  walk_at "go"
  rw[B6 h2,Lm]
  have:=h1 w hw
  simp only[this,true_and]
  dsimp only at n
  refine kif (λh=>?_) λh=>?_
  ·rw[decide_eq_true h] at n;exact n
  ·rw[decide_eq_false h] at n;exact n
 ·rw[vF ws λw=>decide (w∈os)]
  generalize hth:(ws.filter λw=>decide (w∈os))=th at *
  have lth:th.length<=900000:=by rw[← hth];exact VA (W2 _ _) hl
  walk_at "go"
  refine vt (λd=>match d with
   | .str w=>if ltS l w then some (.str w) else none
   | _=>none) (by rw[UL];omega) (λd hd μ' _ N n=>?_) ?_
  ·obtain ⟨w,hw,rfl⟩:=UP.mp hd
   walk_at "go"
   dsimp only at n
   refine Gy (λh=>?_) λh=>?_
   ·rw[h] at n;exact n
   ·rw[h] at n;exact n
  ·rw[vF th λw=>ltS l w]
   unfold nC at hn
   rw[hth] at hn
   walk_at "go"
   cases e:th.filter λw=>ltS l w with
   | nil=>
    rw[e] at hn
    have hn:th.head? = some n:=hn
    cases th with
    | nil=>cases hn
    | cons x r=>
    cases hn
    walk_at "go"
    show kIf false _ _
    walk_at "go"
    exact ⟨_,.refl _,k⟩
   | cons x r=>
    rw[e] at hn
    have hn:some x=some n:=hn
    cases hn
    walk_at "go"
    refine pX (by simp) ?_
    exact ⟨_,.refl _,k⟩
def at1 (n:Str)(st:List Lt):Nat:=st.findIdx λx=>decide (x.nm=n)
def fP (ws:List Str)(p:Int):Nat->List Lt->List Lt->Str->List Lt×List Lt×Str
 | 0,st,out,l=>(out,st,l)
 | f+1,st,out,l=>if 0 < st.length/\(out.length:Int) < p then (match nC ws (st.map Lt.nm) l with
   | some n=>(match st[at1 n st]? with
    | some x=>fP ws p f (st.eraseIdx (at1 n st)) (out++[x]) n
    | none=>(out,st,l))
   | none=>(out,st,l)) else (out,st,l)
theorem Gf {n:Str}{st:List Lt}(h:n∈st.map Lt.nm):at1 n st < st.length:=by
 obtain ⟨x,hx,rfl⟩:=UP.mp h
 exact List.findIdx_lt_length_of_exists ⟨x,hx,by simp⟩
theorem sO {α β:Type}(f:α->β):∀ (l:List α) (i:Nat),(l.map f).eraseIdx i=(l.eraseIdx i).map f
 | [],_=>by simp
 | _::_,0=>rfl
 | a::l,i+1=>by simp[sO f l i]
theorem NZ {n:Str}{st:List Lt}(h:n∈st.map Lt.nm):DI ((st.map Lt.nm).map .str) (.str n)=some (at1 n st):=by
 unfold DI
 have hl:=Gf h
 rw[Yl]
 have e1:∀ m (hm:m < ((st.map Lt.nm).map D.str).length),eqD ((st.map Lt.nm).map D.str)[m] (.str n)=decide ((st[m]'(by simpa using hm)).nm=n):=by
  intro m hm
  simp[kG]
 refine ⟨by simpa using hl,?_,λj hj=>?_⟩
 ·rw[e1]
  have hl':(st.findIdx λx=>decide (x.nm=n)) < st.length:=hl
  have:=List.findIdx_getElem (xs:=st) (p:=λx=>decide (x.nm=n)) (w:=hl')
  exact this
 ·rw[e1]
  have:=List.not_of_lt_findIdx (xs:=st) (p:=λx=>decide (x.nm=n)) hj
  simpa using this
theorem zy {ws:List Str}{p:Int}{f:Nat}{st out:List Lt}{l:Str}(h:¬ (0 < st.length/\(out.length:Int) < p)):fP ws p f st out l=(out,st,l):=by
 cases f with
 | zero=>rfl
 | succ f=>unfold fP;rw[if_neg h]
theorem IP {ws:List Str}{p:Int}{f:Nat}{st out:List Lt}{l n:Str}{x:Lt}(h:0 < st.length/\(out.length:Int) < p)(hn:nC ws (st.map Lt.nm) l=some n)(hx:st[at1 n st]? = some x) :
  fP ws p (f+1) st out l=fP ws p f (st.eraseIdx (at1 n st)) (out++[x]) n:=by
 conv=>lhs;unfold fP
 rw[if_pos h,hn]
 dsimp only
 rw[hx]
theorem LN {n k:Nat}(h:k < n):L2.ixN n (k:Int)=some k:=by rw[Jh,if_pos h]
def mE (ws:List Str)(st:List Lt):Prop:=∀ x∈st,x.nm∈ws
def dM:FSp:=λds μ Q=>kcA ds λwd ds=>kcA ds λd ds=>kcT ds λst' ds=>kcS ds λl ds=>kcN ds (∃ (w:Wy) (ws:List Str) (st:List Lt),(wd=w.toD/\(d=.tup (ws.map .str)∨d=.ls (ws.map .str))/\st'=ltD st/\(∀ x∈ws,UU x=true)/\mE ws st/\ws.length<=900000/\st.length<=900000)/\
   Q (.tup [.tup (ltD (fP ws w.pc st.length st [] l).1),.tup (ltD (fP ws w.pc st.length st [] l).2.1),.str (fP ws w.pc st.length st [] l).2.2]) μ)
theorem ml:∀ ds μ Q,dM ds μ Q->ds.length=4:=λ_ _ _ h=>lcA h λ_ _ h=>lcA h λ_ _ h=>lcT h λ_ _ h=>lcS h λ_ _ h=>by rw[(ecN h).1];rfl
def jD:STr:=aB (aN (aq jT (af (ah 2) (ar))) (aw 4)) (aB (aN (kC (ar)) (aw 5)) (aB (aN (ah 3) (aw 6)) (aB (uV (mw (TB (aj rGt (aq cS (af (ah 4) (ar))) (TC (.int 0)))) (TB (aj rLt (aq cS (af (ah 5) (ar))) (aj L3.rIx (ah 0) (TC (.int 1)))))) (aB (aN (jC (ah 4) (aw 0) (dX) (aj L3.rIx (ah 0) (TC (.int 0))) 1 []) (aw 7)) (aB (aN (aq fG (af (ah 1) (af (ah 7) (af (ah 6) (ar))))) (aw 6)) (d8 (kg (ah 5) (QF (ah 4) (Ag (ah 7) (ah 6)))))))) (aW (bf (af (aq bu (af (ah 5) (ar))) (af (aq bu (af (ah 4) (ar))) (af (ah 6) (ar)))))))))
theorem oj:∀ ds μ Q,dM ds μ Q->jD { nx:=λ_ μ'=>RT Q .non μ',rt:=RT Q } (ini 8 ds) μ:=by
 intro ds μ Q h
 replace h:=ecA h
 obtain ⟨wd,ds,rfl,h⟩:=h
 replace h:=ecA h
 obtain ⟨d,ds,rfl,h⟩:=h
 replace h:=ecT h
 obtain ⟨st',ds,rfl,h⟩:=h
 replace h:=ecS h
 obtain ⟨l,ds,rfl,h⟩:=h
 replace h:=ecN h
 obtain ⟨rfl,h⟩:=h
 walk_at "ini"
 unfold jD
 walk_at "go"
 obtain ⟨w,ws,st,⟨rfl,hd,rfl,hw,hs,hl1,hl2⟩,k⟩:=h
 intro p hp
 walk_at "go"
 intro q hq
 have qp:q≠p:=λz=>by subst z;rw[aF] at hq;cases hq
 have hqn:μ q=none:=by rw[aU qp] at hq;exact hq
 walk_at "go"
 refine ⟨λρ μ'=>∃ (a o:List Lt) (n:Str) (v7:Option D) (f:Nat),ρ=[some w.toD,some d,some (.tup (ltD st)),some (.str l),some (.obj p),some (.obj q),some (.str n),v7]/\μ' p=some (.lst (ltD a))/\μ' q=some (.lst (ltD o))/\Sub μ μ'/\fP ws w.pc f a o n=fP ws w.pc st.length st [] l/\a.length<=f/\a.length+o.length<=900000/\mE ws a,
  λ_ μ'=>match μ' p with
   | some (.lst ds)=>ds.length
   | _=>0,⟨st,[],l,_,st.length,rfl,by rw[aU (Vo qp),aF],aF,(Sub.new hp).trans (Sub.new hq),rfl,U2 _,by simpa using hl2,hs⟩,?_⟩
 rintro ρ μ' ⟨a,o,n,v7,f,rfl,ep,eq,sb,e,hf,hz,ha⟩
 have fin:¬ (0 < a.length/\(o.length:Int) < w.pc)->RT Q (.tup [.tup (ltD o),.tup (ltD a),.str n]) μ':=λhn=>by
  rw[zy hn] at e
  rw[← e] at k
  exact ⟨_,sb,k⟩
 walk_at "go"
 refine a9 ep ?_
 walk_at "go"
 rw[UL]
 refine kif (λh1=>?_) λh1=>?_
 rotate_left
 ·refine a9 eq ?_
  walk_at "go"
  refine a9 ep ?_
  walk_at "go"
  exact fin λh=>h1 (by have:=h.1;omega)
 walk_at "go"
 refine a9 eq ?_
 walk_at "go"
 rw[UL]
 refine kif (λh2=>?_) λh2=>?_
 rotate_left
 ·refine a9 eq ?_
  walk_at "go"
  refine a9 ep ?_
  walk_at "go"
  exact fin λh=>h2 h.2
 walk_at "go"
 refine a9 ep ?_
 refine Du ep (λd=>match d with
  | .tup (x::_)=>x
  | _=>.non) (by rw[UL];omega) (λd hd μ2 _ N n=>?_) ?_
 ·obtain ⟨x,hx,rfl⟩:=UP.mp hd
  walk_at "go"
  exact n
 have em:(ltD a).map (λd=>match d with
  | .tup (x::_)=>x
  | _=>D.non)=(a.map Lt.nm).map .str:=by rw[UR,UR];rfl
 rw[em]
 walk_at "go"
 cases a with
 | nil=>simp at h1
 | cons x0 a0=>
 have h0:=ha x0 U0
 obtain ⟨n2,hn2⟩:=Ai (l:=n) h0 (show x0.nm∈(x0::a0).map Lt.nm from U0)
 generalize hA:x0::a0=A at *
 have hos:∀ z∈A.map Lt.nm,UU z=true:=λz hz=>by
  obtain ⟨y,hy,rfl⟩:=UP.mp hz
  exact hw _ (ha y hy)
 refine ⟨ws,A.map Lt.nm,n2,⟨hd,rfl,hw,hos,hl1,hn2⟩,?_⟩
 walk_at "go"
 have hin:=GO hn2
 have hi:=Gf hin.2
 refine a9 eq ?_
 walk_at "go"
 refine a9 ep ?_
 walk_at "go"
 rw[B6 hos,hw _ hin.1,NZ hin.2]
 simp only[true_and]
 walk_at "go"
 refine ⟨by omega,⟨by omega,by omega⟩,a9 ep ?_⟩
 rw[UL,LN hi]
 walk_at "go"
 obtain ⟨x,hx⟩:∃ x,A[at1 n2 A]? = some x:=⟨A[at1 n2 A],UY hi⟩
 rw[Wx,hx]
 walk_at "go"
 refine a9 (by rw[aU qp];exact eq) ⟨by simp;omega,?_⟩
 cases f with
 | zero=>omega
 | succ f=>
 rw[IP ⟨by omega,h2⟩ hn2 hx] at e
 have le:(A.eraseIdx (at1 n2 A)).length=A.length - 1:=List.length_eraseIdx_of_lt hi
 refine ⟨⟨A.eraseIdx (at1 n2 A),o++[x],n2,_,f,rfl,?_,?_,?_,e,by omega,by simp;omega,λy hy=>ha y (List.mem_of_mem_eraseIdx hy)⟩,?_⟩
 ·rw[aU (Vo qp),aF,sO]
 ·rw[aF];simp[ltD]
 ·intro z u h
  rw[aU (λe=>by subst e;rw[hqn] at h;cases h),aU (λe=>by subst e;rw[hp] at h;cases h)]
  exact sb z u h
 ·rw[aU (Vo qp),aF,ep]
  simp[List.length_eraseIdx,hi]
  omega
def eB (w:Wy)(ws:List Str)(st:List Lt)(l:Str):List Lt×List Lt×Str:=if w.tn then fP ws w.pc st.length st [] l else (st.take w.pc.toNat,st.drop w.pc.toNat,OF "")
theorem MB (b:Bool):UU (wq b)=true:=by cases b<;>decide +kernel
theorem Ha:UU (OF "turns")=true:=by decide +kernel
theorem Oz (b:Bool):decide (wq b=OF "turns")=b:=by cases b<;>decide +kernel
def iO:FSp:=λds μ Q=>kcA ds λwd ds=>kcA ds λd ds=>kcT ds λst' ds=>kcS ds λl ds=>kcN ds (∃ (w:Wy) (ws:List Str) (st:List Lt),(wd=w.toD/\(w.tn=true->(d=.tup (ws.map .str)∨d=.ls (ws.map .str))/\(∀ x∈ws,UU x=true)/\mE ws st/\ws.length<=900000)/\st'=ltD st/\st.length<=900000/\0<=w.pc)/\
   Q (.tup [.tup (ltD (eB w ws st l).1),.tup (ltD (eB w ws st l).2.1),.str (eB w ws st l).2.2]) μ)
theorem ym:∀ ds μ Q,iO ds μ Q->ds.length=4:=λ_ _ _ h=>lcA h λ_ _ h=>lcA h λ_ _ h=>lcT h λ_ _ h=>lcS h λ_ _ h=>by rw[(ecN h).1];rfl
def sH:STr:=aB (bK (TB (aj rEq (aj L3.rIx (ah 0) (TC (.int 4))) (TC (.str "turns")))) (aW (aq dM (af (ah 0) (af (ah 1) (af (ah 2) (af (ah 3) (ar))))))) (a8)) (aW (bf (af (aq bu (af (TSl (ah 2) (ONo) (lr (aj L3.rIx (ah 0) (TC (.int 1))))) (ar))) (af (aq bu (af (TSl (ah 2) (lr (aj L3.rIx (ah 0) (TC (.int 1)))) (ONo)) (ar))) (af (TC (.str "")) (ar))))))
theorem A4:∀ ds μ Q,iO ds μ Q->sH { nx:=λ_ μ'=>RT Q .non μ',rt:=RT Q } (ini 4 ds) μ:=by
 intro ds μ Q h
 replace h:=ecA h
 obtain ⟨wd,ds,rfl,h⟩:=h
 replace h:=ecA h
 obtain ⟨d,ds,rfl,h⟩:=h
 replace h:=ecT h
 obtain ⟨st',ds,rfl,h⟩:=h
 replace h:=ecS h
 obtain ⟨l,ds,rfl,h⟩:=h
 replace h:=ecN h
 obtain ⟨rfl,h⟩:=h
 walk_at "ini"
 unfold sH
 walk_at "go"
 obtain ⟨w,ws,st,⟨rfl,ht,rfl,hl,hp⟩,k⟩:=h
 walk_at "go"
 rw[MB,Ha,Oz]
 unfold eB at k
 refine ⟨⟨rfl,rfl⟩,?_⟩
 cases e:w.tn with
 | true=>
  rw[e,if_pos rfl] at k
  obtain ⟨h1,h2,h3,h4⟩:=ht e
  walk_at "go"
  exact ⟨w,ws,st,⟨rfl,h1,rfl,h2,h3,h4,hl⟩,_,.refl _,k⟩
 | false=>
  rw[e,if_neg (by decide)] at k
  walk_at "go"
  rw[Ub _ hp,S2 _ hp,Jr,LL]
  exact ⟨_,.refl _,k⟩
def cc:FSp:=λds μ Q=>kcI ds λa ds=>kcI ds λb ds=>kcN ds ((0<=a/\0 < b/\fU b)/\Q (fr (a.fdiv (Vi a b)) (b.fdiv (Vi a b))) μ)
theorem zZ:∀ ds μ Q,cc ds μ Q->ds.length=2:=λ_ _ _ h=>lcI h λ_ _ h=>lcI h λ_ _ h=>by rw[(ecN h).1];rfl
def wa:STr:=aB (qG 2 3 (af (ah 0) (af (ah 1) (ar)))) (aB (uV (TB (aj rGt (ah 3) (TC (.int 0)))) (qG 2 3 (af (ah 3) (af (aj lK (ah 2) (ah 3)) (ar))))) (aW (bf (af (aj mx (ah 0) (ah 2)) (af (aj mx (ah 1) (ah 2)) (ar))))))
theorem Dj:∀ ds μ Q,cc ds μ Q->wa { nx:=λ_ μ'=>RT Q .non μ',rt:=RT Q } (ini 4 ds) μ:=by
 intro ds μ Q h
 replace h:=ecI h
 obtain ⟨a,ds,rfl,h⟩:=h
 replace h:=ecI h
 obtain ⟨b,ds,rfl,h⟩:=h
 replace h:=ecN h
 obtain ⟨rfl,h⟩:=h
 walk_at "ini"
 unfold wa
 walk_at "go"
 obtain ⟨⟨a0,b0,b1⟩,k⟩:=h
 refine ⟨λρ μ'=>μ'=μ/\∃ x y:Int,ρ=[some (.int a),some (.int b),some (.int x),some (.int y)]/\0<=x/\0<=y/\Vi x y=Vi a b,mz 3,⟨rfl,a,b,rfl,a0,by omega,rfl⟩,?_⟩
 rintro ρ _ ⟨rfl,x,y,rfl,x0,y0,e⟩
 walk_at "go"
 refine kif (λhy=>?_) λhy=>?_
 ·walk_at "go"
  refine ⟨by omega,⟨_,_,rfl,y0,fm0 hy,?_⟩,?_⟩
  ·rw[xg];exact e
  ·have:=fm1 (a:=x) hy
   have:=fm0 (a:=x) hy
   simp only[mz,lk]
   omega
 ·have hy0:y=0:=by omega
  subst hy0
  rw[zbk] at e
  have hx:x=(Vi a b:Int):=by omega
  subst hx
  have gp:0 < Vi a b:=WQ a (by omega)
  have gl:(Vi a b:Int)<=b:=Int.gcd_le_right a b0
  have dv:jO (Vi a b:Int):=⟨by omega,by unfold fU at *;omega⟩
  walk_at "go"
  exact ⟨dv,dv,_,.refl _,k⟩
def cI:FSp:=λds μ Q=>kcO ds λb ds=>kcI ds λlo ds=>kcI ds λhi ds=>kcN ds ((Pot μ b/\0<=lo/\lo<=hi/\hi<=60)/\∀ p q μ',FrB lo hi p q->q<=7->dB b μ μ'->Q (fr p q) μ')
theorem sv:∀ ds μ Q,cI ds μ Q->ds.length=3:=λ_ _ _ h=>lcO h λ_ _ h=>lcI h λ_ _ h=>lcI h λ_ _ h=>by rw[(ecN h).1];rfl
def mS:STr:=aB (aN (aj L3.rIx (eM (af (TC (.int 1)) (af (TC (.int 1)) (af (TC (.int 2)) (af (TC (.int 3)) (af (TC (.int 5)) (af (TC (.int 7)) (ar)))))))) (aq ay (af (ah 0) (af (TC (.int 6)) (ar))))) (aw 3)) (aW (aq cc (af (aj aT (aj eJ (ah 1) (ah 3)) (aq ay (af (ah 0) (af (aj aT (aj eJ (aj kA (ah 2) (ah 1)) (ah 3)) (TC (.int 1))) (ar))))) (af (ah 3) (ar)))))
theorem vd:∀ ds μ Q,cI ds μ Q->mS { nx:=λ_ μ'=>RT Q .non μ',rt:=RT Q } (ini 4 ds) μ:=by
 intro ds μ Q h
 replace h:=ecO h
 obtain ⟨b,ds,rfl,h⟩:=h
 replace h:=ecI h
 obtain ⟨lo,ds,rfl,h⟩:=h
 replace h:=ecI h
 obtain ⟨hi,ds,rfl,h⟩:=h
 replace h:=ecN h
 obtain ⟨rfl,h⟩:=h
 walk_at "ini"
 unfold mS
 walk_at "go"
 obtain ⟨⟨hP,l0,l1,l2⟩,k⟩:=h
 refine aR hP (by decide) (by decide) λk1 μ1 k10 k11 P1=>?_
 have al:∀ d∈([.int 1,.int 1,.int 2,.int 3,.int 5,.int 7]:List D),IsI 1 7 d:=aD ⟨_,rfl,by decide,by decide⟩ (aD ⟨_,rfl,by decide,by decide⟩ (aD ⟨_,rfl,by decide,by decide⟩ (aD ⟨_,rfl,by decide,by decide⟩ (aD ⟨_,rfl,by decide,by decide⟩ (aD ⟨_,rfl,by decide,by decide⟩ ef)))))
 obtain ⟨_,e1,m,rfl,m0,m1⟩:=eL al k10 k11
 walk_at "go"
 rw[e1]
 walk_at "go"
 have sm:S64 m:=by unfold S64;omega
 have n1:0<=(hi - lo)*m:=Xi (by omega) (by omega)
 have n2:(hi - lo)*m<=60*7:=zcD (by omega) (by omega) (by omega) (by decide)
 refine ⟨.inl (.inr sm),.inl (.inr sm),?_⟩
 refine aR P1.pot (by omega) (by omega) λk2 μ2 k20 k21 P2=>?_
 walk_at "go"
 have n3:0<=lo*m:=Xi l0 (by omega)
 have e2:(hi - lo)*m=hi*m - lo*m:=Zn hi lo m
 refine ⟨⟨by omega,by omega,by unfold fU;omega⟩,_,.refl _,k _ _ μ2 (E7 (by omega) (by omega) (by omega) (by omega)) ?_ (P1.trans P2)⟩
 obtain ⟨g,p,q,g0,ea,eb,ep,eq,q0,qb,gg⟩:=jZ (a:=lo*m+k2) (show 0 < m by omega)
 rw[eq];omega
theorem Ee (w:Wd)(i:Decidable (w.str=OF "still")):@decide (w.str=OF "still") i=decide (w=.still):=by
 have e:(w.str=OF "still")↔w=.still:=by cases w<;>simp[Wd.str,dq,c5,di,dH,dk,dr,d7,eg,c7,dE,dm,dG,dF,dZ,dD,eG,dA,eE,dj,eA]
 cases i with
 | isTrue h=>exact (decide_eq_true (e.mp h)).symm
 | isFalse h=>exact (decide_eq_false λz=>h (e.mpr z)).symm
theorem FK (w:Wd)(i:Decidable (w.str=OF "step")):@decide (w.str=OF "step") i=decide (w=.step):=by
 have e:(w.str=OF "step")↔w=.step:=by cases w<;>simp[Wd.str,dq,c5,di,dH,dk,dr,d7,eg,c7,dE,dm,dG,dF,dZ,dD,eG,dA,eE,dj,eA]
 cases i with
 | isTrue h=>exact (decide_eq_true (e.mp h)).symm
 | isFalse h=>exact (decide_eq_false λz=>h (e.mpr z)).symm
theorem Ef (w:Wd)(i:Decidable (w.str=OF "swell")):@decide (w.str=OF "swell") i=decide (w=.swell):=by
 have e:(w.str=OF "swell")↔w=.swell:=by cases w<;>simp[Wd.str,dq,c5,di,dH,dk,dr,d7,eg,c7,dE,dm,dG,dF,dZ,dD,eG,dA,eE,dj,eA]
 cases i with
 | isTrue h=>exact (decide_eq_true (e.mp h)).symm
 | isFalse h=>exact (decide_eq_false λz=>h (e.mpr z)).symm
theorem Hs (w:Wd)(i:Decidable (w.str=OF "heed")):@decide (w.str=OF "heed") i=decide (w=.heed):=by
 have e:(w.str=OF "heed")↔w=.heed:=by cases w<;>simp[Wd.str,dq,c5,di,dH,dk,dr,d7,eg,c7,dE,dm,dG,dF,dZ,dD,eG,dA,eE,dj,eA]
 cases i with
 | isTrue h=>exact (decide_eq_true (e.mp h)).symm
 | isFalse h=>exact (decide_eq_false λz=>h (e.mpr z)).symm
theorem Ol (w:Wd):UU w.str=true:=by cases w<;>simp[Wd.str,mI,pT,me,rK,oX]
theorem MS {lo hi hi' p q:Int}(h:FrB lo hi p q)(hh:hi<=hi'):FrB lo hi' p q:=⟨h.q0,h.q1,h.g,h.ge,by have:=h.le;have:=U5 hh (Z8 h.q0);omega⟩
def jK:FSp:=λds μ Q=>kcO ds λb ds=>kcI ds λm ds=>kcN ds ((Pot μ b/\1<=m/\m<=60)/\∀ (R:RN) μ',R.Ok->R.r<=m*R.s->dB b μ μ'->Q R.toD μ')
theorem D5:∀ ds μ Q,jK ds μ Q->ds.length=2:=λ_ _ _ h=>lcO h λ_ _ h=>lcI h λ_ _ h=>by rw[(ecN h).1];rfl
def kh:STr:=aB (aN (aj aT (TC (.int 1)) (aq ay (af (ah 0) (af (TC (.int 5)) (ar))))) (aw 5)) (aB (aN (aq cc (af (aj aT (TC (.int 1)) (aq ay (af (ah 0) (af (aj eJ (TC (.int 2)) (ah 5)) (ar))))) (af (ah 5) (ar)))) (aw 6)) (aB (aN (aq cc (af (aj aT (TC (.int 1)) (aq ay (af (ah 0) (af (ah 5) (ar))))) (af (aj aT (ah 5) (TC (.int 1))) (ar)))) (aw 7)) (aB (bK (TB (aj rEq (ah 2) (TC (.str "still")))) (aW (bf (af (ah 2) (af (ah 3) (ar))))) (a8)) (aB (bK (TB (aj rEq (ah 2) (TC (.str "step")))) (aW (bf (af (ah 2) (af (ah 3) (af (ah 6) (af (ah 7) (af (ah 4) (ar)))))))) (a8)) (aB (bK (TB (aj rEq (ah 2) (TC (.str "swell")))) (aW (bf (af (ah 2) (af (ah 3) (af (aq cc (af (aj aT (aj L3.rIx (ah 6) (TC (.int 0))) (aj L3.rIx (ah 6) (TC (.int 1)))) (af (aj L3.rIx (ah 6) (TC (.int 1))) (ar)))) (af (ah 7) (af (ah 4) (ar)))))))) (a8)) (aB (bK (TB (aj rEq (ah 2) (TC (.str "heed")))) (aW (bf (af (ah 2) (af (ah 3) (af (ah 6) (af (aq cc (af (aj aT (TC (.int 1)) (aq ay (af (ah 0) (af (ah 5) (ar))))) (af (ah 5) (ar)))) (af (ah 4) (ar)))))))) (a8)) (aB (aN (aq ay (af (ah 0) (af (TC (.int 4)) (ar)))) (aw 8)) (aW (bf (af (ah 2) (af (ah 3) (af (ah 6) (af (ah 8) (af (aj aT (ah 8) (aq ay (af (ah 0) (af (TC (.int 5)) (ar))))) (af (ah 4) (ar))))))))))))))))
def BJ:STr:=aB (aN (aj L3.rIx (eM (af (TC (.str "still")) (af (TC (.str "step")) (af (TC (.str "swell")) (af (TC (.str "heed")) (af (TC (.str "calm")) (ar))))))) (aq ay (af (ah 0) (af (TC (.int 5)) (ar))))) (aw 2)) (aB (qG 3 4 (af (aq cI (af (ah 0) (af (TC (.int 1)) (af (ah 1) (ar))))) (af (aq cI (af (ah 0) (af (TC (.int 1)) (af (ah 1) (ar))))) (ar)))) (aB (bK (TB (aj rGt (aj eJ (aj L3.rIx (ah 3) (TC (.int 0))) (aj L3.rIx (ah 4) (TC (.int 1)))) (aj eJ (aj L3.rIx (ah 4) (TC (.int 0))) (aj L3.rIx (ah 3) (TC (.int 1)))))) (qG 3 4 (af (ah 4) (af (ah 3) (ar)))) (a8)) (kh)))
theorem G5:∀ ds μ Q,jK ds μ Q->BJ { nx:=λ_ μ'=>RT Q .non μ',rt:=RT Q } (ini 9 ds) μ:=by
 intro ds μ Q h
 replace h:=ecO h
 obtain ⟨b,ds,rfl,h⟩:=h
 replace h:=ecI h
 obtain ⟨m,ds,rfl,h⟩:=h
 replace h:=ecN h
 obtain ⟨rfl,h⟩:=h
 walk_at "ini"
 unfold BJ
 walk_at "go"
 obtain ⟨⟨hP,m0,m1⟩,k⟩:=h
 refine aR hP (by decide) (by decide) λk1 μ1 k10 k11 P1=>?_
 have al:∀ d∈([.str "still", .str "step", .str "swell", .str "heed", .str "calm"]:List D),∃ w:Wd,d=.str w.str:=aD ⟨.still,rfl⟩ (aD ⟨.step,rfl⟩ (aD ⟨.swell,rfl⟩ (aD ⟨.heed,rfl⟩ (aD ⟨.calm,rfl⟩ ef))))
 obtain ⟨_,e1,wd,rfl⟩:=eL al k10 k11
 walk_at "go"
 rw[e1]
 walk_at "go"
 refine ⟨⟨P1.pot,by decide,by omega,by omega⟩,λp q μ2 F1 q7 P2=>?_⟩
 walk_at "go"
 refine ⟨⟨P2.pot,by decide,by omega,by omega⟩,λr s μ3 F2 s7 P3=>?_⟩
 have sq:S64 q:=by have:=F1.q0;unfold S64;omega
 have ss:S64 s:=by have:=F2.q0;unfold S64;omega
 simp only[fr]
 walk_at "go"
 refine ⟨.inl (.inr ss),.inl (.inr sq),?_⟩
 have big:∀ (p q r s:Int) (μ3:Mu) (v5 v6 v7 v8:Option D),dB b μ μ3->FrB 1 m p q->FrB 1 m r s->p*s<=r*q->
   kh { nx:=λ_ μ'=>RT Q .non μ',rt:=RT Q } [some (.obj b),some (.int m),some (.str wd.str),some (.tup [.int p,.int q]),some (.tup [.int r,.int s]),v5,v6,v7,v8] μ3:=by
  intro p q r s μ3 v5 v6 v7 v8 P3 F1 F2 wt
  have F1':FrB 1 60 p q:=MS F1 m1
  have F2':FrB 1 60 r s:=MS F2 m1
  have rs:r<=m*s:=F2.le
  have ps:p<=m*q:=F1.le
  unfold kh
  walk_at "go"
  refine aR P3.pot (by decide) (by decide) λn μ4 n0 n1 P4=>?_
  walk_at "go"
  refine ⟨.inl (.inl (by unfold S64;decide)),?_⟩
  refine aR P4.pot (by omega) (by omega) λu μ5 u0 u1 P5=>?_
  walk_at "go"
  refine ⟨⟨by omega,by omega,by unfold fU;omega⟩,?_⟩
  have U:=FP (lo:=0) (hi:=2) (a:=1+u) (b:=1+n) (by omega) (by omega) (by omega) (by omega)
  generalize (1+u).fdiv (Vi (1+u) (1+n))=x at *
  generalize (1+n).fdiv (Vi (1+u) (1+n))=y at *
  have y0:=U.q0
  have yb:=U.q1
  have xb:=U.le
  have x0:0 < x:=by have:=U.ab;omega
  have U60:FrA 0 60 x y:=⟨⟨U.q0,U.q1,U.g,U.ge,by omega⟩,U.ab⟩
  walk_at "go"
  refine aR P5.pot (by omega) (by omega) λw μ6 w0 w1 P6=>?_
  walk_at "go"
  refine ⟨⟨by omega,by omega,by unfold fU;omega⟩,?_⟩
  have G:=Q3 (hi:=1) (a:=1+w) (b:=1+n+1) (by omega) (by omega) (by omega) (by omega)
  generalize (1+w).fdiv (Vi (1+w) (1+n+1))=a at *
  generalize (1+n+1).fdiv (Vi (1+w) (1+n+1))=c at *
  have G1:=Rf G
  have G2:a < c:=by have:=G.be;omega
  have P36:=P3.trans (P4.trans (P5.trans P6))
  walk_at "go"
  simp only[Ee,FK,Ef,Hs,Ol]
  walk_at "go"
  cases wd with
  | still=>
   simp only[reduceCtorEq,decide_true,decide_false]
   walk_at "go"
   have R:RN.Ok ⟨.still,p,q,1,1,1,1,0,0,p,q⟩:=⟨F1',F1',Vy _,Gr (by decide) (by decide),nofun,Gr (by decide) (by decide),(λz=>by rcases z with z | z<;>cases z),Vy 0,Vy 0,(show (0:Int)<=60 by decide),λ_=>⟨rfl,rfl⟩⟩
   exact ⟨_,.refl _,k _ μ6 R ps P36⟩
  | step=>
   simp only[reduceCtorEq,decide_true,decide_false]
   walk_at "go"
   have R:RN.Ok ⟨.step,p,q,x,y,a,c,0,0,r,s⟩:=⟨F1',F2',wt,U60,nofun,G1,λ_=>G2,Vy 0,Vy 0,(show (0:Int)<=60 by decide),nofun⟩
   exact ⟨_,.refl _,k _ μ6 R rs P36⟩
  | swell=>
   simp only[reduceCtorEq,decide_true,decide_false,fr]
   walk_at "go"
   refine ⟨⟨by omega,y0,by unfold fU;omega⟩,?_⟩
   have V:=FP (lo:=1) (hi:=60) (a:=x+y) (b:=y) y0 yb (by omega) (by omega)
   generalize (x+y).fdiv (Vi (x+y) y)=x2 at *
   generalize y.fdiv (Vi (x+y) y)=y2 at *
   have v1:=V.ab
   have vq:=V.q0
   have V2:FrA 0 60 x2 y2:=⟨⟨V.q0,V.q1,V.g,by omega,V.le⟩,by omega⟩
   have R:RN.Ok ⟨.swell,p,q,x2,y2,a,c,0,0,r,s⟩:=⟨F1',F2',wt,V2,λ_=>(by show y2 < x2;omega),G1,λ_=>G2,Vy 0,Vy 0,(show (0:Int)<=60 by decide),nofun⟩
   walk_at "go"
   exact ⟨_,.refl _,k _ μ6 R rs P36⟩
  | heed=>
   simp only[reduceCtorEq,decide_true,decide_false]
   walk_at "go"
   refine aR P6.pot (by omega) (by omega) λz μ7 z0 z1 P7=>?_
   walk_at "go"
   refine ⟨⟨by omega,by omega,by unfold fU;omega⟩,?_⟩
   have V:=FP (lo:=0) (hi:=1) (a:=1+z) (b:=1+n) (by omega) (by omega) (by omega) (by omega)
   generalize (1+z).fdiv (Vi (1+z) (1+n))=a2 at *
   generalize (1+n).fdiv (Vi (1+z) (1+n))=c2 at *
   have R:RN.Ok ⟨.heed,p,q,x,y,a2,c2,0,0,r,s⟩:=⟨F1',F2',wt,U60,nofun,V,(λz=>by rcases z with z | z<;>cases z),Vy 0,Vy 0,(show (0:Int)<=60 by decide),nofun⟩
   walk_at "go"
   exact ⟨_,.refl _,k _ μ7 R rs (P36.trans P7)⟩
  | calm=>
   simp only[reduceCtorEq,decide_true,decide_false]
   walk_at "go"
   refine aR P6.pot (by decide) (by decide) λz μ7 z0 z1 P7=>?_
   walk_at "go"
   refine aR P7.pot (by decide) (by decide) λz2 μ8 z20 z21 P8=>?_
   walk_at "go"
   have R:RN.Ok ⟨.calm,p,q,x,y,1,1,z,z+z2,r,s⟩:=⟨F1',F2',wt,U60,nofun,Gr (by decide) (by decide),(λz=>by rcases z with z | z<;>cases z),z0,(by show z<=z+z2;omega),(by show z+z2<=60;omega),nofun⟩
   exact ⟨_,.refl _,k _ μ8 R rs (P36.trans (P7.trans P8))⟩
 have P13:=P1.trans (P2.trans P3)
 refine kif (λh1=>?_) λh1=>?_
 ·walk_at "go"
  exact big r s p q μ3 _ _ _ _ P13 F2 F1 (by omega)
 ·exact big p q r s μ3 _ _ _ _ P13 F1 F2 (by omega)
abbrev wyD (ws:List Wy):List D:=ws.map Wy.toD
structure Sn where
 nm:Str
 rd:List Str
 bt:Int
 bg:Int
 mn:Option Int
 rl:RN
def Sn.toD (x:Sn):D:=.tup [.str x.nm,.tup (x.rd.map .str),.int x.bt,.int x.bg,dg x.mn,x.rl.toD]
abbrev snD (ss:List Sn):List D:=ss.map Sn.toD
structure Sn.Ok (wn:List Str) (m:Int) (x:Sn):Prop where
 n:UU x.nm=true
 r0:x.rd≠[]
 r:x.rd.Sublist wn
 b0:1<=x.bt
 b1:x.bt<=8
 g0:0<=x.bg
 g1:x.bg<=1000000
 mm:∀ i,x.mn=some i->0<=i/\i<=1000000
 k:x.rl.Ok
 l:x.rl.r<=m*x.rl.s
structure Pn where
 g:Int
 ws:List Wy
 ss:List Sn
def Pn.toD (p:Pn):D:=.tup [.int p.g,.tup (wyD p.ws),.tup (snD p.ss)]
abbrev Pn.wn (p:Pn):List Str:=p.ws.map Wy.nm
abbrev Pn.sn (p:Pn):List Str:=p.ss.map Sn.nm
structure Pn.Ok (m:Int) (p:Pn):Prop where
 g:Gd p.g
 w0:0 < p.ws.length
 w1:p.ws.length<=6
 wd:p.wn.Nodup
 w:∀ x∈p.ws,x.Ok
 s1:p.ss.length<=8
 sd:p.sn.Pairwise λa b=>ltS a b=true
 s:∀ x∈p.ss,x.Ok p.wn m
theorem Ls {a b:Str}(h:a.cps.toList=b.cps.toList):a=b:=by
 cases a with | mk x=>cases b with | mk y=>
 congr 1
 exact Array.toList_inj.mp h
theorem Ny {a b:Str}(h1:ltS b a=false)(h2:a≠b):ltS a b=true:=by
 unfold ltS at *
 rw[decide_eq_false_iff_not,zcb] at h1
 rw[decide_eq_true_eq]
 refine Decidable.byContradiction λh3=>h2 (Ls (List.le_antisymm h1 ?_))
 exact zcb.mp h3
theorem pw_strict {l:List Str}(h:l.Pairwise λa b=>ltS b a=false)(hn:l.Nodup):l.Pairwise λa b=>ltS a b=true:=by
 induction h with
 | nil=>exact .nil
 | @cons a l h1 h2 ih=>
  rw[VN] at hn
  exact .cons (λb hb=>Ny (h1 b hb) λe=>hn.1 (e ▸ hb)) (ih hn.2)
def kK:FSp:=λds μ Q=>kcO ds λb ds=>kcL ds λns' ds=>kcN ds (∃ ns:List Str,(Pot μ b/\ns'=ns.map .str/\(∀ n∈ns,n∈cM)/\ns.length<=17)/\∀ (ws:List Wy) μ',ws.map Wy.nm=ns->(∀ w∈ws,w.Ok)->dB b μ μ'->Q (.tup (wyD ws)) μ')
theorem DZ:∀ ds μ Q,kK ds μ Q->ds.length=2:=λ_ _ _ h=>lcO h λ_ _ h=>lcL h λ_ _ h=>by rw[(ecN h).1];rfl
def Cq:STr:=aB (aN (kC (ar)) (aw 2)) (aB (iS (dW (ah 1)) (aw 3) (aB (aN (aj L3.rIx (eM (af (TC (.int 1)) (af (TC (.int 1)) (af (TC (.int 2)) (af (TC (.int 3)) (af (aj aT (TC (.int 1)) (aq ay (af (ah 0) (af (TC (.int 20)) (ar))))) (ar))))))) (aq ay (af (ah 0) (af (TC (.int 5)) (ar))))) (aw 4)) (aB (aN (aj L3.rIx (eM (af (aj aT (TC (.int 1)) (aq ay (af (ah 0) (af (TC (.int 3)) (ar))))) (af (aj aT (TC (.int 2)) (aq ay (af (ah 0) (af (TC (.int 8)) (ar))))) (af (aj aT (TC (.int 5)) (aq ay (af (ah 0) (af (TC (.int 56)) (ar))))) (ar))))) (aq ay (af (ah 0) (af (TC (.int 3)) (ar))))) (aw 5)) (aB (aN (aj L3.rIx (eM (af (TC .non) (af (aq ay (af (ah 0) (af (aj aT (ah 5) (TC (.int 1))) (ar)))) (af (aq ay (af (ah 0) (af (TC (.int 61)) (ar)))) (ar))))) (aq ay (af (ah 0) (af (TC (.int 3)) (ar))))) (aw 6)) (d8 (kg (ah 2) (bf (af (ah 3) (af (ah 4) (af (ah 5) (af (ah 6) (af (aj L3.rIx (eM (af (TC (.str "line")) (af (TC (.str "turns")) (ar)))) (aq ay (af (ah 0) (af (TC (.int 2)) (ar))))) (ar))))))))))))) (aW (aq bu (af (ah 2) (ar)))))
theorem Gm:∀ ds μ Q,kK ds μ Q->Cq { nx:=λ_ μ'=>RT Q .non μ',rt:=RT Q } (ini 7 ds) μ:=by
 intro ds μ Q h
 replace h:=ecO h
 obtain ⟨b,ds,rfl,h⟩:=h
 replace h:=ecL h
 obtain ⟨ns',ds,rfl,h⟩:=h
 replace h:=ecN h
 obtain ⟨rfl,h⟩:=h
 walk_at "ini"
 unfold Cq
 walk_at "go"
 obtain ⟨ns,⟨hP,rfl,hn,hl⟩,k⟩:=h
 intro p hp
 have pb:=hP.ne hp
 walk_at "go"
 refine bY (λr ρ μ'=>∃ (ws:List Wy) (rs:List Str) (v3 v4 v5 v6:Option D),r=rs.map .str/\ρ=[some (.obj b),some (.ls (ns.map .str)),some (.obj p),v3,v4,v5,v6]/\μ' p=some (.lst (wyD ws))/\Pot μ' b/\Kp b μ μ'/\(∀ w∈ws,w.Ok)/\ws.map Wy.nm++rs=ns) ?_ ?_ _ _ _ ⟨[],ns,_,_,_,_,rfl,rfl,aF,hP.up pb,Kp.new hp,(λ_ h=>nomatch h),rfl⟩
 ·rintro ρ μ' ⟨ws,rs,v3,v4,v5,v6,er,rfl,ep,P',kp,hw,e⟩
  have:rs=[]:=by cases rs with | nil=>rfl | cons=>cases er
  subst this
  rw[Vk] at e
  walk_at "go"
  exact a9 ep (Lr P' kp λμ2 P2=>k ws μ2 e hw P2)
 ·rintro d r ρ μ' N ⟨ws,rs,v3,v4,v5,v6,er,rfl,ep,P',kp,hw,e⟩ hN
  cases rs with
  | nil=>cases er
  | cons n rs=>
  cases er
  have hnn:n∈cM:=hn n (by rw[← e];simp)
  have hlen:ws.length<=17:=by have:=congrArg WC e;simp at this;omega
  walk_at "go"
  refine aR P' (by decide) (by decide) λk1 μ1 k10 k11 P1=>?_
  walk_at "go"
  refine aR P1.pot (by decide) (by decide) λk2 μ2 k20 k21 P2=>?_
  have al:∀ d∈([.int 1,.int 1,.int 2,.int 3,.int (1+k1)]:List D),IsI 1 20 d:=aD ⟨_,rfl,by decide,by decide⟩ (aD ⟨_,rfl,by decide,by decide⟩ (aD ⟨_,rfl,by decide,by decide⟩ (aD ⟨_,rfl,by decide,by decide⟩ (aD ⟨_,rfl,by omega,by omega⟩ ef))))
  obtain ⟨_,e1,pc,rfl,pc0,pc1⟩:=eL al k20 k21
  walk_at "go"
  rw[e1]
  walk_at "go"
  refine aR P2.pot (by decide) (by decide) λk3 μ3 k30 k31 P3=>?_
  walk_at "go"
  refine aR P3.pot (by decide) (by decide) λk4 μ4 k40 k41 P4=>?_
  walk_at "go"
  refine aR P4.pot (by decide) (by decide) λk5 μ5 k50 k51 P5=>?_
  walk_at "go"
  refine aR P5.pot (by decide) (by decide) λk6 μ6 k60 k61 P6=>?_
  have al2:∀ d∈([.int (1+k3),.int (2+k4),.int (5+k5)]:List D),IsI 1 60 d:=aD ⟨_,rfl,by omega,by omega⟩ (aD ⟨_,rfl,by omega,by omega⟩ (aD ⟨_,rfl,by omega,by omega⟩ ef))
  obtain ⟨_,e2,rm,rfl,rm0,rm1⟩:=eL al2 k60 k61
  walk_at "go"
  rw[e2]
  walk_at "go"
  refine aR P6.pot (by omega) (by omega) λk7 μ7 k70 k71 P7=>?_
  walk_at "go"
  refine aR P7.pot (by decide) (by decide) λk8 μ8 k80 k81 P8=>?_
  walk_at "go"
  refine aR P8.pot (by decide) (by decide) λk9 μ9 k90 k91 P9=>?_
  have al3:∀ d∈([.non,.int k7,.int k8]:List D),∃ o:Option Int,d=dg o/\∀ i,o=some i->0<=i/\i<=60:=aD ⟨none,rfl,nofun⟩ (aD ⟨some _,rfl,λi e=>by cases e;omega⟩ (aD ⟨some _,rfl,λi e=>by cases e;omega⟩ ef))
  obtain ⟨_,e3,o,rfl,ho⟩:=eL al3 k90 k91
  walk_at "go"
  rw[e3]
  walk_at "go"
  have P19:=P1.trans (P2.trans (P3.trans (P4.trans (P5.trans (P6.trans (P7.trans (P8.trans P9)))))))
  have ep9:μ9 p=some (.lst (wyD ws)):=by rw[P19.oth p pb];exact ep
  refine a9 ep9 ?_
  refine aR P9.pot (by decide) (by decide) λk11 μ10 k110 k111 P10=>?_
  have al4:∀ d∈([.str "line", .str "turns"]:List D),∃ t:Bool,d=.str (wq t):=aD ⟨false,rfl⟩ (aD ⟨true,rfl⟩ ef)
  obtain ⟨_,e4,tn,rfl⟩:=eL al4 k110 k111
  walk_at "go"
  rw[e4]
  walk_at "go"
  have ep10:μ10 p=some (.lst (wyD ws)):=by rw[P10.oth p pb];exact ep9
  refine a9 ep10 ⟨by simp;omega,hN _ _ ⟨ws++[⟨n,pc,rm,o,tn⟩],rs,_,_,_,_,rfl,rfl,?_,P10.pot.up pb,((kp.trans P19.kp).trans P10.kp).put hp,?_,?_⟩⟩
  ·rw[aF];simp[wyD,Wy.toD]
  ·intro x hx
   rcases Vu.mp hx with z | z
   ·exact hw x z
   ·have:x=⟨n,pc,rm,o,tn⟩:=by simpa using z
    subst this
    exact ⟨Gi _ hnn,pc0,pc1,rm0,rm1,ho⟩
  ·rw[← e];simp
theorem sub_snoc {α:Type}{a b:List α}(h:a.Sublist b)(x:α):(a++[x]).Sublist (b++[x]):=h.append (zbJ _)
def iH:FSp:=λds μ Q=>kcO ds λb ds=>kcS ds λn ds=>kcT ds λws' ds=>kcI ds λm ds=>kcN ds (∃ ws:List Wy,(Pot μ b/\n∈cM/\ws'=wyD ws/\(0 < ws.length/\ws.length<=17)/\1<=m/\m<=60)/\∀ (x:Sn) μ',x.Ok (ws.map Wy.nm) m->x.nm=n->dB b μ μ'->Q x.toD μ')
theorem yp:∀ ds μ Q,iH ds μ Q->ds.length=4:=λ_ _ _ h=>lcO h λ_ _ h=>lcS h λ_ _ h=>lcT h λ_ _ h=>lcI h λ_ _ h=>by rw[(ecN h).1];rfl
def ip:STr:=aB (aN (aj L3.rIx (eM (af (TC (.int 1)) (af (TC (.int 1)) (af (TC (.int 2)) (af (TC (.int 3)) (af (aj aT (TC (.int 1)) (aq ay (af (ah 0) (af (TC (.int 8)) (ar))))) (ar))))))) (aq ay (af (ah 0) (af (TC (.int 5)) (ar))))) (aw 5)) (aB (aN (aj L3.rIx (eM (af (TC .non) (af (TC .non) (af (aq ay (af (ah 0) (af (TC (.int 4)) (ar)))) (af (aq ay (af (ah 0) (af (TC (.int 40)) (ar)))) (ar)))))) (aq ay (af (ah 0) (af (TC (.int 4)) (ar))))) (aw 6)) (aW (bf (af (ah 1) (af (ah 4) (af (ah 5) (af (aj L3.rIx (eM (af (TC (.int 0)) (af (TC (.int 0)) (af (aq ay (af (ah 0) (af (TC (.int 3)) (ar)))) (af (aq ay (af (ah 0) (af (TC (.int 12)) (ar)))) (ar)))))) (aq ay (af (ah 0) (af (TC (.int 4)) (ar))))) (af (ah 6) (af (aq jK (af (ah 0) (af (ah 3) (ar)))) (ar))))))))))
def tI:STr:=aB (aN (aq bu (af (b8 (dW (ah 2)) (aw 0) (TB (aj rEq (aq ay (af (ah 1) (af (TC (.int 2)) (ar)))) (TC (.int 0)))) (aj L3.rIx (ah 0) (TC (.int 0))) 1 [0]) (ar))) (aw 4)) (aB (bK (TB (aj rEq (aq cS (af (ah 4) (ar))) (TC (.int 0)))) (aN (bf (af (aj L3.rIx (aj L3.rIx (ah 2) (aq ay (af (ah 0) (af (aq cS (af (ah 2) (ar))) (ar))))) (TC (.int 0))) (ar))) (aw 4)) (a8)) (ip))
theorem AS:∀ ds μ Q,iH ds μ Q->tI { nx:=λ_ μ'=>RT Q .non μ',rt:=RT Q } (ini 7 ds) μ:=by
 intro ds μ Q h
 replace h:=ecO h
 obtain ⟨b,ds,rfl,h⟩:=h
 replace h:=ecS h
 obtain ⟨n,ds,rfl,h⟩:=h
 replace h:=ecT h
 obtain ⟨ws',ds,rfl,h⟩:=h
 replace h:=ecI h
 obtain ⟨m,ds,rfl,h⟩:=h
 replace h:=ecN h
 obtain ⟨rfl,h⟩:=h
 walk_at "ini"
 unfold tI
 walk_at "go"
 obtain ⟨ws,⟨hP,hn,rfl,⟨w0,w1⟩,m0,m1⟩,k⟩:=h
 have rest:∀ (rd:List Str) (μ1:Mu) (v5 v6:Option D),dB b μ μ1->rd≠[]->rd.Sublist (ws.map Wy.nm)->ip { nx:=λ_ μ'=>RT Q .non μ',rt:=RT Q } [some (.obj b),some (.str n),some (.tup (wyD ws)),some (.int m),some (.tup (rd.map .str)),v5,v6] μ1:=by
  intro rd μ0 v5 v6 P0 rd0 rds
  unfold ip
  walk_at "go"
  refine aR P0.pot (by decide) (by decide) λk1 μ1 k10 k11 P1=>?_
  walk_at "go"
  refine aR P1.pot (by decide) (by decide) λk2 μ2 k20 k21 P2=>?_
  have al:∀ d∈([.int 1,.int 1,.int 2,.int 3,.int (1+k1)]:List D),IsI 1 8 d:=aD ⟨_,rfl,by decide,by decide⟩ (aD ⟨_,rfl,by decide,by decide⟩ (aD ⟨_,rfl,by decide,by decide⟩ (aD ⟨_,rfl,by decide,by decide⟩ (aD ⟨_,rfl,by omega,by omega⟩ ef))))
  obtain ⟨_,e1,bt,rfl,bt0,bt1⟩:=eL al k20 k21
  walk_at "go"
  rw[e1]
  walk_at "go"
  refine aR P2.pot (by decide) (by decide) λk3 μ3 k30 k31 P3=>?_
  walk_at "go"
  refine aR P3.pot (by decide) (by decide) λk4 μ4 k40 k41 P4=>?_
  walk_at "go"
  refine aR P4.pot (by decide) (by decide) λk5 μ5 k50 k51 P5=>?_
  have al3:∀ d∈([.non,.non,.int k3,.int k4]:List D),∃ o:Option Int,d=dg o/\∀ i,o=some i->0<=i/\i<=1000000:=aD ⟨none,rfl,nofun⟩ (aD ⟨none,rfl,nofun⟩ (aD ⟨some _,rfl,λi e=>by cases e;omega⟩ (aD ⟨some _,rfl,λi e=>by cases e;omega⟩ ef)))
  obtain ⟨_,e3,o,rfl,ho⟩:=eL al3 k50 k51
  walk_at "go"
  rw[e3]
  walk_at "go"
  refine aR P5.pot (by decide) (by decide) λk6 μ6 k60 k61 P6=>?_
  walk_at "go"
  refine aR P6.pot (by decide) (by decide) λk7 μ7 k70 k71 P7=>?_
  walk_at "go"
  refine aR P7.pot (by decide) (by decide) λk8 μ8 k80 k81 P8=>?_
  have al4:∀ d∈([.int 0,.int 0,.int k6,.int k7]:List D),IsI 0 1000000 d:=aD ⟨_,rfl,by decide,by decide⟩ (aD ⟨_,rfl,by decide,by decide⟩ (aD ⟨_,rfl,by omega,by omega⟩ (aD ⟨_,rfl,by omega,by omega⟩ ef)))
  obtain ⟨_,e4,bg,rfl,bg0,bg1⟩:=eL al4 k80 k81
  walk_at "go"
  rw[e4]
  walk_at "go"
  refine ⟨⟨P8.pot,m0,m1⟩,λR μ9 K L P9=>?_⟩
  walk_at "go"
  exact ⟨_,.refl _,k ⟨n,rd,bt,bg,o,R⟩ μ9 ⟨Gi _ hn,rd0,rds,bt0,bt1,bg0,bg1,ho,K,L⟩ rfl (P0.trans (P1.trans (P2.trans (P3.trans (P4.trans (P5.trans (P6.trans (P7.trans (P8.trans P9)))))))))⟩
 refine yk hP (λr zs=>∃ (rd:List Str) (a c:List Wy),zs=rd.map .str/\r=wyD c/\a++c=ws/\rd.Sublist (a.map Wy.nm)) ⟨[],[],ws,rfl,rfl,rfl,zbJ _⟩ (by simp;omega) ?_ ?_
 ·rintro d r zs μ' P' _ ⟨rd,a,c,rfl,er,ea,hs⟩ N hN
  cases c with
  | nil=>cases er
  | cons x c=>
  cases er
  walk_at "go"
  refine aR P' (by decide) (by decide) λk1 μ2 k10 k11 P2=>?_
  walk_at "go"
  refine kif (λ_=>hN (some (.str x.nm)) μ2 ⟨rd++[x.nm],a++[x],c,by simp,rfl,by simp[ea],?_⟩ P2) λ_=>hN none μ2 ⟨rd,a++[x],c,by simp,rfl,by simp[ea],?_⟩ P2
  ·rw[Vq];exact sub_snoc hs _
  ·rw[Vq];exact hs.trans (ZD _ _)
 ·rintro zs μ1 ⟨rd,a,c,rfl,er,ea,hs⟩ P1
  have:c=[]:=by cases c with | nil=>rfl | cons=>cases er
  subst this
  rw[Vk] at ea
  subst ea
  walk_at "go"
  rw[UL]
  refine kif (λh0=>?_) λh0=>?_
  ·walk_at "go"
   rw[UL]
   refine aR P1.pot (by omega) (by omega) λk2 μ2 k20 k21 P2=>?_
   have hc:k2.toNat < a.length:=by omega
   walk_at "go"
   rw[Mx k20,Wx,UY hc]
   walk_at "go"
   simp only[zai]
   walk_at "go"
   exact rest [a[k2.toNat].nm] μ2 _ _ (P1.trans P2) (by simp) (List.singleton_sublist.mpr (UP.mpr ⟨_,WH hc,rfl⟩))
  ·exact rest rd μ1 _ _ P1 (λz=>h0 (by rw[z];rfl)) hs
def kX:FSp:=λds μ Q=>kcO ds λb ds=>kcN ds (Pot μ b/\∀ (p:Pn) (m:Int) μ',p.Ok m->(1<=m/\m<=60)->dB b μ μ'->Q p.toD μ')
theorem DE:∀ ds μ Q,kX ds μ Q->ds.length=1:=λ_ _ _ h=>lcO h λ_ _ h=>by rw[(ecN h).1];rfl
def Bw:STr:=aB (aN (aj L3.rIx (eM (af (TC (.int 1)) (af (TC (.int 2)) (af (TC (.int 3)) (af (aj aT (TC (.int 1)) (aq ay (af (ah 0) (af (TC (.int 60)) (ar))))) (ar)))))) (aq ay (af (ah 0) (af (TC (.int 4)) (ar))))) (aw 1)) (aB (aN (aq kK (af (ah 0) (af (aq ie (af (ah 0) (af (aj L3.rIx (eM (af (TC (.int 1)) (af (TC (.int 1)) (af (TC (.int 2)) (af (TC (.int 2)) (af (TC (.int 3)) (af (TC (.int 6)) (ar)))))))) (aq ay (af (ah 0) (af (TC (.int 6)) (ar))))) (ar)))) (ar)))) (aw 2)) (aB (aN (aj L3.rIx (eM (af (TC (.int 2)) (af (TC (.int 4)) (af (TC (.int 12)) (af (TC (.int 12)) (af (TC (.int 60)) (ar))))))) (aq ay (af (ah 0) (af (TC (.int 5)) (ar))))) (aw 3)) (aB (aN (aq ie (af (ah 0) (af (aj L3.rIx (eM (af (TC (.int 0)) (af (TC (.int 1)) (af (TC (.int 1)) (af (TC (.int 2)) (af (TC (.int 2)) (af (TC (.int 3)) (af (TC (.int 3)) (af (TC (.int 8)) (ar)))))))))) (aq ay (af (ah 0) (af (TC (.int 8)) (ar))))) (ar)))) (aw 4)) (aW (bf (af (ah 1) (af (ah 2) (af (aq bu (af (b8 (dW (aq Az (af (ah 4) (ar)))) (aw 0) (dX) (aq iH (af (ah 1) (af (ah 0) (af (ah 2) (af (ah 3) (ar)))))) 1 [0,2,3]) (ar))) (ar)))))))))
theorem Jb:∀ ds μ Q,kX ds μ Q->Bw { nx:=λ_ μ'=>RT Q .non μ',rt:=RT Q } (ini 5 ds) μ:=by
 intro ds μ Q h
 replace h:=ecO h
 obtain ⟨b,ds,rfl,h⟩:=h
 replace h:=ecN h
 obtain ⟨rfl,h⟩:=h
 walk_at "ini"
 unfold Bw
 walk_at "go"
 obtain ⟨hP,k⟩:=h
 refine aR hP (by decide) (by decide) λk1 μ1 k10 k11 P1=>?_
 walk_at "go"
 refine aR P1.pot (by decide) (by decide) λk2 μ2 k20 k21 P2=>?_
 have al:∀ d∈([.int 1,.int 2,.int 3,.int (1+k1)]:List D),IsI 1 60 d:=aD ⟨_,rfl,by decide,by decide⟩ (aD ⟨_,rfl,by decide,by decide⟩ (aD ⟨_,rfl,by decide,by decide⟩ (aD ⟨_,rfl,by omega,by omega⟩ ef)))
 obtain ⟨_,e1,g,rfl,g0,g1⟩:=eL al k20 k21
 walk_at "go"
 rw[e1]
 walk_at "go"
 refine aR P2.pot (by decide) (by decide) λk3 μ3 k30 k31 P3=>?_
 have al2:∀ d∈([.int 1,.int 1,.int 2,.int 2,.int 3,.int 6]:List D),IsI 1 6 d:=aD ⟨_,rfl,by decide,by decide⟩ (aD ⟨_,rfl,by decide,by decide⟩ (aD ⟨_,rfl,by decide,by decide⟩ (aD ⟨_,rfl,by decide,by decide⟩ (aD ⟨_,rfl,by decide,by decide⟩ (aD ⟨_,rfl,by decide,by decide⟩ ef)))))
 obtain ⟨_,e2,nw,rfl,nw0,nw1⟩:=eL al2 k30 k31
 walk_at "go"
 rw[e2]
 walk_at "go"
 refine ⟨⟨P3.pot,by omega,by omega⟩,λns μ4 ln nd nw' P4=>?_⟩
 walk_at "go"
 refine ⟨ns,⟨P4.pot,rfl,nw',by omega⟩,λws μ5 ew hw P5=>?_⟩
 have lw:(ws.length:Int)=nw:=by have:=congrArg WC ew;simp at this;omega
 walk_at "go"
 refine aR P5.pot (by decide) (by decide) λk6 μ6 k60 k61 P6=>?_
 have al3:∀ d∈([.int 2,.int 4,.int 12,.int 12,.int 60]:List D),IsI 1 60 d:=aD ⟨_,rfl,by decide,by decide⟩ (aD ⟨_,rfl,by decide,by decide⟩ (aD ⟨_,rfl,by decide,by decide⟩ (aD ⟨_,rfl,by decide,by decide⟩ (aD ⟨_,rfl,by decide,by decide⟩ ef))))
 obtain ⟨_,e3,m,rfl,m0,m1⟩:=eL al3 k60 k61
 walk_at "go"
 rw[e3]
 walk_at "go"
 refine aR P6.pot (by decide) (by decide) λk7 μ7 k70 k71 P7=>?_
 have al4:∀ d∈([.int 0,.int 1,.int 1,.int 2,.int 2,.int 3,.int 3,.int 8]:List D),IsI 0 8 d:=aD ⟨_,rfl,by decide,by decide⟩ (aD ⟨_,rfl,by decide,by decide⟩ (aD ⟨_,rfl,by decide,by decide⟩ (aD ⟨_,rfl,by decide,by decide⟩ (aD ⟨_,rfl,by decide,by decide⟩ (aD ⟨_,rfl,by decide,by decide⟩ (aD ⟨_,rfl,by decide,by decide⟩ (aD ⟨_,rfl,by decide,by decide⟩ ef)))))))
 obtain ⟨_,e4,n8,rfl,n80,n81⟩:=eL al4 k70 k71
 walk_at "go"
 rw[e4]
 walk_at "go"
 refine ⟨⟨P7.pot,by omega,by omega⟩,λsn μ8 ls sd sw P8=>?_⟩
 walk_at "go"
 refine ⟨sn,⟨rfl,by omega⟩,λsn' hp hs=>?_⟩
 have ls':sn'.length=sn.length:=hp.length_eq
 have sd':=pw_strict hs (hp.nodup_iff.mpr sd)
 walk_at "go"
 refine yk P8.pot (λr zs=>∃ (xs:List Sn) (rs:List Str),zs=snD xs/\r=rs.map .str/\xs.map Sn.nm++rs=sn'/\∀ x∈xs,x.Ok (ws.map Wy.nm) m) ⟨[],sn',rfl,rfl,rfl,λ_ h=>nomatch h⟩ (by rw[UL];omega) ?_ ?_
 ·rintro d r zs μ' P' _ ⟨xs,rs,rfl,er,ex,hx⟩ N hN
  cases rs with
  | nil=>cases er
  | cons n rs=>
  cases er
  have hn:n∈cM:=sw n (hp.mem_iff.mp (by rw[← ex];simp))
  walk_at "go"
  refine ⟨ws,⟨P',hn,rfl,⟨by omega,by omega⟩,m0,m1⟩,λx μ2 X en P2=>hN (some x.toD) μ2 ⟨xs++[x],rs,by simp[snD],rfl,by rw[← ex];simp[en],λy hy=>?_⟩ P2⟩
  rcases Vu.mp hy with z | z
  ·exact hx y z
  ·have:y=x:=by simpa using z
   subst this;exact X
 ·rintro zs μ9 ⟨xs,rs,rfl,er,ex,hx⟩ P9
  have:rs=[]:=by cases rs with | nil=>rfl | cons=>cases er
  subst this
  rw[Vk] at ex
  have lx:xs.length=sn.length:=by have:=congrArg WC ex;simp at this;omega
  walk_at "go"
  exact ⟨_,.refl _,k ⟨g,ws,xs⟩ m μ9 ⟨⟨g0,g1⟩,(by show 0 < ws.length;omega),(by show ws.length<=6;omega),(by show (ws.map Wy.nm).Nodup;rw[ew];exact nd),hw,(by show xs.length<=8;omega),(by show (xs.map Sn.nm).Pairwise _;rw[ex];exact sd'),hx⟩ ⟨m0,m1⟩ (P1.trans (P2.trans (P3.trans (P4.trans (P5.trans (P6.trans (P7.trans (P8.trans P9))))))))⟩
def fF (a b:Int):D:=fr (a.fdiv (Vi a b)) (b.fdiv (Vi a b))
theorem N1 (a:Int){b:Int}(b0:0 < b):Vl (fF a b) a b:=ON a b0
theorem Gq {d:D}{a b:Int}(h:Vl d a b):d=fF a b:=h.uniq (N1 a h.b0)
theorem OE {g:Int}(g0:0 < g):fF 0 g=fr 0 1:=by
 unfold fF
 rw[Int.gcd_zero_left,Int.zero_fdiv]
 have:((g.natAbs:Nat):Int)=g:=by omega
 rw[this,jQ g0,Int.ediv_self (by omega)]
abbrev dO (ns:List Int):List D:=ns.map .int
structure Ws where
 cm:List Lt
 st:List Lt
 la:Str
def Ws.toD (x:Ws):D:=.tup [.tup (ltD x.cm),.tup (ltD x.st),.str x.la]
abbrev wsD (xs:List Ws):List D:=xs.map Ws.toD
structure Ss where
 nm:Str
 du:Option Int
 W:Int
 S:Int
 nx:Int
 lf:Option Int
 ag:List Int
 lo:List Int
 gd:Int
 mk':Int
 wt:Int
def Ss.toD (g:Int)(x:Ss):D:=.tup [.str x.nm,dg x.du,fF x.W g,fF x.S g,.int x.nx,dg x.lf,.tup (dO x.ag),.tup (dO x.lo),.int x.gd,.int x.mk',.int x.wt]
abbrev ssD (g:Int)(xs:List Ss):List D:=xs.map (Ss.toD g)
structure St' where
 ws:List Ws
 ss:List Ss
def St'.toD (g:Int)(x:St'):D:=.tup [.tup (wsD x.ws),.tup (ssD g x.ss)]
def Sn.beg (g:Int)(x:Sn):Ss:=⟨x.nm,some x.bg,x.rl.p*g / x.rl.q,0,0,x.mn,[],[],0,0,0⟩
def Pn.beg (p:Pn):St':=⟨p.ws.map λ_=>⟨[],[],OF ""⟩,p.ss.map (Sn.beg p.g)⟩
theorem Up (x:Sn)(μ:Mu)(Q:DK):L3.rIx x.toD (.int 0) μ Q=Q (.str x.nm) μ:=propext UM
theorem T8 (x:Sn)(μ:Mu)(Q:DK):L3.rIx x.toD (.int 1) μ Q=Q (.tup (x.rd.map .str)) μ:=propext UM
theorem Uv (x:Sn)(μ:Mu)(Q:DK):L3.rIx x.toD (.int 2) μ Q=Q (.int x.bt) μ:=propext UM
theorem Uu (x:Sn)(μ:Mu)(Q:DK):L3.rIx x.toD (.int 3) μ Q=Q (.int x.bg) μ:=propext UM
theorem Tz (x:Sn)(μ:Mu)(Q:DK):L3.rIx x.toD (.int 4) μ Q=Q (dg x.mn) μ:=propext UM
theorem S6 (x:Sn)(μ:Mu)(Q:DK):L3.rIx x.toD (.int 5) μ Q=Q (x.rl.toD) μ:=propext UM
theorem Ur (x:Pn)(μ:Mu)(Q:DK):L3.rIx x.toD (.int 0) μ Q=Q (.int x.g) μ:=propext UM
theorem Tj (x:Pn)(μ:Mu)(Q:DK):L3.rIx x.toD (.int 1) μ Q=Q (.tup (wyD x.ws)) μ:=propext UM
theorem TH (x:Pn)(μ:Mu)(Q:DK):L3.rIx x.toD (.int 2) μ Q=Q (.tup (snD x.ss)) μ:=propext UM
theorem Ts (x:Ws)(μ:Mu)(Q:DK):L3.rIx x.toD (.int 0) μ Q=Q (.tup (ltD x.cm)) μ:=propext UM
theorem TV (x:Ws)(μ:Mu)(Q:DK):L3.rIx x.toD (.int 1) μ Q=Q (.tup (ltD x.st)) μ:=propext UM
theorem TR (x:Ws)(μ:Mu)(Q:DK):L3.rIx x.toD (.int 2) μ Q=Q (.str x.la) μ:=propext UM
theorem Uj (g:Int)(x:Ss)(μ:Mu)(Q:DK):L3.rIx (x.toD g) (.int 0) μ Q=Q (.str x.nm) μ:=propext UM
theorem Tf (g:Int)(x:Ss)(μ:Mu)(Q:DK):L3.rIx (x.toD g) (.int 1) μ Q=Q (dg x.du) μ:=propext UM
theorem SQ (g:Int)(x:Ss)(μ:Mu)(Q:DK):L3.rIx (x.toD g) (.int 2) μ Q=Q (fF x.W g) μ:=propext UM
theorem Uk (g:Int)(x:Ss)(μ:Mu)(Q:DK):L3.rIx (x.toD g) (.int 3) μ Q=Q (fF x.S g) μ:=propext UM
theorem TX (g:Int)(x:Ss)(μ:Mu)(Q:DK):L3.rIx (x.toD g) (.int 4) μ Q=Q (.int x.nx) μ:=propext UM
theorem TM (g:Int)(x:Ss)(μ:Mu)(Q:DK):L3.rIx (x.toD g) (.int 5) μ Q=Q (dg x.lf) μ:=propext UM
theorem UC (g:Int)(x:Ss)(μ:Mu)(Q:DK):L3.rIx (x.toD g) (.int 6) μ Q=Q (.tup (dO x.ag)) μ:=propext UM
theorem Ug (g:Int)(x:Ss)(μ:Mu)(Q:DK):L3.rIx (x.toD g) (.int 7) μ Q=Q (.tup (dO x.lo)) μ:=propext UM
theorem T5 (g:Int)(x:Ss)(μ:Mu)(Q:DK):L3.rIx (x.toD g) (.int 8) μ Q=Q (.int x.gd) μ:=propext UM
theorem Um (g:Int)(x:Ss)(μ:Mu)(Q:DK):L3.rIx (x.toD g) (.int 9) μ Q=Q (.int x.mk') μ:=propext UM
theorem Rr (g:Int)(x:Ss)(μ:Mu)(Q:DK):L3.rIx (x.toD g) (.int 10) μ Q=Q (.int x.wt) μ:=propext UM
theorem Tq (g:Int)(x:St')(μ:Mu)(Q:DK):L3.rIx (x.toD g) (.int 0) μ Q=Q (.tup (wsD x.ws)) μ:=propext UM
theorem TZ (g:Int)(x:St')(μ:Mu)(Q:DK):L3.rIx (x.toD g) (.int 1) μ Q=Q (.tup (ssD g x.ss)) μ:=propext UM
def R8:=Jn @Up <| Jn @T8 <| Jn @Uv <| Jn @Uu <| Jn @Tz <| Jn @S6 <| Jn @Ur <| Jn @Tj <| Jn @TH <| Jn @Ts <| Jn @TV <| Jn @TR <| Jn @Uj <| Jn @Tf <| Jn @SQ <| Jn @Uk <| Jn @TX <| Jn @TM <| Jn @UC <| Jn @Ug <| Jn @T5 <| Jn @Um <| Jn @Rr <| Jn @Tq <| Jn @TZ <| @Sm
local macro_rules | `(tactic| walk_at "go")=>zzS "↓L3.R8 L3.Bm ↓L3.tM ↓L3.t7 ↓L3.tf ↓L3.tm ↓L3.tN ↓L3.t8 ↓L3.iz ↓L3.gR L3.bR L3.bD L3.bO L3.bU L3.bM L3.bS L3.cA L3.ck L3.bC L3.bW L3.bX L3.bP L3.bQ L3.cq L3.bT L3.cy L3.bL L3.cu L3.bV L3.cz L3.gj L3.uA L3.uw L3.dh List.map_cons List.map_nil List.replicate List.cons_append List.nil_append L3.lk L3.Aj L3.zK L3.wx L3.y3 L3.Ap L3.fg L3.rJ L3.kG L3.rj L3.rg L3.kz L3.ky L3.iU L3.iQ L3.iM L3.iJ true_and and_true and_self Bool.not_true Bool.not_false decide_true decide_false Bool.or_true Bool.or_false Bool.true_or Bool.false_or Bool.and_false Bool.false_and Bool.and_true Bool.true_and Int.reduceToNat Int.reducePow Int.reduceNeg Int.reduceSub Int.reduceAdd Int.reduceMul Int.reduceEq Int.reduceLT Int.reduceLE Int.reduceBEq L3.fQ L3.eQ L3.eU L3.eS L3.fb L3.eR L3.eZ L3.eP if_true if_false Bool.false_eq_true reduceCtorEq decide_eq_true_eq"
def gk:FSp:=λds μ Q=>kcA ds λd ds=>kcI ds λg ds=>kcN ds (∃ R:RN,(d=R.toD/\R.Ok/\Gd g)/\Q (.tup [fF (R.p*g / R.q) g,fF 0 g]) μ)
theorem u6:∀ ds μ Q,gk ds μ Q->ds.length=2:=λ_ _ _ h=>lcA h λ_ _ h=>lcI h λ_ _ h=>by rw[(ecN h).1];rfl
def oT:STr:=aW (bf (af (aq eN (af (aj L3.rIx (ah 0) (TC (.int 1))) (af (ah 1) (ar)))) (af (TC (.tup [.int 0,.int 1])) (ar))))
theorem we:∀ ds μ Q,gk ds μ Q->oT { nx:=λ_ μ'=>RT Q .non μ',rt:=RT Q } (ini 2 ds) μ:=by
 intro ds μ Q h
 replace h:=ecA h
 obtain ⟨d,ds,rfl,h⟩:=h
 replace h:=ecI h
 obtain ⟨g,ds,rfl,h⟩:=h
 replace h:=ecN h
 obtain ⟨rfl,h⟩:=h
 walk_at "ini"
 unfold oT
 walk_at "go"
 obtain ⟨R,⟨rfl,K,g0,g1⟩,k⟩:=h
 obtain ⟨xs,e,e0,e1,e3,e4⟩:=R.tup K.st
 have WB:=K.w.bd (by decide) (by decide)
 rw[e]
 walk_at "go"
 rw[xY,e1]
 walk_at "go"
 refine ⟨R.p,R.q,⟨iL K.w,WB.1.mono (by decide),WB.2.mono (by decide),by omega,by omega⟩,λw V=>?_⟩
 walk_at "go"
 rw[Gq V]
 rw[OE (show 0 < g by omega)] at k
 exact ⟨_,.refl _,k⟩
def dI:FSp:=λds μ Q=>kcI ds λg ds=>kcA ds λd ds=>kcN ds (∃ x:Sn,(d=x.toD/\x.rl.Ok/\Gd g)/\Q ((x.beg g).toD g) μ)
theorem l9:∀ ds μ Q,dI ds μ Q->ds.length=2:=λ_ _ _ h=>lcI h λ_ _ h=>lcA h λ_ _ h=>by rw[(ecN h).1];rfl
def jo:STr:=aB (aN (aq gk (af (aj L3.rIx (ah 1) (TC (.int 5))) (af (ah 0) (ar)))) (aw 2)) (aW (bf (af (aj L3.rIx (ah 1) (TC (.int 0))) (af (aj L3.rIx (ah 1) (TC (.int 3))) (af (aj L3.rIx (ah 2) (TC (.int 0))) (af (aj L3.rIx (ah 2) (TC (.int 1))) (af (TC (.int 0)) (af (aj L3.rIx (ah 1) (TC (.int 4))) (af (bf (ar)) (af (bf (ar)) (af (TC (.int 0)) (af (TC (.int 0)) (af (TC (.int 0)) (ar))))))))))))))
theorem nW:∀ ds μ Q,dI ds μ Q->jo { nx:=λ_ μ'=>RT Q .non μ',rt:=RT Q } (ini 3 ds) μ:=by
 intro ds μ Q h
 replace h:=ecI h
 obtain ⟨g,ds,rfl,h⟩:=h
 replace h:=ecA h
 obtain ⟨d,ds,rfl,h⟩:=h
 replace h:=ecN h
 obtain ⟨rfl,h⟩:=h
 walk_at "ini"
 unfold jo
 walk_at "go"
 obtain ⟨x,⟨rfl,K,G⟩,k⟩:=h
 walk_at "go"
 refine ⟨x.rl,⟨rfl,K,G⟩,?_⟩
 walk_at "go"
 exact ⟨_,.refl _,k⟩
def lN:FSp:=λds μ Q=>kcA ds λd ds=>kcN ds (∃ p:Pn,(d=p.toD/\(∀ x∈p.ss,x.rl.Ok)/\Gd p.g/\p.ws.length<=900000/\p.ss.length<=900000)/\Q (p.beg.toD p.g) μ)
theorem DH:∀ ds μ Q,lN ds μ Q->ds.length=1:=λ_ _ _ h=>lcA h λ_ _ h=>by rw[(ecN h).1];rfl
def BZ:STr:=aB (aN (aq bu (af (b8 (dW (aj L3.rIx (ah 0) (TC (.int 1)))) (aw 0) (dX) (bf (af (bf (ar)) (af (bf (ar)) (af (TC (.str "")) (ar))))) 1 []) (ar))) (aw 1)) (aW (bf (af (ah 1) (af (aq bu (af (b8 (dW (aj L3.rIx (ah 0) (TC (.int 2)))) (aw 0) (dX) (aq dI (af (aj L3.rIx (ah 1) (TC (.int 0))) (af (ah 0) (ar)))) 1 [0]) (ar))) (ar)))))
theorem Ff:∀ ds μ Q,lN ds μ Q->BZ { nx:=λ_ μ'=>RT Q .non μ',rt:=RT Q } (ini 2 ds) μ:=by
 intro ds μ Q h
 replace h:=ecA h
 obtain ⟨d,ds,rfl,h⟩:=h
 replace h:=ecN h
 obtain ⟨rfl,h⟩:=h
 walk_at "ini"
 unfold BZ
 walk_at "go"
 obtain ⟨p,⟨rfl,K,G,l1,l2⟩,k⟩:=h
 walk_at "go"
 refine comp_map (λ_=>.tup [.tup [],.tup [],.str ""]) (by rw[UL];omega) (λd hd μ' _ N n=>?_) ?_
 ·walk_at "go"
  exact n
 ·walk_at "go"
  refine cj p.ss Sn.toD (λx=>(x.beg p.g).toD p.g) rfl (by omega) (λx hx μ' _ N n=>?_) ?_
  ·walk_at "go"
   exact ⟨x,⟨rfl,K x hx,G⟩,n⟩
  ·walk_at "go"
   refine ⟨_,.refl _,?_⟩
   have e1:(wyD p.ws).map (λ_=>D.tup [.tup [],.tup [],.str ""])=wsD p.beg.ws:=by simp[Pn.beg,wsD,wyD,Ws.toD,zbK]
   have e2:p.ss.map (λx=>(x.beg p.g).toD p.g)=ssD p.g p.beg.ss:=by simp[Pn.beg,ssD,zbK]
   rw[e1,e2];exact k
section
open PySem PySem.Spec PyProof.Rows L2
section
variable {prog:Vn} {w:VB} {A:VX} {E:UK->UN->Prop} {s:UN}
abbrev Hh (a c:Int)(acc:Array UK)(n:Nat):Prop:=ItemsOf (λi v=>∃ t,v=.int (a+i*c) t) acc n
abbrev Kept (s:UN)(g:Heap):Prop:=∀ b o,s.heap.get? b=some o->g.get? b=some o
structure Rg (s:UN) (r:Addr) (a b c:Int) (n:Nat):Prop where
 at':∃ t u v,IsRange s.heap r a b c t u v
 sm:zc2 a b c=true
 sz:Yd a b c=n
 le:n<=1048576
theorem run_plain {id:String}{bi:YJ}{args:Args}{R:zbS->UN->Prop}(hp:plainId id=true)(he:entryFor table id=some bi)
  (h:U9 (Vb prog w) A.in1 (bi args) (λfin s'=>match fin with | .done f=>R (.ok f) s' | .again c'=>c'.quiet=true/\Xy (Vb prog w) A c' R s') (λe s'=>R (.error e) s') s):Xy (Vb prog w) A (.builtin id args) R s:=
 zaj he (by rw[YN hp];exact h)
theorem km {R:zbS->UN->Prop}{r:Addr}{a b c:Int}{n:Nat}(hh:A.handled=none)(G:Rg s r a b c n)
  (hR:∀ (g:Heap) (tk:Nat) (acc:Array UK) (e:Nat),Kept s g->g.get? s.heap.objs.size=some { cls:=.type "list", dict:=none,data:=.seq acc e,slots:=#[] }->Hh a c acc n->R (.ok (.ret (.ref s.heap.objs.size))) { s with heap:=g,toks:=tk }) :
  Xy (Vb prog w) A (.builtin "proto.collect" ⟨[.ref r],[]⟩) R s:=by
 obtain ⟨⟨t,u,v,hr⟩,sm,sz,le⟩:=G
 have l24:n<=2 ^ 24:=by omega
 have ext:=λh0=>wpAny_extend_range (prog:=prog) (w:=w) (A:=A) (R:=R) (s:={ s with heap:=s.heap.push { cls:=.type "list", data:=.seq #[] } }) hh (UJ _ hr) sm sz l24 s.heap.objs.size (.ref s.heap.objs.size) 0 h0 λg tk acc e kp new its=>
  hR g tk acc e (λb o q=>kp b o (Vc (U1 q)) (UJ _ q)) new its
 exact run_plain F.plain_proto_collect F.entry_proto_collect (UI (VR (UQ ⟨Xb zbL _,run_plain zbL F.entry_list_iadd (ext (U3 _ rfl))⟩)))
theorem sD {Q:List UK->UN->Prop}{r:Addr}{a b c:Int}{n:Nat}(hh:A.handled=none)(G:Rg s r a b c n)
  (hQ:∀ (g:Heap) (tk:Nat) (acc:Array UK),Kept s g->Hh a c acc n->Q acc.toList { s with heap:=g,toks:=tk }):U9 (Vb prog w) A (collect (.ref r)) Q E s:=by
 unfold collect
 exact UI (wpAny_runValue (km hh G λg tk acc e kp new its=>UI (wpAny_load new (UQ (hQ g tk acc kp its)))))
theorem md {Q:UK->UN->Prop}{r:Addr}{a b c:Int}{n:Nat}(hh:A.handled=none)(G:Rg s r a b c n)
  (hQ:∀ (g:Heap) (tk:Nat) (acc:Array UK),Kept s g->Hh a c acc n->Q (.ref g.objs.size) { s with heap:=g.push { cls:=.type "tuple", data:=.seq acc },toks:=tk }) :
  U9 (Vb prog w) A (zaP (.type "tuple") [.ref r]) Q E s:=by
 have isr:s.TypeIs (.ref r) "range" := let ⟨t,u,v,hr⟩:=G.at';⟨_,hr,rfl⟩
 have fit:n<=sizeLine:=by have:=G.le;rw[zat];omega
 have made:Xy (Vb prog w) A.in1 (.call (.builtin "tuple.__new__") ⟨[.type "tuple", .ref r],[]⟩) (wants (λobj s₁=>s₁.TypeIs obj "tuple" /\ Q obj s₁) E) s:=by
  refine codeAny_of_tree (UI (zb7 (F.newCall_tuple_1 _) (UQ ⟨Xb zbM _,run_plain zbM F.entry_tuple_new ?_⟩)))
  have u1:=sub_tuple_self
  have u2:=init_tuple_lookup
  have u3:=madeHere_tuple
  wp_walk using wpAny_typeOf isr,sD (A:=A.in1.in1) hh G
  intro g tk acc kp its
  have whole:acc.toList.toArray=acc:=zaE
  have few:acc.toList.toArray.size<=sizeLine:=by rw[whole,its.1];exact fit
  have end':U9 (Vb prog w) A.in1.in1 (V0 acc.toList.toArray) (λv s'=>wants (λobj s₁=>s₁.TypeIs obj "tuple" /\ Q obj s₁) E (.ok (.ret v)) s') (λe s'=>wants (λobj s₁=>s₁.TypeIs obj "tuple" /\ Q obj s₁) E (.error e) s') { s with heap:=g,toks:=tk }:=by
   unfold V0;exact VR (by rw[whole];exact ⟨⟨_,U3 _ rfl,rfl⟩,hQ g tk acc kp its⟩) few
  exact (show U9 _ _ (V0 acc.toList.toArray >>= λv=>ret v) _ _ _ from UI (V9 end' (λv s' h=>UQ h) λ_ _ h=>h))
 exact callType_codes zaF (F.typeCall_tuple_1 _) F.entry_object_init made λobj s₁ h₁=>⟨h₁.1,zaG obj _,object_init_meets zaF.init.lookup zaF.made (by decide) prog w A.in1 _ s₁ ⟨h₁.1,rfl,h₁.2⟩⟩
end
section
variable {X:Cx} {ea eb:Ve} {Ta Tb:ETr} {p p2 pos rpos:Pos}
def Rp (t:TA):TE:=λσ H Q=>t σ H λvs H1=>∃ i j:Int,vs=[.int i,.int j]/\(-(2 ^ 62)<=i/\i < 2 ^ 62/\-(2 ^ 62)<=j/\j < 2 ^ 62/\(j - i).toNat<=1000000)/\∀ z,H1 z=none->Q (.ref z) (L2.upd H1 z (.tup ((Vd (j - i).toNat).map λ(k:Nat)=>V.int (i+(k:Int)))))
theorem kf:∀ {us:List UK} {vs:List V},us.length=vs.length->(∀ (j:Nat) u v,us[j]? = some u->vs[j]? = some v->RelV v u)->Vals vs us
 | [],[],_,_=>.nil
 | u::us,v::vs,hl,h=>.cons (h 0 u v rfl rfl) (kf (by simpa using hl) λj a b h1 h2=>h (j+1) a b h1 h2)
theorem JN {t:TA}(hc:X.calm=true)(hg:Gl X "tuple")(hm:X.mg "tuple" = none)(hgr:Gl X "range")(hmr:X.mg "range" = none)(ha:PA X [ea,eb] t)(hs:UX [ea,eb] X.env=[(false,V8 ea X.env),(false,V8 eb X.env)]:=by rfl)(hs2:UX [eb] X.env=[(false,V8 eb X.env)]:=by rfl)
  (hs0:UX [.Call (.Name "range" p2) [ea,eb] [] rpos] X.env=(false,V8 (.Call (.Name "range" p2) [ea,eb] [] rpos) X.env)::UX [] X.env:=by rfl) :
  PE X (.Call (.Name "tuple" p) [.Call (.Name "range" p2) [ea,eb] [] rpos] [] pos) (Rp t):=by
 intro pins s σ H Q I h
 refine Call_ (iq I hg hm boot_tuple (V7 ?_ hs0 rfl))
 rw[hs0]
 show U9 _ _ (spliced ((false,V8 _ X.env)::Wu pos (UX [] X.env))) _ _ s
 refine zbd (Call_ (iq I hgr hmr boot_range (V7 (thn (ha rpos pins s σ H _ I h) λus s1 ⟨vs,H1,I1,r1,q1⟩=>?_) (by rw[hs,hs2]) (by rw[hs2];rfl))))
 obtain ⟨i,j,e,⟨h1,h2,h3,h4,h5⟩,q⟩:=q1
 subst e
 cases r1 with | cons r rr=>cases rr with | cons r' rr=>
 cases rr
 obtain ⟨t1,rfl⟩:=r
 obtain ⟨t2,rfl⟩:=r'
 refine call_range_2 (zbr ?_)
 have e2:Yd i j 1=((j - i).toNat:Nat):=by rw[rangeSize_one];split<;>omega
 refine md (n:=(j - i).toNat) (I1.ok.hd hc) ⟨⟨_,_,_,zcY ..⟩,small_one h1 h2 h3 h4,e2,by omega⟩ λh' tk acc hk hacc=>?_
 have I2:Inv X pins σ H1 { s1 with heap:=h',toks:=tk }:=I1.kept (t':=tk) λb o e=>hk b o (UJ _ e)
 refine ⟨.ref h'.objs.size,_,I2.laid (t':=tk) (o:=.tup ((Vd (j - i).toNat).map λ(k:Nat)=>V.int (i+(k:Int)))) (λb o e=>UJ _ e) (U2 _) ⟨?_,acc.toList,kf ?_ λm u v hu hv=>?_,?_⟩,rfl,q _ (I2.hok.fresh (U2 _))⟩
 ·rw[UL,Zq];exact big (by omega)
 ·rw[UL,Zq,XZ,hacc.1]
 ·have hu':acc[m]? = some u:=by simpa using hu
  obtain ⟨t3,rfl⟩:=hacc.2 m u hu'
  have hm:m < (j - i).toNat:=by
   have:=(Array.getElem?_eq_some_iff.mp hu').1
   exact hacc.1 ▸ this
  rw[Wx,zaS hm] at hv
  cases hv
  exact ⟨t3,by simp⟩
 ·rw[zaE];exact vk.new h' acc
def Gb (Ta Tb:ETr):ETr:=λρ μ Q=>Ta ρ μ λx μ1=>Tb ρ μ1 λy μ2=>kI x λi=>kI y λj=>((-4611686018427387904<=i/\i < 4611686018427387904)/\(-4611686018427387904<=j/\j < 4611686018427387904)/\(j - i).toNat<=1000000)/\Q (.tup (cB i (j - i).toNat)) μ2
theorem D0 {K:UH}{H:Hp}(i:Int)(n:Nat):DpL K H ((Vd n).map λ(k:Nat)=>V.int (i+(k:Int))) (cB i n):=by
 unfold cB
 generalize Vd n=l
 induction l with
 | nil=>exact .nil
 | cons a l ih=>exact .cons (.int _) ih
theorem MA (hc:X.calm=true)(hg:Gl X "tuple")(hm:X.mg "tuple" = none)(hgr:Gl X "range")(hmr:X.mg "range" = none)(ha:LE X ea Ta)(hb:LE X eb Tb)(hs:UX [ea,eb] X.env=[(false,V8 ea X.env),(false,V8 eb X.env)]:=by rfl)(hs2:UX [eb] X.env=[(false,V8 eb X.env)]:=by rfl)
  (hs0:UX [.Call (.Name "range" p2) [ea,eb] [] rpos] X.env=(false,V8 (.Call (.Name "range" p2) [ea,eb] [] rpos) X.env)::UX [] X.env:=by rfl) :
  LE X (.Call (.Name "tuple" p) [.Call (.Name "range" p2) [ea,eb] [] rpos] [] pos) (Gb Ta Tb):=by
 obtain ⟨ta,pa,sa⟩:=ha.ex
 obtain ⟨tb,pb,sb⟩:=hb.ex
 refine ⟨_,JN hc hg hm hgr hmr (eC pa (eC pb iI hs2) (by rw[hs,hs2])) hs hs2 hs0,λσ H ρ μ Q Q' rl h k=>sa σ H ρ μ _ _ rl h λx H1 d μ1 t1 m1 p1 h1=>sb σ H1 ρ μ1 _ _ (rl.go t1 m1) h1 λy H2 d2 μ2 t2 m2 p2 h2=>?_⟩
 cases p1 with
 | int i=>
  cases p2 with
  | int j=>
   obtain ⟨⟨⟨h3,h4⟩,⟨h5,h6⟩,h7⟩,h8⟩:=h2
   refine ⟨i,j,rfl,⟨by simpa using h3,by simpa using h4,by simpa using h5,by simpa using h6,h7⟩,λz hz=>?_⟩
   have tn:Tk H2 (L2.upd H2 z (.tup ((Vd (j - i).toNat).map λ(k:Nat)=>V.int (i+(k:Int))))):=.new hz
   exact k _ _ _ μ2 ((t1.trans t2).trans tn) (cJ m2 hz) (.tup (SqT.of aK) (D0 i _)) h8
  | _=>exact UO h2
 | _=>exact UO h2
end
end
section
open PySem PySem.Spec PyProof.Rows L2
section
variable {prog:Vn} {w:VB} {A:VX} {E:UK->UN->Prop} {s:UN}
theorem sortedHeap_at {g:Heap}{vs:List UK}{out:Array UK}{k:Nat}(e:(g.push (YZ "list" vs.toArray k)).get? g.objs.size=some (YZ "list" vs.toArray k)):(∃ n,(zcE (g.push (YZ "list" vs.toArray k)) g.objs.size vs out).get? g.objs.size=some (YZ "list" out n))/\∀ b o,g.get? b=some o->(zcE (g.push (YZ "list" vs.toArray k)) g.objs.size vs out).get? b=some o:=by
 have lt:g.objs.size < (g.push (YZ "list" vs.toArray k)).objs.size:=by rw[size_push'];omega
 unfold zcE
 constructor
 ·have e1:=get?_update_seq e λ_=>#[]
  have e2:∀ o1 o2:Obj,((((g.push (YZ "list" vs.toArray k)).update g.objs.size (Z3 λ_=>#[])).push o1).push o2).get? g.objs.size=_:=λo1 o2=>UJ _ (UJ _ e1)
  exact ⟨_,get?_update_seq (e2 _ _) λ_=>out⟩
 ·intro b o hb
  have nb:g.objs.size≠b:=Vo (Vc (U1 hb))
  exact (VY _ _ nb).trans (UJ _ (UJ _ ((VY _ _ nb).trans (UJ _ hb))))
theorem A7 {tp:Addr}{vs:List UK}{ns:List Int}{Q:UK->UN->Prop}(hl:zb4 s.heap tp vs.toArray)(hI:X2 vs ns)(few:vs.length < 64)
  (h:∀ (g g1:Heap) (out:Array UK) (n:Nat) (ns':List Int),Kept s g->(∀ b o,g.get? b=some o->g1.get? b=some o)->g1.get? g.objs.size=some (YZ "list" out n)->X2 out.toList ns'->ns'.Perm ns->ns'.Pairwise (·<=·)->Q (.ref g.objs.size) { s with heap:=g1 }) :
  U9 (Vb prog w) A (zaP (.builtin "sorted") [.ref tp]) Q E s:=by
 obtain ⟨ob,e1,e2,ne,e3⟩:=hl
 have fits:vs.toArray.size<=sizeLine:=by rw[U4,zat];omega
 have rest:∀ g:Heap,(∀ b o,s.heap.get? b=some o->g.get? b=some o)->U9 (Vb prog w) A.in1 (do let z ← newList vs;let _ ← ZY [z] (zaP (.builtin "list.sort") [z]);ret z) (λfin s'=>∃ v,fin=.done (.ret v)/\Q v s') E { s with heap:=g }:=λg kp=>by
  have at':(g.push (YZ "list" vs.toArray 0)).get? g.objs.size=some (YZ "list" vs.toArray 0):=U3 _ rfl
  have done:=λout ns' (a1:X2 out.toList ns') (a2:ns'.Perm ns) (a3:ns'.Pairwise (·<=·))=>let ⟨⟨m,e⟩,old⟩:=sortedHeap_at (out:=out) at';h g _ out m ns' kp old e a1 a2 a3
  exact UI (wpAny_newList (UI (Xt (Wq slot_list_sort ⟨_,at',rfl⟩ entry_list_sort (list_sort_tree at' hI few λout ns' a1 a2 a3=>⟨_,rfl,UQ ⟨_,rfl,done out ns' a1 a2 a3⟩⟩) (args_list_sort _)))))
 refine Calls.call_function_entry (b:=YJ.«sorted») kind_sorted plain_sorted entry_sorted (args_sorted1 _) ?_
 show U9 _ _ (do checkCount "sorted" 1 1 1;let xs ← collect (.ref tp);let z ← newList xs;let _ ← ZY [z] (zaP (.builtin "list.sort") [z]);ret z) _ _ s
 exact UI (UQ (UI (wpAny_collect_seq tp (.inr rfl) e1 e2 e3 (λg kp=>rest g kp) fits)))
end
def NL (K:UH):List V->Hp->VK->Prop:=λxs H Q=>∃ (p:Addr) (ns:List Int),xs=[.ref p]/\(SqL K H p (ns.map V.int)∨SqT K H p (ns.map V.int))/\ns.length < 64/\∀ ns':List Int,ns'.Perm ns->ns'.Pairwise (·<=·)->∀ z,H z=none->Q (.ref z) (L2.upd H z (.lst (ns'.map V.int)))
theorem y8 {X:Cx}:b6 X (.builtin "sorted") (NL X.K):=λpins s σ H xs us Q I rx ⟨p,ns,e1,sq,hl,q⟩=>by
 rcases sq with sq | sq
 ·exact Bh pins s σ H xs us Q I rx ⟨p,ns,e1,sq,hl,q⟩
 subst e1
 obtain ⟨u,rfl,ru⟩:=vals1 rx
 cases ru
 obtain ⟨its,rv,pl,hz⟩:=I.tuple sq
 have hi:X2 its ns:=intsAre_of rv
 have hlen:its.length < 64:=by rw[hi.length];exact hl
 refine A7 pl hi hlen λg g1 out n ns' kp old e a1 a2 a3=>?_
 have I2:Inv X pins σ H { s with heap:=g }:=I.kept (t':=s.toks) kp
 refine ⟨.ref g.objs.size,_,I2.laid (t':=s.toks) (o:=.lst (ns'.map V.int)) old (U2 _) ?_,rfl,q ns' a2 a3 _ (I2.hok.fresh (U2 _))⟩
 have z1:ns'.length=ns.length:=a2.length_eq
 exact ⟨by rw[UL,z1];exact Yn (U6 hl (by decide)),out.toList,n,iw a1,by simpa[YZ] using e⟩
def pS:FSp:=λds μ Q=>match ds with
 | [x]=>kS x λxs=>∃ ns:List Int,(xs=ns.map .int/\ns.length < 64)/\∀ ns':List Int,ns'.Perm ns->ns'.Pairwise (·<=·)->Q (.ls (ns'.map .int)) μ
 | _=>False
theorem vK {X:Cx}{e:Ve}{x:Str}{p pos:Pos}{At:ATr}(hg:Gl X x)(hm:X.mg x=none)(hv:Wc x=some (.builtin "sorted"))(ha:LA X [e] At)(hn:x ≠ "__name__" := by decide)(hdb:(x == ("__debug__" : Str))=false:=by decide)
  (h1:UX [e] X.env=(false,V8 e X.env)::UX [] X.env:=by rfl) (h2:(Wu pos (UX [] X.env)).any (·.1)=false:=by rfl):LE X (.Call (.Name x p) [e] [] pos) (aq pS At):=by
 obtain ⟨ta,pa,sa⟩:=ha.ex
 refine ⟨_,iB (lM y8 hg hm hv pa hn hdb h1 h2),λσ H ρ μ Q Q' rl h k=>sa σ H ρ μ _ _ rl h λxs H1 ds μ1 t1 m1 p1 h1=>?_⟩
 unfold pS at h1
 split at h1
 ·cases p1 with | cons p1 p2=>
  cases p2
  cases p1 with
  | @ls q xs ds sq l=>
   obtain ⟨ns,⟨rfl,hl⟩,h2⟩:=h1
   have ex:=l.ints_of
   subst ex
   exact ⟨q,ns,rfl,.inl sq.sq,hl,λns' a2 a3 z hz=>gn m1 (DpL.ints ns') (h2 ns' a2 a3) (k.go t1) hz⟩
  | @tup q xs ds sq l=>
   obtain ⟨ns,⟨rfl,hl⟩,h2⟩:=h1
   have ex:=l.ints_of
   subst ex
   exact ⟨q,ns,rfl,.inr sq,hl,λns' a2 a3 z hz=>gn m1 (DpL.ints ns') (h2 ns' a2 a3) (k.go t1) hz⟩
  | _=>exact UO h1
 ·exact h1.elim
theorem Dr {X:Cx}(hc:X.calm=true):b6 X (.builtin "sum") (λxs H Q=>∃ (p:Addr) (ns:List Int),xs=[.ref p]/\SqL X.K H p (ns.map V.int)/\Q (.int ns.sum) H):=λpins s σ H xs us Q I rx ⟨p,ns,e1,sq,q⟩=>by
 subst e1
 obtain ⟨u,rfl,ru⟩:=vals1 rx
 cases ru
 obtain ⟨its,rv,pl,_⟩:=I.list sq
 obtain ⟨ps,rfl,rfl⟩:=gL (intsAre_of rv)
 have il:s.heap.IsList p (YS ps.toArray):=by
  have:=pl.isList
  simpa[YS] using this
 refine sum_intListG (I.ok.hd hc) il λh' tk t' hk=>?_
 have e:preSum (zb9 ps.toArray) ps.toArray.size=(ps.map zcz).sum:=by
  rw[preSum_eq,Xn (by simp)]
 rw[e]
 exact ⟨.int _,H,I.kept hk,⟨t',rfl⟩,q⟩
def BC:FSp:=λds μ Q=>match ds with
 | [.ls xs]=>∃ ns:List Int,xs=ns.map .int/\Q (.int ns.sum) μ
 | _=>False
theorem F9 {K:UH}:ki K (λxs H Q=>∃ (p:Addr) (ns:List Int),xs=[.ref p]/\SqL K H p (ns.map V.int)/\Q (.int ns.sum) H) BC:=λH μ xs ds Q Q' m p h k=>by
 unfold BC at h
 split at h
 ·obtain ⟨ns,rfl,h⟩:=h
  cases p with | cons p1 p2=>
  cases p2
  cases p1 with
  | @ls q xs ds sq l=>
   have ex:=l.ints_of
   subst ex
   exact ⟨q,ns,rfl,sq.sq,k _ H _ μ (.refl H) m (.int _) h⟩
 ·exact h.elim
end
section
open PySem PySem.Spec PyProof.Rows L2
section
variable {prog:Vn} {w:VB} {A:VX} {E:UK->UN->Prop} {s:UN}
theorem II {tp:Bool}{e it a:Addr}{i:Nat}{xs:Array UK}{x old:UK}{Q:Option UK->UN->Prop}(en:zaa s.heap e it i old)(li:gS tp s.heap it a i)(se:fA tp s.heap a xs)(hx:xs[i]? = some x)(ne:e≠it)
  (q:∀ g,IsEnumOut g e it ((i:Int)+1) x s.heap.objs.size->gS tp g it a (i+1)->g.get? s.heap.objs.size=some { cls:=.type "tuple", data:=.seq #[.int i s.toks,x] }->
   (∀ c o,c≠e->c≠it->s.heap.get? c=some o->g.get? c=some o)->Q (some (.ref s.heap.objs.size)) { s with heap:=g,toks:=s.toks+1 }):U9 (Vb prog w) A (X6 (.ref e)) Q E s:=by
 have ty:s.TypeIs (.ref e) "enumerate" := ⟨_,en,rfl⟩
 unfold X6
 refine UI (ZA (VO (name:=OF "__next__") ty Xw (Wq Xw ty zab ?_ (ZR _))))
 refine UI (m:=zaw (.ref e) 2) (VD en rfl (x:=.ref it) rfl (UI (m:=Vm (.ref it)) (oK li se hx λg1 li1 k1=>?_)))
 have en1:zaa g1 e it i old:=(k1.2 e ne).trans en
 refine UI (m:=zaw (.ref e) 3) (VD (s:={ s with heap:=g1 }) en1 rfl (x:=Za i) rfl (UI (m:=zaw (.ref e) 4) (VD (s:={ s with heap:=g1 }) en1 rfl (x:=.none) rfl (UI (m:=mkInt i) (wpAny_mkInt ?_)))))
 refine UI (m:=setField (.ref e) 3 (Za ((i:Int)+1))) (VI en1 (by simp) λg2 en2 k2=>?_)
 have en2:zaa g2 e it ((i:Int)+1) old:=en2
 refine UI (m:=setField (.ref e) 4 .none) (VI en2 (by simp) λg3 en3 k3=>?_)
 have en3:zaa g3 e it ((i:Int)+1) old:=en3
 refine UI (m:=newTuple [.int i s.toks,x]) (wpAny_newTuple ?_)
 have sz:g3.objs.size=s.heap.objs.size:=by rw[k3.1,k2.1,k1.1]
 have en4:zaa (g3.push { cls:=.type "tuple", data:=.seq #[.int i s.toks,x] }) e it ((i:Int)+1) old:=UJ _ en3
 have elt:e < g3.objs.size:=U1 en3
 refine UI (m:=VC (.ref e)) ?_
 delta VC
 refine UI (VD (s:={ s with heap:=g3.push { cls:=.type "tuple", data:=.seq #[.int i s.toks,x] },toks:=s.toks+1 }) en4 rfl (x:=.none) rfl (UQ ?_))
 simp only[if_true]
 refine UI (Xk (UI (VD en4 rfl (x:=old) rfl (UI (VI en4 (by simp) λg5 en5 k5=>?_)))))
 have en5:zaa g5 e it ((i:Int)+1) x:=en5
 refine UI (m:=Wg (.ref e) (.ref g3.objs.size)) ?_
 delta Wg
 refine UI (VI en5 (by simp) λg6 en6 k6=>?_)
 have en6:IsEnumOut g6 e it ((i:Int)+1) x g3.objs.size:=en6
 refine VI en6 (by simp) λg7 en7 k7=>?_
 have en7:IsEnumOut g7 e it ((i:Int)+1) x g3.objs.size:=en7
 have up3:∀ c o,c≠e->g3.get? c=some o->g7.get? c=some o:=λc o c1 h=>(k7.2 c c1).trans ((k6.2 c c1).trans ((k5.2 c c1).trans (UJ _ h)))
 have new:g7.get? g3.objs.size=some { cls:=.type "tuple", data:=.seq #[.int i s.toks,x] }:=(k7.2 _ (Xm elt)).trans ((k6.2 _ (Xm elt)).trans ((k5.2 _ (Xm elt)).trans (U3 _ rfl)))
 rw[sz] at en7 new
 have fin:=q g7 en7 (li1.at λo h=>up3 it o (Vo ne) ((k3.2 it (Vo ne)).trans ((k2.2 it (Vo ne)).trans h))) new λc o c1 c2 h=>up3 c o c1 ((k3.2 c c1).trans ((k2.2 c c1).trans ((k1.2 c c2).trans h)))
 rw[← sz] at fin
 exact UI (XF (UQ ⟨_,rfl,UQ fin⟩))
theorem LP {tp:Bool}{e it a:Addr}{i:Nat}{xs:Array UK}{old:UK}{Q:Option UK->UN->Prop}(hh:A.handled=none)(en:zaa s.heap e it i old)(li:gS tp s.heap it a i)(se:fA tp s.heap a xs)(hx:xs[i]? = none)
  (q:∀ g,zb6 it s.heap g->Q none { s with heap:=g }):U9 (Vb prog w) A (X6 (.ref e)) Q E s:=by
 have ty:s.TypeIs (.ref e) "enumerate" := ⟨_,en,rfl⟩
 unfold X6
 refine UI (ZA (VO (name:=OF "__next__") ty Xw (Wq Xw ty zab ?_ (ZR _))))
 refine UI (m:=zaw (.ref e) 2) (VD en rfl (x:=.ref it) rfl (UI (m:=Vm (.ref it)) (zC hh li se hx λg z kp sz=>?_)))
 obtain ⟨o,ho,hc⟩:=sz
 exact UI (wpAny_isInstance (T := "StopIteration") (b:=true) ⟨o,ho,hc⟩ isSubtype_stop (UQ (q _ kp)))
theorem Ig (tp:Bool)(a:Addr)(xs:Array UK):Meets (YJ.«enumerate.__new__» ⟨[.type "enumerate", .ref a],[]⟩) (λ_ R s=>fA tp s.heap a xs/\
   R (.ok (.ret (.ref (s.heap.push (itO tp a)).objs.size))) { s with heap:=(s.heap.push (itO tp a)).push { cls:=.type "enumerate", data:=.fields #[.none,.bool false,.ref s.heap.objs.size,Za 0,.none,.none] } }):=
 .of_wp λprog w A R s h=>by
  rcases s with ⟨hp,g,d,tk,os⟩
  obtain ⟨h1,h⟩:=h
  have hs0:=sub_enumerate
  have H1:fA tp (zb8 ⟨hp,g,d,tk,os⟩) a xs:=h1
  wp_walk
  refine wpAny_stack_any λstk=>UQ ?_
  split
  ·rename_i c _ _ _ _ _
   cases (c == ZX "enumerate")<;>(wp_walk using Ma H1;exact ⟨_,rfl,h⟩)
  ·wp_walk using Ma H1
   exact ⟨_,rfl,h⟩
theorem Aa {tp:Bool}{a:Addr}{xs:Array UK}{Q:UK->UN->Prop}(h1:fA tp s.heap a xs)
  (q:∀ g,zaa g (s.heap.objs.size+1) s.heap.objs.size 0 .none->gS tp g s.heap.objs.size a 0->(∀ c o,s.heap.get? c=some o->g.get? c=some o)->Q (.ref (s.heap.objs.size+1)) { s with heap:=g }) :
  U9 (Vb prog w) A (zaP (.type "enumerate") [.ref a]) Q E s:=by
 refine callType_new F.called_enumerate (by decide) (F.typeCall_enumerate_1 _) (F.newCall_enumerate_1 _) (λobj=>zaG obj _) F.entry_enumerate_new (Ig tp a xs) ⟨h1,?_⟩
 have s1:(s.heap.push (itO tp a)).objs.size=s.heap.objs.size+1:=XG ..
 have new:zaa ((s.heap.push (itO tp a)).push { cls:=.type "enumerate", data:=.fields #[.none,.bool false,.ref s.heap.objs.size,Za 0,.none,.none] }) (s.heap.push (itO tp a)).objs.size s.heap.objs.size 0 .none:=U3 _ rfl
 refine ⟨⟨_,new,rfl⟩,?_⟩
 rw[s1] at new ⊢
 refine q _ new ?_ λc o h=>UJ _ (UJ _ h)
 have z:=UJ { cls:=.type "enumerate", data:=.fields #[.none,.bool false,.ref s.heap.objs.size,Za 0,.none,.none] } (U3 s.heap (o:=itO tp a) (by cases tp<;>rfl))
 cases tp<;>exact ⟨_,z,rfl,rfl⟩
end
def Itn (tp:Bool)(K:UH)(a:Addr):It:=
 ⟨λi H=>∃ xs x,Sq tp K H a xs/\xs[i]? = some x,
  λi H v H'=>∃ x p,(∀ xs,Sq tp K H a xs->xs[i]? = some x)/\v=.ref p/\H p=none/\H'=L2.upd H p (.tup [.int i,x]),
  λi H=>∃ xs,Sq tp K H a xs/\xs.length<=i⟩
structure NAt (tp:Bool) (h:Heap) (e it a:Addr) (k:Nat):Prop where
 en:∃ old,zaa h e it k old
 li:gS tp h it a k
theorem Gp {P:Vn}{w:VB}{K:UH}{es:List Ve}{ek:Nat}{ep:Pos}{tp:Bool}{e it a:Addr}(n1:e≠it) :
  Turn P w K (.Tuple es ek ep) (Itn tp K a) [e,it] e (λk h=>NAt tp h e it a k) where
 mem:=by simp
 obj:=λk h S c hc=>by
  obtain ⟨⟨old,en⟩,li⟩:=S
  simp only[UZ,Vr,or_false] at hc
  rcases hc with rfl | rfl
  ·exact ⟨_,en,λv y=>by cases y⟩
  ·obtain ⟨o,ho,vs,hd⟩:=li.ex;exact ⟨o,ho,λv y=>by rw[hd] at y;cases y⟩
 keep:=λk h g S kp=>by
  obtain ⟨⟨old,en⟩,li⟩:=S
  exact ⟨⟨old,kp e (by simp) _ en⟩,li.at λo q=>kp it (by simp) o q⟩
 item:=by
  intro X hP hw hK hc k pins s σ H E I hf S hg
  subst hP hw hK
  obtain ⟨xs,x,qa,ex⟩:=hg
  obtain ⟨⟨old,en⟩,li⟩:=S
  obtain ⟨ia,ra,sa⟩:=Inv.sq I qa
  obtain ⟨ux,hux,rx⟩:=ra.get ex
  have elt:e < s.heap.objs.size:=U1 en
  have fr:H s.heap.objs.size=none:=I.hok.fresh (U2 _)
  refine II en li sa (x:=ux) (by simpa using hux) n1 λg eo li2 new al=>⟨_,rfl,wpAny_letOwnedTupleGo_enum eo λg2 en2 k2=>?_⟩
  have k2:XM e g g2:=k2
  have all:∀ c o,c ∉ [e,it]->s.heap.get? c=some o->g2.get? c=some o:=λc o hc q=>by
   simp only[UZ,Vr,or_false,not_or] at hc
   exact (k2.2 c hc.1).trans (al c o hc.1 hc.2 q)
  have new2:g2.get? s.heap.objs.size=some { cls:=.type "tuple", data:=.seq #[.int k s.toks,ux] }:=(k2.2 _ (Xm elt)).trans new
  have nfp:∀ c u,H c=some u->c ∉ [e,it]:=λc u q hc=>by rw[(hf c hc).1] at q;cases q
  refine ⟨.ref s.heap.objs.size,L2.upd H s.heap.objs.size (.tup [.int k,x]),?_,rfl,⟨x,_,λxs' q=>by rw[Inv.AM I q qa];exact ex,rfl,fr,rfl⟩,⟨⟨_,en2⟩,li2.at λo q=>(k2.2 it (Vo n1)).trans q⟩,λc hc=>?_⟩
  ·refine L2.Inv.step (s:=s) (H:=H) (H':=L2.upd H s.heap.objs.size (.tup [.int k,x])) (g':=s.gens) (d':=s.drawn) (t':=s.toks+1) (h':=g2) (ch:=[e,it]) I (λc hc=>⟨(hf c hc).2.2.2.1,(hf c hc).2.1,(hf c hc).2.2.2.2.1,(hf c hc).2.2.2.2.2⟩) (λc o _ _ hc q _=>all c o hc q) (λc o _ _ hc q _=>⟨o.slots,all c o hc q⟩) (λc o hc q n=>?_) (λc o hc q=>⟨o,all c o hc q⟩)
    (λc xs q=>?_) (λc o u q=>?_) (λc ps q=>⟨#[],?_⟩) (λm hm=>?_) (λc u q=>?_) I.bare
   ·rw[aM (Vc (U1 q))];exact n
   ·rw[aM (ba q fr)];exact q
   ·rw[aM (ba q fr)];exact q
   ·rw[aM (ba q fr),q];simp
   ·obtain ⟨o,es',ep',ho,r⟩:=hm
    exact ⟨o,es',ep',all _ o (λhc=>(hf _ hc).2.1 rfl) ho,r⟩
   ·by_cases hcT:c=s.heap.objs.size
    ·subst hcT
     rw[aK] at q;cases q
     exact ⟨by show 2<=sizeLine;decide,[.int k s.toks,ux],.cons ⟨s.toks,rfl⟩ (.cons rx .nil),⟨_,new2⟩⟩
    ·rw[aM hcT] at q
     refine (I.hok c u q).lO (λc' v hc' z=>all c' v ?_ z) (λc' z=>by rw[aM (ba z fr)];exact z) λc' xs z=>by rw[aM (ba z fr)];exact z
     rcases hc' with rfl | hc'
     ·exact nfp _ _ q
     ·exact nfp _ _ hc'
  ·have hcl:c≠s.heap.objs.size:=by
    simp only[UZ,Vr,or_false] at hc
    rcases hc with rfl | rfl
    ·exact Vc elt
    ·obtain ⟨o,q,_⟩:=li.ex;exact Vc (U1 q)
   rw[aM hcl];exact (hf c hc).1
 done:=by
  intro X hP hw hK hc k pins s σ H E I hf S hg
  subst hP hw hK
  obtain ⟨xs,qa,he⟩:=hg
  obtain ⟨⟨old,en⟩,li⟩:=S
  obtain ⟨ia,ra,sa⟩:=Inv.sq I qa
  have la:=ra.length
  obtain ⟨f0,f1,f2,f3,f4,f5⟩:=hf it (by simp)
  exact LP (I.ok.hd hc) en li sa (by simp;omega) λg eb=>⟨rfl,I.turned (t':=s.toks) (λb o hb q=>eb b o hb q) f0 f1 f3 f4 f5⟩
 self:=λ_ _ _ _ _ S h=>by
  obtain ⟨⟨old,en⟩,_⟩:=S
  exact zbN en h
def SN (K:UH)(t:TA):TI:=λσ H R=>t σ H λvs H1=>∃ (tp:Bool) (a:Addr),vs=[.ref a]/\(∃ xs,Sq tp K H1 a xs)/\R (Itn tp K a) H1
section
variable {X:Cx} {ea:Ve} {es:List Ve} {ek:Nat} {ep p pos:Pos}
theorem Qj {t:TA}(hg:Gl X "enumerate")(hm:X.mg "enumerate" = none)(ha:PA X [ea] t)(hs:UX [ea] X.env=[(false,V8 ea X.env)]:=by rfl) :
  PI X (.Tuple es ek ep) (.Call (.Name "enumerate" p) [ea] [] pos) (SN X.K t):=by
 intro pins s σ H R I h
 refine Call_ (iq I hg hm boot_enumerate (V7 (thn (ha pos pins s σ H _ I h) λus s1 ⟨vs,H1,I1,r1,q1⟩=>?_) (by rw[hs];rfl) rfl))
 obtain ⟨tp,a,e,⟨xs,qa⟩,q⟩:=q1
 subst e
 cases r1 with | cons r rr=>
 cases rr
 cases (show _=Vs a from r)
 obtain ⟨ia,ra,sa⟩:=Inv.sq I1 qa
 refine Aa sa λg en li kp=>zbN en ?_
 refine ⟨s1.heap.objs.size+1,[s1.heap.objs.size+1,s1.heap.objs.size],_,_,H1,rfl,I1.kept (t':=s1.toks) kp,Gp (tp:=tp) (a:=a) (Nat.succ_ne_self _),⟨⟨_,en⟩,li⟩,λc hc=>?_,q⟩
 have hc':s1.heap.objs.size<=c:=by
  simp only[UZ,Vr,or_false] at hc
  rcases hc with rfl | rfl
  ·exact YL _
  ·exact U2 _
 exact I1.Eb hc' (I1.hok.fresh hc')
def yu (t:ATr):ATr:=λρ μ Q=>t ρ μ λvs μ1=>match vs with
 | [x]=>kS x λds=>Q (i5 ds) μ1
 | _=>False
theorem ug {At:ATr}(hg:Gl X "enumerate")(hm:X.mg "enumerate" = none)(ha:LA X [ea] At)(hs:UX [ea] X.env=[(false,V8 ea X.env)]:=by rfl) :
  LI X (.Tuple es ek ep) (.Call (.Name "enumerate" p) [ea] [] pos) (yu At):=by
 obtain ⟨t,pt,st⟩:=ha.ex
 refine ⟨_,Qj hg hm pt hs,λσ H ρ μ Q R rl h k=>st σ H ρ μ _ _ rl h λvs H1 ds μ1 t1 m1 p1 h1=>?_⟩
 split at h1
 case h_2=>exact UO h1
 cases p1 with | cons pa p2=>
 cases p2
 obtain ⟨tp,a,xs,dx,rfl,qa,la,h2⟩:=yN pa h1
 obtain ⟨a',xs',dx',ea',qa',la',h2⟩:=zx pa h2
 cases ea'
 refine ⟨tp,a,rfl,⟨xs',qa'.sq⟩,k _ H1 _ μ1 t1 m1 ⟨λi H' tk hi=>?_,λi H' v H'' tk hi yv=>?_,λi H' tk hi=>?_⟩ h2⟩
 ·have l1:=la'.length
  rw[sT] at hi
  exact ⟨xs',xs'[i],tk.sq qa',by simp[show i < xs'.length by omega]⟩
 ·obtain ⟨x,q,fx,rfl,fr,rfl⟩:=yv
  have ex:=fx _ (tk.sq qa')
  obtain ⟨d,ed,pd⟩:=la'.get' ex
  have tn:Tk H' (L2.upd H' q (.tup [.int i,x])):=.new fr
  exact ⟨tn,⟨.tup [.int i,d],by rw[sG,ed];rfl,.tup (SqT.of aK) (.cons (.int _) (.cons ((pd.mono tk).mono tn) .nil))⟩,λμ' m'=>cJ m' fr⟩
 ·rw[sT] at hi
  exact ⟨xs',tk.sq qa',by rw[la'.length];exact hi⟩
end
end
section
open PySem PySem.Spec PyProof PyProof.Rows L2
section
variable {w:VB} {prog:Vn} {A:VX} {E:UK->UN->Prop}
abbrev RQ (g:Heap)(b:Addr)(xs:Array UK):Prop:=∃ n,g.get? b=some { cls:=.type "list", dict:=none,data:=.seq xs n,slots:=#[] }
section
variable {R:zbS->UN->Prop} {I:Addr} {fp wr:List Addr} {n:Nat} {P:Nat->UK->Prop} {St:Nat->Heap->Prop}
theorem JK (W:Walks prog w A.in1 I fp wr n P St){bt:Nat->Nat->Bool}(cm:CmpOf prog w A.in1 .Gt P bt){S:Addr}(hS:S ∉ fp)(kw:List (Str×UK)) :
  ∀ (m:Nat) (j:Nat) (s:UN) (vb:UK),j+1+m=n->St (j+1) s.heap->P (Yx bt j) vb->RQ s.heap S #[vb,vb]->
  (∀ v g tk,P (Yx bt (n - 1)) v->(∀ c o,c ∉ wr->c≠S->s.heap.get? c=some o->g.get? c=some o)->R (.ok (.ret v)) { s with heap:=g,toks:=tk })->
  Xy (Vb prog w) A (.builtin "max.loop" ⟨[.ref I,.none,.ref S],kw⟩) R s:=by
 have sw:S ∉ wr:=λh=>hS (W.sub _ h)
 have nm:(toString "max" ++ toString ".loop" : String) = "max.loop" := by decide
 intro m
 induction m with
 | zero=>
  intro j s vb en st pb ⟨ep,at'⟩ fin
  refine run_plain WV ZS ?_
  show U9 (Vb prog w) A.in1 (zaN (.ref S) >>= _) _ _ s
  refine UI (Wa at' rfl ?_)
  show U9 (Vb prog w) A.in1 (tryCatch (X6 (.ref I)) _ >>= _) _ _ s
  refine UI (XI (W.done s _ _ (by rw[← en];exact st) λg tk kp=>?_))
  have at1:=kp S _ sw at'
  show U9 (Vb prog w) A.in1 (updateSeq S (λ_=>#[]) >>= _) _ _ _
  refine UI ?_
  refine X4 at1 rfl ?_;refine UI (XF (UQ ?_))
  exact fin vb _ tk (by rw[show n - 1=j by omega];exact pb) λc o c1 c2 e=>(VY _ _ (Vo c2)).trans (kp c o c1 e)
 | succ m ih=>
  intro j s vb en st pb ⟨ep,at'⟩ fin
  refine run_plain WV ZS ?_
  show U9 (Vb prog w) A.in1 (zaN (.ref S) >>= _) _ _ s
  refine UI (Wa at' rfl ?_)
  show U9 (Vb prog w) A.in1 (tryCatch (X6 (.ref I)) _ >>= _) _ _ s
  refine UI (XI (W.item (j+1) s _ _ (by omega) st λv g tk pv st1 kp=>?_))
  have at1:=kp S _ sw at'
  show U9 (Vb prog w) A.in1 (tryCatch (ZY [v,v] (richCompare .Gt v vb >>= _)) _ >>= _) _ _ _
  refine UI (XI (Xt (UI (cm (j+1) (Yx bt j) v vb _ _ _ pv pb ?_))))
  refine UI (Xt (WK (UI (XF (UQ ?_)))))
  cases better:bt (j+1) (Yx bt j) with
  | true=>
   rw[if_pos rfl]
   have bst:Yx bt (j+1)=j+1:=by rw[Yx,if_pos better]
   refine UI ?_
   refine X4 at1 rfl ?_
   refine UI (XF ?_)
   rw[nm]
   refine UQ ⟨Xb WV _,ih (j+1) _ v (by omega) (W.frame _ _ _ st1 λc hc o e=>(VY _ _ (λz:S=c=>hS (by rw[z];exact hc))).trans e) (by rw[bst];exact pv) ⟨_,YA _ at1 rfl⟩ λv' g' tk' p' kp'=>?_⟩
   exact fin v' g' tk' p' λc o c1 c2 e=>kp' c o c1 c2 ((VY _ _ (Vo c2)).trans (kp c o c1 e))
  | false=>
   rw[if_neg Xl]
   have bst:Yx bt (j+1)=Yx bt j:=by rw[Yx,if_neg (by rw[better];exact Xl)]
   refine UI (XF ?_)
   rw[nm]
   exact UQ ⟨Xb WV _,ih (j+1) _ vb (by omega) st1 (by rw[bst];exact pb) ⟨_,at1⟩ λv' g' tk' p' kp'=>fin v' g' tk' p' λc o c1 c2 e=>kp' c o c1 c2 (kp c o c1 e)⟩
theorem Ii (W:Walks prog w A.in1 I fp wr n P St){bt:Nat->Nat->Bool}(cm:CmpOf prog w A.in1 .Gt P bt){S:Addr}(hS:S ∉ fp){s:UN}{nm':Str}{d:UK}(st:St 0 s.heap)(at0:RQ s.heap S #[])
  (f0:n=0->∀ g tk,(∀ c o,c ∉ wr->c≠S->s.heap.get? c=some o->g.get? c=some o)->R (.ok (.ret d)) { s with heap:=g,toks:=tk })
  (f1:∀ v g tk,0 < n->P (Yx bt (n - 1)) v->(∀ c o,c ∉ wr->c≠S->s.heap.get? c=some o->g.get? c=some o)->R (.ok (.ret v)) { s with heap:=g,toks:=tk }) :
  Xy (Vb prog w) A (.builtin "max.loop" ⟨[.ref I,.none,.ref S],[(nm',d)]⟩) R s:=by
 have sw:S ∉ wr:=λh=>hS (W.sub _ h)
 have nm:(toString "max" ++ toString ".loop" : String) = "max.loop" := by decide
 obtain ⟨ep,at'⟩:=at0
 refine run_plain WV ZS ?_
 show U9 (Vb prog w) A.in1 (zaN (.ref S) >>= _) _ _ s
 refine UI (Wa at' rfl ?_)
 show U9 (Vb prog w) A.in1 (tryCatch (X6 (.ref I)) _ >>= _) _ _ s
 rcases Nat.eq_zero_or_pos n with hn | hn
 ·refine UI (XI (W.done s _ _ (by rw[hn];exact st) λg tk kp=>?_))
  show U9 (Vb prog w) A.in1 (rule _ >>= _) _ _ _
  exact UI (Xk (UQ (f0 hn g tk λc o c1 c2 e=>kp c o c1 e)))
 ·refine UI (XI (W.item 0 s _ _ hn st λv g tk pv st1 kp=>?_))
  have at1:=kp S _ sw at'
  show U9 (Vb prog w) A.in1 (updateSeq S (λ_=>#[v,v]) >>= _) _ _ _
  refine UI ?_
  refine X4 at1 rfl ?_
  rw[nm]
  refine UQ ⟨Xb WV _,JK W cm hS _ (n - 1) 0 _ v (by omega) (W.frame _ _ _ st1 λc hc o e=>(VY _ _ (λz:S=c=>hS (by rw[z];exact hc))).trans e) pv ⟨_,YA _ at1 rfl⟩ λv' g' tk' p' kp'=>?_⟩
  exact f1 v' g' tk' hn p' λc o c1 c2 e=>kp' c o c1 c2 ((VY _ _ (Vo c2)).trans (kp c o c1 e))
end
variable {s:UN}
theorem CO (a d:UK):argsOk "max" ⟨[a],[(OF "default", d)]⟩:=by unfold argsOk;kernel_rfl
theorem CP (d:UK):Y5 "max" ["key", "default"] 0 ⟨[],[(OF "default", d)]⟩=pure [none,some d]:=by kernel_rfl
theorem Ki {id:String}{bi:YJ}{a:Args}{Q:UK->UN->Prop}(hk:builtinKind id=none)(hp:plainId id=true)(hb:entryFor table id=some bi)(ha:argsOk id a)
  (h:U9 (Vb prog w) A.in1 (bi a) (λfin s'=>match fin with
   | .done f=>(match (Except.ok f:zbS) with | .ok (.ret v)=>Q v s' | .ok _=>False | .error e=>E e s') | .again c'=>c'.quiet=true/\Xy (Vb prog w) A c' (λr s'=>match r with | .ok (.ret v)=>Q v s' | .ok _=>False | .error e=>E e s') s') E s):U9 (Vb prog w) A (zaP (.builtin id) a.pos a.kw) Q E s:=by
 refine wpAny_call (codeAny_call_builtin hp hb ?_);simp only[checkBuiltinCall,hk]
 unfold argsOk at ha
 split<;>rename_i sg
 ·rw[sg] at ha
  have ha':Bind.checkArgs id _ a=pure ():=ha
  rw[show (⟨a.pos,a.kw⟩:Args)=a from rfl,ha']
  exact UQ h
 ·exact UQ h
theorem Ei {l:Addr}{xs:Array (Int×Tok)}{d:UK}{Q:UK->UN->Prop}(hh:A.handled=none)(hl:s.heap.IsList l (YS xs))
  (f0:xs.size=0->∀ g tk,Kept s g->Q d { s with heap:=g,toks:=tk })
  (f1:∀ v g tk,0 < xs.size->(YS xs)[Yx (λi j=>decide (zb9 xs i > zb9 xs j)) (xs.size - 1)]? = some v->Kept s g->Q v { s with heap:=g,toks:=tk }) :
  U9 (Vb prog w) A (zaP (.builtin "max") [.ref l] [(OF "default", d)]) Q E s:=by
 have nm:(toString "max" ++ toString ".loop" : String) = "max.loop" := by decide
 refine Ki (a:=⟨[.ref l],[(OF "default", d)]⟩) F.kind_max F.plain_max F.entry_max (CO _ _) ?_
 show U9 (Vb prog w) A.in1 (Y5 "max" ["key", "default"] 0 ⟨[],[(OF "default", d)]⟩ >>= _) _ _ s
 refine UI (zb7 (CP d) ?_)
 refine UI (UQ ?_)
 refine UI (iter_intList hl λs₂ e st hfp hlI=>?_)
 subst e
 refine UI (VR ?_);rw[nm]
 have W:=zc5 (prog:=prog) (w:=w) (A:=A.in1) hh _ l hlI (YS xs)
 have n1:(YS xs).size=xs.size:=by simp[YS]
 have S0:(s.heap.push { cls:=.type "list_iterator", data:=.fields #[.ref l,.int 0 0] }).objs.size ∉ [s.heap.objs.size,l]:=λhm=>W8 _ (hfp _ hm)
 have old:∀ g,(∀ c o,c ∉ [s.heap.objs.size]->c≠(s.heap.push { cls:=.type "list_iterator", data:=.fields #[.ref l,.int 0 0] }).objs.size->((s.heap.push { cls:=.type "list_iterator", data:=.fields #[.ref l,.int 0 0] }).push { cls:=.type "list", data:=.seq ([]:List UK).toArray }).get? c=some o->g.get? c=some o)->Kept s g:=λg kp c o e=>by
  have lt:=U1 e
  exact kp c o (λh=>by rw[WX.mp h] at lt;exact W8 _ lt) (by rw[XG];exact Vc (Nat.lt_succ_of_lt lt)) (UJ _ (UJ _ e))
 refine UQ ⟨Xb WV _,Ii W (CmpOf.ints_gt (zb9 xs) λ_ _=>intItems_at) S0 (W.frame _ _ _ st λc _ o e=>UJ _ e) ⟨_,U3 _ rfl⟩ (λz g tk kp=>?_) λv g tk hn pv kp=>?_⟩
 ·exact f0 (by rw[← n1];exact z) g tk (old g kp)
 ·rw[n1] at hn pv
  exact f1 v g tk hn pv (old g kp)
end
section
variable {X:Cx} {e d:Ve} {p pos kp:Pos} {Te Td:ETr}
def SM (K:UH)(xs:List V)(zs:List V)(H:Hp)(Q:VK):Prop:=∃ (p:Addr) (ns:List Int) (z:V),xs=[.ref p]/\zs=[z]/\SqL K H p (ns.map V.int)/\(ns=[]->Q z H)/\(ns≠[]->∀ M,M∈ns->(∀ a∈ns,a<=M)->Q (.int M) H)
theorem Kt {t tk:TA}(hc:X.calm=true)(hg:Gl X "max")(hm:X.mg "max" = none)(ha:PA X [e] t)(hkw:PK X [⟨some (OF "default"),d,kp⟩] tk)(he:Wu pos (UX [e] X.env)=(false,V8 e X.env)::Wu pos (UX [] X.env):=by rfl)(hpl:(Wu pos (UX [e] X.env)).any (·.1)=false:=by rfl) :
  PE X (.Call (.Name "max" p) [e] [⟨some (OF "default"),d,kp⟩] pos) (λσ H Q=>t σ H λxs H1=>tk σ H1 λzs H2=>SM X.K xs zs H2 Q):=by
 intro pins s σ H Q I h
 refine X8 (iq I hg hm (u:=.builtin "max") (by rfl) ?_)
 refine callWith_kw (thn (ha pos pins s σ H _ I h) λus s1 ⟨vs,H1,I1,r1,q1⟩=>thn (hkw pos pins s1 σ H1 _ I1 q1) λws s2 ⟨zs,H2,I2,rz,q2⟩=>?_) he hpl rfl rfl
 obtain ⟨q,ns,z,rfl,rfl,sq,k0,k1⟩:=q2
 obtain ⟨u,rfl,ru⟩:=vals1 r1
 cases ru
 obtain ⟨u,rfl,rz1⟩:=vals1 rz
 obtain ⟨its,rv,pl,_⟩:=I2.list sq
 obtain ⟨ps,rfl,rfl⟩:=gL (intsAre_of rv)
 have il:s2.heap.IsList q (YS ps.toArray):=by
  have:=pl.isList
  simpa[YS] using this
 have hs:ps.toArray.size=ps.length:=by simp
 refine Ei (I2.ok.hd hc) il (λz0 g tk kp=>?_) λv g tk hn hv hk=>?_
 ·exact ⟨z,H2,I2.kept kp,rz1,k0 (by rw[hs] at z0;cases ps with | nil=>rfl | cons=>cases z0)⟩
 ·rcases intItems_at hv with ⟨t,rfl⟩
  obtain ⟨b1,b2⟩:=argBest_gt (zb9 ps.toArray) (ps.toArray.size - 1)
  generalize Yx (λi j=>decide (zb9 ps.toArray i > zb9 ps.toArray j)) (ps.toArray.size - 1)=m at hv b1 b2
  rw[hs] at b1 b2 hn
  have hk':m < (ps.map zcz).length:=by rw[UL];omega
  refine ⟨.int _,H2,I2.kept hk,⟨t,rfl⟩,k1 (λz=>by rw[zaU.mp z] at hn;cases hn) _ ?_ λa ha=>?_⟩
  ·rw[rh,UY hk']
   exact WH hk'
  ·obtain ⟨j,hj,rfl⟩:=Xc ha
   have:=b2 j (by rw[UL] at hj;omega)
   rw[rh ps j,UY hj] at this
   exact this
def Ct (Te Td:ETr):ETr:=λρ μ Q=>Te ρ μ λx μ1=>Td ρ μ1 λy μ2=>match x with
 | .ls xs=>∃ ns:List Int,xs=ns.map .int/\(ns=[]->Q y μ2)/\(ns≠[]->∀ M,M∈ns->(∀ a∈ns,a<=M)->Q (.int M) μ2)
 | _=>False
theorem BD (hc:X.calm=true)(hg:Gl X "max")(hm:X.mg "max" = none)(ha:LE X e Te)(hd:LE X d Td)(h1:UX [e] X.env=(false,V8 e X.env)::UX [] X.env:=by rfl)(he:Wu pos (UX [e] X.env)=(false,V8 e X.env)::Wu pos (UX [] X.env):=by rfl)(hpl:(Wu pos (UX [e] X.env)).any (·.1)=false:=by rfl) :
  LE X (.Call (.Name "max" p) [e] [⟨some (OF "default"),d,kp⟩] pos) (Ct Te Td):=by
 obtain ⟨te,pe,se⟩:=ha.ex
 obtain ⟨td,pd,sd⟩:=hd.ex
 refine ⟨_,Kt hc hg hm (eC pe iI h1) (Mf pd NQ) he hpl,λσ H ρ μ Q Q' rl h k=>se σ H ρ μ _ _ rl h λx H1 dx μ1 t1 m1 p1 h1=>sd σ H1 ρ μ1 _ _ (rl.go t1 m1) h1 λy H2 dy μ2 t2 m2 p2 h2=>?_⟩
 cases (p1.mono t2) with
 | @ls q xs ds sq l=>
  obtain ⟨ns,rfl,k0,k1⟩:=h2
  have ex:=l.ints_of
  subst ex
  exact ⟨q,ns,y,rfl,rfl,sq.sq,λz=>k _ H2 _ μ2 (t1.trans t2) m2 p2 (k0 z),λz M h3 h4=>k _ H2 _ μ2 (t1.trans t2) m2 (.int _) (k1 z M h3 h4)⟩
 | _=>exact UO h2
end
end
section
open PySem PySem.Spec PyProof.Rows L2
def vw (It':ATr)(G:GTr)(tt:TTr)(te:ETr)(n:Nat)(caps:List Nat):ETr:=λρ μ Q=>It' ρ μ λds μ1=>∀ p,μ1 p=none->fo p G tt te (dh ρ n caps) (λμ'=>Q (.obj p) μ') ds (up μ1 p (.lst []))
theorem Fc {X:Cx}{tg iter elt:Ve}{ifs:List Ve}{scope:Scope}{pos spos py:Pos}{y:Str}{iy:Nat}{wi:TI}{g:TG}{tt:TT}{te:TE}{Nc:List Str}{n:Nat}{caps:List Nat}
  (hxe:X.xe=λ_ _=>False) (hcalm:X.calm=true) (hi:PI X tg iter wi)
  (hbody:∀ (cl:List (Str×Addr)) (C:Addr) (s₀:UN) (H₀:Hp) (ex:List Addr),PG (a5 X scope Nc cl C s₀ H₀ ex) tg g/\yi (a5 X scope Nc cl C s₀ H₀ ex) ifs tt/\PE (a5 X scope Nc cl C s₀ H₀ ex) elt te)
  (hfree:∀ y∈scope.names,y.2=.free->X.env.kindOf y.1=some .cell) (hcell:∀ y∈scope.names,y.2≠.cell) (fM:scope.kind=.function)
  (hnames:∀ y∈scope.names,y.2=.local->scope.names.lookup y.1=some .local) (hlen:Nc.length=n+caps.length)
  (hcap:∀ (j k:Nat),caps[j]? = some k->∃ x,Nc[n+j]? = some x/\X.N[k]? = some x/\scope.names.lookup x=some .free)
  (pgy:PG X (.Name y py) (l4 iy))
  (hsw:Xd (.ListComp elt [⟨tg,iter,ifs,0⟩] scope pos) (some (.Name y py)) spos.line X.env=pure true)
  (hs:∀ x,Vx iter X.env x=pure x:=by intro _;rfl) :
  PS X (.Assign [.Name y py] (.ListComp elt [⟨tg,iter,ifs,0⟩] scope pos) spos) (Eu (jI wi g tt te n caps) (l4 iy)):=
 yh (Z:=id) hxe hcalm hi hbody hfree hcell fM hnames hlen hcap pgy hsw (λσ H Q h=>⟨_,h,λpins D H5 s5 I5 q=>⟨H5,λ_ h=>h,I5,q⟩⟩) hs
theorem Dk {K:UH}{wi:TI}{It':ATr}{G:GTr}{Tt:TTr}{Te:ETr}{n:Nat}{caps:List Nat}(si:N9 K wi It'):Sim K (jI wi (ji K n G) (liftT K Tt) (jg K Te) n caps) (vw It' G Tt Te n caps):=by
 intro σ H ρ μ Q Q' rl h k
 refine si σ H ρ μ _ _ rl h λJ H1 ds μ1 t1 m1 Y h1 D hD=>?_
 have hp:=h1 D (m1.free hD)
 have tD:Tk H1 (L2.upd H1 D (.lst [])):=.new hD
 have mD:bB K (L2.upd H1 D (.lst [])) (up μ1 D (.lst [])):=λa o e=>by
  by_cases ha:a=D
  ·subst ha
   rw[aF] at e;cases e
   exact ⟨[],aK,.nil⟩
  ·rw[aU ha] at e
   exact cJ m1 hD a o e
 refine ⟨λi m ys H2=>m=ds.length - i/\i<=ds.length/\Tk H1 H2/\∃ μ2,bB K H2 μ2/\fo D G Tt Te (dh ρ n caps) (λμ'=>Q (.obj D) μ') (ds.drop i) μ2,
  ⟨ds.length,by simp,Wj _,tD,_,mD,by simpa using hp⟩,?_⟩
 rintro i m ys H2 ⟨rfl,hi,t12,μ2,m2,h2⟩
 by_cases hlt:i < ds.length
 ·refine .inr ⟨Y.go i H2 t12 hlt,λys' H'=>Tk H1 H'/\∃ μ',bB K H' μ'/\fo D G Tt Te (dh ρ n caps) (λμ'=>Q (.obj D) μ') (ds.drop (i+1)) μ',λys' H' ⟨t',μ',m',h'⟩=>⟨ds.length - (i+1),by omega,rfl,hlt,t',μ',m',h'⟩,λx H3 y=>?_⟩
  obtain ⟨t23,⟨d,ed,pd⟩,mk⟩:=Y.yld i H2 x H3 t12 hlt y
  have e:ds.drop i=d::ds.drop (i+1):=by
   refine (We hlt).trans ?_
   congr 1
   rw[UY hlt] at ed
   exact Vt ed
  rw[e] at h2
  have t13:=t12.trans t23
  have r3:Rl K (jJ σ n caps) H3 (dh ρ n caps) μ2:=kT (rl.go (t1.trans t13) (mk _ m2)) n caps
  refine ⟨_,_,d,_,r3,pd,h2,λσ4 H4 ρ4 μ4 t4 r4 kp h4=>⟨⟨kp.1.symm,λj v ej=>?_⟩,_,_,_,r4,h4,λb H5 μ5 t5 m5 h5=>?_⟩⟩
  ·by_cases hj:n<=j
   ·rw[kp.2 j hj];exact ej
   ·obtain ⟨j',k',e1,_⟩:=hX ej
    omega
  ·have t15:=t13.trans (t4.trans t5)
   cases b with
   | false=>exact nY ⟨t15,μ5,m5,h5⟩
   | true=>
    refine nU ⟨_,_,_,r4.go t5 m5,h5,λv H6 d6 μ6 t6 m6 p6 h6=>?_⟩
    obtain ⟨zs,ez,lz,h7⟩:=bA h6
    obtain ⟨xs,ex,lx⟩:=m6 D _ ez
    have t67:Tk H6 (L2.upd H6 D (.lst (xs++[v]))):=.upd (λys z=>by rw[ex] at z;cases z) λo' u z=>by rw[ex] at z;cases z
    refine ⟨xs,ex,by rw[lx.length];exact U6 lz (by decide),(t15.trans t6).trans t67,up μ6 D (.lst (zs++[d6])),λa o ea=>?_,h7⟩
    by_cases ha:a=D
    ·subst ha
     rw[aF] at ea;cases ea
     exact ⟨_,aK,(lx.append (.cons p6 .nil)).mono t67⟩
    ·rw[aU ha] at ea
     exact (m6 a _ ea).ne t67 ha
 ·have e:i=ds.length:=by omega
  subst e
  rw[WG] at h2
  exact .inl ⟨Y.stop _ H2 t12 (U2 _),k _ _ _ μ2 (t1.trans t12) m2 (.obj _) h2⟩
theorem EH {X:Cx}{tg elt iter:Ve}{Te:ETr}{Tt:TTr}{pos spos py:Pos}{y:Str}{It':ATr}{G:GTr}{ifs:List Ve}{scope fsc:Scope}(iy:Nat)(hN:X.N.Nodup)(XN Nc:List Str)(n:Nat)(caps:List Nat)(hxe:X.xe=λ_ _=>False)(hcalm:X.calm=true)(hi:LI X tg iter It')
  (hbody:∀ (cl:List (Str×Addr)) (C:Addr) (s₀:UN) (H₀:Hp) (ex:List Addr),LGc (a5 X scope Nc cl C s₀ H₀ ex) n tg G/\vy (a5 X scope Nc cl C s₀ H₀ ex) ifs Tt/\LE (a5 X scope Nc cl C s₀ H₀ ex) elt Te)
  (hsc:X.env.scope=fsc) (hXN:X.N=XN) (hok:fi fsc.names XN scope Nc n caps=true)
  (hiy:X.N[iy]? = some y:=by rfl) (hx:Loc X.env.scope y:=by first | exact Yt rfl | exact Yu rfl) (hf:X.fn y=true∨X.env.scope.names.lookup y=some .local:=by first | exact .inl rfl | exact .inr rfl | assumption)
  (hsw:Xd (.ListComp elt [⟨tg,iter,ifs,0⟩] scope pos) (some (.Name y py)) spos.line X.env=pure true:=by rfl)
  (hs:∀ x,Vx iter X.env x=pure x:=by intro _;rfl) :
  LS X (.Assign [.Name y py] (.ListComp elt [⟨tg,iter,ifs,0⟩] scope pos) spos) (aN (vw It' G Tt Te n caps) (aw iy)):=by
 unfold fi at hok
 simp only[Vj,Xg] at hok
 obtain ⟨⟨⟨h1,h2⟩,h3⟩,h4⟩:=hok
 obtain ⟨wi,pi,si⟩:=hi.ex
 refine ⟨_,Fc (g:=ji X.K n G) (tt:=liftT X.K Tt) (te:=jg X.K Te) hxe hcalm pi (λcl C s₀ H₀ ex=>let ⟨h1,h2,h3⟩:=hbody cl C s₀ H₀ ex;⟨h1.pe,h2.pe,h3.pe⟩) (λy hy hf=>?_) (λy hy hf=>?_) (by simpa using h2) (λy hy hf=>?_) (by simpa using h3) (λj k hj=>?_) (ir hN hiy hx hf) hsw hs,λσ H ρ μ E E' rl h k=>Dk si σ H ρ μ _ _ rl h λv H' d μ' t' m' p' h'=>hV iy σ H' ρ μ' v d _ _ (rl.go t' m') p' h' (k.go t').nx⟩
 ·have:=(h1 y hy).1.1
  show X.env.scope.names.lookup y.1=_
  rw[hsc]
  simpa[hf] using this
 ·have:=(h1 y hy).1.2
  simp[hf] at this
 ·have:=(h1 y hy).2
  simpa[hf] using this
 ·have hl:j < caps.length:=(Vh.mp hj).1
  have:=h4 j (WW.mpr hl)
  rw[hj] at this
  dsimp only at this
  rw[hXN]
  cases e:XN[k]? with
  | none=>rw[e] at this;cases this
  | some x=>
   rw[e] at this
   dsimp only at this
   rw[Vj] at this
   exact ⟨x,by simpa using this.1,rfl,by simpa using this.2⟩
section
variable {X:Cx} {o i:Ve} {To Ti:ETr} {apos cpos:Pos}
end
end
section
open PySem PySem.Spec PyProof.Rows L2
section
variable {X:Cx} {o i:Ve} {To Ti:ETr} {apos cpos:Pos}
theorem zu (l:Addr)(its:Array UK)(n:Nat)(q:Addr)(its2:Array UK)(n2:Nat)(dd:Option Addr)(sl:Array (Option UK))(h0:¬ (!its.isEmpty&&Wl (its.size+its2.size))=true)(h1:its.size<=sizeLine)(h2:its.size+its2.size<=sizeLine+1) :
  Meets (YJ.«list.extend» ⟨[.ref l,.ref q],[]⟩) (λ_ R s=>s.heap.get? l=some { cls:=.type "list", dict:=none,data:=.seq its n,slots:=#[] }/\s.heap.get? q=some { cls:=.type "tuple", dict:=dd,data:=.seq its2 n2,slots:=sl }/\
   R (.ok (.ret WM)) { s with heap:=s.heap.update l (Z3 λx=>x++its2) }):=
 .of_wp λprog w A R s h=>by
  rcases s with ⟨hp,g,d,tk,os⟩
  obtain ⟨hl,hb,h⟩:=h
  have z1:=Z9
  have z2:=YG
  have z3:=Y0
  have z4:=YO
  have z5:=YQ
  have hz':(its++its2).size<=sizeLine+1:=by rw[zbI];omega
  wp_walk using (X4 hl rfl (hz:=h1) (_hz':=hz')),Y1 hl,Y1 hb
  exact ⟨_,rfl,h⟩
def RZ (K:UH):V->List V->Hp->VK->Prop:=λx vs H Q=>∃ l b xs zs,x=.ref l/\vs=[.ref b]/\H l=some (.lst xs)/\(SqL K H b zs∨SqT K H b zs)/\xs.length+zs.length<=sizeLine/\Q .non (L2.upd H l (.lst (xs++zs)))
theorem Kw:MtM X "list.extend" (RZ X.K):=by
 intro pins s σ H x vs v us Q I rx rv h
 obtain ⟨l,q,xs,zs,rfl,rfl,hH,hB,hz,qq⟩:=h
 rcases hB with hB | hB
 ·exact PU pins s σ H _ _ v us Q I rx rv ⟨l,q,xs,zs,rfl,rfl,hH,hB,hz,qq⟩
 cases (show v=Vs l from rx)
 obtain ⟨u,rfl,ru⟩:=rv.one
 cases (show u=Vs q from ru)
 obtain ⟨z,its,n,r,hl,e⟩:=I.GW hH
 obtain ⟨its2,r2,⟨o,e2,c2,n2,dat2⟩,_⟩:=I.tuple hB
 have e2':s.heap.get? q=some ⟨.type "tuple", o.dict,.seq its2.toArray n2,o.slots⟩:=by
  rw[e2];obtain ⟨c',dd,dt,sl⟩:=o;simp only at c2 dat2;subst c2 dat2;rfl
 have hl2:=r2.length
 have hs2:its.toArray.size+its2.toArray.size<=sizeLine:=by rw[U4,U4];omega
 have HL:¬ (!its.toArray.isEmpty&&Wl (its.toArray.size+its2.toArray.size))=true:=by
  rw[wc hs2,zaA];decide
 refine Ze zbm ⟨_,e,rfl⟩ zaT (zaB _ _) (zu l its.toArray n q its2.toArray n2 o.dict o.slots HL (by omega) (by omega)) ⟨e,e2',?_⟩
 refine ⟨.non,_,I.Lw (its':=its++its2) hH e (by simp) (r.append r2) ?_,rfl,qq⟩
 rw[US];omega
def sU (To Ti:ETr):ETr:=λρ μ Q=>To ρ μ λx μ1=>kObj x λa=>kL μ1 a λ_=>Ti ρ μ1 λy μ2=>Dm μ2 y λes=>kL μ2 a λds=>ds.length+es.length<=1000000/\Q .non (up μ2 a (.lst (ds++es)))
theorem FI {K:UH}{H:Hp}{μ:Mu}{x:V}{dx:D}{f:List D->Prop}(m:bB K H μ)(p:Dp K H x dx)(h:Dm μ dx f):∃ q xs ds,x=.ref q/\(SqL K H q xs∨SqT K H q xs)/\DpL K H xs ds/\f ds:=by
 cases p with
 | tup sq l=>exact ⟨_,_,_,rfl,.inr sq,l,h⟩
 | ls sq l=>exact ⟨_,_,_,rfl,.inl sq.sq,l,h⟩
 | obj q=>
  obtain ⟨ds,e0,h⟩:=bA (show kL μ q _ from h)
  obtain ⟨xs,ex,l⟩:=m q _ e0
  exact ⟨q,xs,ds,rfl,.inl (SqL.of ex),l,h⟩
 | _=>exact UO h
theorem oH (ho:LE X o To)(hi:LE X i Ti)
  (hbase:YI o "extend" X.env (V8 o X.env)=V8 o X.env:=by rfl)
  (hfew:((Wu cpos (UX [i] X.env)).all (λx=>!x.1)&&(ZG cpos (Ye [] X.env)).all (λx=>x.1.isSome)
   && decide (([i]:List Ve).length+([]:List Yq).length+(if ([]:List Yq).isEmpty then 0 else 1) < 30))=true:=by rfl)
  (hline:(apos.endLine == cpos.line)=true:=by rfl) (hs:UX [i] X.env=(false,V8 i X.env)::UX [] X.env:=by rfl) (hplain:(Wu cpos (UX [] X.env)).any (·.1)=false:=by rfl) :
  LE X (.Call (.Attribute o "extend" apos) [i] [] cpos) (sU To Ti):=by
 obtain ⟨to,po,so⟩:=ho.ex
 obtain ⟨ti,pi,si⟩:=hi.ex
 refine ⟨_,B0 Xh PySem.F.slot_list_extend PySem.F.type_list_extend Kw po (eC pi iI hs) hbase hfew hline hs hplain,λσ H ρ μ Q Q' rl h k=>so σ H ρ μ _ _ rl h λx H1 dx μ1 t1 m1 p1 h1=>?_⟩
 obtain ⟨q,rfl,h1⟩:=hU p1 h1
 obtain ⟨ds0,e0,h1⟩:=bA h1
 obtain ⟨xs0,ex0,_⟩:=m1 q _ e0
 refine ⟨.inl ⟨rfl,_,SqL.of ex0⟩,si σ H1 ρ μ1 _ _ (rl.go t1 m1) h1 λy H2 dy μ2 t2 m2 p2 h2=>?_⟩
 obtain ⟨q',ys,es,rfl,sq,l',h2⟩:=FI m2 p2 h2
 obtain ⟨ds,e2,hz,h2⟩:=bA h2
 obtain ⟨xs,ex,l⟩:=m2 q _ e2
 exact ⟨q,q',xs,ys,rfl,rfl,ex,sq,by rw[l.length,l'.length];exact big hz,k _ _ _ _ ((t1.trans t2).trans (iE ex)) (BR m2 ex (l.append l')) .non h2⟩
end
end
theorem Li (a b:ETr)(ρ:ST)(μ:Mu)(Q:DK):Gb a b ρ μ Q=a ρ μ λx μ1=>b ρ μ1 λy μ2=>kI x λi=>kI y λj=>((-4611686018427387904<=i/\i < 4611686018427387904)/\(-4611686018427387904<=j/\j < 4611686018427387904)/\(j - i).toNat<=1000000)/\Q (.tup (cB i (j - i).toNat)) μ2:=propext UM
def OW (x y:D)(μ:Mu)(Q:DK):Prop:=match x with
 | .ls xs=>∃ ns:List Int,xs=ns.map .int/\(ns=[]->Q y μ)/\(ns≠[]->∀ M,M∈ns->(∀ a∈ns,a<=M)->Q (.int M) μ)
 | _=>False
theorem LZ (a b:ETr)(ρ:ST)(μ:Mu)(Q:DK):Ct a b ρ μ Q=a ρ μ λx μ1=>b ρ μ1 λy μ2=>OW x y μ2 Q:=propext UM
theorem Lx (a b:ETr)(ρ:ST)(μ:Mu)(Q:DK):sU a b ρ μ Q=a ρ μ λx μ1=>kObj x λa=>kL μ1 a λ_=>b ρ μ1 λy μ2=>Dm μ2 y λes=>kL μ2 a λds=>ds.length+es.length<=1000000/\Q .non (up μ2 a (.lst (ds++es))):=propext UM
theorem O9 (μ:Mu)(ds:List D)(f:List D->Prop):Dm μ (.tup ds) f=f ds:=propext UM
theorem NH (μ:Mu)(ds:List D)(f:List D->Prop):Dm μ (.ls ds) f=f ds:=propext UM
def ENM (vs:List D)(μ:Mu)(Q:List D->Mu->Prop):Prop:=match vs with
 | [x]=>kS x λds=>Q (i5 ds) μ
 | _=>False
theorem Ka (t:ATr)(ρ:ST)(μ:Mu)(Q:List D->Mu->Prop):yu t ρ μ Q=t ρ μ λvs μ1=>ENM vs μ1 Q:=propext UM
theorem Sd (x:D)(μ:Mu)(Q:List D->Mu->Prop):ENM [x] μ Q=kS x λds=>Q (i5 ds) μ:=propext UM
def ML (G:GTr)(tt:TTr)(te:ETr)(ρc:ST)(ds:List D)(μ:Mu)(Q:DK):Prop:=∀ p,μ p=none->fo p G tt te ρc (λμ'=>Q (.obj p) μ') ds (up μ p (.lst []))
theorem Jc (it:ATr)(G:GTr)(tt:TTr)(te:ETr)(n:Nat)(caps:List Nat)(ρ:ST)(μ:Mu)(Q:DK):vw it G tt te n caps ρ μ Q=it ρ μ λds μ1=>ML G tt te (dh ρ n caps) ds μ1 Q:=propext UM
theorem E4 (xs:List D)(μ:Mu)(Q:DK):gG pS [.tup xs] μ Q = ∃ ns:List Int,(xs=ns.map .int/\ns.length < 64)/\∀ ns':List Int,ns'.Perm ns->ns'.Pairwise (·<=·)->Q (.ls (ns'.map .int)) μ:=propext UM
theorem ME (xs:List D)(μ:Mu)(Q:DK):gG BC [.ls xs] μ Q = ∃ ns:List Int,xs=ns.map .int/\Q (.int ns.sum) μ:=propext UM
theorem RE (o:Option Int)(μ Q):rIs (dg o) .non μ Q=Q (.bl (decide (o=none))) μ:=by cases o<;>simp[rIs,dg]
def eK (ns:List Int):List Int:=ns.mergeSort (λa b=>decide (a<=b))
theorem kn (ns:List Int):(eK ns).Perm ns:=List.mergeSort_perm ..
theorem FQ (ns:List Int):(eK ns).Pairwise (·<=·):=by
 have:=List.pairwise_mergeSort (le:=λa b:Int=>decide (a<=b)) (λa b c h1 h2=>by simp at *;omega) (λa b=>by simp;omega) ns
 exact this.imp λh=>by simpa using h
theorem nD:∀ {a b:List Int},a.Perm b->a.Pairwise (·<=·)->b.Pairwise (·<=·)->a=b
 | [],b,h,_,_=>(List.nil_perm.mp h).symm
 | x::a,[],h,_,_=>absurd h (by simp)
 | x::a,y::b,h,ha,hb=>by
  have ha':=Yb.mp ha
  have hb':=Yb.mp hb
  have hx:x∈y::b:=h.mem_iff.mp U0
  have hy:y∈x::a:=h.mem_iff.mpr U0
  have e:x=y:=by
   rcases UZ.mp hx with e | e
   ·exact e
   ·rcases UZ.mp hy with e' | e'
    ·exact e'.symm
    ·have h1:=ha'.1 y e'
     have h2:=hb'.1 x e
     omega
  subst e
  rw[nD ((List.perm_cons x).mp h) ha'.2 hb'.2]
theorem wB {a ns:List Int}(h:a.Perm ns)(s:a.Pairwise (·<=·)):a=eK ns:=nD (h.trans (kn ns).symm) s (FQ ns)
theorem mJ (ns:List Int):(eK ns).length=ns.length:=(kn ns).length_eq
def own (n:Str)(ls:List Lt):List Lt:=ls.filter λl=>decide (l.nm=n)
def St'.und (x:St')(n:Str):Int:=(x.ws.map λw=>((own n (w.cm++w.st)).length:Int)).sum
def jc (lf:Option Int)(places:Int):Int:=match lf with
 | none=>places
 | some l=>min places l
def rgI (a:Int)(n:Nat):List Int:=(Vd n).map λ(i:Nat)=>a+(i:Int)
theorem Rz (a:Int)(n:Nat):cB a n=(rgI a n).map .int:=by unfold cB rgI;rw[UR];rfl
def Ss.fill (x:Ss)(pl:Nat):Ss×List Int:=
 let c:=jc x.lf ((pl:Int) - ((x.ag.take pl).length:Int))
 (⟨x.nm,x.du,x.W,x.S,x.nx+c,x.lf.map (· - c),x.ag.drop (x.ag.take pl).length,x.lo,x.gd,x.mk',x.wt⟩,x.ag.take pl++rgI x.nx c.toNat)
def Ss.hd (x:Ss):Hd:=⟨x.gd,x.mk',x.lo.length,x.wt⟩
def Ss.rdy (g:Int)(R:RN)(x:Ss):Ss:=⟨x.nm,x.du,(R.beh g x.W x.S x.hd).1,(R.beh g x.W x.S x.hd).2,x.nx,x.lf,eK (x.ag++x.lo),[],0,0,0⟩
def Ss.bt (g:Int)(s:Sn)(x:Ss)(u:Int):Ss×List Int:=if x.du=some 0 then (x.rdy g s.rl).fill (max 0 ((s.rl.beh g x.W x.S x.hd).1 / g - u)).toNat else (x,[])
def cO (ns:List (List Int)):Nat:=(ns.map WC).foldr max 0
def lV (ss:List Sn)(ns:List (List Int)):List (Str×Lt):=
 (Vd (cO ns)).flatMap λt=>(UW ss ns).filterMap λp=>p.2[t]?.map λn=>(p.1.rd.headD (OF ""),⟨p.1.nm,n,0,0,0⟩)
def sdD (x:Str×Lt):D:=.tup [.str x.1,x.2.toD]
structure Wt where
 ca:List Lt
 lo:List Lt
 ou:List Lt
 st:List Lt
 la:Str
def Wt.toD (x:Wt):D:=.tup [.tup (ltD x.ca),.tup (ltD x.lo),.tup (ltD x.ou),.tup (ltD x.st),.str x.la]
def pass (w:Wy)(ns:List Str)(k:Ws)(aL:List (Str×Lt)):Wt:=
 let ca:=k.cm++(aL.filter λx=>decide (x.1=w.nm)).map (·.2)
 let h:=tk w k.st ca
 let t:=eB w ns h.1 k.la
 ⟨ca,h.2,t.1,t.2.1,t.2.2⟩
def j8 (ss:List Sn):List (L2.Key×D):=ss.map λs=>(.inr s.nm,.tup (s.rd.map .str))
def road (ss:List Sn)(n:Str):List Str:=((ss.find? λs=>decide (s.nm=n)).map Sn.rd).getD []
def cN (ss:List Sn)(l:Lt):Option Str:=(road ss l.nm)[l.hp.toNat+1]?
def xh:Option Str->D
 | none=>.non
 | some s=>.str s
structure Ev where
 wd:Str
 nm:Str
 nu:Int
 wy:Str
def Ev.toD (x:Ev):D:=.tup [.str x.wd,.str x.nm,.int x.nu,.str x.wy]
abbrev evD (xs:List Ev):List D:=xs.map Ev.toD
def evs (ss:List Sn)(w:Wy)(x:Wt):List Ev:=
 (x.ca.zipIdx.map λp=>⟨if (p.2:Int) < (x.ca.length:Int) - x.lo.length then OF "in" else OF "lost", p.1.nm,p.1.nu,w.nm⟩) ++
 x.ou.map λl=>⟨if cN ss l=none then OF "taken" else OF "out", l.nm,l.nu,w.nm⟩
def Lt.kR (x:Lt)(h:Int):Lt:=⟨x.nm,x.nu,x.ag+1,x.hp+h,x.mr⟩
def IZ (ss:List Sn)(w:Wy)(x:Wt)(out:List Lt):Ws:=⟨(out.filter λl=>decide (cN ss l=some w.nm)).map (·.kR 1),x.st.map (·.kR 0),x.la⟩
def D9 (s:Sn)(d:Option Int):Option Int:=d.map λi=>if i=0 then s.bt - 1 else i - 1
def qt (d:Int):List Int->Int
 | []=>d
 | a::r=>(a::r).tail.foldl max a
def qv (s:Sn)(x:Ss)(br taken:List Lt):Ss:=
 let o:=own s.nm taken
 let m:=(o.map Lt.mr).sum
 ⟨x.nm,D9 s x.du,x.W,x.S,x.nx,x.lf,x.ag,eK (x.lo++(own s.nm br).map Lt.nu),x.gd+o.length - m,x.mk'+m,max x.wt (qt 0 (o.map λl=>l.ag - l.hp))⟩
def Pn.bE (p:Pn)(st:St'):List (Ss×List Int):=VH (λs k=>k.bt p.g s (st.und k.nm)) p.ss st.ss
def Pn.aL (p:Pn)(st:St'):List (Str×Lt):=lV p.ss ((p.bE st).map (·.2))
def Pn.bG (p:Pn)(st:St'):List Wt:=VH (λw k=>pass w p.sn k (p.aL st)) p.ws st.ws
def Pn.br (p:Pn)(st:St'):List Lt:=(p.bG st).flatMap Wt.lo
def Pn.out (p:Pn)(st:St'):List Lt:=(p.bG st).flatMap Wt.ou
def Pn.taken (p:Pn)(st:St'):List Lt:=(p.out st).filter λl=>decide (cN p.ss l=none)
def Pn.step (p:Pn)(st:St'):St':=⟨VH (λw x=>IZ p.ss w x (p.out st)) p.ws (p.bG st),VH (λs b=>qv s b.1 (p.br st) (p.taken st)) p.ss (p.bE st)⟩
def Pn.evs (p:Pn)(st:St'):List Ev:=(p.aL st).map (λx=>⟨OF "sent", x.2.nm,x.2.nu,x.1⟩)++(VH (λw x=>L3.evs p.ss w x) p.ws (p.bG st)).flatten
theorem S8 (x:Wt)(μ:Mu)(Q:DK):L3.rIx x.toD (.int 0) μ Q=Q (.tup (ltD x.ca)) μ:=propext UM
theorem TL (x:Wt)(μ:Mu)(Q:DK):L3.rIx x.toD (.int 1) μ Q=Q (.tup (ltD x.lo)) μ:=propext UM
theorem Ua (x:Wt)(μ:Mu)(Q:DK):L3.rIx x.toD (.int 2) μ Q=Q (.tup (ltD x.ou)) μ:=propext UM
theorem Uw (x:Wt)(μ:Mu)(Q:DK):L3.rIx x.toD (.int 3) μ Q=Q (.tup (ltD x.st)) μ:=propext UM
theorem Ut (x:Wt)(μ:Mu)(Q:DK):L3.rIx x.toD (.int 4) μ Q=Q (.str x.la) μ:=propext UM
theorem Ud (x:Ev)(μ:Mu)(Q:DK):L3.rIx x.toD (.int 0) μ Q=Q (.str x.wd) μ:=propext UM
theorem Us (x:Ev)(μ:Mu)(Q:DK):L3.rIx x.toD (.int 1) μ Q=Q (.str x.nm) μ:=propext UM
theorem S5 (x:Ev)(μ:Mu)(Q:DK):L3.rIx x.toD (.int 2) μ Q=Q (.int x.nu) μ:=propext UM
theorem TF (x:Ev)(μ:Mu)(Q:DK):L3.rIx x.toD (.int 3) μ Q=Q (.str x.wy) μ:=propext UM
theorem Rx (i0 i1:Nat)(x:Str×Lt)(ρ:ST)(μ:Mu)(k:ST->Mu->Prop):dY [i0,i1] (sdD x) ρ μ k=dY [i0,i1] (.tup [.str x.1,x.2.toD]) ρ μ k:=propext UM
def RN.sh1 (R:RN)(g S:Int)(h:Hd):Int:=if R.idle h then S else R.shr g S h
theorem Jz (R:RN)(g W S:Int)(h:Hd):(R.beh g W S h).2=R.sh1 g S h:=by
 unfold RN.beh RN.sh1;split<;>rfl
theorem Od {R:RN}(k:R.Ok){g S:Int}{h:Hd}(H:h.Ok)(g0:0 < g)(S0:0<=S)(S1:S<=g):0<=R.sh1 g S h/\R.sh1 g S h<=g:=by
 unfold RN.sh1
 split
 ·exact ⟨S0,S1⟩
 ·rename_i hn;exact Jg k H hn g0 S0 S1
theorem KD {R:RN}(K:R.Ok){g:Int}(g0:0 < g)(x:Int):g<=R.clip g x/\R.clip g x<=R.cap g:=by
 have c2:=ES K (g:=g) g0
 unfold RN.clip;omega
def SJ:=Jn @Li <| Jn @LZ <| Jn @Lx <| Jn @O9 <| Jn @NH <| Jn @Ka <| Jn @Sd <| Jn @Jc <| Jn @E4 <| Jn @ME <| Jn @RE <| Jn @S8 <| Jn @TL <| Jn @Ua <| Jn @Uw <| Jn @Ut <| Jn @Ud <| Jn @Us <| Jn @S5 <| Jn @TF <| Jn @Rx <| @R8
local macro_rules | `(tactic| walk_at "go")=>zzS "↓L3.SJ L3.Bm ↓L3.tM ↓L3.t7 ↓L3.tf ↓L3.tm ↓L3.tN ↓L3.t8 ↓L3.iz ↓L3.gR L3.bR L3.bD L3.bO L3.bU L3.bM L3.bS L3.cA L3.ck L3.bC L3.bW L3.bX L3.bP L3.bQ L3.cq L3.bT L3.cy L3.bL L3.cu L3.bV L3.cz L3.gj L3.uA L3.uw L3.dh List.map_cons List.map_nil List.replicate List.cons_append List.nil_append L3.lk L3.Aj L3.zK L3.wx L3.y3 L3.Ap L3.fg L3.rJ L3.kG L3.rj L3.rg L3.kz L3.ky L3.iU L3.iQ L3.iM L3.iJ true_and and_true and_self Bool.not_true Bool.not_false decide_true decide_false Bool.or_true Bool.or_false Bool.true_or Bool.false_or Bool.and_false Bool.false_and Bool.and_true Bool.true_and Int.reduceToNat Int.reducePow Int.reduceNeg Int.reduceSub Int.reduceAdd Int.reduceMul Int.reduceEq Int.reduceLT Int.reduceLE Int.reduceBEq L3.fQ L3.eQ L3.eU L3.eS L3.fb L3.eR L3.eZ L3.eP if_true if_false Bool.false_eq_true reduceCtorEq decide_eq_true_eq"
theorem dU {α β:Type}(p:α->Prop) [DecidablePred p] (f:α->β):∀ xs:List α,xs.filterMap (λx=>if p x then some (f x) else none)=(xs.filter λx=>decide (p x)).map f
 | []=>rfl
 | x::r=>by by_cases h:p x<;>simp[h,dU p f r]
theorem Il {μ:Mu}{Q:DK}(ls:List Lt)(n:Str)(hl:ls.length<=900000)(ok:∀ x∈ls,UU x.nm=true)(hn:UU n=true)(k:Q (.ls (ltD (own n ls))) μ) :
  vh (aw 0) (TB (aj rEq (aj rIx (ah 0) (TC (.int 0))) (ah 1))) (ah 0) [none,some (.str n)] (ltD ls) μ Q:=by
 refine jR ls Lt.toD (λx=>if x.nm=n then some x.toD else none) rfl (by omega) (λx hx μ' _ N nn=>?_) ?_
 ·walk_at "go"
  refine ⟨⟨ok x hx,hn⟩,kif (λh=>?_) (λh=>?_)⟩
  ·rw[if_pos h] at nn;exact nn
  ·rw[if_neg h] at nn;exact nn
 ·rw[dU (λx:Lt=>x.nm=n) Lt.toD];exact k
def QT (ls:List Lt):Prop:=∀ x∈ls,UU x.nm=true
structure Ws.Ok (w:Ws):Prop where
 n:QT (w.cm++w.st)
 l:w.cm.length+w.st.length<=900000
def fv:FSp:=λds μ Q=>kcA ds λd ds=>kcS ds λn ds=>kcN ds (∃ (g:Int) (x:St'),(d=x.toD g/\(∀ w∈x.ws,w.Ok)/\UU n=true)/\Q (.int (x.und n)) μ)
theorem sf:∀ ds μ Q,fv ds μ Q->ds.length=2:=λ_ _ _ h=>lcA h λ_ _ h=>lcS h λ_ _ h=>by rw[(ecN h).1];rfl
def m8:STr:=aB (aN (TC (.int 0)) (aw 2)) (aB (iS (dW (aj L3.rIx (ah 0) (TC (.int 0)))) (aw 3) (Lz (λm n=>m+n) 2 (aq cS (af (b8 (dW (aj aT (aj L3.rIx (ah 3) (TC (.int 0))) (aj L3.rIx (ah 3) (TC (.int 1))))) (aw 0) (TB (aj rEq (aj L3.rIx (ah 0) (TC (.int 0))) (ah 1))) (ah 0) 1 [1]) (ar))))) (aW (ah 2)))
theorem uB:∀ ds μ Q,fv ds μ Q->m8 { nx:=λ_ μ'=>RT Q .non μ',rt:=RT Q } (ini 4 ds) μ:=by
 intro ds μ Q h
 replace h:=ecA h
 obtain ⟨d,ds,rfl,h⟩:=h
 replace h:=ecS h
 obtain ⟨n,ds,rfl,h⟩:=h
 replace h:=ecN h
 obtain ⟨rfl,h⟩:=h
 walk_at "ini"
 unfold m8
 walk_at "go"
 obtain ⟨g,x,⟨rfl,hw,hn⟩,k⟩:=h
 walk_at "go"
 refine bY (λr ρ μ'=>∃ (a c:List Ws) (v3:Option D),r=wsD c/\ρ=[some (x.toD g),some (.str n),some (.int (a.map λw=>((own n (w.cm++w.st)).length:Int)).sum),v3]/\μ'=μ/\a++c=x.ws) ?_ ?_ _ _ _ ⟨[],x.ws,_,rfl,rfl,rfl,rfl⟩
 ·rintro ρ μ' ⟨a,c,v3,er,rfl,rfl,e⟩
  have:c=[]:=by cases c with | nil=>rfl | cons=>cases er
  subst this
  rw[Vk] at e
  subst e
  walk_at "go"
  exact ⟨_,.refl _,k⟩
 ·rintro d r ρ μ' N ⟨a,c,v3,er,rfl,rfl,e⟩ hN
  cases c with
  | nil=>cases er
  | cons w c=>
  cases er
  have ho:=hw w (by rw[← e];simp)
  walk_at "go"
  have hl:=ho.l
  refine ⟨by simp;omega,?_⟩
  rw[← Vq]
  refine Il (w.cm++w.st) n (by simp;omega) ho.n hn ?_
  walk_at "go"
  refine hN _ _ ⟨a++[w],c,some w.toD,rfl,?_,rfl,by rw[← e];simp⟩
  simp
def gc:FSp:=λds μ Q=>kcA ds λd ds=>kcI ds λn ds=>kcN ds (∃ (g:Int) (x:Ss),d=x.toD g/\Q (.int (jc x.lf n)) μ)
theorem vn:∀ ds μ Q,gc ds μ Q->ds.length=2:=λ_ _ _ h=>lcA h λ_ _ h=>lcI h λ_ _ h=>by rw[(ecN h).1];rfl
def pC:STr:=aW (lA (TB (aj rIs (aj L3.rIx (ah 0) (TC (.int 5))) (TC .non))) (ah 1) (aq sL (af (ah 1) (af (aj L3.rIx (ah 0) (TC (.int 5))) (ar)))))
theorem xR:∀ ds μ Q,gc ds μ Q->pC { nx:=λ_ μ'=>RT Q .non μ',rt:=RT Q } (ini 2 ds) μ:=by
 intro ds μ Q h
 replace h:=ecA h
 obtain ⟨d,ds,rfl,h⟩:=h
 replace h:=ecI h
 obtain ⟨n,ds,rfl,h⟩:=h
 replace h:=ecN h
 obtain ⟨rfl,h⟩:=h
 walk_at "ini"
 unfold pC
 walk_at "go"
 obtain ⟨g,x,rfl,k⟩:=h
 walk_at "go"
 unfold jc at k
 cases e:x.lf with
 | none=>rw[e] at k;exact pX (by simp) ⟨_,.refl _,k⟩
 | some l=>
  rw[e] at k
  refine vS (by simp) ?_
  show gG sL [.int n,.int l] μ _
  walk_at "go"
  exact ⟨_,.refl _,k⟩
theorem Md (g:Int)(x:Ss):cutD [.str x.nm,dg x.du,fF x.W g,fF x.S g,.int x.nx,dg x.lf,.tup (dO x.ag),.tup (dO x.lo),.int x.gd,.int x.mk',.int x.wt] none (some 4)=[.str x.nm,dg x.du,fF x.W g,fF x.S g]:=rfl
theorem JI (g:Int)(x:Ss):cutD [.str x.nm,dg x.du,fF x.W g,fF x.S g,.int x.nx,dg x.lf,.tup (dO x.ag),.tup (dO x.lo),.int x.gd,.int x.mk',.int x.wt] (some 7) none=[.tup (dO x.lo),.int x.gd,.int x.mk',.int x.wt]:=rfl
theorem M1 (g:Int)(x:Ss)(lo hi:Option Int)(μ:Mu)(Q:DK):rSl (x.toD g) lo hi μ Q=Q (.tup (cutD [.str x.nm,dg x.du,fF x.W g,fF x.S g,.int x.nx,dg x.lf,.tup (dO x.ag),.tup (dO x.lo),.int x.gd,.int x.mk',.int x.wt] lo hi)) μ:=propext UM
def gi:FSp:=λds μ Q=>kcA ds λd ds=>kcI ds λn ds=>kcN ds (∃ (g:Int) (x:Ss) (m:Nat),(d=x.toD g/\n=m/\m<=1000/\(-4000000000000000000<=x.nx/\x.nx<=4000000000000000000)/\x.ag.length<=1000/\(∀ l,x.lf=some l->0<=l))/\Q (.tup [(x.fill m).1.toD g,.tup (dO (x.fill m).2)]) μ)
theorem uP:∀ ds μ Q,gi ds μ Q->ds.length=2:=λ_ _ _ h=>lcA h λ_ _ h=>lcI h λ_ _ h=>by rw[(ecN h).1];rfl
def oV:STr:=aB (aN (TSl (aj L3.rIx (ah 0) (TC (.int 6))) (ONo) (lr (ah 1))) (aw 2)) (aB (aN (aq gc (af (ah 0) (af (aj kA (ah 1) (aq cS (af (ah 2) (ar)))) (ar)))) (aw 3)) (aB (aN (aj L3.rIx (ah 0) (TC (.int 4))) (aw 4)) (aB (aN (lA (TB (aj rIs (aj L3.rIx (ah 0) (TC (.int 5))) (TC .non))) (TC .non) (aj kA (aj L3.rIx (ah 0) (TC (.int 5))) (ah 3))) (aw 5)) (aB (aN (aj aT (aj aT (TSl (ah 0) (ONo) (lr (TC (.int 4)))) (bf (af (aj aT (ah 4) (ah 3)) (af (ah 5) (af (TSl (aj L3.rIx (ah 0) (TC (.int 6))) (lr (aq cS (af (ah 2) (ar)))) (ONo)) (ar)))))) (TSl (ah 0) (lr (TC (.int 7))) (ONo))) (aw 6)) (aW (bf (af (ah 6) (af (aj aT (ah 2) (Gb (ah 4) (aj aT (ah 4) (ah 3)))) (ar)))))))))
theorem xy:∀ ds μ Q,gi ds μ Q->oV { nx:=λ_ μ'=>RT Q .non μ',rt:=RT Q } (ini 7 ds) μ:=by
 intro ds μ Q h
 replace h:=ecA h
 obtain ⟨d,ds,rfl,h⟩:=h
 replace h:=ecI h
 obtain ⟨n,ds,rfl,h⟩:=h
 replace h:=ecN h
 obtain ⟨rfl,h⟩:=h
 walk_at "ini"
 unfold oV
 walk_at "go"
 obtain ⟨g,x,m,⟨rfl,rfl,hm,⟨n0,n1⟩,ha,hl⟩,k⟩:=h
 simp only[↓M1]
 have c1:cutD (dO x.ag) none (some (m:Int))=dO (x.ag.take m):=by rw[Cf];exact zcO.symm
 have c2:∀ L:Nat,cutD (dO x.ag) (some (L:Int)) none=dO (x.ag.drop L):=λL=>by rw[sV];exact zcP.symm
 walk_at "go"
 simp only[c1,Md,JI,UL,c2]
 refine ⟨g,x,rfl,?_⟩
 have tl:(x.ag.take m).length<=m:=by simp;omega
 have e1:(x.fill m).1.toD g=.tup ([.str x.nm,dg x.du,fF x.W g,fF x.S g]++[.int (x.nx+jc x.lf ((m:Int) - ((x.ag.take m).length:Int))),dg (x.lf.map (· - jc x.lf ((m:Int) - ((x.ag.take m).length:Int)))),.tup (dO (x.ag.drop (x.ag.take m).length))]++[.tup (dO x.lo),.int x.gd,.int x.mk',.int x.wt]):=rfl
 have e2:dO (x.fill m).2=dO (x.ag.take m)++cB x.nx (jc x.lf ((m:Int) - ((x.ag.take m).length:Int))).toNat:=by rw[Rz,← Vq];rfl
 rw[e1,e2] at k
 have c0:0<=jc x.lf ((m:Int) - ((x.ag.take m).length:Int))/\jc x.lf ((m:Int) - ((x.ag.take m).length:Int))<=1000:=by
  unfold jc
  cases e:x.lf with
  | none=>simp only;omega
  | some l=>have:=hl l e;simp only;omega
 generalize jc x.lf ((m:Int) - ((x.ag.take m).length:Int))=c at *
 have e3:(x.nx+c - x.nx).toNat=c.toNat:=by congr 1;omega
 walk_at "go"
 rw[e3]
 cases e:x.lf with
 | none=>
  rw[e] at k
  refine pX rfl ⟨by simp,by simp,⟨⟨by omega,by omega⟩,⟨by omega,by omega⟩,by omega⟩,?_,_,.refl _,k⟩
  rw[dQ];omega
 | some l=>
  rw[e] at k
  refine vS nofun ?_
  walk_at "go"
  refine ⟨by simp,by simp,⟨⟨by omega,by omega⟩,⟨by omega,by omega⟩,by omega⟩,?_,_,.refl _,k⟩
  rw[dQ];omega
structure Ss.Ok (g:Int) (R:RN) (x:Ss):Prop where
 n:UU x.nm=true
 w0:g<=x.W
 w1:x.W<=R.cap g
 s0:0<=x.S
 s1:x.S<=g
 h:x.hd.Ok
 n0:-4000000000000000000<=x.nx
 n1:x.nx<=4000000000000000000
 a:x.ag.length+x.lo.length<=60
 l:∀ i,x.lf=some i->0<=i
theorem Rq (st:St')(n:Str):0<=st.und n:=by
 unfold St'.und
 generalize st.ws=l
 induction l with
 | nil=>simp
 | cons a l ih=>simp only[UT,VE];omega
theorem Lk (o:Option Int):eqD (dg o) (.int 0)=decide (o=some 0):=by cases o<;>simp[dg,eqD]
theorem F0 {R:RN}(K:R.Ok){g W S:Int}(g0:0 < g)(h:Hd)(w0:g<=W)(w1:W<=R.cap g):g<=(R.beh g W S h).1/\(R.beh g W S h).1<=R.cap g:=by
 unfold RN.beh
 split
 ·exact ⟨w0,w1⟩
 ·exact KD K g0 _
def j2:FSp:=λds μ Q=>kcI ds λg ds=>kcA ds λsd ds=>kcA ds λkd ds=>kcA ds λtd ds=>kcN ds (∃ (s:Sn) (x:Ss) (st:St'),((sd=s.toD/\kd=x.toD g/\td=st.toD g)/\s.rl.Ok/\Gd g/\x.Ok g s.rl/\∀ w∈st.ws,w.Ok)/\Q (.tup [(x.bt g s (st.und x.nm)).1.toD g,.tup (dO (x.bt g s (st.und x.nm)).2)]) μ)
theorem zM:∀ ds μ Q,j2 ds μ Q->ds.length=4:=λ_ _ _ h=>lcI h λ_ _ h=>lcA h λ_ _ h=>lcA h λ_ _ h=>lcA h λ_ _ h=>by rw[(ecN h).1];rfl
def yC:STr:=aB (bK (TB (aj rNe (aj L3.rIx (ah 2) (TC (.int 1))) (TC (.int 0)))) (aW (bf (af (ah 2) (af (bf (ar)) (ar))))) (a8)) (aB (aN (bf (af (aj L3.rIx (ah 2) (TC (.int 8))) (af (aj L3.rIx (ah 2) (TC (.int 9))) (af (aq cS (af (aj L3.rIx (ah 2) (TC (.int 7))) (ar))) (af (aj L3.rIx (ah 2) (TC (.int 10))) (ar)))))) (aw 4)) (aB (aN (aq gA (af (aj L3.rIx (ah 1) (TC (.int 5))) (af (ah 0) (af (aj L3.rIx (ah 2) (TC (.int 2))) (af (aj L3.rIx (ah 2) (TC (.int 3))) (af (ah 4) (ar))))))) (aw 5)) (aB (aN (aq bu (af (aq pS (af (aj aT (aj L3.rIx (ah 2) (TC (.int 6))) (aj L3.rIx (ah 2) (TC (.int 7)))) (ar))) (ar))) (aw 6)) (aB (aN (bf (af (aj L3.rIx (ah 2) (TC (.int 0))) (af (aj L3.rIx (ah 2) (TC (.int 1))) (af (aj L3.rIx (ah 5) (TC (.int 0))) (af (aj L3.rIx (ah 5) (TC (.int 1))) (af (aj L3.rIx (ah 2) (TC (.int 4))) (af (aj L3.rIx (ah 2) (TC (.int 5))) (af (ah 6) (af (bf (ar)) (af (TC (.int 0)) (af (TC (.int 0)) (af (TC (.int 0)) (ar))))))))))))) (aw 7)) (aW (aq gi (af (ah 7) (af (aq tW (af (TC (.int 0)) (af (aj kA (aq gv (af (aj L3.rIx (ah 5) (TC (.int 0))) (ar))) (aq fv (af (ah 3) (af (aj L3.rIx (ah 2) (TC (.int 0))) (ar))))) (ar)))) (ar)))))))))
theorem C9:∀ ds μ Q,j2 ds μ Q->yC { nx:=λ_ μ'=>RT Q .non μ',rt:=RT Q } (ini 8 ds) μ:=by
 intro ds μ Q h
 replace h:=ecI h
 obtain ⟨g,ds,rfl,h⟩:=h
 replace h:=ecA h
 obtain ⟨sd,ds,rfl,h⟩:=h
 replace h:=ecA h
 obtain ⟨kd,ds,rfl,h⟩:=h
 replace h:=ecA h
 obtain ⟨td,ds,rfl,h⟩:=h
 replace h:=ecN h
 obtain ⟨rfl,h⟩:=h
 walk_at "ini"
 unfold yC
 walk_at "go"
 obtain ⟨s,x,st,⟨⟨rfl,rfl,rfl⟩,K,G,X,hw⟩,k⟩:=h
 obtain ⟨g0,g1⟩:=id G
 have gp:0 < g:=by omega
 walk_at "go"
 refine ⟨by cases x.du<;>rfl,?_⟩
 rw[Lk]
 unfold Ss.bt at k
 refine Tr (λhd=>?_) (λhd=>?_)
 ·rw[if_neg hd] at k
  exact ⟨_,.refl _,k⟩
 rw[if_pos hd] at k
 have cl:=Ik K gp
 have xa:=X.a;have w1:=X.w1;have w0:=X.w0
 rw[UL]
 refine ⟨s.rl,x.W,x.S,x.hd,⟨⟨rfl,rfl⟩,K,X.h,G,⟨N1 _ gp,.of (by omega) (by omega)⟩,N1 _ gp,⟨X.s0,X.s1⟩⟩,λw z Vw Vz=>?_⟩
 have bi:=F0 K gp x.hd (S:=x.S) w0 w1
 have e1:=Gq Vw
 have e2:=Gq Vz
 walk_at "go"
 refine ⟨by simp;omega,x.ag++x.lo,⟨by rw[Vq],by simp;omega⟩,λns' pm so=>?_⟩
 have e3:=wB pm so
 walk_at "go"
 refine ⟨_,_,⟨Vw,.of (by omega) (by omega)⟩,?_⟩
 walk_at "go"
 refine ⟨g,st,⟨rfl,hw,X.n⟩,?_⟩
 walk_at "go"
 have u0:=Rq st x.nm
 have d60:(s.rl.beh g x.W x.S x.hd).1 / g<=60:=Xv gp (by omega)
 have hm:max 0 ((s.rl.beh g x.W x.S x.hd).1 / g - st.und x.nm)=((max 0 ((s.rl.beh g x.W x.S x.hd).1 / g - st.und x.nm)).toNat:Int):=by omega
 rw[hm,e1,e2,e3]
 refine ⟨g,x.rdy g s.rl,_,⟨rfl,rfl,by omega,⟨X.n0,X.n1⟩,?_,X.l⟩,⟨_,.refl _,k⟩⟩
 show (eK (x.ag++x.lo)).length<=1000
 rw[mJ,US];omega
theorem Cc {ns:List (List Int)}{n:List Int}(h:n∈ns):n.length<=cO ns:=by
 unfold cO
 induction ns with
 | nil=>cases h
 | cons a r ih=>
  rcases UZ.mp h with rfl | h
  ·simp only[UT,zal];omega
  ·have:=ih h;simp only[UT,zal];omega
theorem Ci {ns:List (List Int)}{k:Nat}(h:∀ n∈ns,n.length<=k):cO ns<=k:=by
 unfold cO
 induction ns with
 | nil=>simp
 | cons a r ih=>
  have h1:=h a U0
  have h2:=ih λn hn=>h n (U7 _ hn)
  simp only[UT,zal];omega
theorem Kn {ns:List (List Int)}{M:Int}(h:M∈ns.map λn=>(n.length:Int))(g:∀ a∈ns.map λn=>(n.length:Int),a<=M):M=cO ns:=by
 obtain ⟨n,hn,rfl⟩:=UP.mp h
 have h1:=Cc hn
 have h2:cO ns<=n.length:=Ci λm hm=>by have:=g _ (UP.mpr ⟨m,hm,rfl⟩);omega
 omega
def cC (t:Nat)(p:Sn×List Int):Option (Str×Lt):=p.2[t]?.map λn=>(p.1.rd.headD (OF ""),⟨p.1.nm,n,0,0,0⟩)
theorem jG (ss:List Sn)(ns:List (List Int)):lV ss ns=(Vd (cO ns)).flatMap λt=>(UW ss ns).filterMap (cC t):=rfl
abbrev nsD (ns:List (List Int)):List D:=ns.map λn=>.tup (dO n)
def da:FSp:=λds μ Q=>kcA ds λsd ds=>kcL ds λnd ds=>kcN ds (∃ (ss:List Sn) (ns:List (List Int)),((sd=.tup (snD ss)/\nd=nsD ns)/\ss.length<=100/\ns.length<=100/\(∀ n∈ns,n.length<=1000)/\∀ s∈ss,s.rd≠[])/\Q (.ls ((lV ss ns).map sdD)) μ)
theorem F3 {ns:List (List Int)}{μ:Mu}{Q:DK}(k:Q (.int (cO ns:Nat)) μ):OW (.ls (ns.map λn=>.int (n.length:Int))) (.int 0) μ Q:=by
 refine ⟨ns.map λn=>(n.length:Int),by rw[UR];rfl,λe=>?_,λ_ M h1 h2=>by rw[Kn h1 h2];exact k⟩
 rw[zaU.mp e] at k
 exact k
theorem Dv (ss:List Sn)(ns:List (List Int)):VH (λd e=>D.tup [d,e]) (snD ss) (nsD ns)=(UW ss ns).map λp=>.tup [p.1.toD,.tup (dO p.2)]:=by
 simp only[snD,nsD,UW,zb1,ZT]
theorem lq:∀ ds μ Q,da ds μ Q->ds.length=2:=λ_ _ _ h=>lcA h λ_ _ h=>lcL h λ_ _ h=>by rw[(ecN h).1];rfl
def i6:STr:=aB (aN (kC (ar)) (aw 2)) (aB (iS (fE (Ct (b8 (dW (ah 1)) (aw 0) (dX) (aq cS (af (ah 0) (ar))) 1 []) (TC (.int 0)))) (aw 3) (iS (nj (af (ah 0) (af (ah 1) (ar)))) (dY [4,5]) (bK (TB (aj rLt (ah 3) (aq cS (af (ah 5) (ar))))) (d8 (kg (ah 2) (bf (af (aj L3.rIx (aj L3.rIx (ah 4) (TC (.int 1))) (TC (.int 0))) (af (bf (af (aj L3.rIx (ah 4) (TC (.int 0))) (af (aj L3.rIx (ah 5) (ah 3)) (af (TC (.int 0)) (af (TC (.int 0)) (af (TC (.int 0)) (ar))))))) (ar)))))) (a8)))) (aW (su (ah 2))))
theorem mf:∀ ds μ Q,da ds μ Q->i6 { nx:=λ_ μ'=>RT Q .non μ',rt:=RT Q } (ini 6 ds) μ:=by
 intro ds μ Q h
 replace h:=ecA h
 obtain ⟨sd,ds,rfl,h⟩:=h
 replace h:=ecL h
 obtain ⟨nd,ds,rfl,h⟩:=h
 replace h:=ecN h
 obtain ⟨rfl,h⟩:=h
 walk_at "ini"
 unfold i6
 walk_at "go"
 obtain ⟨ss,ns,⟨⟨rfl,rfl⟩,hs,hn,h1000,hrd⟩,k⟩:=h
 intro p hp
 walk_at "go"
 refine cj ns (λn=>.tup (dO n)) (λn=>.int (n.length:Int)) rfl (by omega) (λn hn μ' _ N nn=>?_) ?_
 ·walk_at "go"
  rw[UL]
  exact nn
 have m1:cO ns<=1000:=Ci h1000
 walk_at "go"
 refine F3 ?_
 walk_at "go"
 refine ⟨⟨by omega,by omega⟩,?_⟩
 rw[show ((cO ns:Int)).toNat=cO ns from rfl]
 refine bY (λr ρ μ'=>∃ (t:Nat) (acc:List (Str×Lt)) (v3 v4 v5:Option D),r=cB t (cO ns - t)/\t<=cO ns/\ρ=[some (.tup (snD ss)),some (.ls (nsD ns)),some (.obj p),v3,v4,v5]/\acc=(Vd t).flatMap (λt=>(UW ss ns).filterMap (cC t))/\acc.length<=t*100/\μ'=up μ p (.lst (acc.map sdD))) ?_ ?_ _ _ _ ⟨0,[],_,_,_,rfl,by omega,rfl,rfl,by simp,rfl⟩
 ·rintro ρ μ' ⟨t,acc,v3,v4,v5,er,ht,rfl,rfl,_,rfl⟩
  have et:t=cO ns:=by
   cases e:cO ns - t with
   | zero=>omega
   | succ n=>rw[e,nF] at er;cases er
  subst et
  walk_at "go"
  rw[← jG,kZ hp]
  exact ⟨_,.refl _,k⟩
 ·rintro d r ρ μ' N ⟨t,acc,v3,v4,v5,er,ht,rfl,ea,la,rfl⟩ hN
  cases e:cO ns - t with
  | zero=>rw[e] at er;cases er
  | succ n=>
  rw[e,nF] at er
  cases er
  walk_at "go"
  rw[Dv]
  have lz:(UW ss ns).length<=100:=by simp;omega
  refine bY (λr ρ μ'=>∃ (a c:List (Sn×List Int)) (v4 v5:Option D),r=c.map (λp=>.tup [p.1.toD,.tup (dO p.2)])/\a++c=UW ss ns/\ρ=[some (.tup (snD ss)),some (.ls (nsD ns)),some (.obj p),some (.int t),v4,v5]/\μ'=up μ p (.lst ((acc++a.filterMap (cC t)).map sdD))) ?_ ?_ _ _ _ ⟨[],UW ss ns,_,_,rfl,rfl,rfl,by simp⟩
  ·rintro ρ μ' ⟨a,c,v4,v5,er,ez,rfl,rfl⟩
   have:c=[]:=by cases c with | nil=>rfl | cons=>cases er
   subst this
   rw[Vk] at ez
   subst ez
   refine hN _ _ ⟨t+1,_,_,_,_,?_,by omega,rfl,?_,?_,rfl⟩
   ·congr 1
    ·omega
   ·rw[X5,Wh,← ea];simp
   ·have:=WJ (cC t) (UW ss ns)
    rw[US];omega
  ·rintro d r ρ μ' N ⟨a,c,v4,v5,er,ez,rfl,rfl⟩ hN
   cases c with
   | nil=>cases er
   | cons x c=>
   cases er
   obtain ⟨s,own⟩:=x
   have hx:(s,own)∈UW ss ns:=by rw[← ez];simp
   have hs':s∈ss:=(Va hx).1
   walk_at "go"
   rw[UL]
   obtain ⟨fw,rw',erd⟩:∃ fw rw',s.rd=fw::rw':=by
    cases e:s.rd with
    | nil=>exact absurd e (hrd s hs')
    | cons a b=>exact ⟨a,b,rfl⟩
   refine kif (λhc=>?_) (λhc=>?_)
   ·have hc':t < own.length:=by omega
    have g1:(zbB D.str s.rd)[0]? = some (.str fw):=by rw[erd];rfl
    have g2:atD (dO own) (t:Int)=some (.int own[t]):=by rw[cv];simp[hc']
    have la':=WJ (cC t) a
    have az:a.length<=100:=by have:=congrArg WC ez;simp at this;omega
    walk_at "go"
    rw[xx,g1]
    walk_at "go"
    rw[g2]
    walk_at "go"
    refine ⟨by simp;omega,hN _ _ ⟨a++[(s,own)],c,_,_,rfl,by rw[← ez];simp,rfl,?_⟩⟩
    have e3:cC t (s,own)=some (fw,⟨s.nm,own[t],0,0,0⟩):=by unfold cC;simp[hc',erd]
    rw[VL,show [(s,own)].filterMap (cC t)=[(fw,⟨s.nm,own[t],0,0,0⟩)] by simp[e3]]
    simp[sdD,Lt.toD]
   ·have e3:cC t (s,own)=none:=by unfold cC;simp;omega
    refine hN _ _ ⟨a++[(s,own)],c,_,_,rfl,by rw[← ez];simp,rfl,?_⟩
    rw[VL,show [(s,own)].filterMap (cC t)=[] by simp[e3],Vk]
def j4:FSp:=λds μ Q=>kcA ds λwd ds=>kcT ds λnd ds=>kcA ds λkd ds=>kcL ds λsd ds=>kcN ds (∃ (w:Wy) (ns:List Str) (k:Ws) (aL:List (Str×Lt)),((wd=w.toD/\nd=ns.map .str/\kd=k.toD/\sd=aL.map sdD)/\(UU w.nm=true/\∀ x∈aL,UU x.1=true)/\0<=w.pc/\(∀ n∈ns,UU n=true)/\(∀ l∈k.cm++k.st++aL.map (·.2),l.nm∈ns)/\k.cm.length+k.st.length+aL.length<=900000/\ns.length<=900000)/\Q (pass w ns k aL).toD μ)
theorem Dc {μ:Mu}{Q:DK}(aL:List (Str×Lt)){w:Wy}(hl:aL.length<=900000)(ok:∀ x∈aL,UU x.1=true)(hn:UU w.nm=true)(k:Q (.ls (ltD ((aL.filter λx=>decide (x.1=w.nm)).map (·.2)))) μ) :
  vh (dY [0,1]) (TB (aj rEq (ah 0) (aj rIx (ah 2) (TC (.int 0))))) (ah 1) [none,none,some w.toD] (aL.map sdD) μ Q:=by
 refine jR aL sdD (λx=>if x.1=w.nm then some x.2.toD else none) rfl (by omega) (λx hx μ' _ N nn=>?_) ?_
 ·walk_at "go"
  refine ⟨⟨ok x hx,hn⟩,kif (λh=>?_) (λh=>?_)⟩
  ·rw[if_pos h] at nn;exact nn
  ·rw[if_neg h] at nn;exact nn
 ·rw[dU (λx:Str×Lt=>x.1=w.nm) (λx=>x.2.toD)];unfold ltD at k;rw[UR] at k;exact k
theorem AK:∀ ds μ Q,j4 ds μ Q->ds.length=4:=λ_ _ _ h=>lcA h λ_ _ h=>lcT h λ_ _ h=>lcA h λ_ _ h=>lcL h λ_ _ h=>by rw[(ecN h).1];rfl
def xI:STr:=aB (aN (aj aT (aj L3.rIx (ah 2) (TC (.int 0))) (aq bu (af (b8 (dW (ah 3)) (dY [0,1]) (TB (aj rEq (ah 0) (aj L3.rIx (ah 2) (TC (.int 0))))) (ah 1) 2 [0]) (ar)))) (aw 4)) (aB (aN (aq gf (af (ah 0) (af (aj L3.rIx (ah 2) (TC (.int 1))) (af (ah 4) (ar))))) (aw 5)) (aB (aN (aq iO (af (ah 0) (af (ah 1) (af (aj L3.rIx (ah 5) (TC (.int 0))) (af (aj L3.rIx (ah 2) (TC (.int 2))) (ar)))))) (aw 6)) (aW (bf (af (ah 4) (af (aj L3.rIx (ah 5) (TC (.int 1))) (af (aj L3.rIx (ah 6) (TC (.int 0))) (af (aj L3.rIx (ah 6) (TC (.int 1))) (af (aj L3.rIx (ah 6) (TC (.int 2))) (ar))))))))))
theorem D6:∀ ds μ Q,j4 ds μ Q->xI { nx:=λ_ μ'=>RT Q .non μ',rt:=RT Q } (ini 7 ds) μ:=by
 intro ds μ Q h
 replace h:=ecA h
 obtain ⟨wd,ds,rfl,h⟩:=h
 replace h:=ecT h
 obtain ⟨nd,ds,rfl,h⟩:=h
 replace h:=ecA h
 obtain ⟨kd,ds,rfl,h⟩:=h
 replace h:=ecL h
 obtain ⟨sd,ds,rfl,h⟩:=h
 replace h:=ecN h
 obtain ⟨rfl,h⟩:=h
 walk_at "ini"
 unfold xI
 walk_at "go"
 obtain ⟨w,ns,x,aL,⟨⟨rfl,rfl,rfl,rfl⟩,⟨hw,hs⟩,pc,hn,hl,len,len2⟩,k⟩:=h
 walk_at "go"
 refine Dc aL (by omega) hs hw ?_
 walk_at "go"
 have lf:=W2 (λx:Str×Lt=>decide (x.1=w.nm)) aL
 refine ⟨by simp only[UL];omega,?_⟩
 rw[← Vq]
 generalize hca:x.cm++(aL.filter λx=>decide (x.1=w.nm)).map (·.2)=ca
 have lca:ca.length<=x.cm.length+aL.length:=by rw[← hca];simp only[US,UL];omega
 have nca:∀ l∈ca,l.nm∈ns:=λl h=>by
  rw[← hca] at h
  rcases Vu.mp h with h | h
  ·exact hl l (by simp[h])
  ·obtain ⟨y,hy,rfl⟩:=UP.mp h
   exact hl y.2 (Vp _ (UP.mpr ⟨y,(VM.mp hy).1,rfl⟩))
 refine ⟨w,x.st,ca,⟨rfl,rfl,rfl,by omega⟩,?_⟩
 walk_at "go"
 have ln:=Aq w ca x.st []
 have nn:=EZ w (λn=>n∈ns) ca x.st [] (λl h=>hl l (by simp[h])) (λl h=>nomatch h) nca
 refine ⟨w,ns,(tk w x.st ca).1,⟨rfl,λ_=>⟨.inl rfl,hn,nn.1,len2⟩,rfl,?_,pc⟩,?_⟩
 ·unfold tk;simp only[YV] at ln;omega
 ·walk_at "go"
  subst hca
  exact ⟨_,.refl _,k⟩
theorem Jd {ss:List Sn}{n:Str}(h:n∈ss.map Sn.nm):dR (j8 ss) (.inr n)=some (.tup ((road ss n).map .str)):=by
 unfold dR j8 road
 induction ss with
 | nil=>cases h
 | cons s r ih=>
  by_cases e:s.nm=n
  ·simp[e]
  ·have h':n∈r.map Sn.nm:=by
    rcases UZ.mp h with z | z
    ·exact absurd z.symm e
    ·exact z
   have:=ih h'
   simp only[UT,Wb]
   have e1:decide ((Ym s.nm:L2.Key)=Ym n)=false:=by simp[e]
   have e2:decide (s.nm=n)=false:=by simp[e]
   rw[e1,e2]
   exact this
def cP:FSp:=λds μ Q=>kcO ds λr ds=>kcA ds λld ds=>kcN ds (∃ (ss:List Sn) (l:Lt),(ld=l.toD/\μ r=some (.dct (j8 ss))/\l.nm∈ss.map Sn.nm/\0<=l.hp)/\Q (xh (cN ss l)) μ)
theorem pM:∀ ds μ Q,cP ds μ Q->ds.length=2:=λ_ _ _ h=>lcO h λ_ _ h=>lcA h λ_ _ h=>by rw[(ecN h).1];rfl
def lj:STr:=aB (aN (bH (ah 0) (aj L3.rIx (ah 1) (TC (.int 0)))) (aw 2)) (aW (lA (TB (aj rLt (aj aT (aj L3.rIx (ah 1) (TC (.int 3))) (TC (.int 1))) (aq cS (af (ah 2) (ar))))) (aj L3.rIx (ah 2) (aj aT (aj L3.rIx (ah 1) (TC (.int 3))) (TC (.int 1)))) (TC .non)))
theorem sA:∀ ds μ Q,cP ds μ Q->lj { nx:=λ_ μ'=>RT Q .non μ',rt:=RT Q } (ini 3 ds) μ:=by
 intro ds μ Q h
 replace h:=ecO h
 obtain ⟨r,ds,rfl,h⟩:=h
 replace h:=ecA h
 obtain ⟨ld,ds,rfl,h⟩:=h
 replace h:=ecN h
 obtain ⟨rfl,h⟩:=h
 walk_at "ini"
 unfold lj
 walk_at "go"
 obtain ⟨ss,l,⟨rfl,er,hl,h0⟩,k⟩:=h
 walk_at "go"
 refine QS er (xF (Jd hl) ?_)
 obtain ⟨h,eh⟩:=Yj h0
 have e1:cN ss l=(road ss l.nm)[h+1]?:=by unfold cN;rw[eh];rfl
 rw[e1] at k
 walk_at "go"
 rw[UL]
 refine kif (λhc=>?_) (λhc=>?_)
 ·have hc':h+1 < (road ss l.nm).length:=by omega
  rw[UY hc'] at k
  refine xF (d:=.str (road ss l.nm)[h+1]) ?_ ⟨_,.refl _,k⟩
  rw[eh,show ((h:Int)+1)=((h+1:Nat):Int) by omega,cv]
  simp[hc']
 ·rw[List.getElem?_eq_none (by omega)] at k
  exact ⟨_,.refl _,k⟩
theorem KZ (ls:List Lt):i5 (ltD ls)=ls.zipIdx.map λp=>.tup [.int (p.2:Nat),p.1.toD]:=by
 refine List.ext_getElem? λi=>?_
 rw[sG]
 simp[List.getElem?_zipIdx]
 cases ls[i]? <;> rfl
theorem BO (o:Option Str)(μ:Mu)(Q:DK):rIs (xh o) .non μ Q=Q (.bl (decide (o=none))) μ:=by cases o<;>simp[rIs,xh]
def evA (w:Wy)(n:Int)(p:Lt×Nat):Ev:=⟨if (p.2:Int) < n then OF "in" else OF "lost", p.1.nm,p.1.nu,w.nm⟩
def evB (ss:List Sn)(w:Wy)(l:Lt):Ev:=⟨if cN ss l=none then OF "taken" else OF "out", l.nm,l.nu,w.nm⟩
theorem Ql (ss:List Sn)(w:Wy)(x:Wt):evs ss w x=x.ca.zipIdx.map (evA w ((x.ca.length:Int) - x.lo.length))++x.ou.map (evB ss w):=rfl
def ft:FSp:=λds μ Q=>kcA ds λwd ds=>kcO ds λr ds=>kcA ds λtd ds=>kcN ds (∃ (w:Wy) (ss:List Sn) (x:Wt),((wd=w.toD/\td=x.toD)/\μ r=some (.dct (j8 ss))/\(∀ l∈x.ou,l.nm∈ss.map Sn.nm/\0<=l.hp)/\x.ca.length+x.ou.length<=900000)/\Q (.ls (evD (evs ss w x))) μ)
theorem rX:∀ ds μ Q,ft ds μ Q->ds.length=3:=λ_ _ _ h=>lcA h λ_ _ h=>lcO h λ_ _ h=>lcA h λ_ _ h=>by rw[(ecN h).1];rfl
def mX:STr:=aB (aN (kC (ar)) (aw 3)) (aB (iS (yu (af (aj L3.rIx (ah 2) (TC (.int 0))) (ar))) (dY [4,5]) (aB (aN (lA (TB (aj rLt (ah 4) (aj kA (aq cS (af (aj L3.rIx (ah 2) (TC (.int 0))) (ar))) (aq cS (af (aj L3.rIx (ah 2) (TC (.int 1))) (ar)))))) (TC (.str "in")) (TC (.str "lost"))) (aw 6)) (d8 (kg (ah 3) (bf (af (ah 6) (af (aj L3.rIx (ah 5) (TC (.int 0))) (af (aj L3.rIx (ah 5) (TC (.int 1))) (af (aj L3.rIx (ah 0) (TC (.int 0))) (ar)))))))))) (aB (iS (dW (aj L3.rIx (ah 2) (TC (.int 2)))) (aw 5) (aB (aN (lA (TB (aj rIs (aq cP (af (ah 1) (af (ah 5) (ar)))) (TC .non))) (TC (.str "taken")) (TC (.str "out"))) (aw 6)) (d8 (kg (ah 3) (bf (af (ah 6) (af (aj L3.rIx (ah 5) (TC (.int 0))) (af (aj L3.rIx (ah 5) (TC (.int 1))) (af (aj L3.rIx (ah 0) (TC (.int 0))) (ar)))))))))) (aW (su (ah 3)))))
theorem t9:∀ ds μ Q,ft ds μ Q->mX { nx:=λ_ μ'=>RT Q .non μ',rt:=RT Q } (ini 7 ds) μ:=by
 intro ds μ Q h
 replace h:=ecA h
 obtain ⟨wd,ds,rfl,h⟩:=h
 replace h:=ecO h
 obtain ⟨r,ds,rfl,h⟩:=h
 replace h:=ecA h
 obtain ⟨td,ds,rfl,h⟩:=h
 replace h:=ecN h
 obtain ⟨rfl,h⟩:=h
 walk_at "ini"
 unfold mX
 walk_at "go"
 obtain ⟨w,ss,x,⟨⟨rfl,rfl⟩,er,ho,hl⟩,k⟩:=h
 intro p hp
 have npr:r≠p:=λz=>by rw[z,hp] at er;cases er
 walk_at "go"
 rw[KZ]
 refine bY (λrr ρ μ'=>∃ (a c:List (Lt×Nat)) (v4 v5 v6:Option D),rr=c.map (λp=>.tup [.int (p.2:Nat),p.1.toD])/\a++c=x.ca.zipIdx/\ρ=[some w.toD,some (.obj r),some x.toD,some (.obj p),v4,v5,v6]/\μ'=up μ p (.lst (evD (a.map (evA w ((x.ca.length:Int) - x.lo.length)))))) ?_ ?_ _ _ _ ⟨[],x.ca.zipIdx,_,_,_,rfl,rfl,rfl,rfl⟩
 ·rintro ρ μ' ⟨a,c,v4,v5,v6,er',ez,rfl,rfl⟩
  have:c=[]:=by cases c with | nil=>rfl | cons=>cases er'
  subst this
  rw[Vk] at ez
  subst ez
  walk_at "go"
  refine bY (λrr ρ μ'=>∃ (a c:List Lt) (v4 v5 v6:Option D),rr=ltD c/\a++c=x.ou/\ρ=[some w.toD,some (.obj r),some x.toD,some (.obj p),v4,v5,v6]/\μ'=up μ p (.lst (evD (x.ca.zipIdx.map (evA w ((x.ca.length:Int) - x.lo.length))++a.map (evB ss w))))) ?_ ?_ _ _ _ ⟨[],x.ou,_,_,_,rfl,rfl,rfl,by simp⟩
  ·rintro ρ μ' ⟨a,c,v4,v5,v6,er',ez,rfl,rfl⟩
   have:c=[]:=by cases c with | nil=>rfl | cons=>cases er'
   subst this
   rw[Vk] at ez
   subst ez
   walk_at "go"
   rw[kZ hp,← Ql]
   exact ⟨_,.refl _,k⟩
  ·rintro d rr ρ μ' N ⟨a,c,v4,v5,v6,er',ez,rfl,rfl⟩ hN
   cases c with
   | nil=>cases er'
   | cons l c=>
   cases er'
   have hl':=ho l (by rw[← ez];simp)
   have la:a.length<=x.ou.length:=by rw[← ez];simp
   walk_at "go"
   refine ⟨ss,l,⟨rfl,by rw[aU npr];exact er,hl'.1,hl'.2⟩,?_⟩
   walk_at "go"
   rw[BO]
   walk_at "go"
   have fin:∀ wd,wd=(if cN ss l=none then OF "taken" else OF "out")->(evD (x.ca.zipIdx.map (evA w ((x.ca.length:Int) - x.lo.length))++a.map (evB ss w))).length < 1000000/\N [some w.toD,some (.obj r),some x.toD,some (.obj p),v4,some l.toD,some (.str wd)] (up μ p (.lst (evD (x.ca.zipIdx.map (evA w ((x.ca.length:Int) - x.lo.length))++a.map (evB ss w))++[.tup [.str wd,.str l.nm,.int l.nu,.str w.nm]]))):=λwd e=>by
    refine ⟨by simp;omega,hN _ _ ⟨a++[l],c,_,_,_,rfl,by rw[← ez];simp,rfl,?_⟩⟩
    simp[evB,Ev.toD,e]
   refine kif (λh=>?_) (λh=>?_)
   ·walk_at "go"
    exact fin _ (by rw[if_pos h])
   ·walk_at "go"
    exact fin _ (by rw[if_neg h])
 ·rintro d rr ρ μ' N ⟨a,c,v4,v5,v6,er',ez,rfl,rfl⟩ hN
  cases c with
  | nil=>cases er'
  | cons y c=>
  cases er'
  obtain ⟨l,i⟩:=y
  have la:a.length<=x.ca.length:=by have:=congrArg WC ez;simp at this;omega
  walk_at "go"
  simp only[UL]
  have fin:∀ wd,wd=(if (i:Int) < (x.ca.length:Int) - x.lo.length then OF "in" else OF "lost")->(evD (a.map (evA w ((x.ca.length:Int) - x.lo.length)))).length < 1000000/\N [some w.toD,some (.obj r),some x.toD,some (.obj p),some (.int i),some l.toD,some (.str wd)] (up μ p (.lst (evD (a.map (evA w ((x.ca.length:Int) - x.lo.length)))++[.tup [.str wd,.str l.nm,.int l.nu,.str w.nm]]))):=λwd e=>by
   refine ⟨by simp;omega,hN _ _ ⟨a++[(l,i)],c,_,_,_,rfl,by rw[← ez];simp,rfl,?_⟩⟩
   simp[evA,Ev.toD,e]
  refine kif (λh=>?_) (λh=>?_)
  ·walk_at "go"
   have:=fin _ (by rw[if_pos h])
   simpa using this
  ·walk_at "go"
   have:=fin _ (by rw[if_neg h])
   simpa using this
def lS:FSp:=λds μ Q=>kcA ds λld ds=>kcI ds λh ds=>kcN ds (∃ l:Lt,ld=l.toD/\Q (l.kR h).toD μ)
theorem Hu:∀ ds μ Q,lS ds μ Q->ds.length=2:=λ_ _ _ h=>lcA h λ_ _ h=>lcI h λ_ _ h=>by rw[(ecN h).1];rfl
def IV:STr:=aW (bf (af (aj L3.rIx (ah 0) (TC (.int 0))) (af (aj L3.rIx (ah 0) (TC (.int 1))) (af (aj aT (aj L3.rIx (ah 0) (TC (.int 2))) (TC (.int 1))) (af (aj aT (aj L3.rIx (ah 0) (TC (.int 3))) (ah 1)) (af (aj L3.rIx (ah 0) (TC (.int 4))) (ar)))))))
theorem K3:∀ ds μ Q,lS ds μ Q->IV { nx:=λ_ μ'=>RT Q .non μ',rt:=RT Q } (ini 2 ds) μ:=by
 intro ds μ Q h
 replace h:=ecA h
 obtain ⟨ld,ds,rfl,h⟩:=h
 replace h:=ecI h
 obtain ⟨h0,ds,rfl,h⟩:=h
 replace h:=ecN h
 obtain ⟨rfl,h⟩:=h
 walk_at "ini"
 unfold IV
 walk_at "go"
 obtain ⟨l,rfl,k⟩:=h
 walk_at "go"
 exact ⟨_,.refl _,k⟩
theorem Ll (o:Option Str)(n:Str):eqD (xh o) (.str n)=decide (o=some n):=by cases o<;>simp[xh,eqD]
theorem Jy (o:Option Str)(h:∀ n,o=some n->UU n=true):okD 40 (xh o)=true:=by
 cases o with
 | none=>rfl
 | some n=>simpa[xh,okD] using h n rfl
def fq:FSp:=λds μ Q=>kcA ds λwd ds=>kcO ds λr ds=>kcA ds λtd ds=>kcO ds λo ds=>kcN ds (∃ (w:Wy) (ss:List Sn) (x:Wt) (out:List Lt),((wd=w.toD/\td=x.toD)/\(μ r=some (.dct (j8 ss))/\μ o=some (.lst (ltD out)))/\(∀ l∈out,l.nm∈ss.map Sn.nm/\0<=l.hp)/\(UU w.nm=true/\∀ s∈ss,∀ n∈s.rd,UU n=true)/\out.length<=900000/\x.st.length<=900000)/\Q (IZ ss w x out).toD μ)
theorem Jw {ss:List Sn}(h:∀ s∈ss,∀ n∈s.rd,UU n=true){l:Lt}{n:Str}(e:cN ss l=some n):UU n=true:=by
 unfold cN road at e
 cases f:ss.find? λs=>decide (s.nm=l.nm) with
 | none=>rw[f] at e;simp at e
 | some s=>
  rw[f] at e
  exact h s (Zj f) n (XD e)
theorem rP:∀ ds μ Q,fq ds μ Q->ds.length=4:=λ_ _ _ h=>lcA h λ_ _ h=>lcO h λ_ _ h=>lcA h λ_ _ h=>lcO h λ_ _ h=>by rw[(ecN h).1];rfl
def nB:STr:=aB (aN (jC (ah 3) (aw 0) (TB (aj rEq (aq cP (af (ah 1) (af (ah 0) (ar)))) (aj L3.rIx (ah 2) (TC (.int 0))))) (aq lS (af (ah 0) (af (TC (.int 1)) (ar)))) 1 [1,0]) (aw 4)) (aW (bf (af (aq bu (af (ah 4) (ar))) (af (aq bu (af (b8 (dW (aj L3.rIx (ah 2) (TC (.int 3)))) (aw 0) (dX) (aq lS (af (ah 0) (af (TC (.int 0)) (ar)))) 1 []) (ar))) (af (aj L3.rIx (ah 2) (TC (.int 4))) (ar))))))
theorem ve:∀ ds μ Q,fq ds μ Q->nB { nx:=λ_ μ'=>RT Q .non μ',rt:=RT Q } (ini 5 ds) μ:=by
 intro ds μ Q h
 replace h:=ecA h
 obtain ⟨wd,ds,rfl,h⟩:=h
 replace h:=ecO h
 obtain ⟨r,ds,rfl,h⟩:=h
 replace h:=ecA h
 obtain ⟨td,ds,rfl,h⟩:=h
 replace h:=ecO h
 obtain ⟨o,ds,rfl,h⟩:=h
 replace h:=ecN h
 obtain ⟨rfl,h⟩:=h
 walk_at "ini"
 unfold nB
 walk_at "go"
 obtain ⟨w,ss,x,out,⟨⟨rfl,rfl⟩,⟨er,eo⟩,ho,⟨hw,hs⟩,l1,l2⟩,k⟩:=h
 refine a9 eo ?_
 refine mh out Lt.toD (λl=>if cN ss l=some w.nm then some (l.kR 1).toD else none) rfl eo (by omega) (λl hl μ' sb N nn=>?_) ?_
 ·walk_at "go"
  refine ⟨ss,l,⟨rfl,sb _ _ er,(ho l hl).1,(ho l hl).2⟩,?_⟩
  walk_at "go"
  rw[Ll]
  refine ⟨⟨Jy _ λn e=>Jw hs e,hw⟩,kif (λh=>?_) (λh=>?_)⟩
  ·rw[if_pos h] at nn
   exact ⟨l,rfl,nn⟩
  ·rw[if_neg h] at nn;exact nn
 ·rw[dU (λl:Lt=>cN ss l=some w.nm) (λl=>(l.kR 1).toD)]
  walk_at "go"
  refine cj x.st Lt.toD (λl=>(l.kR 0).toD) rfl (by omega) (λl hl μ' sb N nn=>?_) ?_
  ·walk_at "go"
   exact ⟨l,rfl,nn⟩
  ·walk_at "go"
   refine ⟨_,.refl _,?_⟩
   unfold IZ Ws.toD ltD at k
   simp only[UR] at k
   exact k
def fz:FSp:=λds μ Q=>kcA ds λsd ds=>kcA ds λd ds=>kcN ds (∃ (s:Sn) (o:Option Int),(sd=s.toD/\d=dg o)/\Q (dg (D9 s o)) μ)
theorem sy:∀ ds μ Q,fz ds μ Q->ds.length=2:=λ_ _ _ h=>lcA h λ_ _ h=>lcA h λ_ _ h=>by rw[(ecN h).1];rfl
def nc:STr:=aB (bK (TB (aj rIs (ah 1) (TC .non))) (aW (TC .non)) (a8)) (aW (lA (TB (aj rEq (ah 1) (TC (.int 0)))) (aj kA (aj L3.rIx (ah 0) (TC (.int 2))) (TC (.int 1))) (aj kA (ah 1) (TC (.int 1)))))
theorem vv:∀ ds μ Q,fz ds μ Q->nc { nx:=λ_ μ'=>RT Q .non μ',rt:=RT Q } (ini 2 ds) μ:=by
 intro ds μ Q h
 replace h:=ecA h
 obtain ⟨sd,ds,rfl,h⟩:=h
 replace h:=ecA h
 obtain ⟨d,ds,rfl,h⟩:=h
 replace h:=ecN h
 obtain ⟨rfl,h⟩:=h
 walk_at "ini"
 unfold nc
 obtain ⟨s,o,⟨rfl,rfl⟩,k⟩:=h
 cases o with
 | none=>
  simp only[dg]
  walk_at "go"
  exact ⟨_,.refl _,k⟩
 | some i=>
  simp only[dg]
  walk_at "go"
  by_cases h:i=0
  ·refine pX h ⟨_,.refl _,?_⟩
   have e:D9 s (some i)=some (s.bt - 1):=by simp[D9,h]
   rw[e] at k;exact k
  ·refine vS h ⟨_,.refl _,?_⟩
   have e:D9 s (some i)=some (i - 1):=by simp[D9,h]
   rw[e] at k;exact k
theorem xK {d M:Int}{ns:List Int}(ne:ns≠[])(h:M∈ns)(g:∀ a∈ns,a<=M):qt d ns=M:=by
 have key:∀ (l:List Int) (a:Int),(∀ b∈a::l,b<=M)->M∈a::l->l.foldl max a=M:=by
  intro l
  induction l with
  | nil=>intro a h1 h2;simp at h2;exact h2.symm
  | cons b l ih=>
   intro a h1 h2
   rw[WD]
   refine ih (max a b) (λc hc=>?_) ?_
   ·rcases UZ.mp hc with rfl | hc
    ·have:=h1 a (by simp);have:=h1 b (by simp);omega
    ·exact h1 c (by simp[hc])
   ·have ha:=h1 a (by simp);have hb:=h1 b (by simp)
    rcases UZ.mp h2 with e | h2
    ·have:max a b=M:=by omega
     rw[this];simp
    ·rcases UZ.mp h2 with e | h2
     ·have:max a b=M:=by omega
      rw[this];simp
     ·simp[h2]
 cases ns with
 | nil=>exact absurd rfl ne
 | cons a l=>exact key l a g h
theorem NY {ns:List Int}{μ:Mu}{Q:DK}(k:Q (.int (qt 0 ns)) μ):OW (.ls (ns.map .int)) (.int 0) μ Q:=by
 refine ⟨ns,rfl,λe=>?_,λne M h1 h2=>by rw[xK ne h1 h2] at k;exact k⟩
 rw[e] at k;exact k
theorem FT (g:Int)(x:Ss):cutD [.str x.nm,dg x.du,fF x.W g,fF x.S g,.int x.nx,dg x.lf,.tup (dO x.ag),.tup (dO x.lo),.int x.gd,.int x.mk',.int x.wt] (some 2) (some 7)=[fF x.W g,fF x.S g,.int x.nx,dg x.lf,.tup (dO x.ag)]:=rfl
def dN:FSp:=λds μ Q=>kcA ds λsd ds=>kcA ds λkd ds=>kcO ds λlo ds=>kcL ds λtk ds=>kcN ds (∃ (g:Int) (s:Sn) (x:Ss) (br taken:List Lt),((sd=s.toD/\kd=x.toD g/\tk=ltD taken)/\μ lo=some (.lst (ltD br))/\(UU s.nm=true/\(∀ l∈br,UU l.nm=true)/\∀ l∈taken,UU l.nm=true)/\(br.length<=900000/\taken.length<=900000)/\x.lo.length+(own s.nm br).length < 64)/\Q ((qv s x br taken).toD g) μ)
theorem mB:∀ ds μ Q,dN ds μ Q->ds.length=4:=λ_ _ _ h=>lcA h λ_ _ h=>lcA h λ_ _ h=>lcO h λ_ _ h=>lcL h λ_ _ h=>by rw[(ecN h).1];rfl
def jH:STr:=aB (aN (jC (ah 2) (aw 0) (TB (aj rEq (aj L3.rIx (ah 0) (TC (.int 0))) (aj L3.rIx (ah 1) (TC (.int 0))))) (aj L3.rIx (ah 0) (TC (.int 1))) 1 [0]) (aw 4)) (aB (aN (b8 (dW (ah 3)) (aw 0) (TB (aj rEq (aj L3.rIx (ah 0) (TC (.int 0))) (aj L3.rIx (ah 1) (TC (.int 0))))) (ah 0) 1 [0]) (aw 5)) (aB (aN (aq BC (af (b8 (dW (ah 5)) (aw 0) (dX) (aj L3.rIx (ah 0) (TC (.int 4))) 1 []) (ar))) (aw 6)) (aB (aN (Ct (b8 (dW (ah 5)) (aw 0) (dX) (aj kA (aj L3.rIx (ah 0) (TC (.int 2))) (aj L3.rIx (ah 0) (TC (.int 3)))) 1 []) (TC (.int 0))) (aw 7)) (aB (aN (bf (af (aj kA (aj aT (aj L3.rIx (ah 1) (TC (.int 8))) (aq cS (af (ah 5) (ar)))) (ah 6)) (af (aj aT (aj L3.rIx (ah 1) (TC (.int 9))) (ah 6)) (af (aq tW (af (aj L3.rIx (ah 1) (TC (.int 10))) (af (ah 7) (ar)))) (ar))))) (aw 8)) (aB (aN (bf (af (aj L3.rIx (ah 1) (TC (.int 0))) (af (aq fz (af (ah 0) (af (aj L3.rIx (ah 1) (TC (.int 1))) (ar)))) (ar)))) (aw 9)) (aW (aj aT (aj aT (aj aT (ah 9) (TSl (ah 1) (lr (TC (.int 2))) (lr (TC (.int 7))))) (bf (af (aq bu (af (aq pS (af (aj aT (aj L3.rIx (ah 1) (TC (.int 7))) (aq bu (af (ah 4) (ar)))) (ar))) (ar))) (ar)))) (ah 8))))))))
theorem oi:∀ ds μ Q,dN ds μ Q->jH { nx:=λ_ μ'=>RT Q .non μ',rt:=RT Q } (ini 10 ds) μ:=by
 intro ds μ Q h
 replace h:=ecA h
 obtain ⟨sd,ds,rfl,h⟩:=h
 replace h:=ecA h
 obtain ⟨kd,ds,rfl,h⟩:=h
 replace h:=ecO h
 obtain ⟨lo,ds,rfl,h⟩:=h
 replace h:=ecL h
 obtain ⟨tk,ds,rfl,h⟩:=h
 replace h:=ecN h
 obtain ⟨rfl,h⟩:=h
 walk_at "ini"
 unfold jH
 walk_at "go"
 obtain ⟨g,s,x,br,taken,⟨⟨rfl,rfl,rfl⟩,el,⟨hn,h1,h2⟩,⟨l1,l2⟩,h64⟩,k⟩:=h
 refine a9 el ?_
 refine mh br Lt.toD (λl=>if l.nm=s.nm then some (.int l.nu) else none) rfl el (by omega) (λl hl μ' sb N nn=>?_) ?_
 ·walk_at "go"
  refine ⟨⟨h1 l hl,hn⟩,kif (λh=>?_) (λh=>?_)⟩
  ·rw[if_pos h] at nn;exact nn
  ·rw[if_neg h] at nn;exact nn
 rw[dU (λl:Lt=>l.nm=s.nm) (λl=>D.int l.nu)]
 walk_at "go"
 refine jR taken Lt.toD (λl=>if l.nm=s.nm then some l.toD else none) rfl (by omega) (λl hl μ' sb N nn=>?_) ?_
 ·walk_at "go"
  refine ⟨⟨h2 l hl,hn⟩,kif (λh=>?_) (λh=>?_)⟩
  ·rw[if_pos h] at nn;exact nn
  ·rw[if_neg h] at nn;exact nn
 rw[dU (λl:Lt=>l.nm=s.nm) Lt.toD]
 have lo2:=W2 (λl:Lt=>decide (l.nm=s.nm)) taken
 walk_at "go"
 refine cj (own s.nm taken) Lt.toD (λl=>.int l.mr) rfl (by unfold own;omega) (λl hl μ' sb N nn=>?_) ?_
 ·walk_at "go"
  exact nn
 walk_at "go"
 refine ⟨(own s.nm taken).map Lt.mr,by rw[UR];rfl,?_⟩
 walk_at "go"
 refine cj (own s.nm taken) Lt.toD (λl=>.int (l.ag - l.hp)) rfl (by unfold own;omega) (λl hl μ' sb N nn=>?_) ?_
 ·walk_at "go"
  exact nn
 walk_at "go"
 rw[show (own s.nm taken).map (λl=>D.int (l.ag - l.hp))=((own s.nm taken).map λl=>l.ag - l.hp).map .int by rw[UR];rfl]
 refine NY ?_
 simp only[↓M1]
 walk_at "go"
 simp only[FT]
 refine ⟨s,x.du,⟨rfl,rfl⟩,?_⟩
 unfold own at h64
 have eo:(zaH (λx:Lt=>decide (x.nm=s.nm)) br).map (λl=>D.int l.nu)=((own s.nm br).map Lt.nu).map .int:=by unfold own;rw[UR];rfl
 refine ⟨by simp,by simp only[UL];omega,x.lo++(own s.nm br).map Lt.nu,⟨by rw[eo,Vq],by unfold own;rw[US,UL];exact h64⟩,λns' pm so=>?_⟩
 rw[wB pm so]
 refine ⟨by simp,by simp,_,.refl _,?_⟩
 have e:(qv s x br taken).toD g=_:=rfl
 unfold qv Ss.toD own at k
 simp only[UL]
 exact k
theorem Fd {kvs:List (L2.Key×D)}{k:L2.Key}{d:D}(h:k ∉ kvs.map (·.1)):putD kvs k d=kvs++[(k,d)]:=by
 unfold putD
 refine if_neg λz=>?_
 obtain ⟨x,hx,e⟩:=ZQ.mp z
 exact h (UP.mpr ⟨x,hx,by simpa using e⟩)
theorem tE:∀ (more kvs:List (L2.Key×D)),((kvs++more).map (·.1)).Nodup->jd kvs more=kvs++more
 | [],kvs,_=>by simp[jd]
 | (k,d)::r,kvs,h=>by
  have h1:k ∉ kvs.map (·.1):=λz=>by
   rw[Vq,UT,zbH] at h
   exact h.2.2 k z k (by simp) rfl
  show jd (putD kvs k d) r=_
  rw[Fd h1,tE r _ (by simpa using h)]
  simp
theorem Dh {ss:List Sn}(h:(ss.map Sn.nm).Nodup):jd [] (j8 ss)=j8 ss:=by
 refine tE _ [] ?_
 rw[X3]
 unfold j8
 rw[UR]
 have:(ss.map ((λx:L2.Key×D=>x.1) ∘ λs=>((.inr s.nm,.tup (s.rd.map .str)):L2.Key×D)))=(ss.map Sn.nm).map Ym:=by rw[UR];rfl
 rw[this]
 exact Zr _ (λa b (hab:a≠b) (z:Ym a=Ym b)=>hab (zcX z)) h
theorem xW {α β:Type}(f:α->D)(g:β->D)(xs:List α)(ys:List β):VH (λd e=>D.tup [d,e]) (xs.map f) (ys.map g)=(UW xs ys).map λy=>.tup [f y.1,g y.2]:=by
 simp only[UW,zb1,ZT]
theorem AQ {α:Type}{G:GTr}{te:ETr}{ρc:ST}{ds:List D}{μ:Mu}{Q:DK}(xs:List α)(t:α->D)(h:α->D)(hds:ds=xs.map t)(hl:xs.length<=999999)
  (step:∀ x∈xs,∀ μ',Sub μ μ'->∀ (N:DK),N (h x) μ'->G (t x) ρc μ' λρ1 μ1=>te ρ1 μ1 N)
  (k:∀ p,μ p=none->Q (.obj p) (up μ p (.lst (xs.map h)))):ML G dX te ρc ds μ Q:=by
 subst hds
 intro p hp
 suffices go:∀ (r done:List α),done++r=xs->fo p G dX te ρc (λμ'=>Q (.obj p) μ') (r.map t) (up μ p (.lst (done.map h))) from go xs [] rfl
 intro r
 induction r with
 | nil=>
  intro done e
  rw[Vk] at e;subst e
  exact k p hp
 | cons d r ih=>
  intro done e
  have hd:d∈xs:=by rw[← e];simp
  have lf:(done.map h).length < 1000000:=by
   have:=congrArg WC e
   simp at this ⊢;omega
  refine step d hd _ (Sub.new hp) _ (a9 aF ⟨lf,?_⟩)
  rw[fQ]
  have:=ih (done++[d]) (by rw[← e];simp)
  rw[Vq] at this
  exact this
theorem vx {β:Type}(f:Wt->List β)(zs:List (Wy×Wt)):(zs.flatMap λy=>f y.2)=(zs.map (·.2)).flatMap f:=by rw[zb2]
def btD (g:Int)(b:Ss×List Int):D:=.tup [b.1.toD g,.tup (dO b.2)]
theorem b5 {α β γ:Type}(f:α->β->γ)(xs:List α)(ys:List β):VH f xs ys=(UW xs ys).map λp=>f p.1 p.2:=by
 simp[UW,ZT]
structure Qm (p:Pn) (st:St'):Prop where
 g:Gd p.g
 sd:p.sn.Nodup
 sl:p.ss.length<=100
 wl:p.ws.length<=100
 sn:∀ n∈p.sn,UU n=true
 rl:∀ s∈p.ss,s.rl.Ok/\s.rd≠[]/\∀ n∈s.rd,UU n=true
 wy:∀ w∈p.ws,UU w.nm=true/\0<=w.pc
 ws:∀ w∈st.ws,w.Ok
 ss:∀ y∈UW p.ss st.ss,y.2.Ok p.g y.1.rl
 nb:∀ b∈p.bE st,b.2.length<=1000
 se:∀ x∈p.aL st,UU x.1=true/\x.2.nm∈p.sn
 sz:(p.aL st).length<=100000
 wz:∀ w∈st.ws,(∀ l∈w.cm++w.st,l.nm∈p.sn)/\w.cm.length+w.st.length<=700000
 go:∀ x∈p.bG st,x.ca.length+x.ou.length<=900000/\x.st.length<=900000
 ou:∀ l∈p.out st,l.nm∈p.sn/\0<=l.hp
 lo:∀ l∈p.br st,l.nm∈p.sn
 oz:(p.out st).length<=900000
 lz:(p.br st).length<=900000
 ez:(p.evs st).length<=900000
 lt:∀ y∈UW p.ss (p.bE st),y.2.1.lo.length+(own y.1.nm (p.br st)).length < 64
def iX:FSp:=λds μ Q=>kcA ds λpd ds=>kcA ds λsd ds=>kcN ds (∃ (p:Pn) (st:St'),((pd=p.toD/\sd=st.toD p.g)/\Qm p st)/\Q (.tup [(p.step st).toD p.g,.ls (evD (p.evs st))]) μ)
theorem xT:∀ ds μ Q,iX ds μ Q->ds.length=2:=λ_ _ _ h=>lcA h λ_ _ h=>lcA h λ_ _ h=>by rw[(ecN h).1];rfl
def tS:STr:=aB (aN (aj L3.rIx (ah 0) (TC (.int 2))) (aw 2)) (aB (aN (aq bu (af (b8 (dW (ah 2)) (aw 0) (dX) (aj L3.rIx (ah 0) (TC (.int 0))) 1 []) (ar))) (aw 3)) (aB (aN (aq B9 (af (b8 (dW (ah 2)) (aw 0) (dX) (bf (af (aj L3.rIx (ah 0) (TC (.int 0))) (af (aj L3.rIx (ah 0) (TC (.int 1))) (ar)))) 1 []) (ar))) (aw 4)) (aB (aN (b8 (nj (af (ah 2) (af (aj L3.rIx (ah 1) (TC (.int 1))) (ar)))) (dY [0,1]) (dX) (aq j2 (af (aj L3.rIx (ah 3) (TC (.int 0))) (af (ah 0) (af (ah 1) (af (ah 2) (ar)))))) 2 [1,0]) (aw 5)) (aB (aN (aq da (af (ah 2) (af (b8 (dW (ah 5)) (dY [0,1]) (dX) (ah 1) 2 []) (ar)))) (aw 6)) (aB (aN (b8 (nj (af (aj L3.rIx (ah 0) (TC (.int 1))) (af (aj L3.rIx (ah 1) (TC (.int 0))) (ar)))) (dY [0,1]) (dX) (aq j4 (af (ah 0) (af (ah 2) (af (ah 1) (af (ah 3) (ar)))))) 2 [3,6]) (aw 7)) (aB (aN (vw (dW (ah 6)) (dY [0,1]) (dX) (bf (af (TC (.str "sent")) (af (aj L3.rIx (ah 1) (TC (.int 0))) (af (aj L3.rIx (ah 1) (TC (.int 1))) (af (ah 0) (ar)))))) 2 []) (aw 8)) (aB (aN (kC (ar)) (aw 9)) (aB (aN (kC (ar)) (aw 10)) (aB (iS (nj (af (aj L3.rIx (ah 0) (TC (.int 1))) (af (ah 7) (ar)))) (dY [11,12]) (aB (d8 (sU (ah 8) (aq ft (af (ah 11) (af (ah 4) (af (ah 12) (ar))))))) (aB (d8 (sU (ah 9) (aj L3.rIx (ah 12) (TC (.int 1))))) (d8 (sU (ah 10) (aj L3.rIx (ah 12) (TC (.int 2)))))))) (aB (aN (jC (ah 10) (aw 0) (TB (aj rIs (aq cP (af (ah 1) (af (ah 0) (ar)))) (TC .non))) (ah 0) 1 [4]) (aw 13)) (aB (aN (b8 (nj (af (aj L3.rIx (ah 0) (TC (.int 1))) (af (ah 7) (ar)))) (dY [0,1]) (dX) (aq fq (af (ah 0) (af (ah 2) (af (ah 1) (af (ah 3) (ar)))))) 2 [4,10]) (aw 14)) (aB (aN (b8 (nj (af (ah 2) (af (ah 5) (ar)))) (dY [0,1]) (dX) (aq dN (af (ah 0) (af (aj L3.rIx (ah 1) (TC (.int 0))) (af (ah 2) (af (ah 3) (ar)))))) 2 [9,13]) (aw 15)) (aW (bf (af (bf (af (aq bu (af (ah 14) (ar))) (af (aq bu (af (ah 15) (ar))) (ar)))) (af (su (ah 8)) (ar)))))))))))))))))
theorem y4:∀ ds μ Q,iX ds μ Q->tS { nx:=λ_ μ'=>RT Q .non μ',rt:=RT Q } (ini 16 ds) μ:=by
 intro ds μ Q h
 replace h:=ecA h
 obtain ⟨pd,ds,rfl,h⟩:=h
 replace h:=ecA h
 obtain ⟨sd,ds,rfl,h⟩:=h
 replace h:=ecN h
 obtain ⟨rfl,h⟩:=h
 walk_at "ini"
 unfold tS
 walk_at "go"
 obtain ⟨p,st,⟨⟨rfl,rfl⟩,R⟩,k⟩:=h
 have sl:=R.sl
 walk_at "go"
 refine cj p.ss Sn.toD (λs=>.str s.nm) rfl (by omega) (λs hs μ' sb N nn=>?_) ?_
 ·walk_at "go"
  exact nn
 walk_at "go"
 refine cj p.ss Sn.toD (λs=>.tup [.str s.nm,.tup (s.rd.map .str)]) rfl (by omega) (λs hs μ' sb N nn=>?_) ?_
 ·walk_at "go"
  exact nn
 walk_at "go"
 refine ⟨j8 p.ss,by unfold j8;rw[UR];rfl,by unfold j8;rw[UL];omega,λr hr=>?_⟩
 rw[Dh R.sd]
 walk_at "go"
 rw[xW]
 have lz:∀ {α β:Type} (xs:List α) (ys:List β),(UW xs ys).length<=xs.length:=λxs ys=>by simp;omega
 refine cj (UW p.ss st.ss) (λy=>.tup [y.1.toD,y.2.toD p.g]) (λy=>btD p.g (y.2.bt p.g y.1 (st.und y.2.nm))) rfl (by have:=lz p.ss st.ss;omega) (λy hy μ' sb N nn=>?_) ?_
 ·walk_at "go"
  exact ⟨y.1,y.2,st,⟨⟨rfl,rfl,rfl⟩,(R.rl _ (Va hy).1).1,R.g,R.ss y hy,R.ws⟩,nn⟩
 have eb:(UW p.ss st.ss).map (λy=>btD p.g (y.2.bt p.g y.1 (st.und y.2.nm)))=(p.bE st).map (btD p.g):=by unfold Pn.bE;rw[b5,UR];rfl
 have lb:(p.bE st).length<=100:=by unfold Pn.bE;rw[V4];omega
 rw[eb]
 walk_at "go"
 refine cj (p.bE st) (btD p.g) (λb=>.tup (dO b.2)) rfl (by omega) (λb hb μ' sb N nn=>?_) ?_
 ·unfold btD
  walk_at "go"
  exact nn
 walk_at "go"
 refine ⟨p.ss,(p.bE st).map (·.2),⟨⟨rfl,by unfold nsD;rw[UR];rfl⟩,sl,by rw[UL];exact lb,λn hn=>?_,λs hs=>(R.rl s hs).2.1⟩,?_⟩
 ·obtain ⟨b,hb,rfl⟩:=UP.mp hn
  exact R.nb b hb
 rw[show lV p.ss ((p.bE st).map (·.2))=p.aL st from rfl]
 have sz:=R.sz
 have wl:=R.wl
 walk_at "go"
 rw[xW]
 refine cj (UW p.ws st.ws) (λy=>.tup [y.1.toD,y.2.toD]) (λy=>(pass y.1 p.sn y.2 (p.aL st)).toD) rfl (by have:=lz p.ws st.ws;omega) (λy hy μ' sb N nn=>?_) ?_
 ·walk_at "go"
  have hw:=R.wy _ (Va hy).1
  have hk:=R.wz _ (Va hy).2
  have len2:p.sn.length<=900000:=by unfold Pn.sn;rw[UL];omega
  refine ⟨y.1,p.sn,y.2,p.aL st,⟨⟨rfl,by unfold Pn.sn;rw[UR];rfl,rfl,rfl⟩,⟨hw.1,λx hx=>(R.se x hx).1⟩,hw.2,R.sn,λl hl=>?_,by have:=hk.2;omega,len2⟩,nn⟩
  rcases Vu.mp hl with hl | hl
  ·exact hk.1 l hl
  ·obtain ⟨x,hx,rfl⟩:=UP.mp hl
   exact (R.se x hx).2
 have ew:(UW p.ws st.ws).map (λy=>(pass y.1 p.sn y.2 (p.aL st)).toD)=(p.bG st).map Wt.toD:=by unfold Pn.bG;rw[b5,UR];rfl
 rw[ew]
 walk_at "go"
 refine AQ (p.aL st) sdD (λx=>(⟨OF "sent", x.2.nm,x.2.nu,x.1⟩:Ev).toD) rfl (by omega) (λx hx μ' sb N nn=>?_) (λe he=>?_)
 ·walk_at "go"
  exact nn
 walk_at "go"
 intro l hl o ho
 walk_at "go"
 rw[xW]
 have er0:up μ r (.dct (j8 p.ss)) r=some (.dct (j8 p.ss)):=aF
 generalize hμr:up μ r (.dct (j8 p.ss))=μr at *
 have nre:r≠e:=λz=>by rw[← z,er0] at he;cases he
 have nel:e≠l:=λz=>by rw[← z,aF] at hl;cases hl
 have nlo:l≠o:=λz=>by rw[← z,aF] at ho;cases ho
 have hl':μr l=none:=by rw[aU (Vo nel)] at hl;exact hl
 have ho1:up μr e (.lst ((p.aL st).map λx=>(⟨OF "sent", x.2.nm,x.2.nu,x.1⟩:Ev).toD)) o=none:=by rw[aU (Vo nlo)] at ho;exact ho
 have neo:e≠o:=λz=>by rw[← z,aF] at ho1;cases ho1
 have ho':μr o=none:=by rw[aU (Vo neo)] at ho1;exact ho1
 have nrl:r≠l:=λz=>by rw[← z,er0] at hl';cases hl'
 have nro:r≠o:=λz=>by rw[← z,er0] at ho';cases ho'
 have og:=R.go;have oe:=R.ez;have oz:=R.oz;have olz:=R.lz
 have RD:∀ {a},a∈UW p.ws (p.bG st)->a.2∈p.bG st:=λh=>(Va h).2
 have lw:(p.bG st).length<=p.ws.length:=by unfold Pn.bG;rw[V4];omega
 have zw:(UW p.ws (p.bG st)).map (·.2)=p.bG st:=by
  rw[List.map_snd_zip];exact lw
 refine bY (λrr ρ μ'=>∃ (a c:List (Wy×Wt)) (v11 v12 v13 v14 v15:Option D),rr=c.map (λy=>.tup [y.1.toD,y.2.toD])/\a++c=UW p.ws (p.bG st)/\
  ρ=[some p.toD,some (st.toD p.g),some (.tup (snD p.ss)),some (.tup (p.ss.map λs=>.str s.nm)),some (.obj r),some (.ls ((p.bE st).map (btD p.g))),some (.ls ((p.aL st).map sdD)),some (.ls ((p.bG st).map Wt.toD)),some (.obj e),some (.obj l),some (.obj o),v11,v12,v13,v14,v15]/\
  (μ' e=some (.lst (evD ((p.aL st).map (λx=>⟨OF "sent", x.2.nm,x.2.nu,x.1⟩)++a.flatMap λy=>evs p.ss y.1 y.2)))/\μ' l=some (.lst (ltD (a.flatMap λy=>y.2.lo)))/\μ' o=some (.lst (ltD (a.flatMap λy=>y.2.ou))))/\∀ b,b≠e->b≠l->b≠o->μ' b=μr b) ?_ ?_ _ _ _
  ⟨[],UW p.ws (p.bG st),_,_,_,_,_,rfl,rfl,rfl,⟨?_,?_,?_⟩,λb h1 h2 h3=>?_⟩
 rotate_left 2
 ·rw[aU neo,aU nel,aF];simp
 ·rw[aU nlo,aF];rfl
 ·rw[aF];rfl
 ·rw[aU h3,aU h2,aU h1]
 ·rintro ρ μ' ⟨a,c,v11,v12,v13,v14,v15,er',ez,rfl,⟨ee,el,eo⟩,eq⟩
  have:c=[]:=by cases c with | nil=>rfl | cons=>cases er'
  subst this
  rw[Vk] at ez
  subst ez
  have el':μ' l=some (.lst (ltD (p.br st))):=by rw[el,vx,zw];rfl
  have eo':μ' o=some (.lst (ltD (p.out st))):=by rw[eo,vx,zw];rfl
  have ee':μ' e=some (.lst (evD (p.evs st))):=by rw[ee];unfold Pn.evs;rw[b5];congr 3
  have er1:μ' r=some (.dct (j8 p.ss)):=by rw[eq r nre nrl nro];exact er0
  have hnm:∀ {n},n∈p.sn->n∈p.ss.map Sn.nm:=λh=>h
  walk_at "go"
  refine a9 eo' ?_
  refine mh (p.out st) Lt.toD (λl=>if cN p.ss l=none then some l.toD else none) rfl eo' (by omega) (λy hy μ2 sb N nn=>?_) ?_
  ·walk_at "go"
   refine ⟨p.ss,y,⟨rfl,sb _ _ er1,hnm (R.ou y hy).1,(R.ou y hy).2⟩,?_⟩
   show rIs (xh (cN p.ss y)) .non μ2 _
   rw[BO]
   walk_at "go"
   refine kif (λh=>?_) (λh=>?_)
   ·rw[if_pos h] at nn;exact nn
   ·rw[if_neg h] at nn;exact nn
  rw[dU (λl:Lt=>cN p.ss l=none) Lt.toD]
  rw[show (p.out st).filter (λl=>decide (cN p.ss l=none))=p.taken st from rfl]
  walk_at "go"
  rw[xW]
  refine cj (UW p.ws (p.bG st)) (λy=>.tup [y.1.toD,y.2.toD]) (λy=>(IZ p.ss y.1 y.2 (p.out st)).toD) rfl (by have:=lz p.ws (p.bG st);omega) (λy hy μ2 sb N nn=>?_) ?_
  ·walk_at "go"
   have h1:=R.wy _ (Va hy).1
   exact ⟨y.1,p.ss,y.2,p.out st,⟨⟨rfl,rfl⟩,⟨sb _ _ er1,sb _ _ eo'⟩,λx hx=>⟨hnm (R.ou x hx).1,(R.ou x hx).2⟩,⟨h1.1,λs hs=>(R.rl s hs).2.2⟩,R.oz,(R.go _ (RD hy)).2⟩,nn⟩
  have e1:(UW p.ws (p.bG st)).map (λy=>(IZ p.ss y.1 y.2 (p.out st)).toD)=wsD (p.step st).ws:=by unfold Pn.step wsD;simp only;rw[b5,UR];rfl
  rw[e1]
  walk_at "go"
  rw[xW]
  have lt1:(p.taken st).length<=900000:=by have:=W2 (λl:Lt=>decide (cN p.ss l=none)) (p.out st);unfold Pn.taken;omega
  refine cj (UW p.ss (p.bE st)) (λy=>.tup [y.1.toD,btD p.g y.2]) (λy=>(qv y.1 y.2.1 (p.br st) (p.taken st)).toD p.g) rfl (by have:=lz p.ss (p.bE st);omega) (λy hy μ2 sb N nn=>?_) ?_
  ·unfold btD
   walk_at "go"
   have hs:=(Va hy).1
   refine ⟨p.g,y.1,y.2.1,p.br st,p.taken st,⟨⟨rfl,rfl,rfl⟩,sb _ _ el',⟨R.sn _ (UP.mpr ⟨_,hs,rfl⟩),λx hx=>R.sn _ (R.lo x hx),λx hx=>R.sn _ (R.ou x (VM.mp hx).1).1⟩,⟨R.lz,lt1⟩,R.lt y hy⟩,nn⟩
  have e2:(UW p.ss (p.bE st)).map (λy=>(qv y.1 y.2.1 (p.br st) (p.taken st)).toD p.g)=ssD p.g (p.step st).ss:=by unfold Pn.step ssD;simp only;rw[b5,UR];rfl
  rw[e2]
  walk_at "go"
  refine a9 ee' ?_
  refine ⟨μ,λb ob hb=>?_,k⟩
  have nb:∀ z,μr z=none->b≠z:=λz hz w=>by
   rw[w] at hb
   rw[← hμr] at hz
   by_cases hzr:z=r
   ·rw[hzr,hr] at hb;cases hb
   ·rw[aU hzr,hb] at hz;cases hz
  have n1:=nb e he
  have n2:=nb l hl'
  have n3:=nb o ho'
  unfold dn
  rw[if_neg n1,eq b n1 n2 n3,← hμr,aU (λw=>by rw[w,hr] at hb;cases hb)]
  exact hb
 ·rintro d rr ρ μ' N ⟨a,c,v11,v12,v13,v14,v15,er',ez,rfl,⟨ee,el,eo⟩,eq⟩ hN
  cases c with
  | nil=>cases er'
  | cons y c=>
  cases er'
  have hy:y∈UW p.ws (p.bG st):=by rw[← ez];simp
  have hyw:=RD hy
  have er1:μ' r=some (.dct (j8 p.ss)):=by rw[eq r nre nrl nro];exact er0
  walk_at "go"
  refine a9 ee ?_
  have hou:∀ x∈y.2.ou,x.nm∈p.ss.map Sn.nm/\0<=x.hp:=λx hx=>R.ou x (Xj.mpr ⟨_,hyw,hx⟩)
  refine ⟨y.1,p.ss,y.2,⟨⟨rfl,rfl⟩,er1,hou,(og _ hyw).1⟩,?_⟩
  walk_at "go"
  have za:a++y::c=UW p.ws (p.bG st):=ez
  have le1:(evD ((p.aL st).map (λx=>⟨OF "sent", x.2.nm,x.2.nu,x.1⟩)++a.flatMap λy=>evs p.ss y.1 y.2)).length+(evD (evs p.ss y.1 y.2)).length<=1000000:=by
   have:(p.evs st).length=(p.aL st).length+((a++y::c).flatMap λy=>evs p.ss y.1 y.2).length:=by
    unfold Pn.evs;rw[b5,za,US,UL];rfl
   rw[Wh,W7,US,US] at this
   simp only[UL,US];omega
  have ll1:(ltD (a.flatMap λy=>y.2.lo)).length+(ltD y.2.lo).length<=1000000:=by
   have:(p.br st).length=((a++y::c).flatMap λy=>y.2.lo).length:=by unfold Pn.br;rw[za,vx,zw]
   rw[Wh,W7,US,US] at this
   simp only[UL];omega
  have lo1:(ltD (a.flatMap λy=>y.2.ou)).length+(ltD y.2.ou).length<=1000000:=by
   have:(p.out st).length=((a++y::c).flatMap λy=>y.2.ou).length:=by unfold Pn.out;rw[za,vx,zw]
   rw[Wh,W7,US,US] at this
   simp only[UL];omega
  refine a9 ee ⟨le1,?_⟩
  walk_at "go"
  refine a9 (by rw[aU (Vo nel)];exact el) (a9 (by rw[aU (Vo nel)];exact el) ⟨ll1,?_⟩)
  walk_at "go"
  refine a9 (by rw[aU (Vo nlo),aU (Vo neo)];exact eo) (a9 (by rw[aU (Vo nlo),aU (Vo neo)];exact eo) ⟨lo1,?_⟩)
  refine hN _ _ ⟨a++[y],c,_,_,_,_,_,rfl,by rw[← ez];simp,rfl,⟨?_,?_,?_⟩,λb h1 h2 h3=>?_⟩
  ·rw[aU neo,aU nel,aF,Wh];simp
  ·rw[aU nlo,aF,Wh];simp
  ·rw[aF,Wh];simp
  ·rw[aU h3,aU h2,aU h1,eq b h1 h2 h3]
theorem qD {α:Type}{f g:α->Nat}:∀ {l:List α},(∀ x∈l,f x<=g x)->(l.map f).sum<=(l.map g).sum
 | [],_=>U2 _
 | a::r,h=>by
  have h1:=h a U0
  have h2:=qD (l:=r) λx hx=>h x (U7 _ hx)
  simp only[UT,VE];omega
theorem aX {α:Type}(f g:α->Nat):∀ l:List α,(l.map λx=>f x+g x).sum=(l.map f).sum+(l.map g).sum
 | []=>rfl
 | a::r=>by have:=aX f g r;simp only[UT,VE];omega
theorem jU {α:Type}{f:α->Nat}{k:Nat}:∀ {l:List α},(∀ x∈l,f x<=k)->(l.map f).sum<=l.length*k
 | [],_=>by simp
 | a::r,h=>by
  have h1:=h a U0
  have h2:=jU (l:=r) λx hx=>h x (U7 _ hx)
  simp only[UT,VE,Vg,Nat.succ_mul];omega
theorem fX {α:Type}{f:α->Nat}:∀ {l:List α} {x:α},x∈l->f x<=(l.map f).sum
 | a::r,x,h=>by
  simp only[UT,VE]
  rcases UZ.mp h with rfl | h
  ·omega
  ·have:=fX (f:=f) h;omega
theorem mi {κ:Type} [DecidableEq κ] (a:κ):∀ {ks:List κ},ks.Nodup->(ks.map λk=>if a=k then 1 else 0).sum<=1
 | [],_=>by simp
 | k::r,h=>by
  have h':=VN.mp h
  simp only[UT,VE]
  by_cases e:a=k
  ·have:(r.map λk=>if a=k then 1 else 0).sum=0:=by
    have:∀ l:List κ,a ∉ l->(l.map λk=>if a=k then 1 else 0).sum=0:=by
     intro l
     induction l with
     | nil=>intro _;rfl
     | cons b l ih=>
      intro hl
      simp only[UZ,not_or] at hl
      simp[hl.1,ih hl.2]
    exact this r (by rw[e];exact h'.1)
   rw[if_pos e,this];exact U2 1
  ·rw[if_neg e];have:=mi a h'.2;omega
theorem split_le {α κ:Type} [DecidableEq κ] (f:α->κ){ks:List κ}(nd:ks.Nodup):∀ xs:List α,(ks.map λk=>(xs.filter λx=>decide (f x=k)).length).sum<=xs.length
 | []=>by
  have:∀ l:List κ,(l.map λ_=>0).sum=0:=λl=>by induction l<;>simp_all
  simpa using this ks
 | x::r=>by
  have h1:=split_le f nd r
  have h2:=mi (f x) nd
  have e:(ks.map λk=>((x::r).filter λx=>decide (f x=k)).length)=ks.map λk=>(if f x=k then 1 else 0)+(r.filter λx=>decide (f x=k)).length:=by
   refine Vf λk _=>?_
   by_cases z:f x=k<;>simp[z];omega
  rw[e,aX,Vg];omega
theorem Ah (ns:List Str):∀ ls:List Lt,(∀ l∈ls,l.nm∈ns)->ls.length<=(ns.map λn=>(own n ls).length).sum
 | [],_=>by simp
 | x::r,h=>by
  have h1:=Ah ns r λl hl=>h l (U7 _ hl)
  have hx:=h x U0
  have e:(ns.map λn=>(own n (x::r)).length)=ns.map λn=>(if x.nm=n then 1 else 0)+(own n r).length:=by
   refine Vf λk _=>?_
   unfold own
   by_cases z:x.nm=k<;>simp[z];omega
  have h2:1<=(ns.map λn=>if x.nm=n then 1 else 0).sum:=by
   have:=fX (f:=λn=>if x.nm=n then 1 else 0) hx
   simpa using this
  rw[e,aX,Vg];omega
theorem uR (n:Str)(ls:List Lt):(own n ls).length=(ls.map Lt.nm).count n:=by
 unfold own
 induction ls with
 | nil=>rfl
 | cons x r ih=>by_cases z:x.nm=n<;>simp[z,ih]
theorem oQ (n:Str)(a b:List Lt):(own n (a++b)).length=(own n a).length+(own n b).length:=by unfold own;simp
theorem rC:∀ {l:List Lt} {i:Nat} (h:i < l.length),([l[i]]++l.eraseIdx i).Perm l
 | x::r,0,_=>.refl _
 | x::r,i+1,h=>by
  have:=rC (l:=r) (i:=i) (by simpa using h)
  simp only[List.getElem_cons_succ,List.eraseIdx_cons_succ]
  exact (List.Perm.swap x _ _).trans (this.cons x)
theorem o7 (ws:List Str)(p:Int):∀ (f:Nat) (st out:List Lt) (l:Str),((fP ws p f st out l).1++(fP ws p f st out l).2.1).Perm (out++st)
 | 0,st,out,l=>.refl _
 | f+1,st,out,l=>by
  unfold fP
  split
  ·split
   ·rename_i n _
    split
    ·rename_i x e
     refine (o7 ws p f _ _ _).trans ?_
     obtain ⟨hi,rfl⟩:=Vh.mp e
     rw[Zs]
     exact zap _ (rC hi)
    ·exact .refl _
   ·exact .refl _
  ·exact .refl _
theorem gu (w:Wy)(ws:List Str)(st:List Lt)(l:Str):((eB w ws st l).1++(eB w ws st l).2.1).Perm st:=by
 unfold eB
 split
 ·exact o7 ..
 ·simp only[YD];exact .refl _
theorem oN (w:Wy):∀ (ys a b:List Lt),(((ys.foldl (cH w) (a,b)).1++(ys.foldl (cH w) (a,b)).2).map Lt.nm).Perm ((a++b++ys).map Lt.nm)
 | [],a,b=>by simp
 | y::r,a,b=>by
  rw[WD]
  by_cases h:w.rm<=(a.length:Int)
  ·rw[jW h]
   refine (oN w r a (b++[y])).trans (by simp)
  ·rw[tF h]
   refine (oN w r (a++[kx w y a.length]) b).trans ?_
   simp only[Vq,UT,XS,Bu,Zs]
   refine zap _ ?_
   exact (List.perm_middle (l₁:=zbB Lt.nm b)).symm
def Lt.In (sn:List Str)(l:Lt):Prop:=l.nm∈sn/\0<=l.hp/\0<=l.mr/\l.mr<=1
theorem LU {sn:List Str}{w:Wy}{x:Lt}(n:Nat)(h:x.In sn):(kx w x n).In sn:=by
 unfold kx
 split
 ·exact h
 ·split
  ·exact h
  ·exact ⟨h.1,h.2.1,(show (0:Int)<=1 by decide),Vy 1⟩
theorem zL {sn:List Str}(w:Wy):∀ (ys a b:List Lt),(∀ l∈a,l.In sn)->(∀ l∈b,l.In sn)->(∀ l∈ys,l.In sn)->(∀ l∈(ys.foldl (cH w) (a,b)).1,l.In sn)/\∀ l∈(ys.foldl (cH w) (a,b)).2,l.In sn
 | [],a,b,h1,h2,_=>⟨h1,h2⟩
 | y::r,a,b,h1,h2,h3=>by
  rw[WD]
  have hy:=h3 y U0
  have hr:∀ l∈r,l.In sn:=λl hl=>h3 l (U7 _ hl)
  by_cases h:w.rm<=(a.length:Int)
  ·rw[jW h]
   refine zL w r a (b++[y]) h1 (λl hl=>?_) hr
   rcases Vu.mp hl with hl | hl
   ·exact h2 l hl
   ·rw[WX.mp hl];exact hy
  ·rw[tF h]
   refine zL w r _ b (λl hl=>?_) h2 hr
   rcases Vu.mp hl with hl | hl
   ·exact h1 l hl
   ·rw[WX.mp hl];exact LU _ hy
theorem ED (w:Wy)(ns:List Str)(k:Ws)(aL:List (Str×Lt))(n:Str):(own n (pass w ns k aL).lo).length+(own n (pass w ns k aL).ou).length+(own n (pass w ns k aL).st).length=(own n (pass w ns k aL).ca).length+(own n k.st).length:=by
 have h1:=(oN w (pass w ns k aL).ca k.st []).count_eq n
 have h2:=((gu w ns (tk w k.st (pass w ns k aL).ca).1 k.la).map Lt.nm).count_eq n
 simp only[Vq,WL,← uR] at h1 h2
 have e1:(pass w ns k aL).lo=(tk w k.st (pass w ns k aL).ca).2:=rfl
 have e2:(pass w ns k aL).ou=(eB w ns (tk w k.st (pass w ns k aL).ca).1 k.la).1:=rfl
 have e3:(pass w ns k aL).st=(eB w ns (tk w k.st (pass w ns k aL).ca).1 k.la).2.1:=rfl
 rw[e1,e2,e3]
 unfold tk at *
 have:(own n ([]:List Lt)).length=0:=rfl
 omega
theorem Ie (w:Wy)(ns:List Str)(k:Ws)(aL:List (Str×Lt)):(pass w ns k aL).lo.length+(pass w ns k aL).ou.length+(pass w ns k aL).st.length=(pass w ns k aL).ca.length+k.st.length:=by
 have h1:=(oN w (pass w ns k aL).ca k.st []).length_eq
 have h2:=(gu w ns (tk w k.st (pass w ns k aL).ca).1 k.la).length_eq
 simp only[UL,US,YV] at h1 h2
 have e1:(pass w ns k aL).lo=(tk w k.st (pass w ns k aL).ca).2:=rfl
 have e2:(pass w ns k aL).ou=(eB w ns (tk w k.st (pass w ns k aL).ca).1 k.la).1:=rfl
 have e3:(pass w ns k aL).st=(eB w ns (tk w k.st (pass w ns k aL).ca).1 k.la).2.1:=rfl
 rw[e1,e2,e3]
 unfold tk at *
 omega
theorem Jq {sn:List Str}{w:Wy}{ns:List Str}{k:Ws}{aL:List (Str×Lt)}(hk:∀ l∈k.cm++k.st,l.In sn)(hs:∀ x∈aL,x.2.In sn):(∀ l∈(pass w ns k aL).ca,l.In sn)/\(∀ l∈(pass w ns k aL).lo,l.In sn)/\(∀ l∈(pass w ns k aL).ou,l.In sn)/\∀ l∈(pass w ns k aL).st,l.In sn:=by
 have hca:∀ l∈(pass w ns k aL).ca,l.In sn:=λl hl=>by
  rcases Vu.mp (show l∈k.cm++(aL.filter λx=>decide (x.1=w.nm)).map (·.2) from hl) with hl | hl
  ·exact hk l (by simp[hl])
  ·obtain ⟨x,hx,rfl⟩:=UP.mp hl
   exact hs x (VM.mp hx).1
 have ht:=zL w (pass w ns k aL).ca k.st [] (λl hl=>hk l (by simp[hl])) (λl hl=>nomatch hl) hca
 have hp:=gu w ns (tk w k.st (pass w ns k aL).ca).1 k.la
 refine ⟨hca,ht.2,λl hl=>ht.1 l (hp.mem_iff.mp (XB _ hl)),λl hl=>ht.1 l (hp.mem_iff.mp (Vp _ hl))⟩
theorem KJ {lf:Option Int}{k:Int}(k0:0<=k)(hl:∀ i,lf=some i->0<=i):0<=jc lf k/\jc lf k<=k/\∀ i,lf.map (· - jc lf k)=some i->0<=i:=by
 cases lf with
 | none=>exact ⟨k0,Vy _,λi h=>by cases h⟩
 | some l=>
  have:=hl l rfl
  refine ⟨?_,?_,λi h=>?_⟩
  ·show 0<=min k l;omega
  ·show min k l<=k;omega
  ·have e:l - min k l=i:=by simpa[jc] using h
   omega
theorem Ke (a:Int)(n:Nat):(rgI a n).length=n:=by unfold rgI;simp
structure Fills (x:Ss) (pl:Nat) (b:Ss×List Int):Prop where
 same:b.1.nm=x.nm/\b.1.du=x.du/\b.1.W=x.W/\b.1.S=x.S/\b.1.lo=x.lo/\b.1.gd=x.gd/\b.1.mk'=x.mk'/\b.1.wt=x.wt
 few:b.2.length<=pl
 all:b.1.ag.length+b.2.length<=max x.ag.length pl
 n0:x.nx<=b.1.nx
 n1:b.1.nx<=x.nx+pl
 l:∀ i,b.1.lf=some i->0<=i
theorem L4 {x:Ss}(pl:Nat)(hl:∀ i,x.lf=some i->0<=i):Fills x pl (x.fill pl):=by
 have tl:(x.ag.take pl).length=min pl x.ag.length:=XO
 obtain ⟨c0,c1,c2⟩:=KJ (lf:=x.lf) (k:=(pl:Int) - ((x.ag.take pl).length:Int)) (by omega) hl
 have e1:(x.fill pl).1.ag.length=x.ag.length - (x.ag.take pl).length:=by show (x.ag.drop _).length=_;rw[XR]
 have e2:(x.fill pl).2.length=(x.ag.take pl).length+(jc x.lf ((pl:Int) - ((x.ag.take pl).length:Int))).toNat:=by show (x.ag.take pl++rgI _ _).length=_;rw[US,Ke]
 have e3:(x.fill pl).1.nx=x.nx+jc x.lf ((pl:Int) - ((x.ag.take pl).length:Int)):=rfl
 refine ⟨⟨rfl,rfl,rfl,rfl,rfl,rfl,rfl,rfl⟩,by omega,by omega,by omega,by omega,c2⟩
structure SsI (g:Int) (R:RN) (n:Nat) (x:Ss):Prop where
 w0:g<=x.W
 w1:x.W<=R.cap g
 s0:0<=x.S
 s1:x.S<=g
 g0:0<=x.gd
 g1:x.gd<=60*n
 m0:0<=x.mk'
 m1:x.mk'<=60*n
 t0:0<=x.wt
 n0:0<=x.nx
 n1:x.nx<=60*n
 l:∀ i,x.lf=some i->0<=i
theorem SsI.ok {g:Int}{R:RN}{n:Nat}{x:Ss}(h:SsI g R n x)(hn:n<=10000)(nm:UU x.nm=true)(a:x.ag.length+x.lo.length<=60):x.Ok g R:=by
 have:=h.g1;have:=h.m1;have:=h.n1
 exact ⟨nm,h.w0,h.w1,h.s0,h.s1,⟨h.g0,(show x.gd<=1000000 by omega),h.m0,(show x.mk'<=1000000 by omega),(show (0:Int)<=(x.lo.length:Int) by omega),(show (x.lo.length:Int)<=1000000 by omega),h.t0⟩,by have:=h.n0;omega,by omega,a,h.l⟩
structure Ck (g:Int) (R:RN) (n:Nat) (u:Int) (x:Ss) (b:Ss×List Int):Prop where
 nm:b.1.nm=x.nm
 i:SsI g R (n+1) b.1
 g:b.1.gd<=60*n
 m:b.1.mk'<=60*n
 few:b.2.length<=60
 all:u+(b.2.length:Int)+(b.1.ag.length:Int)+(b.1.lo.length:Int)<=60
theorem QZ {p:Int}{s:Sn}{n:Nat}{x:Ss}{u:Int}(K:s.rl.Ok)(g0:0 < p)(h:SsI p s.rl n x)(hd:x.hd.Ok)(u0:0<=u)(a:u+(x.ag.length:Int)+(x.lo.length:Int)<=60):Ck p s.rl n u x (x.bt p s u):=by
 unfold Ss.bt
 have i:=h
 split
 ·have bi:=F0 K g0 x.hd (S:=x.S) h.w0 h.w1
  have bs:=Od K hd g0 h.s0 h.s1
  rw[← Jz s.rl p x.W x.S x.hd] at bs
  have cl:=Ik K g0
  have d60:(s.rl.beh p x.W x.S x.hd).1 / p<=60:=Xv g0 (by omega)
  generalize hpl:(max 0 ((s.rl.beh p x.W x.S x.hd).1 / p - u)).toNat=pl
  have F:=L4 (x:=x.rdy p s.rl) pl h.l
  have la:(x.rdy p s.rl).ag.length=x.ag.length+x.lo.length:=by show (eK _).length=_;rw[mJ,US]
  obtain ⟨e1,e2,e3,e4,e5,e6,e7,e8⟩:=F.same
  have f1:=F.few;have f2:=F.all;have f3:=F.n0;have f4:=F.n1
  have ex:(x.rdy p s.rl).nx=x.nx:=rfl
  have elo:((x.rdy p s.rl).fill pl).1.lo.length=0:=by rw[e5];rfl
  have:=h.n0;have:=h.n1
  have z6:((x.rdy p s.rl).fill pl).1.gd=0:=e6
  have z7:((x.rdy p s.rl).fill pl).1.mk'=0:=e7
  have z8:((x.rdy p s.rl).fill pl).1.wt=0:=e8
  refine ⟨e1,⟨?_,?_,?_,?_,by omega,by omega,by omega,by omega,by omega,by omega,by omega,F.l⟩,by omega,by omega,by omega,by omega⟩
  ·rw[e3];exact bi.1
  ·rw[e3];exact bi.2
  ·rw[e4];exact bs.1
  ·rw[e4];exact bs.2
 ·have:=h.g1;have:=h.m1;have:=h.n1
  exact ⟨rfl,⟨h.w0,h.w1,h.s0,h.s1,h.g0,(show x.gd<=60*((n+1:Nat):Int) by omega),h.m0,(show x.mk'<=60*((n+1:Nat):Int) by omega),h.t0,h.n0,(show x.nx<=60*((n+1:Nat):Int) by omega),h.l⟩,h.g1,h.m1,by simp,by simpa using a⟩
theorem Ez {ss:List Sn}{ns:List (List Int)}{x:Str×Lt}(h:x∈lV ss ns):∃ s∈ss,∃ n,x=(s.rd.headD (OF ""),⟨s.nm,n,0,0,0⟩):=by
 rw[jG] at h
 obtain ⟨t,_,h⟩:=Xj.mp h
 obtain ⟨y,hy,e⟩:=X7.mp h
 unfold cC at e
 cases q:y.2[t]? with
 | none=>rw[q] at e;cases e
 | some n=>
  rw[q] at e
  cases e
  exact ⟨y.1,(Va hy).1,n,rfl⟩
theorem xA (n:Str)(t:Nat):∀ zs:List (Sn×List Int),(own n ((zs.filterMap (cC t)).map (·.2))).length<=(zs.map λy=>if n=y.1.nm then 1 else 0).sum
 | []=>by simp[own]
 | y::r=>by
  have ih:=xA n t r
  simp only[UT,VE]
  cases e:cC t y with
  | none=>rw[ZE e];omega
  | some z=>
   rw[ZF e,UT]
   have ez:z.2.nm=y.1.nm:=by
    unfold cC at e
    cases q:y.2[t]? with
    | none=>rw[q] at e;cases e
    | some k=>rw[q] at e;cases e;rfl
   unfold own at *
   by_cases h:n=y.1.nm
   ·rw[if_pos h]
    rw[VQ]
    split
    ·rw[Vg];omega
    ·omega
   ·rw[if_neg h,ZU (by rw[ez];simp;exact λz=>h z.symm)];omega
theorem tO (n:Str)(t L:Nat)(hL:L<=t):∀ zs:List (Sn×List Int),(∀ y∈zs,y.1.nm=n->y.2.length<=L)->(own n ((zs.filterMap (cC t)).map (·.2))).length=0
 | [],_=>rfl
 | y::r,h=>by
  have ih:=tO n t L hL r λy hy=>h y (U7 _ hy)
  cases e:cC t y with
  | none=>rw[ZE e];exact ih
  | some z=>
   rw[ZF e,UT]
   unfold cC at e
   cases q:y.2[t]? with
   | none=>rw[q] at e;cases e
   | some k=>
    rw[q] at e;cases e
    have hlt:=(Vh.mp q).1
    have ne:¬ y.1.nm=n:=λz=>by have:=h y U0 z;omega
    unfold own at *
    rw[ZU (by simpa using ne)]
    exact ih
theorem kY {α:Type}(n:Str)(f:α->List Lt):∀ xs:List α,(own n (xs.flatMap f)).length=(xs.map λx=>(own n (f x)).length).sum
 | []=>rfl
 | x::r=>by rw[W7,oQ,kY n f r];rfl
theorem Lj (L:Nat):∀ M:Nat,((Vd M).map λt=>if t < L then 1 else 0).sum<=L
 | 0=>by simp
 | M+1=>by
  have key:∀ M:Nat,((Vd M).map λt=>if t < L then 1 else 0).sum=min M L:=by
   intro M
   induction M with
   | zero=>simp
   | succ M ih=>
    rw[X5,Vq,List.sum_append,ih]
    simp only[UT,XS,VE,List.sum_nil]
    split<;>omega
  rw[key];omega
theorem oI {α β:Type}:∀ (xs:List α) (ys:List β),((UW xs ys).map (·.1)) <+: xs
 | [],_=>by simp
 | x::r,[]=>by simp
 | x::r,y::s=>by simpa using oI r s
theorem G0 {ss:List Sn}{ns:List (List Int)}(nd:(ss.map Sn.nm).Nodup)(n:Str)(L:Nat)(h:∀ y∈UW ss ns,y.1.nm=n->y.2.length<=L):(own n ((lV ss ns).map (·.2))).length<=L:=by
 rw[jG,zb3,kY]
 refine VA (qD (g:=λt=>if t < L then 1 else 0) λt _=>?_) (Lj L _)
 split
 ·refine VA (xA n t _) ?_
  have e:((UW ss ns).map λy=>if n=y.1.nm then 1 else 0)=((UW ss ns).map (·.1.nm)).map λk=>if n=k then 1 else 0:=by rw[UR];rfl
  rw[e]
  refine mi n ?_
  have e2:(UW ss ns).map (·.1.nm)=((UW ss ns).map (·.1)).map Sn.nm:=by rw[UR];rfl
  rw[e2]
  exact nd.sublist (((oI ss ns).sublist).map Sn.nm)
 ·rw[tO n t L (by omega) _ h];exact U2 0
def St'.jv (x:St')(n:Str):Nat:=(x.ws.map λw=>(own n (w.cm++w.st)).length).sum
theorem Rk (x:St')(n:Str):x.und n=(x.jv n:Int):=by
 unfold St'.und St'.jv
 induction x.ws with
 | nil=>rfl
 | cons a l ih=>simp only[UT,VE,ih];omega
structure cR (p:Pn) (m:Int) (n:Nat) (st:St'):Prop where
 K:p.Ok m
 lw:st.ws.length=p.ws.length
 nm:st.ss.map Ss.nm=p.sn
 lt:∀ w∈st.ws,∀ l∈w.cm++w.st,l.In p.sn
 ss:∀ y∈UW p.ss st.ss,SsI p.g y.1.rl n y.2
 cn:∀ x∈st.ss,(st.jv x.nm:Int)+(x.ag.length:Int)+(x.lo.length:Int)<=60
theorem DF {ns:List Str}(h:ns.Pairwise λa b=>ltS a b=true):ns.Nodup:=h.imp λ{a b} h e=>by
 subst e
 have:¬ a.cps.toList < a.cps.toList:=List.lt_irrefl _
 simp[ltS,this] at h
theorem rA {α β:Type}{f:α->List β}{k:Nat}{l:List α}(h:∀ x∈l,(f x).length<=k):(l.flatMap f).length<=l.length*k:=by
 rw[List.length_flatMap];exact jU h
theorem mj {α β:Type}{f:α->β}{a b:α}:∀ {l:List α},(l.map f).Nodup->a∈l->b∈l->f a=f b->a=b
 | x::r,h,ha,hb,e=>by
  have h':=VN.mp h
  rcases UZ.mp ha with ea | ha
  ·rcases UZ.mp hb with eb | hb
   ·rw[ea,eb]
   ·exact absurd (UP.mpr ⟨b,hb,by rw[← e,ea]⟩:f x∈r.map f) h'.1
  ·rcases UZ.mp hb with eb | hb
   ·exact absurd (UP.mpr ⟨a,ha,by rw[e,eb]⟩:f x∈r.map f) h'.1
   ·exact mj h'.2 ha hb e
section
variable {p:Pn} {m:Int} {n:Nat} {st:St'} (I:cR p m n st)
include I
theorem cR.sd:p.sn.Nodup:=DF I.K.sd
theorem cR.ls:st.ss.length=p.ss.length:=by have:=congrArg WC I.nm;simpa using this
theorem cR.znm {y:Sn×Ss}(h:y∈UW p.ss st.ss):y.2.nm=y.1.nm:=by
 obtain ⟨i,hi,e⟩:=Xc h
 have h1:i < p.ss.length:=by simp at hi;omega
 have h2:i < st.ss.length:=by simp at hi;omega
 have e1:=congrArg (λl=>l[i]?) I.nm
 simp[h1,h2] at e1
 rw[← e]
 simpa using e1
theorem cR.snm {a:Str}(h:a∈p.sn):∃ x∈st.ss,x.nm=a:=by rw[← I.nm] at h;obtain ⟨x,hx,e⟩:=UP.mp h;exact ⟨x,hx,e⟩
theorem cR.RV {a:Str}(h:a∈p.sn):st.jv a<=60:=by
 obtain ⟨x,hx,rfl⟩:=I.snm h
 have:=I.cn x hx;omega
theorem cR.snl:p.sn.length<=8:=by unfold Pn.sn;rw[UL];exact I.K.s1
theorem cR.OX {w:Ws}(h:w∈st.ws):w.cm.length+w.st.length<=480:=by
 have h1:=Ah p.sn (w.cm++w.st) λl hl=>(I.lt w h l hl).1
 have h2:(p.sn.map λa=>(own a (w.cm++w.st)).length).sum<=p.sn.length*60:=jU λa ha=>by
  have:=I.RV ha
  have:=fX (f:=λw:Ws=>(own a (w.cm++w.st)).length) h
  unfold St'.jv at *;omega
 have:=I.snl
 rw[US] at h1;omega
theorem cR.sok {a:Str}(h:a∈p.sn):UU a=true:=by
 obtain ⟨s,hs,rfl⟩:=UP.mp h
 exact (I.K.s s hs).n
theorem cR.xok (hn:n<=10000){y:Sn×Ss}(h:y∈UW p.ss st.ss):y.2.Ok p.g y.1.rl:=by
 have hx:=(Va h).2
 have c:=I.cn _ hx
 refine (I.ss y h).ok hn (I.sok ?_) (by omega)
 rw[I.znm h];exact UP.mpr ⟨_,(Va h).1,rfl⟩
theorem cR.bt (hn:n<=10000){y:Sn×Ss}(h:y∈UW p.ss st.ss):Ck p.g y.1.rl n (st.jv y.2.nm) y.2 (y.2.bt p.g y.1 (st.und y.2.nm)):=by
 have hx:=(Va h).2
 have hs:=(Va h).1
 have c:=I.cn _ hx
 rw[Rk]
 exact QZ (I.K.s _ hs).k (by have:=I.K.g.1;omega) (I.ss y h) (I.xok hn h).h (by omega) c
theorem cR.Tx (hn:n<=10000){b:Ss×List Int}(h:b∈p.bE st):∃ y∈UW p.ss st.ss,b=y.2.bt p.g y.1 (st.und y.2.nm)/\Ck p.g y.1.rl n (st.jv y.2.nm) y.2 b:=by
 unfold Pn.bE at h
 rw[b5] at h
 obtain ⟨y,hy,rfl⟩:=UP.mp h
 exact ⟨y,hy,rfl,I.bt hn hy⟩
theorem cR.nb (hn:n<=10000){b:Ss×List Int}(h:b∈p.bE st):b.2.length<=60:=by obtain ⟨y,_,_,B⟩:=I.Tx hn h;exact B.few
theorem cR.zb {y:Sn×(Ss×List Int)}(h:y∈UW p.ss (p.bE st)):∃ x,(y.1,x)∈UW p.ss st.ss/\y.2=x.bt p.g y.1 (st.und x.nm):=by
 obtain ⟨i,hi,e⟩:=Xc h
 have h1:i < p.ss.length:=by simp at hi;omega
 have h2:i < st.ss.length:=by have:=I.ls;omega
 refine ⟨st.ss[i],?_,?_⟩
 ·have:i < (UW p.ss st.ss).length:=by simp;omega
  have hm:=WH this
  rw[ZV] at hm
  rw[← e];simpa using hm
 ·rw[← e]
  simp[Pn.bE]
theorem cR.zs {y:Sn×List Int}(h:y∈UW p.ss ((p.bE st).map (·.2))):∃ b,(y.1,b)∈UW p.ss (p.bE st)/\y.2=b.2:=by
 rw[Xo] at h
 obtain ⟨z,hz,rfl⟩:=UP.mp h
 exact ⟨z.2,hz,rfl⟩
theorem cR.MY (hn:n<=10000){x:Ss}{s:Sn}(h:(s,x)∈UW p.ss st.ss):(own s.nm ((p.aL st).map (·.2))).length<=(x.bt p.g s (st.und x.nm)).2.length:=by
 refine G0 I.sd s.nm _ λy hy e=>?_
 obtain ⟨b,hb,e2⟩:=I.zs hy
 obtain ⟨x',hx',e3⟩:=I.zb hb
 have e3':b=x'.bt p.g y.1 (st.und x'.nm):=e3
 have es:y.1=s:=mj (f:=Sn.nm) I.sd (Va hx').1 (Va h).1 e
 have ex:x'=x:=by
  refine mj (f:=Ss.nm) (by rw[I.nm];exact I.sd) (Va hx').2 (Va h).2 ?_
  have n1:x'.nm=y.1.nm:=I.znm hx'
  have n2:x.nm=s.nm:=I.znm h
  rw[n1,n2];exact e
 rw[e2,e3',es,ex]
 exact U2 _
theorem cR.JZ {s:Sn}(h:s∈p.ss):∃ x,(s,x)∈UW p.ss st.ss:=by
 obtain ⟨i,hi,e⟩:=Xc h
 have h2:i < st.ss.length:=by have:=I.ls;omega
 have:i < (UW p.ss st.ss).length:=by simp;omega
 have hm:=WH this
 rw[ZV] at hm
 exact ⟨_,by rw[← e];exact hm⟩
theorem cR.uU {x:Str×Lt}(h:x∈p.aL st):x.2.In p.sn/\UU x.1=true:=by
 obtain ⟨s,hs,k,rfl⟩:=Ez h
 have hk:=I.K.s s hs
 refine ⟨⟨UP.mpr ⟨s,hs,rfl⟩,Vy 0,Vy 0,(show (0:Int)<=1 by decide)⟩,?_⟩
 cases e:s.rd with
 | nil=>exact absurd e hk.r0
 | cons a r=>
  have:a∈p.wn:=hk.r.subset (by rw[e];simp)
  obtain ⟨w,hw,rfl⟩:=UP.mp this
  exact (I.K.w w hw).n
theorem cR.Ng (hn:n<=10000):(p.aL st).length<=480:=by
 have h1:=Ah p.sn ((p.aL st).map (·.2)) λl hl=>by obtain ⟨x,hx,rfl⟩:=UP.mp hl;exact (I.uU hx).1.1
 have h2:(p.sn.map λa=>(own a ((p.aL st).map (·.2))).length).sum<=p.sn.length*60:=jU λa ha=>by
  obtain ⟨s,hs,rfl⟩:=UP.mp ha
  obtain ⟨x,hx⟩:=I.JZ hs
  exact VA (I.MY hn hx) (I.bt hn hx).few
 have:=I.snl
 rw[UL] at h1;omega
theorem cR.MX {x:Wt}(h:x∈p.bG st):∃ y∈UW p.ws st.ws,x=pass y.1 p.sn y.2 (p.aL st):=by
 unfold Pn.bG at h
 rw[b5] at h
 obtain ⟨y,hy,rfl⟩:=UP.mp h
 exact ⟨y,hy,rfl⟩
theorem cR.zX {x:Wt}(h:x∈p.bG st):(∀ l∈x.ca,l.In p.sn)/\(∀ l∈x.lo,l.In p.sn)/\(∀ l∈x.ou,l.In p.sn)/\∀ l∈x.st,l.In p.sn:=by
 obtain ⟨y,hy,rfl⟩:=I.MX h
 exact Jq (I.lt _ (Va hy).2) λx hx=>(I.uU hx).1
theorem cR.CA (hn:n<=10000){x:Wt}(h:x∈p.bG st):x.ca.length<=960/\x.lo.length+x.ou.length+x.st.length<=1440:=by
 obtain ⟨y,hy,rfl⟩:=I.MX h
 have h1:=I.OX (Va hy).2
 have h2:=I.Ng hn
 have h3:=Ie y.1 p.sn y.2 (p.aL st)
 have h4:(pass y.1 p.sn y.2 (p.aL st)).ca.length<=y.2.cm.length+(p.aL st).length:=by
  show (y.2.cm++((p.aL st).filter λx=>decide (x.1=y.1.nm)).map (·.2)).length<=_
  rw[US,UL]
  have:=W2 (λx:Str×Lt=>decide (x.1=y.1.nm)) (p.aL st)
  omega
 omega
theorem cR.wl:(p.bG st).length<=6:=by unfold Pn.bG;rw[V4];have:=I.K.w1;omega
end
theorem mK {α:Type}(a b:α->Bool)(l:List α):(l.filter a).filter b=(l.filter b).filter a:=by
 rw[Xp,Xp];congr 1;funext x;exact Bool.and_comm ..
theorem Ms (n:Str)(q:Str×Lt->Bool)(l:List (Str×Lt)):(own n ((l.filter q).map (·.2))).length=((l.filter λx=>decide (x.2.nm=n)).filter q).length:=by
 unfold own
 rw[Y2,UL,← mK]
 rfl
theorem wV (n:Str)(h:Int)(l:List Lt):(own n (l.map (·.kR h))).length=(own n l).length:=by
 rw[uR,uR,UR];rfl
theorem h9 {α β γ:Type}(P:α×β->γ):∀ (xs:List α) (ys:List β),UW xs ((UW xs ys).map P)=(UW xs ys).map λy=>(y.1,P y)
 | [],_=>by simp
 | x::r,[]=>by simp
 | x::r,y::s=>by simp[h9 P r s]
theorem lZ {α β:Type}:∀ {xs:List α} {ys:List β},xs.length<=ys.length->(UW xs ys).map (·.1)=xs
 | [],_,_=>by simp
 | x::r,[],h=>by simp at h
 | x::r,y::s,h=>by simp[lZ (xs:=r) (ys:=s) (by simpa using h)]
theorem oM {α β:Type}:∀ {xs:List α} {ys:List β},ys.length<=xs.length->(UW xs ys).map (·.2)=ys
 | _,[],_=>by simp
 | [],y::s,h=>by simp at h
 | x::r,y::s,h=>by simp[oM (xs:=r) (ys:=s) (by simpa using h)]
theorem DS (q:Lt->Bool)(n:Str)(l:List Lt):(own n (l.filter q)).length+(own n (l.filter λx=>!q x)).length=(own n l).length:=by
 unfold own
 induction l with
 | nil=>rfl
 | cons x r ih=>by_cases h1:q x<;>by_cases h2:x.nm=n<;>simp[h1,h2] at ih ⊢ <;> omega
theorem Fn {p:Pn}{st:St'}(nd:p.wn.Nodup)(lw:st.ws.length=p.ws.length)(a:Str) :
  (p.step st).jv a+(own a (p.taken st)).length+(own a (p.br st)).length<=st.jv a+(own a ((p.aL st).map (·.2))).length:=by
 generalize hZ:UW p.ws st.ws=Z
 have z1:Z.map (·.1)=p.ws:=by rw[← hZ];exact lZ (by omega)
 have z2:Z.map (·.2)=st.ws:=by rw[← hZ];exact oM (by omega)
 let P:Wy×Ws->Wt:=λy=>pass y.1 p.sn y.2 (p.aL st)
 have ew:p.bG st=Z.map P:=by unfold Pn.bG;rw[b5,hZ]
 have el:(own a (p.br st)).length=(Z.map λy=>(own a (P y).lo).length).sum:=by unfold Pn.br;rw[kY,ew,UR];rfl
 have eo:(own a (p.out st)).length=(Z.map λy=>(own a (P y).ou).length).sum:=by unfold Pn.out;rw[kY,ew,UR];rfl
 have e3:(Z.map λy=>(own a (P y).lo).length).sum+(Z.map λy=>(own a (P y).ou).length).sum+(Z.map λy=>(own a (P y).st).length).sum=(Z.map λy=>(own a (P y).ca).length).sum+(Z.map λy=>(own a y.2.st).length).sum:=by
  rw[← aX,← aX,← aX]
  congr 1
  exact Vf λy _=>ED y.1 p.sn y.2 (p.aL st) a
 have e4:(Z.map λy=>(own a (P y).ca).length).sum<=(Z.map λy=>(own a y.2.cm).length).sum+(own a ((p.aL st).map (·.2))).length:=by
  have:(Z.map λy=>(own a (P y).ca).length)=Z.map λy=>(own a y.2.cm).length+(((p.aL st).filter λx=>decide (x.2.nm=a)).filter λx=>decide (x.1=y.1.nm)).length:=by
   refine Vf λy _=>?_
   show (own a (y.2.cm++((p.aL st).filter λx=>decide (x.1=y.1.nm)).map (·.2))).length=_
   rw[oQ,Ms]
  rw[this,aX]
  have h2:=split_le (f:=λx:Str×Lt=>x.1) nd ((p.aL st).filter λx=>decide (x.2.nm=a))
  have h3:(Z.map λy=>(((p.aL st).filter λx=>decide (x.2.nm=a)).filter λx=>decide (x.1=y.1.nm)).length)=(p.wn.map λk=>(((p.aL st).filter λx=>decide (x.2.nm=a)).filter λx=>decide (x.1=k)).length):=by
   unfold Pn.wn;rw[← z1,UR,UR];rfl
  rw[h3]
  have h4:(own a ((p.aL st).map (·.2))).length=((p.aL st).filter λx=>decide (x.2.nm=a)).length:=by
   unfold own;rw[Y2,UL];rfl
  omega
 have e5:st.jv a=(Z.map λy=>(own a y.2.cm).length).sum+(Z.map λy=>(own a y.2.st).length).sum:=by
  unfold St'.jv
  rw[← z2,UR,← aX]
  congr 1
  exact Vf λy _=>oQ ..
 have e6:(p.step st).jv a=(Z.map λy=>(own a ((p.out st).filter λl=>decide (cN p.ss l=some y.1.nm))).length).sum+(Z.map λy=>(own a (P y).st).length).sum:=by
  unfold St'.jv Pn.step
  simp only
  rw[b5,ew,← hZ,h9,hZ,UR,UR,← aX]
  congr 1
  refine Vf λy _=>?_
  show (own a (((p.out st).filter λl=>decide (cN p.ss l=some y.1.nm)).map (·.kR 1)++(P y).st.map (·.kR 0))).length=_
  rw[oQ,wV,wV]
 have e7:(Z.map λy=>(own a ((p.out st).filter λl=>decide (cN p.ss l=some y.1.nm))).length).sum<=(own a ((p.out st).filter λl=>!decide (cN p.ss l=none))).length:=by
  have nd2:(p.wn.map some).Nodup:=Zr _ (λa b (h:a≠b) (z:some a=some b)=>h (Vt z)) nd
  have h2:=split_le (f:=cN p.ss) nd2 (own a ((p.out st).filter λl=>!decide (cN p.ss l=none)))
  rw[UR] at h2
  have h3:(Z.map λy=>(own a ((p.out st).filter λl=>decide (cN p.ss l=some y.1.nm))).length)=p.wn.map ((λk=>((own a ((p.out st).filter λl=>!decide (cN p.ss l=none))).filter λx=>decide (cN p.ss x=k)).length) ∘ some):=by
   unfold Pn.wn
   rw[← z1,UR,UR]
   refine Vf λy _=>?_
   unfold own
   simp only[Function.comp,Xp]
   congr 2
   funext x
   by_cases h1:x.nm=a<;>cases h:cN p.ss x<;>simp[h1]
  rw[h3];exact h2
 have e8:=DS (λl=>decide (cN p.ss l=none)) a (p.out st)
 have e9:(own a (p.taken st)).length=(own a ((p.out st).filter λl=>decide (cN p.ss l=none))).length:=rfl
 omega
theorem sW:∀ {l:List Lt},(∀ x∈l,0<=x.mr/\x.mr<=1)->0<=(l.map Lt.mr).sum/\(l.map Lt.mr).sum<=(l.length:Int)
 | [],_=>by simp
 | x::r,h=>by
  have h1:=h x U0
  have h2:=sW (l:=r) λx hx=>h x (U7 _ hx)
  simp only[UT,VE,Vg];omega
section
variable {p:Pn} {m:Int} {n:Nat} {st:St'} (I:cR p m n st) (hn:n<=10000)
include I
theorem cR.Bo {l:Lt}(h:l∈p.out st):l.In p.sn:=by
 obtain ⟨x,hx,hl⟩:=Xj.mp h
 exact (I.zX hx).2.2.1 l hl
theorem cR.Oq {l:Lt}(h:l∈p.br st):l.In p.sn:=by
 obtain ⟨x,hx,hl⟩:=Xj.mp h
 exact (I.zX hx).2.1 l hl
include hn
theorem cR.cons {s:Sn}{b:Ss×List Int}(h:(s,b)∈UW p.ss (p.bE st)):b.1.nm=s.nm/\SsI p.g s.rl (n+1) b.1/\b.1.gd<=60*n/\b.1.mk'<=60*n/\
  ((p.step st).jv s.nm:Int)+((own s.nm (p.taken st)).length:Int)+((own s.nm (p.br st)).length:Int)+(b.1.ag.length:Int)+(b.1.lo.length:Int)<=60:=by
 obtain ⟨x,hx,e⟩:=I.zb h
 have e':b=x.bt p.g s (st.und x.nm):=e
 have B:Ck p.g s.rl n (st.jv x.nm) x (x.bt p.g s (st.und x.nm)):=I.bt hn hx
 have nm:x.nm=s.nm:=I.znm hx
 have c:=Fn (p:=p) (st:=st) I.K.wd I.lw s.nm
 have d:(own s.nm ((p.aL st).map (·.2))).length<=(x.bt p.g s (st.und x.nm)).2.length:=I.MY hn hx
 have a:=B.all
 rw[← e'] at B d a
 rw[nm] at a
 exact ⟨B.nm.trans nm,B.i,B.g,B.m,by omega⟩
theorem cR.rd:Qm p st:=by
 have w1:=I.K.w1;have s1:=I.K.s1
 have wl:=I.wl
 have sl:=I.Ng hn
 have lo:=rA (f:=Wt.lo) (k:=1440) (l:=p.bG st) λx hx=>by have:=(I.CA hn hx).2;omega
 have ou:=rA (f:=Wt.ou) (k:=1440) (l:=p.bG st) λx hx=>by have:=(I.CA hn hx).2;omega
 refine ⟨I.K.g,I.sd,by omega,by omega,λa ha=>I.sok ha,λs hs=>⟨(I.K.s s hs).k,(I.K.s s hs).r0,λa ha=>?_⟩,λw hw=>⟨(I.K.w w hw).n,by have:=(I.K.w w hw).p0;omega⟩,λw hw=>⟨λl hl=>I.sok (I.lt w hw l hl).1,by have:=I.OX hw;omega⟩,
  λy hy=>I.xok hn hy,λb hb=>by have:=I.nb hn hb;omega,λx hx=>⟨(I.uU hx).2,(I.uU hx).1.1⟩,by omega,λw hw=>⟨λl hl=>(I.lt w hw l hl).1,by have:=I.OX hw;omega⟩,λx hx=>by have:=I.CA hn hx;omega,
  λl hl=>⟨(I.Bo hl).1,(I.Bo hl).2.1⟩,λl hl=>(I.Oq hl).1,?_,?_,?_,λy hy=>?_⟩
 ·have:a∈p.wn:=(I.K.s s hs).r.subset ha
  obtain ⟨w,hw,rfl⟩:=UP.mp this
  exact (I.K.w w hw).n
 ·show ((p.bG st).flatMap Wt.ou).length<=_;omega
 ·show ((p.bG st).flatMap Wt.lo).length<=_;omega
 ·unfold Pn.evs
  rw[US,UL,b5]
  have h2:(UW p.ws (p.bG st)).length<=6:=by simp;omega
  have h3:=rA (f:=λy:Wy×Wt=>evs p.ss y.1 y.2) (k:=2400) (l:=UW p.ws (p.bG st)) λy hy=>by
   have:=I.CA hn (Va hy).2
   show (y.2.ca.zipIdx.map _++y.2.ou.map _).length<=_
   rw[US,UL,UL,zbo];omega
  rw[List.flatMap_def] at h3
  omega
 ·have:=(I.cons hn (s:=y.1) (b:=y.2) hy).2.2.2.2
  omega
theorem cR.next:cR p m (n+1) (p.step st):=by
 have lwt:(p.bG st).length=p.ws.length:=by unfold Pn.bG;rw[V4];have:=I.lw;omega
 have lb:(p.bE st).length=p.ss.length:=by unfold Pn.bE;rw[V4];have:=I.ls;omega
 have es:(p.step st).ss=(UW p.ss (p.bE st)).map λy=>qv y.1 y.2.1 (p.br st) (p.taken st):=by unfold Pn.step;simp only;rw[b5]
 have key:∀ y∈UW p.ss (p.bE st),(qv y.1 y.2.1 (p.br st) (p.taken st)).nm=y.1.nm:=λy hy=>(I.cons hn (s:=y.1) (b:=y.2) hy).1
 refine ⟨I.K,?_,?_,λw hw l hl=>?_,λy hy=>?_,λx hx=>?_⟩
 ·unfold Pn.step;simp only;rw[V4];omega
 ·rw[es,UR]
  have:(UW p.ss (p.bE st)).map (Ss.nm ∘ λy=>qv y.1 y.2.1 (p.br st) (p.taken st))=(UW p.ss (p.bE st)).map (Sn.nm ∘ (·.1)):=Vf λy hy=>key y hy
  rw[this,← UR,lZ (by omega)]
 ·unfold Pn.step at hw
  simp only at hw
  rw[b5] at hw
  obtain ⟨y,hy,rfl⟩:=UP.mp hw
  rcases Vu.mp hl with hl | hl
  ·obtain ⟨z,hz,rfl⟩:=UP.mp (show l∈((p.out st).filter λl=>decide (cN p.ss l=some y.1.nm)).map (·.kR 1) from hl)
   have h:=I.Bo (VM.mp hz).1
   exact ⟨h.1,(show 0<=z.hp+1 by have:=h.2.1;omega),h.2.2⟩
  ·obtain ⟨z,hz,rfl⟩:=UP.mp (show l∈y.2.st.map (·.kR 0) from hl)
   have h:=(I.zX (Va hy).2).2.2.2 z hz
   exact ⟨h.1,(show 0<=z.hp+0 by have:=h.2.1;omega),h.2.2⟩
 ·rw[es,h9] at hy
  obtain ⟨z,hz,rfl⟩:=UP.mp hy
  obtain ⟨h1,h2,h3,h4,h5⟩:=I.cons hn (s:=z.1) (b:=z.2) hz
  have mk:=sW (l:=own z.1.nm (p.taken st)) λl hl=>by
   have:=I.Bo (VM.mp (VM.mp hl).1).1
   exact this.2.2
  have g0:=h2.g0;have m0:=h2.m0;have t0:=h2.t0
  refine ⟨h2.w0,h2.w1,h2.s0,h2.s1,?_,?_,?_,?_,?_,h2.n0,h2.n1,h2.l⟩
  ·show 0<=z.2.1.gd+((own z.1.nm (p.taken st)).length:Int) - ((own z.1.nm (p.taken st)).map Lt.mr).sum;omega
  ·show z.2.1.gd+((own z.1.nm (p.taken st)).length:Int) - ((own z.1.nm (p.taken st)).map Lt.mr).sum<=60*((n+1:Nat):Int);omega
  ·show 0<=z.2.1.mk'+((own z.1.nm (p.taken st)).map Lt.mr).sum;omega
  ·show z.2.1.mk'+((own z.1.nm (p.taken st)).map Lt.mr).sum<=60*((n+1:Nat):Int);omega
  ·show 0<=max z.2.1.wt _;omega
 ·rw[es] at hx
  obtain ⟨z,hz,rfl⟩:=UP.mp hx
  obtain ⟨h1,h2,h3,h4,h5⟩:=I.cons hn (s:=z.1) (b:=z.2) hz
  rw[key z hz]
  have e:(qv z.1 z.2.1 (p.br st) (p.taken st)).lo.length=z.2.1.lo.length+(own z.1.nm (p.br st)).length:=by
   show (eK (z.2.1.lo++(own z.1.nm (p.br st)).map Lt.nu)).length=_
   rw[mJ,US,UL]
  have e2:(qv z.1 z.2.1 (p.br st) (p.taken st)).ag=z.2.1.ag:=rfl
  rw[e,e2];omega
end
theorem Lc {p:Pn}{m:Int}(K:p.Ok m):cR p m 0 p.beg:=by
 have g1:=K.g.1
 have nm:∀ s:Sn,(Sn.beg p.g s).nm=s.nm:=λs=>rfl
 have und:∀ a,p.beg.jv a=0:=λa=>by
  unfold St'.jv Pn.beg
  simp only[UR]
  have:∀ l:List Wy,(l.map λ_=>0).sum=0:=λl=>by induction l<;>simp_all
  exact this p.ws
 refine ⟨K,by simp[Pn.beg],by unfold Pn.beg;simp only[UR];rfl,λw hw l hl=>?_,λy hy=>?_,λx hx=>?_⟩
 ·unfold Pn.beg at hw
  obtain ⟨_,_,rfl⟩:=UP.mp hw
  cases hl
 ·have hy':y∈UW p.ss (p.ss.map (Sn.beg p.g)):=hy
  rw[Xo] at hy'
  obtain ⟨z,hz,rfl⟩:=UP.mp hy'
  have e:z.2=z.1:=by
   have:∀ (l:List Sn) (z:Sn×Sn),z∈UW l l->z.2=z.1:=by
    intro l
    induction l with
    | nil=>intro z hz;simp at hz
    | cons a l ih=>
     intro z hz
     rcases UZ.mp (by simpa using hz) with e | h
     ·rw[e]
     ·exact ih z h
   exact this _ z hz
  have hk:=K.s z.1 (Va hz).1
  have R:=hk.k
  have q0:=R.w.q0;have s0:=R.t.q0
  show SsI p.g z.1.rl 0 (Sn.beg p.g z.2)
  rw[e]
  refine ⟨?_,?_,Vy 0,(show (0:Int)<=p.g by omega),Vy 0,Vy 0,Vy 0,Vy 0,Vy 0,Vy 0,Vy 0,λi hi=>(hk.mm i hi).1⟩
  ·show p.g<=z.1.rl.p*p.g / z.1.rl.q
   rw[WA q0]
   have:=U5 R.w.ge (show 0<=p.g by omega)
   rw[zaC,Wm z.1.rl.q] at this
   exact this
  ·show z.1.rl.p*p.g / z.1.rl.q<=z.1.rl.r*p.g / z.1.rl.s
   rw[WA s0]
   generalize hW:z.1.rl.p*p.g / z.1.rl.q=W
   have h1:W*z.1.rl.q<=z.1.rl.p*p.g:=by rw[← hW];exact zak _ (by omega)
   have h2:=U5 h1 (show 0<=z.1.rl.s by omega)
   have h3:=U5 R.wt (show 0<=p.g by omega)
   refine XJ (a:=z.1.rl.q) ?_ q0
   calc W*z.1.rl.s*z.1.rl.q=W*z.1.rl.q*z.1.rl.s:=by ac_rfl
    _<=z.1.rl.p*p.g*z.1.rl.s:=h2
    _=z.1.rl.p*z.1.rl.s*p.g:=by ac_rfl
    _<=z.1.rl.r*z.1.rl.q*p.g:=h3
    _=z.1.rl.r*p.g*z.1.rl.q:=by ac_rfl
 ·have hx':x∈p.ss.map (Sn.beg p.g):=hx
  obtain ⟨s,hs,rfl⟩:=UP.mp hx'
  rw[und]
  show ((0:Nat):Int)+((0:Nat):Int)+((0:Nat):Int)<=60
  decide
def spD (is:List Nat):List (L2.Key×D):=is.map λi:Nat=>(.inl (i:Int),.bl true)
def TQ (cs:List Int)(t l u:Int)(c:Addr):List (L2.Key×D):=[(.inr (OF "cells"),.ls (cs.map .int)),(.inr (OF "turn"),.int t),(.inr (OF "left"),.int l),(.inr (OF "used"),.int u),(.inr (OF "spent"),.obj c)]
structure Pq (μ:Mu) (b c:Addr) (n:Nat):Prop where
 ne:b≠c
 ex:∃ (cs:List Int) (t l u:Int) (is:List Nat),μ b=some (.dct (TQ cs t l u c))/\μ c=some (.dct (spD is))/\(0<=t/\t<=n)/\is.Nodup/\(∀ i∈is,i < cs.length)/\cs.length<=63
structure A1 (b c:Addr) (n:Nat) (μ μ':Mu):Prop where
 p:Pq μ' b c n
 o:∀ a,a≠b->a≠c->μ' a=μ a
theorem Pq.mono {μ:Mu}{b c:Addr}{n m:Nat}(h:Pq μ b c n)(k:n<=m):Pq μ b c m:=by
 obtain ⟨ne,cs,t,l,u,is,e1,e2,⟨t0,t1⟩,r⟩:=h
 exact ⟨ne,cs,t,l,u,is,e1,e2,⟨t0,by omega⟩,r⟩
theorem A1.mono {μ μ':Mu}{b c:Addr}{n m:Nat}(h:A1 b c n μ μ')(k:n<=m):A1 b c m μ μ':=⟨h.p.mono k,h.o⟩
theorem A1.trans {b c:Addr}{μ μ1 μ2:Mu}{n m:Nat}(h:A1 b c n μ μ1)(k:A1 b c m μ1 μ2):A1 b c m μ μ2:=⟨k.p,λa h1 h2=>(k.o a h1 h2).trans (h.o a h1 h2)⟩
theorem Pq.nb {μ:Mu}{b c a:Addr}{n:Nat}(h:Pq μ b c n)(e:μ a=none):a≠b/\a≠c:=by
 obtain ⟨_,cs,t,l,u,is,e1,e2,_⟩:=h
 exact ⟨(λz=>by subst z;rw[e1] at e;cases e),(λz=>by subst z;rw[e2] at e;cases e)⟩
theorem Pq.up {μ:Mu}{b c a:Addr}{o:MO}{n:Nat}(h:Pq μ b c n)(k:a≠b/\a≠c):Pq (up μ a o) b c n:=by
 obtain ⟨ne,cs,t,l,u,is,e1,e2,r⟩:=h
 exact ⟨ne,cs,t,l,u,is,by rw[aU k.1.symm];exact e1,by rw[aU k.2.symm];exact e2,r⟩
section
variable (cs:List Int) (t l u x:Int) (c:Addr)
end
section
variable {G:GTr} {tt:TTr} {te:ETr} {ρc:ST} {ds:List D} {μ:Mu} {Q:DK} {b c:Addr} {n m:Nat}
end
def nxF (ss:List Ss)(n:Str):Int:=((ss.find? λx=>decide (x.nm=n)).map Ss.nx).getD 0
def Lt.lw (f:Str->Int)(l:Lt):Lt:=⟨l.nm,l.nu - f l.nm,l.ag,l.hp,l.mr⟩
def Ws.lw (f:Str->Int)(w:Ws):Ws:=⟨w.cm.map (Lt.lw f),w.st.map (Lt.lw f),w.la⟩
def Ss.lk (x:Ss):Ss:=⟨x.nm,x.du,x.W,x.S,0,x.lf,x.ag.map (· - x.nx),x.lo.map (· - x.nx),x.gd,x.mk',x.wt⟩
def St'.lk (st:St'):St':=⟨st.ws.map (Ws.lw (nxF st.ss)),st.ss.map Ss.lk⟩
def Lt.mv (f:Str->Int)(l:Lt):Lt:=⟨l.nm,l.nu+f l.nm,l.ag,l.hp,l.mr⟩
def Ws.mv (f:Str->Int)(w:Ws):Ws:=⟨w.cm.map (Lt.mv f),w.st.map (Lt.mv f),w.la⟩
def Ss.mv (f:Str->Int)(x:Ss):Ss:=⟨x.nm,x.du,x.W,x.S,x.nx+f x.nm,x.lf,x.ag.map (· + f x.nm),x.lo.map (· + f x.nm),x.gd,x.mk',x.wt⟩
def St'.mv (f:Str->Int)(st:St'):St':=⟨st.ws.map (Ws.mv f),st.ss.map (Ss.mv f)⟩
structure StL (st:St'):Prop where
 nd:(st.ss.map Ss.nm).Nodup
 sn:∀ x∈st.ss,UU x.nm=true
 lt:∀ w∈st.ws,∀ l∈w.cm++w.st,l.nm∈st.ss.map Ss.nm
 la:∀ w∈st.ws,UU w.la=true
 z1:st.ws.length<=100/\st.ss.length<=100
 z2:∀ w∈st.ws,w.cm.length<=10000/\w.st.length<=10000
 z3:∀ x∈st.ss,x.ag.length<=10000/\x.lo.length<=10000
theorem Nl (ss:List Ss):(ss.map Ss.lk).map Ss.nm=ss.map Ss.nm:=by rw[UR];rfl
theorem Nd (f:Str->Int)(ss:List Ss):(ss.map (Ss.mv f)).map Ss.nm=ss.map Ss.nm:=by rw[UR];rfl
theorem StL.lk {st:St'}(h:StL st):StL st.lk:=by
 refine ⟨by show ((st.ss.map Ss.lk).map Ss.nm).Nodup;rw[Nl];exact h.nd,λx hx=>?_,λw hw l hl=>?_,λw hw=>?_,?_,λw hw=>?_,λx hx=>?_⟩
 ·obtain ⟨y,hy,rfl⟩:=UP.mp hx
  exact h.sn y hy
 ·obtain ⟨v,hv,rfl⟩:=UP.mp hw
  show l.nm∈(st.ss.map Ss.lk).map Ss.nm
  rw[Nl]
  have hl:l∈v.cm.map (Lt.lw (nxF st.ss))++v.st.map (Lt.lw (nxF st.ss)):=hl
  rw[← Vq] at hl
  obtain ⟨k,hk,rfl⟩:=UP.mp hl
  exact h.lt v hv k hk
 ·obtain ⟨v,hv,rfl⟩:=UP.mp hw
  exact h.la v hv
 ·show (st.ws.map (Ws.lw (nxF st.ss))).length<=100/\(st.ss.map Ss.lk).length<=100
  rw[UL,UL];exact h.z1
 ·obtain ⟨v,hv,rfl⟩:=UP.mp hw
  show (v.cm.map _).length<=_/\(v.st.map _).length<=_
  rw[UL,UL];exact h.z2 v hv
 ·obtain ⟨y,hy,rfl⟩:=UP.mp hx
  show (y.ag.map _).length<=_/\(y.lo.map _).length<=_
  rw[UL,UL];exact h.z3 y hy
theorem StL.mv {st:St'}(f:Str->Int)(h:StL st):StL (st.mv f):=by
 refine ⟨by show ((st.ss.map (Ss.mv f)).map Ss.nm).Nodup;rw[Nd];exact h.nd,λx hx=>?_,λw hw l hl=>?_,λw hw=>?_,?_,λw hw=>?_,λx hx=>?_⟩
 ·obtain ⟨y,hy,rfl⟩:=UP.mp hx
  exact h.sn y hy
 ·obtain ⟨v,hv,rfl⟩:=UP.mp hw
  show l.nm∈(st.ss.map (Ss.mv f)).map Ss.nm
  rw[Nd]
  have hl:l∈v.cm.map (Lt.mv f)++v.st.map (Lt.mv f):=hl
  rw[← Vq] at hl
  obtain ⟨k,hk,rfl⟩:=UP.mp hl
  exact h.lt v hv k hk
 ·obtain ⟨v,hv,rfl⟩:=UP.mp hw
  exact h.la v hv
 ·show (st.ws.map (Ws.mv f)).length<=100/\(st.ss.map (Ss.mv f)).length<=100
  rw[UL,UL];exact h.z1
 ·obtain ⟨v,hv,rfl⟩:=UP.mp hw
  show (v.cm.map _).length<=_/\(v.st.map _).length<=_
  rw[UL,UL];exact h.z2 v hv
 ·obtain ⟨y,hy,rfl⟩:=UP.mp hx
  show (y.ag.map _).length<=_/\(y.lo.map _).length<=_
  rw[UL,UL];exact h.z3 y hy
def Pn.run (p:Pn):Nat->St'
 | 0=>p.beg
 | n+1=>p.step (p.run n)
def Pn.rows (p:Pn)(n:Nat):List D:=(Vd n).map λi=>.ls (evD (p.evs (p.run i)))
theorem Pn.d9 {p:Pn}{m:Int}(K:p.Ok m):∀ n:Nat,n<=10000->cR p m n (p.run n)
 | 0,_=>Lc K
 | n+1,h=>(p.d9 K n (by omega)).next (by omega)
def Wt.mv (f:Str->Int)(x:Wt):Wt:=⟨x.ca.map (Lt.mv f),x.lo.map (Lt.mv f),x.ou.map (Lt.mv f),x.st.map (Lt.mv f),x.la⟩
abbrev Ev.mv (f:Str->Int)(x:Ev):Ev:=⟨x.wd,x.nm,x.nu+f x.nm,x.wy⟩
theorem Ss.Ok.mv {g:Int}{R:RN}{x:Ss}(f:Str->Int)(h:x.Ok g R)(a:-4000000000000000000<=x.nx+f x.nm/\x.nx+f x.nm<=4000000000000000000):(x.mv f).Ok g R:=by
 have e:(x.mv f).hd=x.hd:=by unfold Ss.hd Ss.mv;simp
 exact ⟨h.n,h.w0,h.w1,h.s0,h.s1,by rw[e];exact h.h,a.1,a.2,by unfold Ss.mv;simp only[UL];exact h.a,h.l⟩
theorem E2:∀ s∈[OF "sent", OF "in", OF "lost", OF "taken", OF "out"],UU s=true:=by decide +kernel
theorem IQ {p:Pn}{st:St'}(R:Qm p st):∀ e∈p.evs st,UU e.wd=true/\e.nm∈p.sn/\UU e.wy=true:=by
 intro e he
 unfold Pn.evs at he
 rcases Vu.mp he with h | h
 ·obtain ⟨x,hx,rfl⟩:=UP.mp h
  have:=R.se x hx
  exact ⟨E2 _ (by simp),this.2,this.1⟩
 ·rw[b5] at h
  obtain ⟨l,hl,he'⟩:=List.mem_flatten.mp h
  obtain ⟨⟨w,x⟩,hy,rfl⟩:=UP.mp hl
  have hw:=(R.wy w (Va hy).1).1
  have hx:=(Va hy).2
  rcases Vu.mp he' with h | h
  ·obtain ⟨z,hz,rfl⟩:=UP.mp h
   have hz1:z.1∈x.ca:=List.fst_mem_of_mem_zipIdx hz
   refine ⟨E2 _ (by split<;>simp),?_,hw⟩
   unfold Pn.bG at hx
   rw[b5] at hx
   obtain ⟨⟨w',k⟩,hk,rfl⟩:=UP.mp hx
   rcases Vu.mp (show z.1∈k.cm++((p.aL st).filter λx=>decide (x.1=w'.nm)).map (·.2) from hz1) with h | h
   ·exact (R.wz k (Va hk).2).1 _ (XB _ h)
   ·obtain ⟨s,hs,e⟩:=UP.mp h
    rw[← e]
    exact (R.se s (VM.mp hs).1).2
  ·obtain ⟨l,hl,rfl⟩:=UP.mp h
   exact ⟨E2 _ (by split<;>simp),(R.ou l (Xj.mpr ⟨x,hx,hl⟩)).1,hw⟩
theorem cR.nx {p:Pn}{m:Int}{n:Nat}{st:St'}(I:cR p m n st):∀ x∈st.ss,0<=x.nx/\x.nx<=60*n:=by
 intro x hx
 obtain ⟨i,hi,e⟩:=Xc hx
 have h1:i < p.ss.length:=by rw[← I.ls];exact hi
 have:(p.ss[i],st.ss[i])∈UW p.ss st.ss:=by
  rw[← ZV (h:=by simp;omega)];exact WH ..
 have h:=I.ss _ this
 rw[← e]
 exact ⟨h.n0,h.n1⟩
abbrev Lt.key (l:Lt):Str×Int:=(l.nm,l.nu)
def cK (k:Str×Int)(ls:List Lt):Nat:=(ls.map Lt.key).count k
theorem gN (k:Str×Int)(a b:List Lt):cK k (a++b)=cK k a+cK k b:=by unfold cK;rw[Vq,WL]
theorem oP {α:Type}(k:Str×Int)(f:α->List Lt):∀ xs:List α,cK k (xs.flatMap f)=(xs.map λx=>cK k (f x)).sum
 | []=>rfl
 | x::r=>by rw[W7,gN,oP k f r];rfl
theorem Cp (k:Str×Int)(h:Int)(l:List Lt):cK k (l.map (·.kR h))=cK k l:=by unfold cK;rw[UR];rfl
theorem GK (k:Str×Int)(q:Lt->Bool):∀ l:List Lt,cK k (l.filter q)+cK k (l.filter λx=>!q x)=cK k l
 | []=>rfl
 | x::r=>by
  have ih:=GK k q r
  unfold cK at *
  by_cases h1:q x<;>simp[h1,WR] at ih ⊢ <;> omega
theorem K6 {k:Str×Int}{a b:List Lt}(h:a.Perm b):cK k a=cK k b:=(h.map Lt.key).count_eq k
theorem Kq (w:Wy)(x:Lt)(n:Nat):(kx w x n).key=x.key:=by
 unfold kx
 split
 ·rfl
 ·split<;>rfl
theorem zA (w:Wy)(k:Str×Int):∀ (ys a b:List Lt),cK k (ys.foldl (cH w) (a,b)).1+cK k (ys.foldl (cH w) (a,b)).2=cK k a+cK k b+cK k ys
 | [],a,b=>rfl
 | y::r,a,b=>by
  have e:cK k (y::r)=cK k [y]+cK k r:=gN k [y] r
  rw[WD,e]
  by_cases h:w.rm<=(a.length:Int)
  ·rw[jW h,zA w k r a (b++[y]),gN];omega
  ·rw[tF h,zA w k r _ b,gN]
   have:cK k [kx w y a.length]=cK k [y]:=by unfold cK;rw[UT,UT,Kq]
   omega
theorem qJ (w:Wy)(ns:List Str)(s:Ws)(se:List (Str×Lt))(k:Str×Int):cK k (pass w ns s se).lo+cK k (pass w ns s se).ou+cK k (pass w ns s se).st=cK k (pass w ns s se).ca+cK k s.st:=by
 have h1:=zA w k (pass w ns s se).ca s.st []
 have h2:=K6 (k:=k) (gu w ns (tk w s.st (pass w ns s se).ca).1 s.la)
 rw[gN] at h2
 have e1:(pass w ns s se).lo=(tk w s.st (pass w ns s se).ca).2:=rfl
 have e2:(pass w ns s se).ou=(eB w ns (tk w s.st (pass w ns s se).ca).1 s.la).1:=rfl
 have e3:(pass w ns s se).st=(eB w ns (tk w s.st (pass w ns s se).ca).1 s.la).2.1:=rfl
 rw[e1,e2,e3]
 unfold tk at *
 have:cK k []=0:=rfl
 omega
def St'.fly (st:St')(k:Str×Int):Nat:=(st.ws.map λw=>cK k (w.cm++w.st)).sum
theorem KP (k:Str×Int){κ:Type} [DecidableEq κ] (f:Lt->κ){ks:List κ}(nd:ks.Nodup)(ls:List Lt):(ks.map λj=>cK k (ls.filter λl=>decide (f l=j))).sum<=cK k ls:=by
 have e:∀ xs:List Lt,cK k xs=(xs.filter λl=>decide (l.key=k)).length:=λxs=>by
  unfold cK
  induction xs with
  | nil=>rfl
  | cons a r ih=>by_cases h:a.key=k<;>simp[WR,h,ih]
 have h:=split_le f nd (ls.filter λl=>decide (l.key=k))
 rw[e ls]
 refine VA (Z5 ?_) h
 congr 1
 refine Vf λj _=>?_
 rw[e,mK]
def Wt.tot (x:Wt)(k:Str×Int):Nat:=cK k x.lo+cK k x.ou+cK k x.st
theorem oZ {p:Pn}{st:St'}(nd:p.wn.Nodup)(lw:st.ws.length=p.ws.length)(k:Str×Int):((p.bG st).map λx=>x.tot k).sum<=st.fly k+cK k ((p.aL st).map (·.2)):=by
 generalize hZ:UW p.ws st.ws=Z
 have z1:Z.map (·.1)=p.ws:=by rw[← hZ];exact lZ (by omega)
 have z2:Z.map (·.2)=st.ws:=by rw[← hZ];exact oM (by omega)
 let P:Wy×Ws->Wt:=λy=>pass y.1 p.sn y.2 (p.aL st)
 have ew:p.bG st=Z.map P:=by unfold Pn.bG;rw[b5,hZ]
 have e3:(Z.map λy=>cK k (P y).lo).sum+(Z.map λy=>cK k (P y).ou).sum+(Z.map λy=>cK k (P y).st).sum=(Z.map λy=>cK k (P y).ca).sum+(Z.map λy=>cK k y.2.st).sum:=by
  rw[← aX,← aX,← aX]
  congr 1
  exact Vf λy _=>qJ y.1 p.sn y.2 (p.aL st) k
 have e4:(Z.map λy=>cK k (P y).ca).sum<=(Z.map λy=>cK k y.2.cm).sum+cK k ((p.aL st).map (·.2)):=by
  have:(Z.map λy=>cK k (P y).ca)=Z.map λy=>cK k y.2.cm+cK k (((p.aL st).filter λx=>decide (x.1=y.1.nm)).map (·.2)):=by
   refine Vf λy _=>?_
   show cK k (y.2.cm++_)=_
   rw[gN]
  rw[this,aX]
  have h2:(Z.map λy=>cK k (((p.aL st).filter λx=>decide (x.1=y.1.nm)).map (·.2))).sum<=cK k ((p.aL st).map (·.2)):=by
   have e:∀ xs:List (Str×Lt),cK k (xs.map (·.2))=(xs.filter λx=>decide (x.2.key=k)).length:=λxs=>by
    unfold cK
    induction xs with
    | nil=>rfl
    | cons a r ih=>by_cases h:a.2.key=k<;>simp[WR,h] at ih ⊢ <;> omega
   have h:=split_le (f:=λx:Str×Lt=>x.1) nd ((p.aL st).filter λx=>decide (x.2.key=k))
   rw[e]
   refine VA (Z5 ?_) h
   unfold Pn.wn
   rw[← z1,UR,UR]
   congr 1
   refine Vf λy _=>?_
   rw[e,mK]
   rfl
  omega
 have e5:st.fly k=(Z.map λy=>cK k y.2.cm).sum+(Z.map λy=>cK k y.2.st).sum:=by
  unfold St'.fly
  rw[← z2,UR,← aX]
  congr 1
  exact Vf λy _=>gN ..
 have e0:((p.bG st).map λx=>x.tot k).sum=(Z.map λy=>cK k (P y).lo).sum+(Z.map λy=>cK k (P y).ou).sum+(Z.map λy=>cK k (P y).st).sum:=by
  rw[ew,UR,← aX,← aX]
  rfl
 omega
theorem El {p:Pn}{st:St'}(nd:p.wn.Nodup)(lw:st.ws.length=p.ws.length)(k:Str×Int) :
  (p.step st).fly k+cK k (p.taken st)+cK k (p.br st)<=st.fly k+cK k ((p.aL st).map (·.2)):=by
 generalize hZ:UW p.ws st.ws=Z
 have z1:Z.map (·.1)=p.ws:=by rw[← hZ];exact lZ (by omega)
 have z2:Z.map (·.2)=st.ws:=by rw[← hZ];exact oM (by omega)
 let P:Wy×Ws->Wt:=λy=>pass y.1 p.sn y.2 (p.aL st)
 have ew:p.bG st=Z.map P:=by unfold Pn.bG;rw[b5,hZ]
 have el:cK k (p.br st)=(Z.map λy=>cK k (P y).lo).sum:=by unfold Pn.br;rw[oP,ew,UR];rfl
 have eo:cK k (p.out st)=(Z.map λy=>cK k (P y).ou).sum:=by unfold Pn.out;rw[oP,ew,UR];rfl
 have e0:((p.bG st).map λx=>x.tot k).sum=(Z.map λy=>cK k (P y).lo).sum+(Z.map λy=>cK k (P y).ou).sum+(Z.map λy=>cK k (P y).st).sum:=by
  rw[ew,UR,← aX,← aX]
  rfl
 have e1:=oZ nd lw k
 have e6:(p.step st).fly k=(Z.map λy=>cK k ((p.out st).filter λl=>decide (cN p.ss l=some y.1.nm))).sum+(Z.map λy=>cK k (P y).st).sum:=by
  unfold St'.fly Pn.step
  simp only
  rw[b5,ew,← hZ,h9,hZ,UR,UR,← aX]
  congr 1
  refine Vf λy _=>?_
  show cK k (((p.out st).filter λl=>decide (cN p.ss l=some y.1.nm)).map (·.kR 1)++(P y).st.map (·.kR 0))=_
  rw[gN,Cp,Cp]
 have e7:(Z.map λy=>cK k ((p.out st).filter λl=>decide (cN p.ss l=some y.1.nm))).sum<=cK k ((p.out st).filter λl=>!decide (cN p.ss l=none)):=by
  have nd2:(p.wn.map some).Nodup:=Zr _ (λa b (h:a≠b) (z:some a=some b)=>h (Vt z)) nd
  have h2:=KP k (cN p.ss) nd2 ((p.out st).filter λl=>!decide (cN p.ss l=none))
  refine VA (Z5 ?_) h2
  unfold Pn.wn
  rw[← z1,UR,UR,UR]
  congr 1
  refine Vf λy _=>?_
  show cK k _=cK k _
  rw[Xp]
  congr 2
  funext x
  cases h:cN p.ss x<;>simp[h]
 have e8:=GK k (λl=>decide (cN p.ss l=none)) (p.out st)
 have e9:cK k (p.taken st)=cK k ((p.out st).filter λl=>decide (cN p.ss l=none)):=rfl
 omega
theorem vV {α β:Type}(f:α->β->Nat)(ys:List β):∀ xs:List α,(xs.map λx=>(ys.map λy=>f x y).sum).sum=(ys.map λy=>(xs.map λx=>f x y).sum).sum
 | []=>by
  have:∀ l:List β,(l.map λ_=>0).sum=0:=λl=>by induction l<;>simp_all
  simpa using (this ys).symm
 | a::r=>by
  rw[UT];rw[VE]
  simp only[UT,VE,XS]
  rw[vV f ys r,← aX]
theorem yJ (k:Str×Int)(t:Nat):∀ zs:List (Sn×List Int),cK k ((zs.filterMap (cC t)).map (·.2))=(zs.map λy=>if y.1.nm=k.1/\y.2[t]? = some k.2 then 1 else 0).sum
 | []=>rfl
 | y::r=>by
  have ih:=yJ k t r
  unfold cK at *
  rw[WS,UT,VE,← ih]
  unfold cC
  cases e:y.2[t]? with
  | none=>simp
  | some n=>
   simp only[zai,UT,WR]
   by_cases h:y.1.nm=k.1/\n=k.2
   ·obtain ⟨k1,k2⟩:=k
    obtain ⟨rfl,rfl⟩:=h
    simp;omega
   ·have:¬ ((y.1.nm,n)=k):=λz=>h (by rw[← z];exact ⟨rfl,rfl⟩)
    have h':¬ (y.1.nm=k.1/\some n=some k.2):=λz=>h ⟨z.1,Vt z.2⟩
    rw[if_neg h']
    simp[this]
theorem G7 (i:Int):∀ (ns:List Int) (L:Nat),((Vd L).map λt=>if ns[t]? = some i then 1 else 0).sum<=ns.count i
 | [],L=>by
  have:∀ l:List Nat,(l.map λ_=>0).sum=0:=λl=>by induction l<;>simp_all
  simpa using this (Vd L)
 | a::r,0=>by simp
 | a::r,L+1=>by
  have ih:=G7 i r L
  rw[Yv,UT,VE]
  rw[UR]
  have e:((Vd L).map ((λt=>if (a::r)[t]? = some i then 1 else 0) ∘ Nat.succ))=(Vd L).map λt=>if r[t]? = some i then 1 else 0:=Vf λt ht=>by simp
  rw[e,WR]
  by_cases h:a=i<;>simp[h]<;>omega
theorem Cz {ss:List Sn}{ns:List (List Int)}(nd:(ss.map Sn.nm).Nodup){s:Sn}{n:List Int}(h:(s,n)∈UW ss ns)(i:Int):cK (s.nm,i) ((lV ss ns).map (·.2))<=n.count i:=by
 rw[jG,zb3,oP]
 have e:((Vd (cO ns)).map λt=>cK (s.nm,i) (((UW ss ns).filterMap (cC t)).map (·.2)))=(Vd (cO ns)).map λt=>((UW ss ns).map λy=>if y.1.nm=s.nm/\y.2[t]? = some i then 1 else 0).sum:=Vf λt ht=>yJ (s.nm,i) t _
 rw[e,vV]
 have one:∀ zs:List (Sn×List Int),(zs.map λy=>y.1.nm).Nodup->(s,n)∈zs->(zs.map λy=>((Vd (cO ns)).map λt=>if y.1.nm=s.nm/\y.2[t]? = some i then 1 else 0).sum).sum<=n.count i:=λzs=>by
  have zero:∀ (y:Sn×List Int),y.1.nm≠s.nm->((Vd (cO ns)).map λt=>if y.1.nm=s.nm/\y.2[t]? = some i then 1 else 0).sum=0:=λy hy=>by
   have:∀ l:List Nat,(l.map λt=>if y.1.nm=s.nm/\y.2[t]? = some i then 1 else 0).sum=0:=λl=>by induction l<;>simp_all
   exact this _
  induction zs with
  | nil=>intro _ h;cases h
  | cons y r ih=>
   intro nd h
   rw[UT] at nd
   have ⟨n1,n2⟩:=VN.mp nd
   rw[UT];rw[VE]
   rcases UZ.mp h with h | h
   ·have h0:(r.map λy=>((Vd (cO ns)).map λt=>if y.1.nm=s.nm/\y.2[t]? = some i then 1 else 0).sum).sum=0:=by
     have:∀ l:List (Sn×List Int),(∀ y∈l,y.1.nm≠s.nm)->(l.map λy=>((Vd (cO ns)).map λt=>if y.1.nm=s.nm/\y.2[t]? = some i then 1 else 0).sum).sum=0:=λl=>by
      induction l with
      | nil=>intro _;rfl
      | cons a l ih=>intro hl;rw[UT,VE,zero a (hl a U0),ih λy hy=>hl y (U7 _ hy)]
     refine this r λy' hy' e=>n1 ?_
     rw[← h]
     exact UP.mpr ⟨y',hy',e⟩
    rw[h0,← h]
    have:=G7 i n (cO ns)
    simpa using this
   ·have hy:y.1.nm≠s.nm:=λe=>n1 (by rw[e];exact UP.mpr ⟨(s,n),h,rfl⟩)
    rw[zero y hy]
    have:=ih n2 h
    omega
 refine one _ ?_ h
 have:(UW ss ns).map (λy=>y.1.nm)=((UW ss ns).map (·.1)).map Sn.nm:=by rw[UR];rfl
 rw[this]
 exact nd.sublist (((oI ss ns).sublist).map Sn.nm)
theorem KH (a i:Int)(n:Nat):(rgI a n).count i=if a<=i/\i < a+n then 1 else 0:=by
 unfold rgI
 induction n with
 | zero=>rw[if_neg (by omega)];rfl
 | succ n ih=>
  rw[X5,Vq,WL,ih]
  show _+zcF i [a+(n:Int)]=_
  rw[List.count_singleton]
  by_cases h:a+(n:Int)=i
  ·rw[if_neg (by omega),if_pos (by simpa using h),if_pos (by omega)]
  ·rw[if_neg (c:=(a+(n:Int) == i)=true) (by simpa using h)]
   by_cases h2:a<=i/\i < a+(n:Int)
   ·rw[if_pos h2,if_pos (by omega)]
   ·rw[if_neg h2,if_neg (by omega)]
theorem tw (i:Int)(xs:List Int):(eK xs).count i=xs.count i:=(kn xs).count_eq i
theorem Ep (g:Int)(s:Sn)(x:Ss)(u:Int)(hl:∀ i,x.lf=some i->0<=i)(i:Int):(x.bt g s u).2.count i+(x.bt g s u).1.ag.count i+(x.bt g s u).1.lo.count i=x.ag.count i+x.lo.count i+(if x.nx<=i/\i < (x.bt g s u).1.nx then 1 else 0)/\x.nx<=(x.bt g s u).1.nx:=by
 unfold Ss.bt
 split
 ·generalize (max 0 ((s.rl.beh g x.W x.S x.hd).1 / g - u)).toNat=m
  unfold Ss.fill Ss.rdy
  simp only
  have tl:((eK (x.ag++x.lo)).take m).length<=m:=by simp;omega
  generalize hc:jc x.lf ((m:Int) - (((eK (x.ag++x.lo)).take m).length:Int))=c
  have c0:0<=c:=by
   rw[← hc]
   unfold jc
   cases e:x.lf with
   | none=>simp only;omega
   | some l=>have:=hl l e;simp only;omega
  have e1:=tw i (x.ag++x.lo)
  rw[WL] at e1
  have e2:((eK (x.ag++x.lo)).take m).count i+((eK (x.ag++x.lo)).drop ((eK (x.ag++x.lo)).take m).length).count i=(eK (x.ag++x.lo)).count i:=by
   rw[← WL]
   congr 1
   rw[XO]
   by_cases h:m<=(eK (x.ag++x.lo)).length
   ·rw[zaf h,YD]
   ·rw[ZL (by omega),Xn (by omega),WG,Vk]
  rw[WL,KH,V5 c0]
  have e3:([]:List Int).count i=0:=rfl
  refine ⟨by omega,by omega⟩
 ·refine ⟨?_,Vy _⟩
  have e3:([]:List Int).count i=0:=rfl
  show ([]:List Int).count i+x.ag.count i+x.lo.count i=x.ag.count i+x.lo.count i+(if x.nx<=i/\i < x.nx then 1 else 0)
  rw[if_neg (by omega)]
  omega
def St'.One (st:St'):Prop:=∀ x∈st.ss,∀ i:Int,st.fly (x.nm,i)+x.ag.count i+x.lo.count i<=if 0<=i/\i < x.nx then 1 else 0
theorem HI {p:Pn}{m:Int}{n:Nat}{st:St'}(I:cR p m n st)(hn:n<=10000)(O:st.One):(p.step st).One:=by
 intro x' hx' i
 unfold Pn.step at hx'
 simp only at hx'
 rw[b5] at hx'
 obtain ⟨⟨s,b⟩,hb,rfl⟩:=UP.mp hx'
 obtain ⟨x,hx,eb⟩:=I.zb (y:=(s,b)) hb
 simp only at eb hx
 have nm:x.nm=s.nm:=I.znm hx
 have X:=O x (Va hx).2 i
 have B:=Ep p.g s x (st.und x.nm) (I.ss _ hx).l i
 have N:=(I.cons hn hb).1
 have F:=El (p:=p) (st:=st) I.K.wd I.lw (s.nm,i)
 have S:cK (s.nm,i) ((p.aL st).map (·.2))<=b.2.count i:=by
  unfold Pn.aL
  refine Cz I.sd ?_ i
  rw[Xo]
  exact UP.mpr ⟨(s,b),hb,rfl⟩
 rw[← eb] at B
 have n0:=(I.ss _ hx).n0
 simp only at n0
 have L:((own s.nm (p.br st)).map Lt.nu).count i=cK (s.nm,i) (p.br st):=by
  unfold cK own
  generalize p.br st=ls
  induction ls with
  | nil=>rfl
  | cons a r ih=>
   by_cases h:a.nm=s.nm
   ·by_cases h2:a.nu=i<;>simp[h,h2,WR,ih]
   ·have:¬ ((a.nm,a.nu)=(s.nm,i)):=λz=>h (by injection z)
    simp[h,this,WR,ih]
 show (p.step st).fly (b.1.nm,i)+b.1.ag.count i+(eK (b.1.lo++(own s.nm (p.br st)).map Lt.nu)).count i<=if 0<=i/\i < b.1.nx then 1 else 0
 rw[N,tw,WL,L]
 rw[nm] at X
 obtain ⟨B1,B2⟩:=B
 by_cases h1:0<=i/\i < x.nx
 ·rw[if_pos h1] at X
  rw[if_neg (by omega)] at B1
  rw[if_pos (by omega)]
  omega
 ·rw[if_neg h1] at X
  by_cases h2:x.nx<=i/\i < b.1.nx
  ·rw[if_pos h2] at B1
   rw[if_pos (by omega)]
   omega
  ·rw[if_neg h2] at B1
   rw[if_neg (by omega)]
   omega
theorem CC {w:Wy}:∀ {ys a b:List Lt},w.rm<=(a.length:Int)->ys.foldl (cH w) (a,b)=(a,b++ys)
 | [],a,b,_=>by simp
 | y::r,a,b,h=>by
  rw[WD,jW h,CC h,Zs]
  rfl
theorem E8 (w:Wy):∀ ys a b:List Lt,∃ k,k<=ys.length/\(ys.foldl (cH w) (a,b)).2=b++ys.drop k
 | [],a,b=>⟨0,U2 _,by simp⟩
 | y::r,a,b=>by
  by_cases h:w.rm<=(a.length:Int)
  ·exact ⟨0,Wj _,by rw[CC h];rfl⟩
  ·rw[WD,tF h]
   obtain ⟨k,hk,e⟩:=E8 w r (a++[kx w y a.length]) b
   exact ⟨k+1,by simpa using hk,e⟩
abbrev evI (w:Wy)(l:Lt):Ev:=⟨OF "in", l.nm,l.nu,w.nm⟩
abbrev evL (w:Wy)(l:Lt):Ev:=⟨OF "lost", l.nm,l.nu,w.nm⟩
theorem tL (ss:List Sn)(w:Wy)(ns:List Str)(k:Ws)(se:List (Str×Lt)):∃ c,(pass w ns k se).lo=(pass w ns k se).ca.drop c/\evs ss w (pass w ns k se)=((pass w ns k se).ca.take c).map (evI w)++(pass w ns k se).lo.map (evL w)++(pass w ns k se).ou.map (evB ss w):=by
 obtain ⟨c,hc,e⟩:=E8 w (pass w ns k se).ca k.st []
 have e':(pass w ns k se).lo=(pass w ns k se).ca.drop c:=by
  have:(pass w ns k se).lo=(tk w k.st (pass w ns k se).ca).2:=rfl
  rw[this];unfold tk;rw[e];rfl
 refine ⟨c,e',?_⟩
 generalize pass w ns k se=x at *
 unfold evs
 congr 1
 rw[e']
 have len:(x.ca.length:Int) - (x.ca.drop c).length=c:=by rw[XR];omega
 rw[len]
 refine List.ext_getElem (by simp;omega) λj h1 h2=>?_
 simp only[UL,zbo] at h1
 rw[ZW,List.getElem_zipIdx]
 simp only[Nat.zero_add]
 by_cases h:j < c
 ·rw[List.getElem_append_left (by simp;omega),ZW,List.getElem_take,if_pos (by omega)]
 ·rw[List.getElem_append_right (by simp;omega),ZW,List.getElem_drop,if_neg (by omega)]
  congr 1<;>(congr 1;congr 1;simp;omega)
def Ev.fin (e:Ev):Prop:=e.wd=OF "lost" ∨ e.wd=OF "taken"
abbrev Ev.key (e:Ev):Str×Int:=(e.nm,e.nu)
theorem jA {k:Str×Int}{ls:List Lt}{l:Lt}(h:l∈ls)(e:l.key=k):1<=cK k ls:=by
 unfold cK
 exact zbp.mpr (by rw[← e];exact UP.mpr ⟨l,h,rfl⟩)
theorem Js {p:Pn}{w:Wy}{k:Ws}{se:List (Str×Lt)}{e:Ev}(h:e∈evs p.ss w (pass w p.sn k se)):1<=(pass w p.sn k se).tot e.key:=by
 obtain ⟨c,_,q⟩:=tL p.ss w p.sn k se
 rw[q] at h
 have t:=qJ w p.sn k se e.key
 unfold Wt.tot
 rcases Vu.mp h with (h | h)
 ·rcases Vu.mp h with (h | h)
  ·obtain ⟨l,hl,rfl⟩:=UP.mp h
   have:=jA (k:=(evI w l).key) (zaI hl) rfl
   omega
  ·obtain ⟨l,hl,rfl⟩:=UP.mp h
   have:=jA (k:=l.key) hl rfl
   show 1<=cK l.key _+_+_
   omega
 ·obtain ⟨l,hl,rfl⟩:=UP.mp h
  have:=jA (k:=l.key) hl rfl
  show 1<=_+cK l.key _+_
  omega
def Pn.told (p:Pn)(st:St'):List Ev:=(VH (λw x=>L3.evs p.ss w x) p.ws (p.bG st)).flatten
theorem JJ {p:Pn}{st:St'}{w:Wy}{k:Ws}(h:(w,k)∈UW p.ws st.ws):pass w p.sn k (p.aL st)∈p.bG st:=by
 unfold Pn.bG
 rw[b5]
 exact UP.mpr ⟨(w,k),h,rfl⟩
theorem ub {p:Pn}{m:Int}{n:Nat}{st:St'}(I:cR p m n st)(hn:n<=10000)(O:st.One){s:Sn}{x:Ss}(hx:(s,x)∈UW p.ss st.ss)(i:Int) :
  st.fly (s.nm,i)+(x.bt p.g s (st.und x.nm)).2.count i+(x.bt p.g s (st.und x.nm)).1.ag.count i+(x.bt p.g s (st.und x.nm)).1.lo.count i<=(if 0<=i/\i < (x.bt p.g s (st.und x.nm)).1.nx then 1 else 0)/\cK (s.nm,i) ((p.aL st).map (·.2))<=(x.bt p.g s (st.und x.nm)).2.count i:=by
 have nm:x.nm=s.nm:=I.znm hx
 have X:=O x (Va hx).2 i
 obtain ⟨B1,B2⟩:=Ep p.g s x (st.und x.nm) (I.ss _ hx).l i
 have n0:0<=x.nx:=(I.ss _ hx).n0
 rw[nm] at X
 have hb:(s,x.bt p.g s (st.und x.nm))∈UW p.ss (p.bE st):=by
  unfold Pn.bE
  rw[b5,h9 (λy:Sn×Ss=>y.2.bt p.g y.1 (st.und y.2.nm))]
  exact UP.mpr ⟨(s,x),hx,rfl⟩
 refine ⟨?_,?_⟩
 ·generalize x.bt p.g s (st.und x.nm)=b at *
  by_cases h1:0<=i/\i < x.nx
  ·rw[if_pos h1] at X
   rw[if_neg (by omega)] at B1
   rw[if_pos (by omega)]
   omega
  ·rw[if_neg h1] at X
   by_cases h2:x.nx<=i/\i < b.1.nx
   ·rw[if_pos h2] at B1
    rw[if_pos (by omega)]
    omega
   ·rw[if_neg h2] at B1
    rw[if_neg (by omega)]
    omega
 ·unfold Pn.aL
  refine Cz I.sd ?_ i
  rw[Xo]
  exact UP.mpr ⟨_,hb,rfl⟩
theorem mG {s:Sn}{n:List Int}(t:Nat):∀ {zs:List (Sn×List Int)},(zs.map λy=>y.1.nm).Nodup->(s,n)∈zs->(zs.filterMap (cC t)).filter (λx=>decide (x.2.nm=s.nm))=(cC t (s,n)).toList
 | y::r,nd,h=>by
  rw[UT] at nd
  have ⟨n1,n2⟩:=VN.mp nd
  have nmT:∀ (y:Sn×List Int) z,cC t y=some z->z.2.nm=y.1.nm:=λy z e=>by
   unfold cC at e
   cases q:y.2[t]? with
   | none=>rw[q] at e;cases e
   | some j=>rw[q] at e;cases e;rfl
  have none_of:∀ zs:List (Sn×List Int),(∀ y∈zs,y.1.nm≠s.nm)->(zs.filterMap (cC t)).filter (λx=>decide (x.2.nm=s.nm))=[]:=λzs hz=>by
   refine zac.mpr λz hz'=>?_
   obtain ⟨y,hy,e⟩:=X7.mp hz'
   rw[nmT y z e]
   simpa using hz y hy
  rw[WS]
  rcases UZ.mp h with h | h
  ·subst h
   have h0:=none_of r λy hy e=>n1 (UP.mpr ⟨y,hy,e⟩)
   cases e:cC t (s,n) with
   | none=>simpa using h0
   | some z=>
    have:=nmT _ z e
    simp only[VQ,this,decide_true,if_true,h0]
    rfl
  ·have hy:y.1.nm≠s.nm:=λe=>n1 (by rw[e];exact UP.mpr ⟨(s,n),h,rfl⟩)
   cases e:cC t y with
   | none=>exact mG t n2 h
   | some z=>
    have:=nmT _ z e
    simp only[VQ,this,hy,decide_false]
    exact mG t n2 h
theorem vX {α β:Type}(f:α->β):∀ (ns:List α) (L:Nat),ns.length<=L->(Vd L).flatMap (λt=>(ns[t]?.map f).toList)=ns.map f
 | [],L,_=>by simp
 | a::r,0,h=>by simp at h
 | a::r,L+1,h=>by
  rw[Yv]
  rw[W7,zb2]
  have:=vX f r L (by simpa using h)
  simpa using this
theorem De {ss:List Sn}{ns:List (List Int)}(nd:(ss.map Sn.nm).Nodup){s:Sn}{n:List Int}(h:(s,n)∈UW ss ns):(lV ss ns).filter (λx=>decide (x.2.nm=s.nm))=n.map λj=>(s.rd.headD (OF ""),⟨s.nm,j,0,0,0⟩):=by
 have nd':((UW ss ns).map λy=>y.1.nm).Nodup:=by
  have:(UW ss ns).map (λy=>y.1.nm)=((UW ss ns).map (·.1)).map Sn.nm:=by rw[UR];rfl
  rw[this]
  exact nd.sublist (((oI ss ns).sublist).map Sn.nm)
 rw[jG,List.filter_flatMap]
 rw[← vX (λj=>(s.rd.headD (OF ""),(⟨s.nm,j,0,0,0⟩:Lt))) n (cO ns) (Cc (Va h).2)]
 congr 1
 funext t
 exact mG t nd' h
theorem Mh (p:Pn):p.beg.One:=by
 intro x hx i
 obtain ⟨s,hs,rfl⟩:=UP.mp (show x∈p.ss.map (Sn.beg p.g) from hx)
 have:p.beg.fly (s.nm,i)=0:=by
  unfold St'.fly Pn.beg
  rw[UR]
  have:∀ l:List Wy,(l.map λ_=>0).sum=0:=λl=>by induction l<;>simp_all
  exact this p.ws
 show p.beg.fly (s.nm,i)+0+0<=_
 rw[this]
 exact Wj _
theorem Pn.oR {p:Pn}{m:Int}(K:p.Ok m):∀ n:Nat,n<=10000->(p.run n).One
 | 0,_=>Mh p
 | n+1,h=>HI (p.d9 K n (by omega)) (by omega) (p.oR K n (by omega))
abbrev evS (s:Sn)(j:Int):Ev:=⟨OF "sent", s.nm,j,s.rd.headD (OF "")⟩
theorem Km {p:Pn}{m:Int}{n:Nat}{st:St'}(I:cR p m n st){s:Sn}{x:Ss}(hx:(s,x)∈UW p.ss st.ss) :
  (p.evs st).filter (λe=>decide (e.nm=s.nm))=(x.bt p.g s (st.und x.nm)).2.map (evS s)++(p.told st).filter λe=>decide (e.nm=s.nm):=by
 have hb:(s,(x.bt p.g s (st.und x.nm)).2)∈UW p.ss ((p.bE st).map (·.2)):=by
  unfold Pn.bE
  rw[b5,Xo,h9 (λy:Sn×Ss=>y.2.bt p.g y.1 (st.und y.2.nm)),UR]
  exact UP.mpr ⟨(s,x),hx,rfl⟩
 have h:=De I.sd hb
 unfold Pn.evs
 rw[W0]
 congr 1
 rw[Y2]
 have:(p.aL st).filter ((λe:Ev=>decide (e.nm=s.nm)) ∘ λx=>(⟨OF "sent", x.2.nm,x.2.nu,x.1⟩:Ev))=(p.aL st).filter λx=>decide (x.2.nm=s.nm):=rfl
 rw[this]
 show ((lV p.ss ((p.bE st).map (·.2))).filter _).map _=_
 rw[h,UR]
 rfl
theorem fT {k:Str×Int}:∀ {ls:List Lt},cK k ls<=1->(ls.filter λl=>decide (l.key=k))=[]/\cK k ls=0∨∃ l∈ls,l.key=k/\(ls.filter λl=>decide (l.key=k))=[l]
 | [],_=>.inl ⟨rfl,rfl⟩
 | x::r,h=>by
  have e:cK k (x::r)=cK k [x]+cK k r:=gN k [x] r
  by_cases hx:x.key=k
  ·have h1:1<=cK k [x]:=jA U0 hx
   rcases fT (k:=k) (ls:=r) (by omega) with ⟨a,b⟩ | ⟨l,hl,hk,_⟩
   ·exact .inr ⟨x,U0,hx,by rw[VQ,if_pos (by simpa using hx),a]⟩
   ·have:=jA hl hk;omega
  ·have h0:cK k [x]=0:=by unfold cK;simp[hx]
   rcases fT (k:=k) (ls:=r) (by omega) with ⟨a,b⟩ | ⟨l,hl,hk,q⟩
   ·exact .inl ⟨by rw[VQ,if_neg (by simpa using hx),a],by omega⟩
   ·exact .inr ⟨l,U7 _ hl,hk,by rw[VQ,if_neg (by simpa using hx),q]⟩
theorem tZ {k:Str×Int}{ls:List Lt}(h:cK k ls=0):(ls.filter λl=>decide (l.key=k))=[]:=by
 rcases fT (k:=k) (ls:=ls) (by omega) with ⟨a,_⟩ | ⟨l,hl,hk,_⟩
 ·exact a
 ·have:=jA hl hk;omega
abbrev ofK (k:Str×Int)(es:List Ev):List Ev:=es.filter λe=>decide (e.key=k)
theorem vm (k:Str×Int)(f:Lt->Ev)(hf:∀ l,(f l).key=l.key)(ls:List Lt):ofK k (ls.map f)=(ls.filter λl=>decide (l.key=k)).map f:=by
 unfold ofK
 rw[Y2]
 congr 2
 funext l
 show decide ((f l).key=k)=_
 rw[hf]
inductive Wev (ss:List Sn) (w:Wy) (x:Wt) (k:Str×Int):List Ev->Prop
 | no:x.tot k=0->Wev ss w x k []
 | lO:cK k x.ca=0->cK k x.st=1->Wev ss w x k []
 | out (l:Lt):l∈x.ou->l.key=k->cK k x.ca=0->Wev ss w x k [evB ss w l]
 | inn (l:Lt):l∈x.ca->l.key=k->cK k x.st=1->Wev ss w x k [evI w l]
 | both (l z:Lt):l∈x.ca->l.key=k->z∈x.ou->z.key=k->Wev ss w x k [evI w l,evB ss w z]
 | br (l:Lt):l∈x.lo->l∈x.ca->l.key=k->Wev ss w x k [evL w l]
theorem wev {p:Pn}{w:Wy}{s:Ws}{se:List (Str×Lt)}{k:Str×Int}(h:(pass w p.sn s se).tot k<=1):Wev p.ss w (pass w p.sn s se) k (ofK k (evs p.ss w (pass w p.sn s se))):=by
 obtain ⟨c,el,e⟩:=tL p.ss w p.sn s se
 have pk:=qJ w p.sn s se k
 rw[e]
 generalize pass w p.sn s se=x at *
 have ec:cK k (x.ca.take c)+cK k x.lo=cK k x.ca:=by rw[el,← gN,YD]
 unfold Wt.tot at h
 have e2:ofK k ((x.ca.take c).map (evI w)++x.lo.map (evL w)++x.ou.map (evB p.ss w))=((x.ca.take c).filter λl=>decide (l.key=k)).map (evI w)++(x.lo.filter λl=>decide (l.key=k)).map (evL w)++(x.ou.filter λl=>decide (l.key=k)).map (evB p.ss w):=by
  unfold ofK
  rw[W0,W0]
  rw[show (zaH (λe:Ev=>decide (e.key=k)) ((x.ca.take c).map (evI w)))=_ from vm k (evI w) (λ_=>rfl) _,show (zaH (λe:Ev=>decide (e.key=k)) (x.lo.map (evL w)))=_ from vm k (evL w) (λ_=>rfl) _,show (zaH (λe:Ev=>decide (e.key=k)) (x.ou.map (evB p.ss w)))=_ from vm k (evB p.ss w) (λ_=>rfl) _]
 rw[e2]
 rcases fT (k:=k) (ls:=x.ca.take c) (by omega) with ⟨a1,b1⟩ | ⟨l1,h1,k1,q1⟩
 ·rcases fT (k:=k) (ls:=x.lo) (by omega) with ⟨a2,b2⟩ | ⟨l2,h2,k2,q2⟩
  ·rcases fT (k:=k) (ls:=x.ou) (by omega) with ⟨a3,b3⟩ | ⟨l3,h3,k3,q3⟩
   ·rw[a1,a2,a3]
    by_cases z:cK k x.st=0
    ·exact .no (by unfold Wt.tot;omega)
    ·exact .lO (by omega) (by omega)
   ·rw[a1,a2,q3]
    exact .out l3 h3 k3 (by omega)
  ·have:=jA h2 k2
   rw[a1,q2,tZ (k:=k) (ls:=x.ou) (by omega)]
   exact .br l2 h2 (by rw[el] at h2;exact List.mem_of_mem_drop h2) k2
 ·have:=jA h1 k1
  have m1:l1∈x.ca:=zaI h1
  rw[q1,tZ (k:=k) (ls:=x.lo) (by omega)]
  rcases fT (k:=k) (ls:=x.ou) (by omega) with ⟨a3,b3⟩ | ⟨l3,h3,k3,q3⟩
  ·rw[a3]
   exact .inn l1 m1 k1 (by omega)
  ·rw[q3]
   exact .both l1 l3 m1 k1 h3 k3
theorem wL {p:Pn}{st:St'}{k:Str×Int}(nd:p.wn.Nodup)(lw:st.ws.length=p.ws.length)(h:st.fly k+cK k ((p.aL st).map (·.2))<=1) :
  (ofK k (p.told st)=[]/\∀ y∈UW p.ws st.ws,(pass y.1 p.sn y.2 (p.aL st)).tot k=0)∨∃ y∈UW p.ws st.ws,(pass y.1 p.sn y.2 (p.aL st)).tot k=1/\ofK k (p.told st)=ofK k (evs p.ss y.1 (pass y.1 p.sn y.2 (p.aL st)))/\∀ z∈UW p.ws st.ws,1<=(pass z.1 p.sn z.2 (p.aL st)).tot k->z=y:=by
 have T:((p.bG st).map λx=>x.tot k).sum<=1:=VA (oZ nd lw k) h
 unfold Pn.told
 generalize hse:p.aL st=se
 have eW:p.bG st=VH (λw k=>pass w p.sn k se) p.ws st.ws:=by unfold Pn.bG;rw[hse]
 rw[eW] at T ⊢
 clear lw nd h
 generalize p.ws=ws at T ⊢
 generalize st.ws=ks at T ⊢
 induction ws generalizing ks with
 | nil=>exact .inl ⟨rfl,λ_ h=>nomatch h⟩
 | cons w ws ih=>
  cases ks with
  | nil=>exact .inl ⟨rfl,λ_ h=>nomatch h⟩
  | cons s ks=>
   simp only[List.zipWith_cons_cons,UT,VE,List.flatten_cons,List.zip_cons_cons] at T ⊢
   have app:∀ a b:List Ev,ofK k (a++b)=ofK k a++ofK k b:=λa b=>W0 ..
   rw[app]
   have nil0:(pass w p.sn s se).tot k=0->ofK k (evs p.ss w (pass w p.sn s se))=[]:=λh0=>by
    refine zac.mpr λe he hk=>?_
    have:=Js he
    rw[show e.key=k by simpa using hk] at this
    omega
   rcases ih ks (by omega) with ⟨a,b⟩ | ⟨y,hy,hy1,hy2,hy3⟩
   ·by_cases z:(pass w p.sn s se).tot k=0
    ·refine .inl ⟨by rw[nil0 z,a];rfl,λy hy=>?_⟩
     rcases UZ.mp hy with (e | hy)
     ·rw[e];exact z
     ·exact b y hy
    ·refine .inr ⟨(w,s),U0,by show (pass w p.sn s se).tot k=1;omega,by rw[a,Vk],λy hy hy1=>?_⟩
     rcases UZ.mp hy with (e | hy)
     ·exact e
     ·have:=b y hy;omega
   ·have l1:1<=((VH (λw k=>pass w p.sn k se) ws ks).map λx=>x.tot k).sum:=by
     rw[← hy1,b5]
     exact fX (f:=λx:Wt=>x.tot k) (UP.mpr ⟨y,hy,rfl⟩)
    have z:(pass w p.sn s se).tot k=0:=by omega
    refine .inr ⟨y,U7 _ hy,hy1,by rw[nil0 z,hy2];rfl,λv hv hv1=>?_⟩
    rcases UZ.mp hv with (e | hv)
    ·rw[e] at hv1
     have:(pass w p.sn s se).tot k=0:=z
     simp only at hv1
     omega
    ·exact hy3 v hv hv1
def St'.At (p:Pn)(st:St')(f:Ws->List Lt)(k:Str×Int)(w:Wy):Prop:=∃ ks,(w,ks)∈UW p.ws st.ws/\1<=cK k (f ks)
section
variable {p:Pn} {m:Int} {n:Nat} {s:Sn} {x:Ss} (K:p.Ok m) (hn:n<=1000) (hx:(s,x)∈UW p.ss (p.run n).ss)
include K hn hx
theorem Jo (i:Int):ofK (s.nm,i) (p.evs (p.run n))=(if i∈(x.bt p.g s ((p.run n).und x.nm)).2 then [evS s i] else [])++ofK (s.nm,i) (p.told (p.run n)):=by
 have I:=p.d9 K n (by omega)
 have F:=(ub I (by omega) (p.oR K n (by omega)) hx i).1
 have e:=Km I hx
 have sub:∀ es:List Ev,ofK (s.nm,i) es=ofK (s.nm,i) (es.filter λe=>decide (e.nm=s.nm)):=λes=>by
  unfold ofK
  rw[Xp]
  congr 1
  funext e
  by_cases h:e.nm=s.nm<;>simp[h]
 rw[sub (p.evs (p.run n)),e]
 have app:∀ a b:List Ev,ofK (s.nm,i) (a++b)=ofK (s.nm,i) a++ofK (s.nm,i) b:=λa b=>W0 ..
 rw[app,← sub]
 congr 1
 generalize (x.bt p.g s ((p.run n).und x.nm)).2=ns at F ⊢
 have c1:ns.count i<=1:=by split at F<;>omega
 clear F
 induction ns with
 | nil=>rfl
 | cons a r ih=>
  have ec:zcF i (a::r)=zcF i r+if (a == i)=true then 1 else 0:=WR
  have st:ofK (s.nm,i) ((a::r).map (evS s))=(if a=i then [evS s a] else [])++ofK (s.nm,i) (r.map (evS s)):=by
   unfold ofK
   rw[UT,VQ]
   by_cases h:a=i<;>simp[h]
  rw[st]
  by_cases h:a=i
  ·subst h
   have:a ∉ r:=λz=>by
    have:=zbp.mpr z
    rw[ec] at c1
    simp at c1
    omega
   rw[ih (by rw[ec] at c1;omega),if_pos rfl,if_neg this,if_pos U0]
   rfl
  ·rw[ih (by rw[ec] at c1;omega),if_neg h]
   by_cases z:i∈r
   ·rw[if_pos z,if_pos (U7 _ z)];rfl
   ·rw[if_neg z,if_neg (λy=>(UZ.mp y).elim (λq=>h q.symm) z)];rfl
theorem quiet {i:Int}(h0:(p.run n).fly (s.nm,i)=0)(h1:i ∉ (x.bt p.g s ((p.run n).und x.nm)).2):ofK (s.nm,i) (p.told (p.run n))=[]:=by
 have I:=p.d9 K n (by omega)
 have F:=(ub I (by omega) (p.oR K n (by omega)) hx i).2
 rw[List.count_eq_zero.mpr h1] at F
 have t:=oZ I.K.wd I.lw (s.nm,i)
 rcases wL (k:=(s.nm,i)) I.K.wd I.lw (by omega) with ⟨a,_⟩ | ⟨y,hy,hy1,_⟩
 ·exact a
 ·have:=fX (f:=λx:Wt=>x.tot (s.nm,i)) (JJ (w:=y.1) (k:=y.2) hy)
  omega
end
abbrev Row:=Nat×Str×Str
def Pn.f9 (p:Pn)(k:Str×Int)(n:Nat):List Row:=(Vd n).flatMap λt=>(ofK k (p.evs (p.run t))).map λe=>(t,e.wd,e.wy)
theorem ko (p:Pn)(k:Str×Int)(n:Nat):p.f9 k (n+1)=p.f9 k n++(ofK k (p.evs (p.run n))).map λe=>(n,e.wd,e.wy):=by
 unfold Pn.f9
 rw[X5,Wh]
 simp
section
variable {p:Pn} {m:Int} {n:Nat} {s:Sn} {x:Ss} (K:p.Ok m) (hn:n<=1000) (hx:(s,x)∈UW p.ss (p.run n).ss)
include K hn hx
end
section
open PySem PySem.Spec PyProof.Rows L2
end
section
open PySem PySem.Spec PyProof.Rows L2
section
variable {X:Cx} {a b c d:Ve} {ta tb tc td:TE} {Ta Tb Tc Td:ETr} {pos:Pos} {o1 o2 o3:CmpOp} {r1 r2 r3:L2.R2} {R1 R2 R3:DR2}
end
end
section
open PySem PySem.Spec PyProof.Rows L2
section
variable {X:Cx} {tg a b:Ve} {Ta Tb:ETr} {pos:Pos}
end
end
section
open PySem PySem.Spec PyProof.Rows L2
def tyO (μ:Mu):D->Option String
 | .obj a=>(match μ a with
  | some (.dct _)=>some "dict"
  | some (.lst _)=>some "list"
  | _=>none)
 | d=>tyD d
theorem L6 (K:UH):∀ c∈qA,zcu K (.type "dict") (.type c)=some (de "dict" c):=by
 intro c hc
 simp only[qA,UZ,Vr,or_false] at hc
 rcases hc with rfl | rfl | rfl | rfl | rfl | rfl<;>with_unfolding_all rfl
def Ph (K:UH):List V->Hp->VK->Prop:=λxs H Q=>M4 K xs H Q∨∃ a t c,xs=[.ref a,.ty c]/\((∃ ys,H a=some (.lst ys))/\t = "list" ∨ (∃ ys,H a=some (.dK ys))/\t = "dict")/\c∈qA/\Q (.bl (de t c)) H
theorem DA {X:Cx}:b6 X (.builtin "isinstance") (Ph X.K):=λpins s σ H xs us Q I rx h=>by
 rcases h with h | ⟨a,t,c,ex,ha,hc,q⟩
 ·exact Hm pins s σ H xs us Q I rx h
 subst ex
 cases rx with | @cons _ u _ _ r1 r2=>cases r2 with | cons r2 r3=>
 cases r3
 cases (show _=ZX c from r2)
 cases (show u=Vs a from r1)
 have fin:∀ tk,EP X pins σ Q (.bool (de t c)) { s with toks:=tk }:=λtk=>⟨.bl _,H,I.tok tk,rfl,q⟩
 rcases ha with ⟨⟨ys,ea⟩,rfl⟩ | ⟨⟨ys,ea⟩,rfl⟩
 ·obtain ⟨_,_,_,_,_,e⟩:=I.GW ea
  exact WN Zm I.kIn ⟨_,e,rfl⟩ (ur X.K "list" (by decide) c hc) (λz=>nomatch z) fin
 ·obtain ⟨_,_,_,_,o,es,ep,h1,h2,_⟩:=(show cW X.prog X.w H s.heap a (.dK ys) from I.hok a _ ea)
  exact WN PySem.W.kitx_dict I.kIn ⟨o,h1,h2.1⟩ (L6 X.K c hc) (λz=>nomatch z) fin
def cT (c:String):DR:=λx μ Q=>match tyO μ x with
 | some t=>Q (.bl (de t c)) μ
 | none=>False
theorem gh {X:Cx}{x y:Str}{p p2 pos:Pos}{c:String}{e:Ve}{Ta:ETr}(hg:Gl X x)(hm:X.mg x=none)(hv:Wc x=some (.builtin "isinstance"))(ha:LE X e Ta)(hg2:Gl X y)(hm2:X.mg y=none)(hv2:Wc y=some (.type c))(hc:c∈qA:=by decide)
  (hn:x ≠ "__name__" := by decide) (hdb:(x == ("__debug__" : Str))=false:=by decide) (hn2:y ≠ "__name__" := by decide) (hdb2:(y == ("__debug__" : Str))=false:=by decide)
  (h0:UX [.Name y p2] X.env=[(false,V8 (.Name y p2) X.env)]:=by rfl) (h1:UX (e::[.Name y p2]) X.env=(false,V8 e X.env)::UX [.Name y p2] X.env:=by rfl) (h2:(Wu pos (UX [.Name y p2] X.env)).any (·.1)=false:=by rfl) :
  LE X (.Call (.Name x p) [e,.Name y p2] [] pos) (TUn (cT c) Ta):=by
 obtain ⟨ta,pa,sa⟩:=ha.ex
 refine ⟨_,lM DA hg hm hv (eC pa (eC (CD hg2 hm2 hv2 (v:=.ty c) rfl hn2 hdb2) iI h0) h1) hn hdb h1 h2,λσ H ρ μ Q Q' rl h k=>sa σ H ρ μ _ _ rl h λv H1 d μ1 t1 m1 p1 h1=>?_⟩
 have h1':(match tyO μ1 d with | some t=>Q (.bl (de t c)) μ1 | none=>False):=h1
 cases p1 with
 | obj a=>
  cases e:μ1 a with
  | none=>simp only[tyO,e] at h1'
  | some o=>
   cases o with
   | lst ds=>
    simp only[tyO,e] at h1'
    obtain ⟨ys,ea,_⟩:=m1 a _ e
    exact .inr ⟨a,_,c,rfl,.inl ⟨⟨ys,ea⟩,rfl⟩,hc,k _ H1 _ μ1 t1 m1 (.bl _) h1'⟩
   | dcT ds=>simp only[tyO,e] at h1'
   | dct ds=>
    simp only[tyO,e] at h1'
    obtain ⟨ys,ea,_⟩:=m1 a _ e
    exact .inr ⟨a,_,c,rfl,.inr ⟨⟨ys,ea⟩,rfl⟩,hc,k _ H1 _ μ1 t1 m1 (.bl _) h1'⟩
 | non=>exact .inl ⟨_,_,_,c,rfl,.non,rfl,hc,k _ H1 _ μ1 t1 m1 (.bl _) h1'⟩
 | bl b=>exact .inl ⟨_,_,_,c,rfl,.bl b,rfl,hc,k _ H1 _ μ1 t1 m1 (.bl _) h1'⟩
 | int b=>exact .inl ⟨_,_,_,c,rfl,.int b,rfl,hc,k _ H1 _ μ1 t1 m1 (.bl _) h1'⟩
 | str b=>exact .inl ⟨_,_,_,c,rfl,.str b,rfl,hc,k _ H1 _ μ1 t1 m1 (.bl _) h1'⟩
 | ty b=>exact UO h1'
 | tup a l=>exact .inl ⟨_,_,_,c,rfl,.tup a l,rfl,hc,k _ H1 _ μ1 t1 m1 (.bl _) h1'⟩
 | ls a l=>exact .inl ⟨_,_,_,c,rfl,.ls a l,rfl,hc,k _ H1 _ μ1 t1 m1 (.bl _) h1'⟩
end
section
open PySem PySem.Spec PyProof.Rows L2
section
variable {X:Cx} {o i:Ve} {apos cpos:Pos}
end
end
section
open PySem PySem.Spec PyProof PyProof.Rows L2
section
variable {X:Cx} {o:Ve} {apos cpos pos p:Pos} {x:Str}
end
end
section
open PySem PySem.Spec PyProof.Rows L2
end
section
open PySem PySem.Spec PyProof.Rows L2
section
variable {X:Cx} {i o:Ve} {pos:Pos} {Ti To:ETr}
end
end
section
open PySem PySem.Spec PyProof.Rows L2
def kW (μ:Mu)(x:D)(f:List D->Prop):Prop:=match x with
 | .tup ds=>f ds
 | .ls ds=>f ds
 | .obj a=>kL μ a f
 | _=>False
def okW (μ:Mu)(x:D)(ds:List D):Prop:=match x with
 | .obj a=>μ a=some (.lst ds)
 | _=>True
def o5 (t:ATr)(G:GTr)(tt:TTr)(te:ETr)(n:Nat)(caps:List Nat):ETr:=λρ μ Q=>t ρ μ λvs μ1=>k2 vs λx y=>kW μ1 x λds=>kW μ1 y λes=>∀ p,μ1 p=none->
 fV (λμ=>okW μ x ds/\okW μ y es) p G tt te (dh ρ n caps) (λμ'=>kL μ' p λzs=>Q (.ls zs) (dn μ' p)) (VH (λd e=>.tup [d,e]) ds es) (up μ1 p (.lst []))
theorem G4 {K:UH}{H:Hp}{μ:Mu}{v:V}{x:D}{f:List D->Prop}(m:bB K H μ)(p:Dp K H v x)(h:kW μ x f):∃ (tp:Bool) (a:Addr) (ds:List D),v=.ref a/\f ds/\okW μ x ds/\∀ H' μ',Tk H H'->bB K H' μ'->okW μ' x ds->∃ xs,Sq tp K H' a xs/\DpL K H' xs ds:=by
 cases p with
 | @tup a xs ds q l=>exact ⟨true,a,ds,rfl,h,VP,λH' μ' t _ _=>⟨xs,t.sqT q,l.mono t⟩⟩
 | @ls a xs ds q l=>exact ⟨false,a,ds,rfl,h,VP,λH' μ' t _ _=>⟨xs,(t.sqF q).sq,l.mono t⟩⟩
 | obj a=>
  obtain ⟨ds,e,h⟩:=bA h
  refine ⟨false,a,ds,rfl,h,e,λH' μ' t m' o=>?_⟩
  obtain ⟨xs,ex,l⟩:=m' a _ o
  exact ⟨xs,SqL.of ex,l⟩
 | _=>exact UO h
theorem Dt {K:UH}{ta:TA}{At:ATr}{G:GTr}{Tt:TTr}{Te:ETr}{n:Nat}{caps:List Nat}(sa:QA K ta At):Sim K (Ay (jI (Nn K ta) (ji K n G) (liftT K Tt) (jg K Te) n caps)) (o5 At G Tt Te n caps):=by
 intro σ H ρ μ Q Q' rl h k
 refine sa σ H ρ μ _ _ rl h λvs H1 xs0 μ1 t1 m1 pa hx=>?_
 unfold L3.k2 at hx
 split at hx
 case h_2=>exact UO hx
 rename_i dx dy
 cases pa with | cons px p2=>cases p2 with | cons py p3=>
 cases p3
 obtain ⟨ta',a,ds,rfl,hx,oa,ga⟩:=G4 m1 px hx
 obtain ⟨tb',b,es,rfl,h1,ob,gb⟩:=G4 m1 py hx
 obtain ⟨xs1,qx1,_⟩:=ga H1 μ1 (.refl H1) m1 oa
 obtain ⟨ys1,qy1,_⟩:=gb H1 μ1 (.refl H1) m1 ob
 refine ⟨ta',tb',a,b,rfl,⟨_,qx1⟩,⟨_,qy1⟩,λD hD=>?_⟩
 have hp:=h1 D (m1.free hD)
 generalize hz:VH (λd e=>L3.D.tup [d,e]) ds es=zs0 at hp
 have zl:zs0.length=min ds.length es.length:=by rw[← hz,V4]
 have tD:Tk H1 (L2.upd H1 D (.lst [])):=.new hD
 have mD:bB K (L2.upd H1 D (.lst [])) (up μ1 D (.lst [])):=uW m1 hD .nil
 refine ⟨λi m ys H2=>m=zs0.length - i/\i<=zs0.length/\Tk H1 H2/\∃ μ2,bB K H2 μ2/\fV (λμ=>okW μ dx ds/\okW μ dy es) D G Tt Te (dh ρ n caps) (λμ'=>kL μ' D λzs=>Q (.ls zs) (dn μ' D)) (zs0.drop i) μ2,
  ⟨zs0.length,by simp,Wj _,tD,_,mD,by simpa using hp⟩,?_⟩
 rintro i m ys H2 ⟨rfl,hi,t12,μ2,m2,h2⟩
 have hg:okW μ2 dx ds/\okW μ2 dy es:=by
  cases hdr:zs0.drop i with
  | nil=>rw[hdr] at h2;exact h2.1
  | cons=>rw[hdr] at h2;exact h2.1
 obtain ⟨xs2,qx2,l2⟩:=ga H2 μ2 t12 m2 hg.1
 obtain ⟨ys2,qy2,l3⟩:=gb H2 μ2 t12 m2 hg.2
 have ll:=l2.length
 have ll':=l3.length
 by_cases hlt:i < zs0.length
 ·refine .inr ⟨⟨xs2,ys2,xs2[i]'(by omega),ys2[i]'(by omega),qx2,qy2,UY (by omega),UY (by omega)⟩,λys' H'=>Tk H1 H'/\∃ μ',bB K H' μ'/\fV (λμ=>okW μ dx ds/\okW μ dy es) D G Tt Te (dh ρ n caps) (λμ'=>kL μ' D λzs=>Q (.ls zs) (dn μ' D)) (zs0.drop (i+1)) μ',λys' H' ⟨t',μ',m',h'⟩=>⟨zs0.length - (i+1),by omega,rfl,hlt,t',μ',m',h'⟩,λx H3 y=>?_⟩
  obtain ⟨u,w,q,fu,fw,rfl,fr,rfl⟩:=y
  have eu:=fu _ qx2
  have ew:=fw _ qy2
  obtain ⟨d,ed,pd⟩:=l2.get' eu
  obtain ⟨e',ee,pe⟩:=l3.get' ew
  have tn:Tk H2 (L2.upd H2 q (.tup [u,w])):=.new fr
  have e:zs0.drop i=.tup [d,e']::zs0.drop (i+1):=by
   refine (We hlt).trans ?_
   congr 1
   have:zs0[i]? = some (.tup [d,e']):=by rw[← hz];simp[YB,ed,ee]
   rw[UY hlt] at this
   exact Vt this
  rw[e] at h2
  have t13:=t12.trans tn
  have m3:=cJ (o:=.tup [u,w]) m2 fr
  have r3:Rl K (jJ σ n caps) (L2.upd H2 q (.tup [u,w])) (dh ρ n caps) μ2:=kT (rl.go (t1.trans t13) m3) n caps
  refine ⟨_,_,.tup [d,e'],_,r3,.tup (SqT.of aK) (.cons (pd.mono tn) (.cons (pe.mono tn) .nil)),h2.2,λσ4 H4 ρ4 μ4 t4 r4 kp h4=>⟨⟨kp.1.symm,λj v ej=>?_⟩,_,_,_,r4,h4,λb H5 μ5 t5 m5 h5=>?_⟩⟩
  ·by_cases hj:n<=j
   ·rw[kp.2 j hj];exact ej
   ·obtain ⟨j',k',e1,_⟩:=hX ej
    omega
  ·have t15:=t13.trans (t4.trans t5)
   cases b with
   | false=>exact nY ⟨t15,μ5,m5,h5⟩
   | true=>
    refine nU ⟨_,_,_,r4.go t5 m5,h5,λv H6 d6 μ6 t6 m6 p6 h6=>?_⟩
    obtain ⟨zs,ez,lz,h7⟩:=bA h6
    obtain ⟨xs,ex,lx⟩:=m6 D _ ez
    exact ⟨xs,ex,by rw[lx.length];exact U6 lz (by decide),(t15.trans t6).trans (iE ex),up μ6 D (.lst (zs++[d6])),BR m6 ex (lx.append (.cons p6 .nil)),h7⟩
 ·have e:i=zs0.length:=by omega
  subst e
  rw[WG] at h2
  obtain ⟨zs,ez,hq⟩:=bA (show kL μ2 D λzs=>Q (.ls zs) (dn μ2 D) from h2.2)
  obtain ⟨xs,ex,lx⟩:=m2 D _ ez
  refine .inl ⟨⟨xs2,ys2,qx2,qy2,by omega⟩,D,xs,rfl,ex,λo=>?_⟩
  have t2f:Tk H2 (L2.upd H2 D (.frz o (.lst xs))):=iE ex
  exact k _ _ _ (dn μ2 D) ((t1.trans t12).trans t2f) (MT m2 t2f) (.ls (.inl ⟨o,aK⟩) (lx.mono t2f)) hq
theorem C2 {X:Cx}{elt ea eb:Ve}{es:List Ve}{ek:Nat}{ep pz posz:Pos}{Te:ETr}{Tt:TTr}{pos:Pos}{At:ATr}{G:GTr}{ifs:List Ve}{scope fsc:Scope}(XN Nc:List Str)(n:Nat)(caps:List Nat)(hxe:X.xe=λ_ _=>False)(hcalm:X.calm=true)(hg:Gl X "zip")(hm:X.mg "zip" = none)(hi:LA X [ea,eb] At)
  (hbody:∀ (cl:List (Str×Addr)) (C:Addr) (s₀:UN) (H₀:Hp) (ex:List Addr),LGc (a5 X scope Nc cl C s₀ H₀ ex) n (.Tuple es ek ep) G/\vy (a5 X scope Nc cl C s₀ H₀ ex) ifs Tt/\LE (a5 X scope Nc cl C s₀ H₀ ex) elt Te)
  (hsc:X.env.scope=fsc) (hXN:X.N=XN) (hok:fi fsc.names XN scope Nc n caps=true)
  (hs:∀ x,Vx (.Call (.Name "zip" pz) [ea,eb] [] posz) X.env x=pure x:=by intro _;rfl) (hs1:UX [ea,eb] X.env=[(false,V8 ea X.env),(false,V8 eb X.env)]:=by rfl) (hs2:UX [eb] X.env=[(false,V8 eb X.env)]:=by rfl) :
  LE X (.ListComp elt [⟨.Tuple es ek ep,.Call (.Name "zip" pz) [ea,eb] [] posz,ifs,0⟩] scope pos) (o5 At G Tt Te n caps):=by
 unfold fi at hok
 simp only[Vj,Xg] at hok
 obtain ⟨⟨⟨h1,h2⟩,h3⟩,h4⟩:=hok
 obtain ⟨ta,pa,sa⟩:=hi.ex
 refine ⟨_,iB (uf (g:=ji X.K n G) (tt:=liftT X.K Tt) (te:=jg X.K Te) hxe hcalm (Co hg hm pa hs1 hs2) (λcl C s₀ H₀ ex=>let ⟨h1,h2,h3⟩:=hbody cl C s₀ H₀ ex;⟨h1.pe,h2.pe,h3.pe⟩) (λy hy hf=>?_) (λy hy hf=>?_) (by simpa using h2) (λy hy hf=>?_) (by simpa using h3) (λj k hj=>?_) hs),Dt sa⟩
 ·have:=(h1 y hy).1.1
  show X.env.scope.names.lookup y.1=_
  rw[hsc]
  simpa[hf] using this
 ·have:=(h1 y hy).1.2
  simp[hf] at this
 ·have:=(h1 y hy).2
  simpa[hf] using this
 ·have hl:j < caps.length:=(Vh.mp hj).1
  have:=h4 j (WW.mpr hl)
  rw[hj] at this
  dsimp only at this
  rw[hXN]
  cases e:XN[k]? with
  | none=>rw[e] at this;cases this
  | some x=>
   rw[e] at this
   dsimp only at this
   rw[Vj] at this
   exact ⟨x,by simpa using this.1,rfl,by simpa using this.2⟩
end
def HK (x y:D)(ds es:List D)(G:GTr)(tt:TTr)(te:ETr)(ρc:ST)(zs:List D)(μ:Mu)(Q:DK):Prop:=∀ p,μ p=none->fV (λμ=>okW μ x ds/\okW μ y es) p G tt te ρc (λμ'=>kL μ' p λzs=>Q (.ls zs) (dn μ' p)) zs (up μ p (.lst []))
theorem Ia (t:ATr)(G:GTr)(tt:TTr)(te:ETr)(n:Nat)(caps:List Nat)(ρ:ST)(μ:Mu)(Q:DK):o5 t G tt te n caps ρ μ Q=t ρ μ λvs μ1=>k2 vs λx y=>kW μ1 x λds=>kW μ1 y λes=>HK x y ds es G tt te (dh ρ n caps) (VH (λd e=>.tup [d,e]) ds es) μ1 Q:=propext UM
theorem Tg (μ:Mu)(ds:List D)(f:List D->Prop):kW μ (.tup ds) f=f ds:=propext UM
theorem Uy (μ:Mu)(ds:List D)(f:List D->Prop):kW μ (.ls ds) f=f ds:=propext UM
theorem TN (μ:Mu)(a:Addr)(f:List D->Prop):kW μ (.obj a) f=kL μ a f:=propext UM
theorem JD (c:String)(μ:Mu)(Q:DK):cT c .non μ Q=Q (.bl (de "NoneType" c)) μ:=propext UM
theorem JW (c:String)(i:Int)(μ:Mu)(Q:DK):cT c (.int i) μ Q=Q (.bl (de "int" c)) μ:=propext UM
theorem Me (c:String)(s:Str)(μ:Mu)(Q:DK):cT c (.str s) μ Q=Q (.bl (de "str" c)) μ:=propext UM
theorem L7 (c:String)(ds:List D)(μ:Mu)(Q:DK):cT c (.tup ds) μ Q=Q (.bl (de "tuple" c)) μ:=propext UM
theorem LV (c:String)(ds:List D)(μ:Mu)(Q:DK):cT c (.ls ds) μ Q=Q (.bl (de "list" c)) μ:=propext UM
theorem Cj {c:String}{a:Addr}{μ:Mu}{Q:DK}{ds:List D}(h:μ a=some (.lst ds)):cT c (.obj a) μ Q=Q (.bl (de "list" c)) μ:=by
 have e:tyO μ (.obj a)=some "list" := by simp only[tyO,h]
 unfold cT
 rw[e]
theorem DY {x y:D}{ds es:List D}{G:GTr}{te:ETr}{ρc:ST}{zs:List D}{μ:Mu}{Q:DK}(ox:okW μ x ds)(oy:okW μ y es)(hl:zs.length<=999999)
  (step:∀ d∈zs,∀ μ',∀ (N:DK),N (.bl true) μ'->G d ρc μ' λρ1 μ1=>te ρ1 μ1 N) (k:Q (.ls (zs.map λ_=>.bl true)) μ):HK x y ds es G dX te ρc zs μ Q:=by
 intro p hp
 have keep:∀ (z:D) (l:List D) (o:MO),okW μ z l->okW (up μ p o) z l:=λz l o h=>by
  cases z with
  | obj a=>exact Sub.new hp _ _ h
  | _=>exact h
 refine iA (λr μ'=>∃ done,zs=done++r/\μ'=up μ p (.lst (done.map λ_=>.bl true))) ?_ ?_ ?_ _ _ ⟨[],rfl,rfl⟩
 ·rintro r μ' ⟨done,_,rfl⟩
  exact ⟨keep _ _ _ ox,keep _ _ _ oy⟩
 ·rintro μ' ⟨done,e,rfl⟩
  rw[Vk] at e
  subst e
  refine a9 aF ?_
  rw[kZ hp];exact k
 ·rintro d r μ' N ⟨done,e,rfl⟩ hN
  have hd:d∈zs:=by rw[e];simp
  have e':zs=(done++[d])++r:=by rw[e];simp
  have lf:done.length < 1000000:=by
   have h2:zs.length=done.length+(d::r).length:=by rw[e,US]
   rw[Vg] at h2;omega
  refine step d hd _ (λy μ3=>kL μ3 p λzs=>zs.length < 1000000/\N (up μ3 p (.lst (zs++[y])))) ?_
  refine a9 aF ⟨by rw[UL];exact lf,hN _ ⟨done++[d],e',?_⟩⟩
  rw[fQ,Vq];rfl
def g9 (n:Nat):FSp:=λds μ Q=>match ds with
 | [x,y]=>((x=y∨∃ q xs,x=.obj q/\y=.ls xs/\μ q=some (.lst xs))/\pl n y=true)/\Q (.bl true) μ
 | _=>False
def eO:Nat->FSp
 | 0=>λ_ _ _=>False
 | n+1=>g9 n
theorem wR:∀ n ds μ Q,eO n ds μ Q->ds.length=2:=by
 intro n ds μ Q h
 cases n with
 | zero=>exact h.elim
 | succ n=>
  have h:g9 n ds μ Q:=h
  unfold g9 at h
  split at h
  ·rfl
  ·exact h.elim
def B3 (sp_self:FSp):STr:=aB (bK (TB (aq (wZ ["tuple", "list"]) (af (ah 1) (af (bf (af (TC (.ty "tuple")) (af (TC (.ty "list")) (ar)))) (ar))))) (aB (bK (TOr (TB (aj rNe (TUn (cT "tuple") (ah 0)) (TUn (cT "tuple") (ah 1)))) (TB (aj rNe (TUn (cT "list") (ah 0)) (TUn (cT "list") (ah 1))))) (aW (TC (.bl false))) (a8)) (aW (ik (aj rEq (aq cS (af (ah 0) (ar))) (aq cS (af (ah 1) (ar)))) (aq HJ (af (o5 (af (ah 0) (af (ah 1) (ar))) (dY [0,1]) (dX) (aq sp_self (af (ah 0) (af (ah 1) (ar)))) 2 []) (ar)))))) (a8)) (aB (bK (TB (aj rIs (ah 1) (TC .non))) (aW (aj rIs (ah 0) (TC .non))) (a8)) (aB (bK (TB (TUn (cT "str") (ah 1))) (aW (ik (TUn (cT "str") (ah 0)) (aj rEq (ah 0) (ah 1)))) (a8)) (aW (ik (TUn (cT "int") (ah 0)) (ik (rG (TUn (cT "bool") (ah 0))) (aj rEq (ah 0) (ah 1)))))))
def Rw:=Jn @Ia <| Jn @Tg <| Jn @Uy <| Jn @JD <| Jn @JW <| Jn @Me <| Jn @L7 <| Jn @LV <| @SJ
local macro_rules | `(tactic| walk_at "go")=>zzS "↓L3.Rw L3.Bm ↓L3.tM ↓L3.t7 ↓L3.tf ↓L3.tm ↓L3.tN ↓L3.t8 ↓L3.iz ↓L3.gR L3.bR L3.bD L3.bO L3.bU L3.bM L3.bS L3.cA L3.ck L3.bC L3.bW L3.bX L3.bP L3.bQ L3.cq L3.bT L3.cy L3.bL L3.cu L3.bV L3.cz L3.gj L3.dh List.map_cons List.map_nil List.replicate List.cons_append List.nil_append L3.lk L3.Aj L3.zK L3.wx L3.y3 L3.Ap L3.fg L3.rJ L3.kG L3.rj L3.rg L3.kz L3.ky L3.iU L3.iQ L3.iM L3.iJ true_and and_true and_self Bool.not_true Bool.not_false decide_true decide_false Bool.or_true Bool.or_false Bool.true_or Bool.false_or Bool.and_false Bool.false_and Bool.and_true Bool.true_and Int.reduceToNat Int.reducePow Int.reduceNeg Int.reduceSub Int.reduceAdd Int.reduceMul Int.reduceEq Int.reduceLT Int.reduceLE Int.reduceBEq L3.fQ L3.eQ L3.eU L3.eS L3.fb L3.eR L3.eZ L3.eP if_true if_false Bool.false_eq_true reduceCtorEq decide_eq_true_eq"
theorem qe {n:Nat}{x:D}{ds:List D}{y:D}{μ:Mu}{Q:DK}(ox:okW μ x ds)(oy:okW μ y ds)(hl:ds.length<=999999)(hp:pls n ds=true)(fin:RT Q (.bl true) μ) :
  HK x y ds ds (dY [0,1]) dX (aq (eO (n+1)) (af (ah 0) (af (ah 1) ar))) [none,none] (VH (λd e=>D.tup [d,e]) ds ds) μ λx μ1=>gG HJ [x] μ1 (RT Q):=by
 rw[yF]
 refine DY ox oy (by simpa using hl) (λd hd μ' N n=>?_) ?_
 ·obtain ⟨x,hx,rfl⟩:=UP.mp hd
  walk_at "go"
  exact ⟨⟨.inl rfl,BW hp hx⟩,n⟩
 ·refine ⟨(ds.map λd=>D.tup [d,d]).map λ_=>true,by simp,?_⟩
  have:((ds.map λd=>D.tup [d,d]).map λ_=>true).all id=true:=by simp
  rw[this]
  exact fin
theorem ze (n:Nat):∀ ds μ Q,eO (n+1) ds μ Q->B3 (eO n) { nx:=λ_ μ'=>RT Q .non μ',rt:=RT Q } (ini 2 ds) μ:=by
 intro ds μ Q h
 have h2:∃ x y,ds=[x,y]/\(x=y∨∃ q xs,x=.obj q/\y=.ls xs/\μ q=some (.lst xs))/\pl n y=true/\Q (.bl true) μ:=by
  have h:g9 n ds μ Q:=h
  unfold g9 at h
  split at h
  ·obtain ⟨⟨h1,hp⟩,k⟩:=h;exact ⟨_,_,rfl,h1,hp,k⟩
  ·exact h.elim
 obtain ⟨x,y,rfl,hxy,hp,k⟩:=h2
 clear h
 walk_at "ini"
 unfold B3
 have fin:RT Q (.bl true) μ:=⟨_,.refl _,k⟩
 rcases hxy with rfl | ⟨q,xs,rfl,rfl,eq⟩
 rotate_left
 ·cases n with
  | zero=>simp[pl] at hp
  | succ n=>
  simp only[pl,Vj,decide_eq_true_eq] at hp
  walk_at "go"
  refine ⟨by decide,?_⟩
  show kIf true _ _
  walk_at "go"
  rw[Cj eq]
  refine ⟨rfl,?_⟩
  show kIf false _ _
  refine Gy (λh=>by cases h) λ_=>?_
  rw[Cj eq]
  refine ⟨rfl,?_⟩
  show kIf false _ _
  refine Gy (λh=>by cases h) λ_=>?_
  refine a9 eq (pX rfl ?_)
  rw[TN]
  exact a9 eq (qe eq VP hp.1 hp.2 fin)
 cases x with
 | non=>
  walk_at "go"
  refine ⟨by decide,?_⟩
  show kIf false _ _
  walk_at "go"
  exact fin
 | int i=>
  walk_at "go"
  refine ⟨by decide,?_⟩
  show kIf false _ _
  walk_at "go"
  show kIf false _ _
  walk_at "go"
  exact fin
 | str s=>
  walk_at "go"
  refine ⟨by decide,?_⟩
  show kIf false _ _
  walk_at "go"
  have hs:UU s=true:=by cases n<;>simpa[pl] using hp
  show UU s=true/\RT Q (.bl true) μ
  exact ⟨hs,fin⟩
 | tup ds=>
  cases n with
  | zero=>simp[pl] at hp
  | succ n=>
  simp only[pl,Vj,decide_eq_true_eq] at hp
  walk_at "go"
  refine ⟨by decide,?_⟩
  show kIf true _ _
  walk_at "go"
  show kIf false _ (kIf false _ _)
  walk_at "go"
  exact qe VP VP hp.1 hp.2 fin
 | ls ds=>
  cases n with
  | zero=>simp[pl] at hp
  | succ n=>
  simp only[pl,Vj,decide_eq_true_eq] at hp
  walk_at "go"
  refine ⟨by decide,?_⟩
  show kIf true _ _
  walk_at "go"
  show kIf false _ (kIf false _ _)
  walk_at "go"
  exact qe VP VP hp.1 hp.2 fin
 | _=>cases n<;>simp[pl] at hp
abbrev lJ:FSp:=eO 6
theorem vN {x y:D}{μ:Mu}{Q:DK}(e:x=y∨∃ q xs,x=.obj q/\y=.ls xs/\μ q=some (.lst xs))(h:pl 5 y=true)(k:Q (.bl true) μ):gG lJ [x,y] μ Q:=⟨⟨e,h⟩,k⟩
end L3
namespace Kk
local macro_rules | `(tactic| walk_at "ln")=>`(tactic| (intro ds μ Q h;split at h;rfl;exact h.elim))
open PySem L3
local macro_rules | `(tactic| walk_at "go")=>zzS "↓L3.Rw L3.Bm ↓L3.tM ↓L3.t7 ↓L3.tf ↓L3.tm ↓L3.tN ↓L3.t8 ↓L3.iz ↓L3.gR L3.bR L3.bD L3.bO L3.bU L3.bM L3.bS L3.cA L3.ck L3.bC L3.bW L3.bX L3.bP L3.bQ L3.cq L3.bT L3.cy L3.bL L3.cu L3.bV L3.cz L3.gj L3.uA L3.uw L3.dh List.map_cons List.map_nil List.replicate List.cons_append List.nil_append L3.lk L3.Aj L3.zK L3.wx L3.y3 L3.Ap L3.fg L3.rJ L3.kG L3.rj L3.rg L3.kz L3.ky L3.iU L3.iQ L3.iM L3.iJ true_and and_true and_self Bool.not_true Bool.not_false decide_true decide_false Bool.or_true Bool.or_false Bool.true_or Bool.false_or Bool.and_false Bool.false_and Bool.and_true Bool.true_and Int.reduceToNat Int.reducePow Int.reduceNeg Int.reduceSub Int.reduceAdd Int.reduceMul Int.reduceEq Int.reduceLT Int.reduceLE Int.reduceBEq L3.fQ L3.eQ L3.eU L3.eS L3.fb L3.eR L3.eZ L3.eP if_true if_false Bool.false_eq_true reduceCtorEq decide_eq_true_eq"
local macro_rules | `(tactic| walk_at "ok")=>`(tactic| (simp only[L3.jO,L3.MulOk,L3.S64,L3.fU,L3.qi] at *;omega))
local macro_rules | `(tactic| walk_at "ini")=>`(tactic| simp only[ini,List.map,List.length,List.replicate,Nat.reduceSub,Nat.reduceAdd,Nat.sub_self,List.cons_append,List.nil_append,List.append_nil])
def p7:FSp:=λds μ Q=>kcA ds λd ds=>kcI ds λn ds=>kcN ds (∃ (p:Pn) (m:Int) (j:Nat),(d=p.toD/\p.Ok m/\n=j/\j<=1000)/\Q (.tup [(p.run j).toD p.g,.ls (p.rows j)]) μ)
theorem Lv:∀ ds μ Q,p7 ds μ Q->ds.length=2:=λ_ _ _ h=>lcA h λ_ _ h=>lcI h λ_ _ h=>by rw[(ecN h).1];rfl
def MK:STr:=aB (aN (aq L3.lN (af (ah 0) (ar))) (aw 2)) (aB (aN (kC (ar)) (aw 3)) (aB (iS (fE (ah 1)) (aw 4) (aB (aN (aq L3.iX (af (ah 0) (af (ah 2) (ar)))) (aw 5)) (aB (aN (aj L3.rIx (ah 5) (TC (.int 0))) (aw 2)) (d8 (kg (ah 3) (aj L3.rIx (ah 5) (TC (.int 1)))))))) (aW (bf (af (ah 2) (af (su (ah 3)) (ar)))))))
theorem OT:∀ ds μ Q,p7 ds μ Q->MK { nx:=λ_ μ'=>RT Q .non μ',rt:=RT Q } (ini 6 ds) μ:=by
 intro ds μ Q h
 replace h:=ecA h
 obtain ⟨d,ds,rfl,h⟩:=h
 replace h:=ecI h
 obtain ⟨n,ds,rfl,h⟩:=h
 replace h:=ecN h
 obtain ⟨rfl,h⟩:=h
 walk_at "ini"
 unfold MK
 walk_at "go"
 obtain ⟨p,m,j,⟨rfl,K,rfl,hj⟩,k⟩:=h
 have w1:=K.w1
 have s1:=K.s1
 refine ⟨p,⟨rfl,λx hx=>(K.s x hx).k,K.g,by omega,by omega⟩,?_⟩
 walk_at "go"
 intro q hq
 walk_at "go"
 refine ⟨⟨by omega,by omega⟩,?_⟩
 rw[Ys]
 refine bY (λr ρ μ'=>∃ (i:Nat) (v4 v5:Option D),i+r.length=j/\ρ=[some p.toD,some (.int j),some ((p.run i).toD p.g),some (.obj q),v4,v5]/\μ'=up μ q (.lst (p.rows i))) ?_ ?_ _ _ _ ⟨0,_,_,by rw[dQ];omega,rfl,rfl⟩
 ·rintro ρ μ' ⟨i,v4,v5,e,rfl,rfl⟩
  have e:i=j:=by simpa using e
  subst e
  walk_at "go"
  rw[kZ hq]
  exact ⟨_,.refl _,k⟩
 ·rintro d r ρ μ' N ⟨i,v4,v5,e,rfl,rfl⟩ hN
  rw[Vg] at e
  have I:=p.d9 K i (by omega)
  walk_at "go"
  refine ⟨p,p.run i,⟨⟨rfl,rfl⟩,I.rd (by omega)⟩,?_⟩
  walk_at "go"
  refine ⟨by unfold Pn.rows;simp;omega,hN _ _ ⟨i+1,_,_,by omega,rfl,?_⟩⟩
  unfold Pn.rows
  rw[X5,Vq]
  rfl
theorem OG (i0 i1 i2 i3:Nat)(x:Ev)(ρ:ST)(μ:Mu)(k:ST->Mu->Prop):dY [i0,i1,i2,i3] x.toD ρ μ k=dY [i0,i1,i2,i3] (.tup [.str x.wd,.str x.nm,.int x.nu,.str x.wy]) ρ μ k:=propext UM
theorem enum_rows (p:Pn)(N:Nat):i5 (p.rows N)=(zcc 0 N).map λi:Nat=>.tup [.int i,.ls (evD (p.evs (p.run i)))]:=by
 unfold i5 Pn.rows
 rw[UL,Zq,List.zipWith_map_right,List.zipWith_self,List.range_eq_range']
def mL (r:Row):D:=.tup [.int r.1,.str r.2.1,.str r.2.2]
theorem LK {ss:List Sn}{w:Wy}{x:Wt}{k:Str×Int}{es:List Ev}(h:Wev ss w x k es):es.length<=2:=by cases h<;>simp
theorem uE {p:Pn}{m:Int}{n:Nat}{s:Sn}{x:Ss}(K:p.Ok m)(hn:n<=1000)(hx:(s,x)∈UW p.ss (p.run n).ss)(i:Int):(ofK (s.nm,i) (p.evs (p.run n))).length<=3:=by
 have I:=p.d9 K n (by omega)
 have F:=ub I (by omega) (p.oR K n (by omega)) hx i
 have one:(p.run n).fly (s.nm,i)+cK (s.nm,i) ((p.aL (p.run n)).map (·.2))<=1:=by split at F<;>omega
 rw[Jo K hn hx i,US]
 have h1:(if i∈(x.bt p.g s ((p.run n).und x.nm)).2 then [evS s i] else []).length<=1:=by split<;>simp
 have h2:(ofK (s.nm,i) (p.told (p.run n))).length<=2:=by
  rcases wL I.K.wd I.lw one with ⟨e,_⟩ | ⟨y,hy,hy1,e,_⟩
  ·rw[e];simp
  ·rw[e];exact LK (wev (by omega))
 omega
theorem ij {p:Pn}{m:Int}{s:Sn}(K:p.Ok m)(hs:s∈p.ss)(i:Int):∀ n:Nat,n<=1000->(p.f9 (s.nm,i) n).length<=3*n
 | 0,_=>by simp[Pn.f9]
 | n+1,h=>by
  have ih:=ij K hs i n (by omega)
  obtain ⟨x,hx⟩:=(p.d9 K n (by omega)).JZ hs
  have:=uE K (by omega) hx i
  rw[ko,US,UL]
  omega
def jE:FSp:=λds μ Q=>kcA ds λpd ds=>kcS ds λa ds=>kcI ds λi ds=>kcI ds λj ds=>kcN ds (∃ (p:Pn) (m:Int) (s:Sn) (N:Nat),(pd=p.toD/\p.Ok m/\s∈p.ss/\a=s.nm/\j=N/\N<=1000)/\∀ q,μ q=none->Q (.obj q) (up μ q (.lst ((p.f9 (s.nm,i) N).map mL))))
theorem CY:∀ ds μ Q,jE ds μ Q->ds.length=4:=λ_ _ _ h=>lcA h λ_ _ h=>lcS h λ_ _ h=>lcI h λ_ _ h=>lcI h λ_ _ h=>by rw[(ecN h).1];rfl
def BV:STr:=aB (aN (kC (ar)) (aw 4)) (aB (iS (yu (af (aj L3.rIx (aq p7 (af (ah 0) (af (ah 3) (ar)))) (TC (.int 1))) (ar))) (dY [5,6]) (iS (dW (ah 6)) (dY [7,8,9,10]) (bK (mw (TB (aj rEq (ah 8) (ah 1))) (TB (aj rEq (ah 9) (ah 2)))) (d8 (kg (ah 4) (bf (af (ah 5) (af (ah 7) (af (ah 10) (ar))))))) (a8)))) (aW (ah 4)))
theorem Hf:∀ ds μ Q,jE ds μ Q->BV { nx:=λ_ μ'=>RT Q .non μ',rt:=RT Q } (ini 11 ds) μ:=by
 intro ds μ Q h
 replace h:=ecA h
 obtain ⟨pd,ds,rfl,h⟩:=h
 replace h:=ecS h
 obtain ⟨a,ds,rfl,h⟩:=h
 replace h:=ecI h
 obtain ⟨i,ds,rfl,h⟩:=h
 replace h:=ecI h
 obtain ⟨j,ds,rfl,h⟩:=h
 replace h:=ecN h
 obtain ⟨rfl,h⟩:=h
 walk_at "ini"
 unfold BV
 walk_at "go"
 obtain ⟨p,m,s,N,⟨rfl,K,hs,rfl,rfl,hN⟩,k⟩:=h
 have sk:=K.s s hs
 intro q hq
 walk_at "go"
 refine ⟨p,m,N,⟨rfl,K,rfl,hN⟩,?_⟩
 walk_at "go"
 rw[enum_rows]
 refine bY (λr ρ μ'=>∃ (n c:Nat) (v5 v6 v7 v8 v9 v10:Option D),r=(zcc n c).map (λi:Nat=>.tup [.int i,.ls (evD (p.evs (p.run i)))])/\n+c=N/\ρ=[some p.toD,some (.str s.nm),some (.int i),some (.int N),some (.obj q),v5,v6,v7,v8,v9,v10]/\μ'=up μ q (.lst ((p.f9 (s.nm,i) n).map mL))) ?_ ?_ _ _ _ ⟨0,N,_,_,_,_,_,_,rfl,by omega,rfl,rfl⟩
 ·rintro ρ μ' ⟨n,c,v5,v6,v7,v8,v9,v10,er,en,rfl,rfl⟩
  have:c=0:=by cases c with | zero=>rfl | succ c=>rw[YH] at er;cases er
  subst this
  have en:n=N:=by omega
  subst en
  walk_at "go"
  exact ⟨_,.refl _,k q hq⟩
 ·rintro d r ρ μ' N' ⟨n,c,v5,v6,v7,v8,v9,v10,er,en,rfl,rfl⟩ hN'
  cases c with
  | zero=>cases er
  | succ c=>
  rw[YH,UT] at er
  cases er
  have I:=p.d9 K n (by omega)
  have R:=I.rd (by omega)
  have sl:=ij K hs i n (by omega)
  obtain ⟨x,hx⟩:=I.JZ hs
  have few:=uE K (by omega) hx i
  walk_at "go"
  refine bY (λr ρ μ'=>∃ (dn rs:List Ev) (w7 w8 w9 w10:Option D),r=evD rs/\dn++rs=p.evs (p.run n)/\ρ=[some p.toD,some (.str s.nm),some (.int i),some (.int N),some (.obj q),some (.int n),some (.ls (evD (p.evs (p.run n)))),w7,w8,w9,w10]/\μ'=up μ q (.lst ((p.f9 (s.nm,i) n++(ofK (s.nm,i) dn).map λe=>(n,e.wd,e.wy)).map mL))) ?_ ?_ _ _ _ ⟨[],p.evs (p.run n),_,_,_,_,rfl,rfl,rfl,by simp⟩
  ·rintro ρ μ' ⟨dn,rs,w7,w8,w9,w10,er,es,rfl,rfl⟩
   cases rs with
   | cons _ _=>cases er
   | nil=>
   rw[Vk] at es
   subst es
   exact hN' _ _ ⟨n+1,c,_,_,_,_,_,_,rfl,by omega,rfl,by rw[ko]⟩
  ·rintro d r ρ μ' N2 ⟨dn,rs,w7,w8,w9,w10,er,es,rfl,rfl⟩ hN2
   cases rs with
   | nil=>cases er
   | cons e rs=>
   cases er
   have hm:e∈p.evs (p.run n):=by rw[← es];simp
   rw[OG]
   walk_at "go"
   refine ⟨⟨R.sn _ (IQ R e hm).2.1,sk.n⟩,?_⟩
   have app:∀ a b:List Ev,ofK (s.nm,i) (a++b)=ofK (s.nm,i) a++ofK (s.nm,i) b:=λa b=>W0 ..
   have more:e.key≠(s.nm,i)->ofK (s.nm,i) (dn++[e])=ofK (s.nm,i) dn:=λhk=>by
    rw[app]
    have:ofK (s.nm,i) [e]=[]:=by unfold ofK;rw[VQ,if_neg (by simpa only[decide_eq_true_eq] using hk)];rfl
    rw[this,Vk]
   refine kif (λh1=>kif (λh2=>?_) λh2=>hN2 _ _ ⟨dn++[e],rs,_,_,_,_,rfl,by rw[← es];simp,rfl,by rw[more λz=>h2 (congrArg (·.2) z)]⟩) λh1=>hN2 _ _ ⟨dn++[e],rs,_,_,_,_,rfl,by rw[← es];simp,rfl,by rw[more λz=>h1 (congrArg (·.1) z)]⟩
   have hk:e.key=(s.nm,i):=by rw[← h1,← h2]
   have one:ofK (s.nm,i) (dn++[e])=ofK (s.nm,i) dn++[e]:=by
    rw[app]
    have:ofK (s.nm,i) [e]=[e]:=by unfold ofK;rw[VQ,if_pos (by simpa only[decide_eq_true_eq] using hk)];rfl
    rw[this]
   have few2:(ofK (s.nm,i) dn).length<=3:=by
    rw[← es,app,US] at few
    omega
   walk_at "go"
   refine ⟨by rw[UL,US,UL];omega,hN2 _ _ ⟨dn++[e],rs,_,_,_,_,rfl,by rw[← es];simp,rfl,?_⟩⟩
   rw[one]
   simp[mL]
abbrev iR:FSp:=L3.ay
def pW:STr:=aB (bK (mw (TB (aj rGt (bH (ah 0) (TC (.str "left"))) (TC (.int 0)))) (TB (aj rLt (bH (ah 0) (TC (.str "given"))) (TC (.int 60))))) (aB (kP (λm n=>m+n) (ah 0) (TC (.str "given")) (TC (.int 1))) (aB (aN (aj lK (bH (ah 0) (TC (.str "left"))) (ah 1)) (aw 3)) (aB (ja (ah 0) (TC (.str "left")) (aj mx (bH (ah 0) (TC (.str "left"))) (ah 1))) (aW (ah 3))))) (a8)) (aB (ja (ah 0) (TC (.str "seed")) (aq L3.iK (af (bH (ah 0) (TC (.str "seed"))) (af (bH (ah 0) (TC (.str "many"))) (ar))))) (aW (aj lK (aj mx (bH (ah 0) (TC (.str "seed"))) (TC (.int 7))) (ah 1))))
def wJ:STr:=aB (kP (λm n=>m+n) (ah 0) (TC (.str "many")) (TC (.int 1))) (aB (bK (mw (TOr (TB (aj rEq (bH (ah 0) (TC (.str "left"))) (TC (.int 0)))) (TB (aj rEq (bH (ah 0) (TC (.str "given"))) (TC (.int 60))))) (TB (aj rLt (bH (ah 0) (TC (.str "at"))) (aq cS (af (bH (ah 0) (TC (.str "cells"))) (ar)))))) (aB (aN (aq xw (af (aj L3.rIx (bH (ah 0) (TC (.str "cells"))) (bH (ah 0) (TC (.str "at")))) (ar))) (aw 2)) (aB (kP (λm n=>m+n) (ah 0) (TC (.str "at")) (TC (.int 1))) (aB (ja (ah 0) (TC (.str "left")) (aj eJ (ah 2) (aq ya (af (aj rGe (ah 2) (aj IC (TC (.int 10)) (TC (.int 18)))) (ar))))) (aB (ja (ah 0) (TC (.str "given")) (TC (.int 0))) (ja (ah 0) (TC (.str "seed")) (aq L3.iK (af (aj aT (bH (ah 0) (TC (.str "seed"))) (ah 2)) (af (bH (ah 0) (TC (.str "many"))) (ar))))))))) (a8)) (pW))
theorem rQ:∀ ds μ Q,iR ds μ Q->ds.length=2:=L3.Dl
theorem uK:∀ ds μ Q,iR ds μ Q->wJ { nx:=λ_ μ'=>RT Q .non μ',rt:=RT Q } (ini 4 ds) μ:=L3.IG
abbrev iu:FSp:=L3.jK
def rB:STr:=aB (aN (aj aT (TC (.int 1)) (aq L3.ay (af (ah 0) (af (TC (.int 5)) (ar))))) (aw 5)) (aB (aN (aq L3.cc (af (aj aT (TC (.int 1)) (aq L3.ay (af (ah 0) (af (aj eJ (TC (.int 2)) (ah 5)) (ar))))) (af (ah 5) (ar)))) (aw 6)) (aB (aN (aq L3.cc (af (aj aT (TC (.int 1)) (aq L3.ay (af (ah 0) (af (ah 5) (ar))))) (af (aj aT (ah 5) (TC (.int 1))) (ar)))) (aw 7)) (aB (bK (TB (aj rEq (ah 2) (TC (.str "still")))) (aW (bf (af (ah 2) (af (ah 3) (ar))))) (a8)) (aB (bK (TB (aj rEq (ah 2) (TC (.str "step")))) (aW (bf (af (ah 2) (af (ah 3) (af (ah 6) (af (ah 7) (af (ah 4) (ar)))))))) (a8)) (aB (bK (TB (aj rEq (ah 2) (TC (.str "swell")))) (aW (bf (af (ah 2) (af (ah 3) (af (aq L3.cc (af (aj aT (aj L3.rIx (ah 6) (TC (.int 0))) (aj L3.rIx (ah 6) (TC (.int 1)))) (af (aj L3.rIx (ah 6) (TC (.int 1))) (ar)))) (af (ah 7) (af (ah 4) (ar)))))))) (a8)) (aB (bK (TB (aj rEq (ah 2) (TC (.str "heed")))) (aW (bf (af (ah 2) (af (ah 3) (af (ah 6) (af (aq L3.cc (af (aj aT (TC (.int 1)) (aq L3.ay (af (ah 0) (af (ah 5) (ar))))) (af (ah 5) (ar)))) (af (ah 4) (ar)))))))) (a8)) (aB (aN (aq L3.ay (af (ah 0) (af (TC (.int 4)) (ar)))) (aw 8)) (aW (bf (af (ah 2) (af (ah 3) (af (ah 6) (af (ah 8) (af (aj aT (ah 8) (aq L3.ay (af (ah 0) (af (TC (.int 5)) (ar))))) (af (ah 4) (ar))))))))))))))))
def wD:STr:=aB (aN (aj L3.rIx (eM (af (TC (.str "still")) (af (TC (.str "step")) (af (TC (.str "swell")) (af (TC (.str "heed")) (af (TC (.str "calm")) (ar))))))) (aq L3.ay (af (ah 0) (af (TC (.int 5)) (ar))))) (aw 2)) (aB (qG 3 4 (af (aq L3.cI (af (ah 0) (af (TC (.int 1)) (af (ah 1) (ar))))) (af (aq L3.cI (af (ah 0) (af (TC (.int 1)) (af (ah 1) (ar))))) (ar)))) (aB (bK (TB (aj rGt (aj eJ (aj L3.rIx (ah 3) (TC (.int 0))) (aj L3.rIx (ah 4) (TC (.int 1)))) (aj eJ (aj L3.rIx (ah 4) (TC (.int 0))) (aj L3.rIx (ah 3) (TC (.int 1)))))) (qG 3 4 (af (ah 4) (af (ah 3) (ar)))) (a8)) (rB)))
theorem rW:∀ ds μ Q,iu ds μ Q->ds.length=2:=L3.D5
theorem vp:∀ ds μ Q,iu ds μ Q->wD { nx:=λ_ μ'=>RT Q .non μ',rt:=RT Q } (ini 9 ds) μ:=L3.G5
abbrev fL:FSp:=L3.iH
def mF:STr:=aB (aN (aj L3.rIx (eM (af (TC (.int 1)) (af (TC (.int 1)) (af (TC (.int 2)) (af (TC (.int 3)) (af (aj aT (TC (.int 1)) (aq L3.ay (af (ah 0) (af (TC (.int 8)) (ar))))) (ar))))))) (aq L3.ay (af (ah 0) (af (TC (.int 5)) (ar))))) (aw 5)) (aB (aN (aj L3.rIx (eM (af (TC .non) (af (TC .non) (af (aq L3.ay (af (ah 0) (af (TC (.int 4)) (ar)))) (af (aq L3.ay (af (ah 0) (af (TC (.int 40)) (ar)))) (ar)))))) (aq L3.ay (af (ah 0) (af (TC (.int 4)) (ar))))) (aw 6)) (aW (bf (af (ah 1) (af (ah 4) (af (ah 5) (af (aj L3.rIx (eM (af (TC (.int 0)) (af (TC (.int 0)) (af (aq L3.ay (af (ah 0) (af (TC (.int 3)) (ar)))) (af (aq L3.ay (af (ah 0) (af (TC (.int 12)) (ar)))) (ar)))))) (aq L3.ay (af (ah 0) (af (TC (.int 4)) (ar))))) (af (ah 6) (af (aq L3.jK (af (ah 0) (af (ah 3) (ar)))) (ar))))))))))
def sF:STr:=aB (aN (aq bu (af (b8 (dW (ah 2)) (aw 0) (TB (aj rEq (aq L3.ay (af (ah 1) (af (TC (.int 2)) (ar)))) (TC (.int 0)))) (aj L3.rIx (ah 0) (TC (.int 0))) 1 [0]) (ar))) (aw 4)) (aB (bK (TB (aj rEq (aq cS (af (ah 4) (ar))) (TC (.int 0)))) (aN (bf (af (aj L3.rIx (aj L3.rIx (ah 2) (aq L3.ay (af (ah 0) (af (aq cS (af (ah 2) (ar))) (ar))))) (TC (.int 0))) (ar))) (aw 4)) (a8)) (mF))
theorem nM:∀ ds μ Q,fL ds μ Q->ds.length=4:=L3.yp
theorem pR:∀ ds μ Q,fL ds μ Q->sF { nx:=λ_ μ'=>RT Q .non μ',rt:=RT Q } (ini 7 ds) μ:=L3.AS
abbrev c6:Nat->FSp:=L3.eO
abbrev lQ:FSp:=L3.lJ
def nK (sp_self:FSp):STr:=aB (bK (TB (aq (wZ ["tuple", "list"]) (af (ah 1) (af (bf (af (TC (.ty "tuple")) (af (TC (.ty "list")) (ar)))) (ar))))) (aB (bK (TOr (TB (aj rNe (TUn (cT "tuple") (ah 0)) (TUn (cT "tuple") (ah 1)))) (TB (aj rNe (TUn (cT "list") (ah 0)) (TUn (cT "list") (ah 1))))) (aW (TC (.bl false))) (a8)) (aW (ik (aj rEq (aq cS (af (ah 0) (ar))) (aq cS (af (ah 1) (ar)))) (aq HJ (af (o5 (af (ah 0) (af (ah 1) (ar))) (dY [0,1]) (dX) (aq sp_self (af (ah 0) (af (ah 1) (ar)))) 2 []) (ar)))))) (a8)) (aB (bK (TB (aj rIs (ah 1) (TC .non))) (aW (aj rIs (ah 0) (TC .non))) (a8)) (aB (bK (TB (TUn (cT "str") (ah 1))) (aW (ik (TUn (cT "str") (ah 0)) (aj rEq (ah 0) (ah 1)))) (a8)) (aW (ik (TUn (cT "int") (ah 0)) (ik (rG (TUn (cT "bool") (ah 0))) (aj rEq (ah 0) (ah 1)))))))
theorem nX:∀ n ds μ Q,c6 n ds μ Q->ds.length=2:=L3.wR
theorem qT (n:Nat):∀ ds μ Q,c6 (n+1) ds μ Q->nK (c6 n) { nx:=λ_ μ'=>RT Q .non μ',rt:=RT Q } (ini 2 ds) μ:=L3.ze n
theorem FJ {p:Pn}{m:Int}(K:p.Ok m){k:Str×Int}{n:Nat}(hn:n<=1000):∀ r∈p.f9 k n,UU r.2.1=true/\UU r.2.2=true:=λr hr=>by
 obtain ⟨t,ht,h⟩:=Xj.mp hr
 obtain ⟨e,he,rfl⟩:=UP.mp h
 have tn:t < n:=by simpa using ht
 have R:=(p.d9 K t (by omega)).rd (by omega)
 have:=IQ R e (VM.mp he).1
 exact ⟨this.1,this.2.2⟩
def f6:FSp:=λds μ Q=>kcL ds λxs ds=>kcS ds λa ds=>kcI ds λi ds=>kcN ds (∃ (p:Pn) (m:Int) (s:Sn) (N:Nat),(xs=p.rows N/\p.Ok m/\s∈p.ss/\a=s.nm/\N<=1000)/\Q (.ls ((p.f9 (s.nm,i) N).map mL)) μ)
theorem vf:∀ ds μ Q,f6 ds μ Q->ds.length=3:=λ_ _ _ h=>lcL h λ_ _ h=>lcS h λ_ _ h=>lcI h λ_ _ h=>by rw[(ecN h).1];rfl
def o4:STr:=aB (aN (kC (ar)) (aw 3)) (aB (iS (yu (af (ah 0) (ar))) (dY [4,5]) (d8 (sU (ah 3) (b8 (dW (ah 5)) (aw 0) (mw (TB (aj rEq (aj L3.rIx (ah 0) (TC (.int 1))) (ah 2))) (TB (aj rEq (aj L3.rIx (ah 0) (TC (.int 2))) (ah 3)))) (bf (af (ah 1) (af (aj L3.rIx (ah 0) (TC (.int 0))) (af (aj L3.rIx (ah 0) (TC (.int 3))) (ar))))) 1 [4,1,2])))) (aW (su (ah 3))))
theorem w6:∀ ds μ Q,f6 ds μ Q->o4 { nx:=λ_ μ'=>RT Q .non μ',rt:=RT Q } (ini 6 ds) μ:=by
 intro ds μ Q h
 replace h:=ecL h
 obtain ⟨xs,ds,rfl,h⟩:=h
 replace h:=ecS h
 obtain ⟨nm,ds,rfl,h⟩:=h
 replace h:=ecI h
 obtain ⟨i,ds,rfl,h⟩:=h
 replace h:=ecN h
 obtain ⟨rfl,h⟩:=h
 walk_at "ini"
 unfold o4
 walk_at "go"
 obtain ⟨p,m,s,N,⟨rfl,K,hs,rfl,hN⟩,k⟩:=h
 have sk:=K.s s hs
 intro q hq
 walk_at "go"
 rw[enum_rows]
 refine bY (λr ρ μ'=>∃ (n c:Nat) (v4 v5:Option D),r=(zcc n c).map (λi:Nat=>.tup [.int i,.ls (evD (p.evs (p.run i)))])/\n+c=N/\ρ=[some (.ls (p.rows N)),some (.str s.nm),some (.int i),some (.obj q),v4,v5]/\μ'=up μ q (.lst ((p.f9 (s.nm,i) n).map mL))) ?_ ?_ _ _ _ ⟨0,N,_,_,rfl,by omega,rfl,rfl⟩
 ·rintro ρ μ' ⟨n,c,v4,v5,er,en,rfl,rfl⟩
  have:c=0:=by cases c with | zero=>rfl | succ c=>rw[YH] at er;cases er
  subst this
  have en:n=N:=by omega
  subst en
  walk_at "go"
  rw[kZ hq]
  exact ⟨_,.refl _,k⟩
 ·rintro d r ρ μ' N' ⟨n,c,v4,v5,er,en,rfl,rfl⟩ hN'
  cases c with
  | zero=>cases er
  | succ c=>
  rw[YH,UT] at er
  cases er
  have I:=p.d9 K n (by omega)
  have R:=I.rd (by omega)
  have sl:=ij K hs i n (by omega)
  obtain ⟨x,hx⟩:=I.JZ hs
  have few:=uE K (by omega) hx i
  have ez:=R.ez
  walk_at "go"
  refine jR (p.evs (p.run n)) Ev.toD (λe=>if e.key=(s.nm,i) then some (mL (n,e.wd,e.wy)) else none) rfl (by omega) (λe he μ1 sb N m=>?_) ?_
  ·walk_at "go"
   refine ⟨⟨R.sn _ (IQ R e he).2.1,sk.n⟩,?_⟩
   by_cases h1:e.nm=s.nm
   ·refine pX h1 ?_
    by_cases h2:e.nu=i
    ·rw[if_pos (show e.key=(s.nm,i) from Prod.ext h1 h2)] at m
     refine pX h2 ?_
     walk_at "go"
     exact m
    ·rw[if_neg (λz=>h2 (congrArg (·.2) z))] at m
     exact vS h2 m
   ·rw[if_neg (λz=>h1 (congrArg (·.1) z))] at m
    exact vS h1 m
  rw[dU (λe:Ev=>e.key=(s.nm,i)) (λe=>mL (n,e.wd,e.wy)),show ((p.evs (p.run n)).filter λe=>decide (e.key=(s.nm,i)))=ofK (s.nm,i) (p.evs (p.run n)) from rfl]
  walk_at "go"
  refine ⟨by rw[UL,UL];omega,hN' _ _ ⟨n+1,c,_,_,rfl,by omega,rfl,?_⟩⟩
  rw[ko,Vq,UR]
  rfl
abbrev gO:FSp:=L3.gO
theorem uD:∀ ds μ Q,gO ds μ Q->ds.length=1:=L3.uD
def FE:STr:=aB (aN (aq L3.oG (af (ah 0) (ar))) (aw 1)) (aB (aN (aq L3.kX (af (ah 1) (ar))) (aw 2)) (aB (aN (aj L3.rIx (eM (af (aq L3.ay (af (ah 1) (af (TC (.int 26)) (ar)))) (af (aq L3.ay (af (ah 1) (af (TC (.int 8)) (ar)))) (ar)))) (aq L3.ay (af (ah 1) (af (TC (.int 2)) (ar))))) (aw 3)) (aB (aN (aq p7 (af (ah 2) (af (ah 3) (ar)))) (dY [4,5])) (aB (iS (dW (aj L3.rIx (ah 4) (TC (.int 1)))) (aw 6) (iS (fE (aj L3.rIx (eM (af (TC (.int 1)) (af (TC (.int 6)) (ar)))) (aq ya (af (aj rLt (aq cS (af (aj L3.rIx (ah 4) (TC (.int 1))) (ar))) (TC (.int 3))) (ar))))) (aw 7) (aB (aN (aj L3.rIx (eM (af (ah 7) (af (aq L3.ay (af (ah 1) (af (aj aT (aj L3.rIx (ah 6) (TC (.int 4))) (TC (.int 2))) (ar)))) (ar)))) (aq L3.ay (af (ah 1) (af (TC (.int 2)) (ar))))) (aw 8)) (aB (aN (aq f6 (af (ah 5) (af (aj L3.rIx (ah 6) (TC (.int 0))) (af (ah 8) (ar))))) (aw 9)) (aB (aN (aq jE (af (ah 2) (af (aj L3.rIx (ah 6) (TC (.int 0))) (af (ah 8) (af (ah 3) (ar)))))) (aw 10)) (aB (bK (Bl (TB (aq L3.lJ (af (ah 10) (af (ah 9) (ar)))))) (aW (TC (.bl false))) (a8)) (aB (d8 (kg (ah 10) (TC (.int 0)))) (bK (mw (TB (aj rEq (ah 7) (TC (.int 0)))) (Bl (TB (aq L3.lJ (af (aq jE (af (ah 2) (af (aj L3.rIx (ah 6) (TC (.int 0))) (af (ah 8) (af (ah 3) (ar)))))) (af (ah 9) (ar))))))) (aW (TC (.bl false))) (a8))))))))) (aW (TC (.bl true)))))))
theorem NA:∀ ds μ Q,gO ds μ Q->FE { nx:=λ_ μ'=>RT Q .non μ',rt:=RT Q } (ini 11 ds) μ:=by
 intro ds μ Q h
 replace h:=ecL h
 obtain ⟨_,ds,rfl,h⟩:=h
 replace h:=ecN h
 obtain ⟨rfl,h⟩:=h
 obtain ⟨⟨ns,rfl,hn⟩,k⟩:=h
 walk_at "ini"
 unfold FE
 walk_at "go"
 refine ⟨⟨ns,rfl⟩,λb μ1 hb P1 _=>?_⟩
 walk_at "go"
 refine ⟨P1,λp m μ2 K M P2=>?_⟩
 have s1:=K.s1
 walk_at "go"
 refine aR P2.pot (by decide) (by decide) λt1 μ3 t10 t11 P3=>?_
 walk_at "go"
 refine aR P3.pot (by decide) (by decide) λt2 μ4 t20 t21 P4=>?_
 walk_at "go"
 refine aR P4.pot (by decide) (by decide) λc2 μ5 c20 c21 P5=>?_
 obtain ⟨t,et,tb⟩:∃ t:Nat,atD [D.int t1,D.int t2] c2=some (.int t)/\t<=25:=by
  have:c2=0∨c2=1:=by omega
  rcases this with e | e
  ·subst e;exact ⟨t1.toNat,by rw[V5 t10];rfl,by omega⟩
  ·subst e;exact ⟨t2.toNat,by rw[V5 t20];rfl,by omega⟩
 refine xF et ?_
 walk_at "go"
 refine ⟨p,m,t,⟨rfl,K,rfl,by omega⟩,?_⟩
 have I:=p.d9 K t (by omega)
 walk_at "go"
 refine bY (λr ρ μ'=>∃ (rs:List Ss) (v6 v7 v8 v9 v10:Option D),r=ssD p.g rs/\(∀ y∈rs,y∈(p.run t).ss)/\ρ=[some (.ls (ns.map .int)),some (.obj b),some p.toD,some (.int t),some ((p.run t).toD p.g),some (.ls (p.rows t)),v6,v7,v8,v9,v10]/\Pot μ' b) ?_ ?_ _ _ _ ⟨(p.run t).ss,_,_,_,_,_,rfl,λ_ h=>h,rfl,P5.pot⟩
 ·rintro ρ μ' ⟨rs,v6,v7,v8,v9,v10,er,hs,rfl,_⟩
  cases rs with
  | cons _ _=>cases er
  | nil=>
  walk_at "go"
  exact ⟨_,.refl _,k _⟩
 ·rintro d r ρ μ' N ⟨rs,v6,v7,v8,v9,v10,er,hs,rfl,Pm⟩ hN
  cases rs with
  | nil=>cases er
  | cons x rs=>
  cases er
  have hx:=hs x U0
  have nx:=I.nx x hx
  obtain ⟨s,hm,enm⟩:∃ s∈p.ss,s.nm=x.nm:=by
   have:x.nm∈(p.run t).ss.map Ss.nm:=UP.mpr ⟨x,hx,rfl⟩
   rw[I.nm] at this
   obtain ⟨s,hs,e⟩:=UP.mp this
   exact ⟨s,hs,e⟩
  walk_at "go"
  obtain ⟨c,ec,c0,c1⟩:∃ c:Int,atD [D.int 1,D.int 6] (if ((ssD p.g (p.run t).ss).length:Int) < 3 then 1 else 0)=some (.int c)/\0<=c/\c<=6:=by
   split
   ·exact ⟨6,rfl,by omega,by omega⟩
   ·exact ⟨1,rfl,by omega,by omega⟩
  refine xF ec ?_
  walk_at "go"
  refine ⟨⟨by omega,by omega⟩,?_⟩
  refine bY (λr ρ μ'=>∃ (w7 w8 w9 w10:Option D),(∀ d∈r,∃ j:Int,d=.int j/\0<=j/\j < 6)/\ρ=[some (.ls (ns.map .int)),some (.obj b),some p.toD,some (.int t),some ((p.run t).toD p.g),some (.ls (p.rows t)),some (x.toD p.g),w7,w8,w9,w10]/\Pot μ' b) ?_ ?_ _ _ _ ⟨_,_,_,_,λd hd=>by obtain ⟨j,e,j0,j1⟩:=qE hd;exact ⟨j,e,by omega,by omega⟩,rfl,Pm⟩
  ·rintro ρ μ' ⟨w7,w8,w9,w10,_,rfl,P'⟩
   exact hN _ _ ⟨rs,_,_,_,_,_,rfl,λy hy=>hs y (U7 _ hy),rfl,P'⟩
  ·rintro d r ρ μ' N2 ⟨w7,w8,w9,w10,hr,rfl,P'⟩ hN2
   obtain ⟨j,rfl,j0,j1⟩:=hr d U0
   walk_at "go"
   refine aR P' (by omega) (by omega) λi1 μ6 i10 i11 P6=>?_
   walk_at "go"
   refine aR P6.pot (by decide) (by decide) λc3 μ7 c30 c31 P7=>?_
   obtain ⟨i,ei⟩:∃ i:Int,atD [D.int j,D.int i1] c3=some (.int i):=by
    have:c3=0∨c3=1:=by omega
    rcases this with e | e
    ·subst e;exact ⟨j,rfl⟩
    ·subst e;exact ⟨i1,rfl⟩
   refine xF ei ?_
   walk_at "go"
   refine ⟨p,m,s,t,⟨rfl,K,hm,enm.symm,by omega⟩,?_⟩
   walk_at "go"
   refine ⟨p,m,s,t,⟨rfl,K,hm,enm.symm,rfl,by omega⟩,λq hq=>?_⟩
   have qb:=P7.pot.ne hq
   have pk:pl 5 (.ls ((p.f9 (s.nm,i) t).map mL))=true:=by
    have sl:=ij K hm i t (by omega)
    have so:=FJ (k:=(s.nm,i)) K (n:=t) (by omega)
    simp only[pl,Vj,decide_eq_true_eq]
    refine ⟨by rw[UL];omega,GH λd hd=>?_⟩
    obtain ⟨r,hr,rfl⟩:=UP.mp hd
    have:=so r hr
    simp[mL,pl,pls,this]
   have rl:((p.f9 (s.nm,i) t).map mL).length < 1000000:=by
    have sl:=ij K hm i t (by omega)
    rw[UL];omega
   generalize er:(p.f9 (s.nm,i) t).map mL=rows at *
   walk_at "go"
   refine vN (.inr ⟨q,_,rfl,rfl,aF⟩) pk ?_
   walk_at "go"
   have nxt:∀ μ',Pot μ' b->N2 [some (.ls (ns.map .int)),some (.obj b),some p.toD,some (.int t),some ((p.run t).toD p.g),some (.ls (p.rows t)),some (x.toD p.g),some (.int j),some (.int i),some (.ls rows),some (.obj q)] μ':=λμ' P=>hN2 _ _ ⟨_,_,_,_,λd hd=>hr d (U7 _ hd),rfl,P⟩
   refine ⟨rl,kif (λ_=>⟨p,m,s,t,⟨rfl,K,hm,enm.symm,rfl,by omega⟩,λq2 hq2=>?_⟩) λ_=>nxt _ (P7.pot.up qb)⟩
   rw[er]
   have P8:=P7.pot.up (o:=.lst (rows++[D.int 0])) qb
   walk_at "go"
   refine vN (.inr ⟨q2,_,rfl,rfl,aF⟩) pk ?_
   walk_at "go"
   exact nxt _ (P8.up (P8.ne hq2))
theorem my (ns:List Int)(h:ns.length<=63)(μ:Mu):gO [.ls (ns.map .int)] μ (λd _=>d=.bl true):=L3.my ns h μ
end Kk
namespace Kk
open PySem L2 L3
theorem Ri {α:Type}{us:List α}(h:us.length=1):∃ x0,us=[x0]:=match us,h with | [x0],_=>⟨x0,rfl⟩
theorem Sy {α:Type}{us:List α}(h:us.length=2):∃ x0 x1,us=[x0,x1]:=match us,h with | [x0,x1],_=>⟨x0,x1,rfl⟩
theorem Rc {α:Type}{us:List α}(h:us.length=3):∃ x0 x1 x2,us=[x0,x1,x2]:=match us,h with | [x0,x1,x2],_=>⟨x0,x1,x2,rfl⟩
theorem Q7 {α:Type}{us:List α}(h:us.length=4):∃ x0 x1 x2 x3,us=[x0,x1,x2,x3]:=match us,h with | [x0,x1,x2,x3],_=>⟨x0,x1,x2,x3,rfl⟩
theorem RC {α:Type}{us:List α}(h:us.length=5):∃ x0 x1 x2 x3 x4,us=[x0,x1,x2,x3,x4]:=match us,h with | [x0,x1,x2,x3,x4],_=>⟨x0,x1,x2,x3,x4,rfl⟩
def top (i:Nat):Stmt:=PySem.Challenge.pw_swellways_k39_stories.main.body.getD i (.Pass ⟨0,0,0,0⟩)
abbrev ni:Stmt:=top 33
abbrev Hc:Stmt:=top 34
abbrev Ga:Stmt:=top 35
abbrev CB:Stmt:=top 36
abbrev BK:Stmt:=top 37
abbrev EO:Stmt:=top 38
abbrev pZ:Stmt:=top 39
abbrev vW:Stmt:=top 40
abbrev yg:Stmt:=top 45
abbrev pH:Stmt:=top 46
abbrev sJ:Stmt:=top 47
abbrev jF:Stmt:=top 48
abbrev mM:Stmt:=top 49
abbrev Cy:Stmt:=top 50
abbrev GY:Stmt:=top 51
abbrev qR:Stmt:=top 52
abbrev lE:Stmt:=top 54
abbrev pJ:Stmt:=top 55
abbrev gm:Stmt:=top 56
abbrev fR:Stmt:=top 57
abbrev sY:Stmt:=top 58
abbrev jB:Stmt:=top 60
abbrev oE:Stmt:=top 61
abbrev jM:Stmt:=top 62
abbrev qW:Stmt:=top 63
abbrev qx:Stmt:=top 64
abbrev wC:Stmt:=top 65
abbrev fj:Stmt:=top 66
abbrev qu:Stmt:=top 67
abbrev lP:Stmt:=top 68
abbrev mN:Stmt:=top 69
abbrev HF:Stmt:=top 70
abbrev gF:Stmt:=top 71
abbrev nv:Stmt:=top 72
abbrev cE:Stmt:=top 73
abbrev cG:Stmt:=top 74
abbrev Nt:Stmt:=top 76
abbrev Ca:Stmt:=top 78
abbrev qO:Stmt:=top 80
abbrev pE:Stmt:=top 81
abbrev nI:Stmt:=top 82
abbrev iD:Stmt:=top 83
abbrev j9:Stmt:=top 84
abbrev i8:Stmt:=top 85
abbrev nG:Stmt:=top 86
abbrev mR:Stmt:=top 87
abbrev gI:Stmt:=top 88
abbrev jr:Stmt:=top 89
abbrev jl:Stmt:=top 90
abbrev kF:Stmt:=top 91
abbrev MV:Stmt:=top 92
set_option genInjectivity false in
set_option genSizeOfSpec false in
structure Adr where
 ng:Addr
 xC:U8
 E9:Addr
 Pc:U8
 IM:Addr
 O4:U8
 BU:Addr
 K8:U8
 B4:Addr
 My:U8
 FL:Addr
 OV:U8
 pw:Addr
 zf:U8
 vJ:Addr
 EY:U8
 xt:Addr
 Gs:U8
 qB:Addr
 Aw:U8
 tT:Addr
 D4:U8
 jq:Addr
 qz:U8
 mO:Addr
 wW:U8
 BB:Addr
 Mq:U8
 EM:Addr
 N7:U8
 rH:Addr
 yW:U8
 lU:Addr
 vC:U8
 pf:Addr
 Al:U8
 mV:Addr
 wK:U8
 jS:Addr
 rN:U8
 tJ:Addr
 Dn:U8
 jf:Addr
 o8:U8
 B7:Addr
 KG:U8
 ny:Addr
 yo:U8
 pY:Addr
 An:U8
 qg:Addr
 A5:U8
 xM:Addr
 Fx:U8
 iZ:Addr
 oA:U8
 yL:Addr
 Iz:U8
 lD:Addr
 vB:U8
 m7:Addr
 wu:U8
 Gh:Addr
 Qf:U8
 nh:Addr
 wI:U8
 nJ:Addr
 wH:U8
 jL:Addr
 oW:U8
 sM:Addr
 DW:U8
 Nr:Addr
 SA:U8
 CK:Addr
 JF:U8
 ro:Addr
 Au:U8
 qL:Addr
 zQ:U8
 nk:Addr
 xp:U8
 lH:Addr
 uF:U8
 ke:Addr
 rY:U8
 i9:Addr
 nP:U8
 mZ:Addr
 vR:U8
 mQ:Addr
 vE:U8
 kb:Addr
 rZ:U8
 m9:Addr
 yz:U8
 gx:Addr
 gr:U8
 qj:Addr
 AL:U8
 Hk:Addr
 MR:U8
structure Txt (Pm:zcr) (K:UH) (mg:Str->Option UK) (t:Adr):Prop where
 yt:mg "common_of" = some (.ref t.ng)
 wo:Fun K "common_of" "common_of" ni t.ng t.xC
 NT:mg "part" = some (.ref t.E9)
 OU:Fun K "part" "part" Hc t.E9 t.Pc
 Oe:mg "plus" = some (.ref t.IM)
 O5:Fun K "plus" "plus" Ga t.IM t.O4
 Ko:mg "minus" = some (.ref t.BU)
 JU:Fun K "minus" "minus" CB t.BU t.K8
 JX:mg "times" = some (.ref t.B4)
 Kv:Fun K "times" "times" BK t.B4 t.My
 Ox:mg "less" = some (.ref t.FL)
 Nw:Fun K "less" "less" EO t.FL t.OV
 yU:mg "floor_of" = some (.ref t.pw)
 AZ:Fun K "floor_of" "floor_of" pZ t.pw t.zf
 FC:mg "cut_by" = some (.ref t.vJ)
 HU:Fun K "cut_by" "cut_by" vW t.vJ t.EY
 Jf:mg "top_of" = some (.ref t.xt)
 Gz:Fun K "top_of" "top_of" yg t.xt t.Gs
 AD:mg "begun_by" = some (.ref t.qB)
 AR:Fun K "begun_by" "begun_by" pH t.qB t.Aw
 Df:mg "is_idle" = some (.ref t.tT)
 DV:Fun K "is_idle" "is_idle" sJ t.tT t.D4
 qy:mg "share_behind" = some (.ref t.jq)
 oY:Fun K "share_behind" "share_behind" jF t.jq t.qz
 xE:mg "factor_of" = some (.ref t.mO)
 xH:Fun K "factor_of" "factor_of" mM t.mO t.wW
 J6:mg "moved" = some (.ref t.BB)
 Mt:Fun K "moved" "moved" Cy t.BB t.Mq
 QH:mg "held" = some (.ref t.EM)
 NS:Fun K "held" "held" GY t.EM t.N7
 A2:mg "heard_by" = some (.ref t.rH)
 zH:Fun K "heard_by" "heard_by" qR t.rH t.yW
 ud:mg "put_behind" = some (.ref t.lU)
 u4:Fun K "put_behind" "put_behind" lE t.lU t.vC
 yV:mg "taken_in" = some (.ref t.pf)
 AN:Fun K "taken_in" "taken_in" pJ t.pf t.Al
 vD:mg "next_name" = some (.ref t.mV)
 xN:Fun K "next_name" "next_name" gm t.mV t.wK
 qw:mg "out_by_turns" = some (.ref t.jS)
 qo:Fun K "out_by_turns" "out_by_turns" fR t.jS t.rN
 DC:mg "let_out" = some (.ref t.tJ)
 DM:Fun K "let_out" "let_out" sY t.tJ t.Dn
 p8:mg "begun_sender" = some (.ref t.jf)
 rE:Fun K "begun_sender" "begun_sender" jB t.jf t.o8
 Lo:mg "begun" = some (.ref t.B7)
 KI:Fun K "begun" "begun" oE t.B7 t.KG
 wb:mg "under_way" = some (.ref t.ny)
 xD:Fun K "under_way" "under_way" jM t.ny t.yo
 Ac:mg "new_ones" = some (.ref t.pY)
 AF:Fun K "new_ones" "new_ones" qW t.pY t.An
 yQ:mg "sent_off" = some (.ref t.qg)
 A9:Fun K "sent_off" "sent_off" qx t.qg t.A5
 EK:mg "beaten" = some (.ref t.xM)
 Eo:Fun K "beaten" "beaten" wC t.xM t.Fx
 nZ:mg "sent_in_order" = some (.ref t.iZ)
 ow:Fun K "sent_in_order" "sent_in_order" fj t.iZ t.oA
 Hb:mg "passed" = some (.ref t.yL)
 IJ:Fun K "passed" "passed" qu t.yL t.Iz
 u9:mg "way_behind" = some (.ref t.lD)
 uZ:Fun K "way_behind" "way_behind" lP t.lD t.vB
 xf:mg "events_of" = some (.ref t.m7)
 xm:Fun K "events_of" "events_of" mN t.m7 t.wu
 Pr:mg "aged" = some (.ref t.Gh)
 OR:Fun K "aged" "aged" HF t.Gh t.Qf
 xr:mg "way_after" = some (.ref t.nh)
 yl:Fun K "way_after" "way_after" gF t.nh t.wI
 yH:mg "due_after" = some (.ref t.nJ)
 xl:Fun K "due_after" "due_after" nv t.nJ t.wH
 pP:mg "sender_after" = some (.ref t.jL)
 qI:Fun K "sender_after" "sender_after" cE t.jL t.oW
 Dw:mg "stepped" = some (.ref t.sM)
 C5:Fun K "stepped" "stepped" cG t.sM t.DW
 Q1:mg "run" = some (.ref t.Nr)
 R0:Fun K "run" "run" Nt t.Nr t.SA
 Kl:mg "story" = some (.ref t.CK)
 Ks:Fun K "story" "story" Ca t.CK t.JF
 Ak:mg "_law_pot" = some (.ref t.ro)
 zI:Fun K "_law_pot" "_law_pot" qO t.ro t.Au
 zB:mg "_law_mix" = some (.ref t.qL)
 yX:Fun K "_law_mix" "_law_mix" pE t.qL t.zQ
 vM:mg "_law_take" = some (.ref t.nk)
 w4:Fun K "_law_take" "_law_take" nI t.nk t.xp
 uC:mg "_law_names" = some (.ref t.lH)
 vi:Fun K "_law_names" "_law_names" iD t.lH t.uF
 sx:mg "_law_lowest" = some (.ref t.ke)
 rT:Fun K "_law_lowest" "_law_lowest" j9 t.ke t.rY
 nR:mg "_law_fraction" = some (.ref t.i9)
 oh:Fun K "_law_fraction" "_law_fraction" i8 t.i9 t.nP
 xU:mg "_law_rule" = some (.ref t.mZ)
 vY:Fun K "_law_rule" "_law_rule" nG t.mZ t.vR
 yr:mg "_law_ways" = some (.ref t.mQ)
 wX:Fun K "_law_ways" "_law_ways" mR t.mQ t.vE
 rR:mg "_law_sender" = some (.ref t.kb)
 r6:Fun K "_law_sender" "_law_sender" gI t.kb t.rZ
 vI:mg "_law_plan" = some (.ref t.m9)
 xn:Fun K "_law_plan" "_law_plan" jr t.m9 t.yz
 mW:mg "_law_same" = some (.ref t.gx)
 cZ:Fun K "_law_same" "_law_same" jl t.gx t.gr
 zS:mg "_law_due" = some (.ref t.qj)
 zG:Fun K "_law_due" "_law_due" kF t.qj t.AL
 Sx:mg "law" = some (.ref t.Hk)
 Cv:Fun K "law" "law" MV t.Hk t.MR
 GD:mg "abs" = none
 R6:mg "all" = none
 Px:mg "bool" = none
 NR:mg "dict" = none
 jN:mg "enumerate" = none
 F6:mg "int" = none
 bJ:mg "isinstance" = none
 df:mg "len" = none
 mC:mg "list" = none
 Bv:mg "max" = none
 QR:mg "min" = none
 lL:mg "range" = none
 o9:mg "sorted" = none
 MP:mg "str" = none
 SH:mg "sum" = none
 bo:mg "tuple" = none
 qP:mg "zip" = none
 uG:GV K mg "AGAIN" (.int 6)
 M9:GV K mg "AGE" (.int 2)
 Qc:GV K mg "BEAT" (.int 2)
 LC:GV K mg "BEGIN" (.int 3)
 wU:GV K mg "COMING" (.int 0)
 Fi:GV K mg "DUE" (.int 1)
 Ib:GV K mg "GOOD" (.int 8)
 Hq:GV K mg "GRID" (.int 0)
 Fe:GV K mg "HALF" (.tup [.int 1,.int 2])
 CM:GV K mg "HOP" (.int 3)
 jm:GV K mg "IS_MARKED" (.int 4)
 Oy:GV K mg "LAST" (.int 2)
 pj:GV K mg "LEFT" (.int 5)
 qZ:GV K mg "LOST" (.int 7)
 Qz:GV K mg "MANY" (.int 4)
 GS:GV K mg "MARK" (.int 3)
 yG:GV K mg "MARKED" (.int 9)
 b9:GV K mg "NAME" (.int 0)
 Ad:GV K mg "NEXT" (.int 4)
 ID:GV K mg "NOUGHT" (.tup [.int 0,.int 1])
 jt:GV K mg "NUMBER" (.int 1)
 Gg:GV K mg "ONE" (.tup [.int 1,.int 1])
 AB:GV K mg "PACE" (.int 1)
 Hn:GV K mg "ROAD" (.int 1)
 Nv:GV K mg "ROOM" (.int 2)
 HC:GV K mg "RULE" (.int 5)
 sQ:GV K mg "SENDERS" (.int 2)
 Kd:GV K mg "SHARE" (.int 3)
 OP:GV K mg "SORT" (.int 4)
 pO:GV K mg "STANDING" (.int 1)
 nO:GV K mg "STATE_SENDERS" (.int 1)
 lW:GV K mg "STATE_WAYS" (.int 0)
 HM:GV K mg "WAIT" (.int 10)
 u7:GV K mg "WAYS" (.int 1)
 xi:GV K mg "WINDOW" (.int 2)
local macro_rules | `(tactic| walk_at "sc")=>`(tactic| exact Sk rfl rfl rfl rfl (by decide +kernel))
local macro_rules | `(tactic| walk_at "b1")=>`(tactic| (rename_i hl;obtain ⟨x0,e⟩:=Ri hl;subst e;rfl))
local macro_rules | `(tactic| walk_at "b2")=>`(tactic| (rename_i hl;obtain ⟨x0,x1,e⟩:=Sy hl;subst e;rfl))
local macro_rules | `(tactic| walk_at "b3")=>`(tactic| (rename_i hl;obtain ⟨x0,x1,x2,e⟩:=Rc hl;subst e;rfl))
local macro_rules | `(tactic| walk_at "b4")=>`(tactic| (rename_i hl;obtain ⟨x0,x1,x2,x3,e⟩:=Q7 hl;subst e;rfl))
local macro_rules | `(tactic| walk_at "b5")=>`(tactic| (rename_i hl;obtain ⟨x0,x1,x2,x3,x4,e⟩:=RC hl;subst e;rfl))
section
variable {P:Vn} {w:VB} {K:UH} {mg:Str->Option UK} {base:Heap} {t:Adr}
theorem c9:aH ["one", "other", "divisor", "rest", "behind"] ["one", "other"] (av ni):=by walk_at "sc"
theorem wA (T:Txt w.params K mg t):aP P w K mg base 1 "common_of" ["one", "other"] L3.fH:=aI T.yt T.wo c9 L3.rV L3.um (λ_ _ _ _ _ _ _ _=>by walk_at "b2") λ_ _ _ _ _ _ hr hu=>
 ak (aC 2 c9.nd (aV rL uu rfl T.GD rfl (aa (ae 0) (ai)))) (ak (aC 3 c9.nd (aV rL uu rfl T.GD rfl (aa (ae 1) (ai)))) (ak (qK Vv (nz (ae 3) (le_int)) (ak (aC 4 c9.nd (iC (ae 2) (ae 3))) (ak (aC 2 c9.nd (ae 3)) (ax (aC 3 c9.nd (ae 4)))))) (ax (aE (ae 2)))))
theorem vo:aH ["top", "bottom", "divisor"] ["top", "bottom"] (av Hc):=by walk_at "sc"
theorem pq (T:Txt w.params K mg t):aP P w K mg base 2 "part" ["top", "bottom"] L3.gw:=aI T.NT T.OU vo L3.F5 L3.JB (λ_ _ _ _ _ _ _ _=>by walk_at "b2") λ_ _ _ _ _ _ hr hu=>
 ak (aC 2 vo.nd (ao (wA T) hr rfl (aa (ae 0) (aa (ae 1) (ai))))) (ak (bN (l6 (ae 1) (le_int)) (ax (aC 2 vo.nd (le_neg (ae 2)))) (a6)) (ax (aE (aQ (aa (js (ae 0) (ae 2)) (aa (js (ae 1) (ae 2)) (ai)))))))
theorem Ky:aH ["one", "other"] ["one", "other"] (av Ga):=by walk_at "sc"
theorem HB (T:Txt w.params K mg t):aP P w K mg base 3 "plus" ["one", "other"] L3.jV:=aI T.Oe T.O5 Ky L3.I0 L3.LD (λ_ _ _ _ _ _ _ _=>by walk_at "b2") λ_ _ _ _ _ _ hr hu=>
 ax (aE (ao (pq T) hr rfl (aa (aJ (le_mul (au (ae 0) (le_int)) (au (ae 1) (le_int))) (le_mul (au (ae 1) (le_int)) (au (ae 0) (le_int)))) (aa (le_mul (au (ae 0) (le_int)) (au (ae 1) (le_int))) (ai)))))
theorem FU:aH ["one", "other"] ["one", "other"] (av CB):=by walk_at "sc"
theorem uM (T:Txt w.params K mg t):aP P w K mg base 3 "minus" ["one", "other"] L3.gX:=aI T.Ko T.JU FU L3.Ej L3.F8 (λ_ _ _ _ _ _ _ _=>by walk_at "b2") λ_ _ _ _ _ _ hr hu=>
 ax (aE (ao (pq T) hr rfl (aa (fW (le_mul (au (ae 0) (le_int)) (au (ae 1) (le_int))) (le_mul (au (ae 1) (le_int)) (au (ae 0) (le_int)))) (aa (le_mul (au (ae 0) (le_int)) (au (ae 1) (le_int))) (ai)))))
theorem Fh:aH ["one", "other"] ["one", "other"] (av BK):=by walk_at "sc"
theorem uS (T:Txt w.params K mg t):aP P w K mg base 3 "times" ["one", "other"] L3.gZ:=aI T.JX T.Kv Fh L3.D3 L3.HA (λ_ _ _ _ _ _ _ _=>by walk_at "b2") λ_ _ _ _ _ _ hr hu=>
 ax (aE (ao (pq T) hr rfl (aa (le_mul (au (ae 0) (le_int)) (au (ae 1) (le_int))) (aa (le_mul (au (ae 0) (le_int)) (au (ae 1) (le_int))) (ai)))))
theorem MF:aH ["one", "other"] ["one", "other"] (av EO):=by walk_at "sc"
theorem EF (T:Txt w.params K mg t):aP P w K mg base 1 "less" ["one", "other"] L3.lC:=aI T.Ox T.Nw MF L3.EU L3.LQ (λ_ _ _ _ _ _ _ _=>by walk_at "b2") λ_ _ _ _ _ _ hr hu=>
 ax (aE (MQ (le_mul (au (ae 0) (le_int)) (au (ae 1) (le_int))) (le_mul (au (ae 1) (le_int)) (au (ae 0) (le_int)))))
theorem xO:aH ["one"] ["one"] (av pZ):=by walk_at "sc"
theorem zp (T:Txt w.params K mg t):aP P w K mg base 1 "floor_of" ["one"] L3.gv:=aI T.yU T.AZ xO L3.va L3.xS (λ_ _ _ _ _ _ _ _=>by walk_at "b1") λ_ _ _ _ _ _ hr hu=>
 ax (aE (js (au (ae 0) (le_int)) (au (ae 0) (le_int))))
theorem CV:aH ["one", "grid"] ["one", "grid"] (av vW):=by walk_at "sc"
theorem lX (T:Txt w.params K mg t):aP P w K mg base 3 "cut_by" ["one", "grid"] L3.eN:=aI T.FC T.HU CV L3.AV L3.Dz (λ_ _ _ _ _ _ _ _=>by walk_at "b2") λ_ _ _ _ _ _ hr hu=>
 ax (aE (ao (pq T) hr rfl (aa (js (le_mul (au (ae 0) (le_int)) (ae 1)) (au (ae 0) (le_int))) (aa (ae 1) (ai)))))
theorem D1:aH ["rule"] ["rule"] (av yg):=by walk_at "sc"
theorem yE (T:Txt w.params K mg t):aP P w K mg base 1 "top_of" ["rule"] L3.ig:=aI T.Jf T.Gz D1 L3.AJ L3.DG (λ_ _ _ _ _ _ _ _=>by walk_at "b1") λ_ _ _ _ _ _ hr hu=>
 ax (aE (au (ae 0) (fW (aV aZ bx rfl T.df rfl (aa (ae 0) (ai))) (le_int))))
theorem xX:aH ["rule", "grid"] ["rule", "grid"] (av pH):=by walk_at "sc"
theorem y1 (T:Txt w.params K mg t):aP P w K mg base 4 "begun_by" ["rule", "grid"] L3.gk:=aI T.AD T.AR xX L3.u6 L3.we (λ_ _ _ _ _ _ _ _=>by walk_at "b2") λ_ _ _ _ _ _ hr hu=>
 ax (aE (aQ (aa (ao (lX T) hr rfl (aa (au (ae 0) (le_int)) (aa (ae 1) (ai)))) (aa (aG rfl T.ID) (ai)))))
theorem AA:aH ["rule", "heard"] ["rule", "heard"] (av sJ):=by walk_at "sc"
theorem Dq (T:Txt w.params K mg t):aP P w K mg base 1 "is_idle" ["rule", "heard"] L3.iF:=aI T.Df T.DV AA L3.yn L3.Bg (λ_ _ _ _ _ _ _ _=>by walk_at "b2") λ_ _ _ _ _ _ hr hu=>
 ax (aE (Rm (le_eq hu (au (ae 0) (le_int)) (le_str)) (ue (le_eq hu (aJ (aJ (au (ae 1) (le_int)) (au (ae 1) (le_int))) (au (ae 1) (le_int))) (le_int)))))
theorem fk:aH ["rule", "grid", "share", "heard", "bad", "nearer"] ["rule", "grid", "share", "heard"] (av jF):=by walk_at "sc"
theorem qF (T:Txt w.params K mg t):aP P w K mg base 4 "share_behind" ["rule", "grid", "share", "heard"] L3.dJ:=aI T.qy T.oY fk L3.l8 L3.oo (λ_ _ _ _ _ _ _ _=>by walk_at "b4") λ_ _ _ _ _ _ hr hu=>
 ak (bN (yD hu (au (ae 0) (le_int)) (le_str)) (ax (aE (ae 2))) (a6)) (ak (aC 4 fk.nd (aJ (au (ae 3) (le_int)) (au (ae 3) (le_int)))) (ak (aC 5 fk.nd (ao (uS T) hr rfl (aa (au (ae 0) (le_int)) (aa (ao (uM T) hr rfl (aa (ao (pq T) hr rfl (aa (ae 4) (aa (aJ (au (ae 3) (le_int)) (ae 4)) (ai)))) (aa (ae 2) (ai)))) (ai))))) (ax (aE (ao (lX T) hr rfl (aa (ao (HB T) hr rfl (aa (ae 2) (aa (ae 5) (ai)))) (aa (ae 1) (ai))))))))
theorem vA:aH ["rule", "share", "heard"] ["rule", "share", "heard"] (av mM):=by walk_at "sc"
theorem xu (T:Txt w.params K mg t):aP P w K mg base 4 "factor_of" ["rule", "share", "heard"] L3.fD:=aI T.xE T.xH vA L3.rS L3.uY (λ_ _ _ _ _ _ _ _=>by walk_at "b3") λ_ _ _ _ _ _ hr hu=>
 ak (bN (lt_eq hu (au (ae 0) (le_int)) (le_str)) (ax (aE (ix (nz (au (ae 2) (le_int)) (le_int)) (aG rfl T.Fe) (cV)))) (a6)) (ak (bN (lt_eq hu (aJ (au (ae 2) (le_int)) (au (ae 2) (le_int))) (le_int)) (ax (aE (ix (lt_eq hu (au (ae 0) (le_int)) (le_str)) (au (ae 0) (le_int)) (cV)))) (a6)) (ak (bN (lt_eq hu (au (ae 0) (le_int)) (le_str)) (ax (aE (ao (uM T) hr rfl (aa (aG rfl T.Gg) (aa (ao (uS T) hr rfl (aa (aG rfl T.Fe) (aa (ae 1) (ai)))) (ai)))))) (a6)) (ax (aE (au (ae 0) (le_int))))))
theorem Ir:aH ["rule", "window", "heard"] ["rule", "window", "heard"] (av Cy):=by walk_at "sc"
theorem Kb (T:Txt w.params K mg t):aP P w K mg base 4 "moved" ["rule", "window", "heard"] L3.lY:=aI T.J6 T.Mt Ir L3.CT L3.Hx (λ_ _ _ _ _ _ _ _=>by walk_at "b3") λ_ _ _ _ _ _ hr hu=>
 ak (bN (LW.lt (Cm (yD hu (au (ae 0) (le_int)) (le_str)) (vj (l6 (au (ae 2) (le_int)) (au (ae 0) (le_int)))))) (ax (aE (ao (HB T) hr rfl (aa (ae 1) (aa (au (ae 0) (le_int)) (ai)))))) (a6)) (ak (bN (nz (au (ae 2) (le_int)) (au (ae 0) (le_int))) (ax (aE (ao (uM T) hr rfl (aa (ae 1) (aa (au (ae 0) (le_int)) (ai)))))) (a6)) (ax (aE (ae 1))))
theorem JV:aH ["rule", "grid", "window"] ["rule", "grid", "window"] (av GY):=by walk_at "sc"
theorem G6 (T:Txt w.params K mg t):aP P w K mg base 4 "held" ["rule", "grid", "window"] L3.lu:=aI T.QH T.NS JV L3.Je L3.Mv (λ_ _ _ _ _ _ _ _=>by walk_at "b3") λ_ _ _ _ _ _ hr hu=>
 ak (bN (kl (ao (EF T) hr rfl (aa (ae 2) (aa (aG rfl T.Gg) (ai))))) (ax (aE (aG rfl T.Gg))) (a6)) (ak (bN (kl (ao (EF T) hr rfl (aa (ao (yE T) hr rfl (aa (ae 0) (ai))) (aa (ae 2) (ai))))) (ax (aE (ao (lX T) hr rfl (aa (ao (yE T) hr rfl (aa (ae 0) (ai))) (aa (ae 1) (ai)))))) (a6)) (ax (aE (ao (lX T) hr rfl (aa (ae 2) (aa (ae 1) (ai)))))))
theorem jj:aH ["rule", "grid", "window", "share", "heard", "nearer", "factor"] ["rule", "grid", "window", "share", "heard"] (av qR):=by walk_at "sc"
theorem zN (T:Txt w.params K mg t):aP P w K mg base 5 "heard_by" ["rule", "grid", "window", "share", "heard"] L3.gA:=aI T.A2 T.zH jj L3.ua L3.yd (λ_ _ _ _ _ _ _ _=>by walk_at "b5") λ_ _ _ _ _ _ hr hu=>
 ak (bN (kl (ao (Dq T) hr rfl (aa (ae 0) (aa (ae 4) (ai))))) (ax (aE (aQ (aa (ae 2) (aa (ae 3) (ai)))))) (a6)) (ak (aC 5 jj.nd (ao (qF T) hr rfl (aa (ae 0) (aa (ae 1) (aa (ae 3) (aa (ae 4) (ai))))))) (ak (aC 6 jj.nd (ao (xu T) hr rfl (aa (ae 0) (aa (ae 5) (aa (ae 4) (ai)))))) (ak (bN (mP (ae 6) (cV)) (ax (aE (aQ (aa (ao (G6 T) hr rfl (aa (ae 0) (aa (ae 1) (aa (ao (Kb T) hr rfl (aa (ae 0) (aa (ae 2) (aa (ae 4) (ai))))) (ai))))) (aa (ae 5) (ai)))))) (a6)) (ax (aE (aQ (aa (ao (G6 T) hr rfl (aa (ae 0) (aa (ae 1) (aa (ao (uS T) hr rfl (aa (ae 2) (aa (ae 6) (ai)))) (ai))))) (aa (ae 5) (ai)))))))))
theorem sC:aH ["way", "letter", "ahead"] ["way", "letter", "ahead"] (av lE):=by walk_at "sc"
theorem uo (T:Txt w.params K mg t):aP P w K mg base 1 "put_behind" ["way", "letter", "ahead"] L3.eT:=aI T.ud T.u4 sC L3.oU L3.rO (λ_ _ _ _ _ _ _ _=>by walk_at "b3") λ_ _ _ _ _ _ hr hu=>
 ak (bN (LW.lt (Cm (mP (au (ae 0) (aG rfl T.GS)) (cV)) (vj (l6 (ae 2) (au (ae 0) (aG rfl T.GS)))))) (ax (aE (ae 1))) (a6)) (ax (aE (aJ (nE (ae 1) (ql) (iT (aG rfl T.jm))) (aQ (aa (le_int) (ai))))))
theorem gB:aH ["way", "standing", "letters", "stands", "lost", "letter"] ["way", "standing", "letters"] (av pJ):=by walk_at "sc"
theorem y6 (T:Txt w.params K mg t):aP P w K mg base 2 "taken_in" ["way", "standing", "letters"] L3.gf:=aI T.yV T.AN gB L3.ui L3.yy (λ_ _ _ _ _ _ _ _=>by walk_at "b3") λ_ _ _ _ _ _ hr hu=>
 ak (aC 3 gB.nd (aY iW tu rfl T.mC rfl (aa (ae 1) (ai)))) (ak (aC 4 gB.nd (gJ (ai))) (ak (eF Vv rfl (bI (ae 2)) (fZ 5 gB.nd) (ax (bN (R4 (aV aZ bx rfl T.df rfl (aa (ae 3) (ai))) (au (ae 0) (aG rfl T.Nv))) (ax (cU (le_app (ae 4) (ae 5)))) (ax (cU (le_app (ae 3) (ao (uo T) hr rfl (aa (ae 0) (aa (ae 5) (aa (aV aZ bx rfl T.df rfl (aa (ae 3) (ai))) (ai))))))))))) (ax (aE (aQ (aa (aY aO a7 rfl T.bo rfl (aa (ae 3) (ai))) (aa (aY aO a7 rfl T.bo rfl (aa (ae 4) (ai))) (ai))))))))
theorem iG:aH ["names", "owners", "last", "there", "behind"] ["names", "owners", "last"] (av gm):=by walk_at "sc"
theorem vU (T:Txt w.params K mg t):aP P w K mg base 1 "next_name" ["names", "owners", "last"] L3.fG:=aI T.vD T.xN iG L3.r8 L3.uj (λ_ _ _ _ _ _ _ _=>by walk_at "b3") λ_ _ _ _ _ _ hr hu=>
 ak (fN (fsc:=av gm) 3 iG.nd ["names", "owners", "last", "there", "behind"] ["name", "owners"] 1 [1] rfl rfl (bI (ae 0)) (λcl C s₀ H₀ ex=>⟨bj 0 (show (["name", "owners"]:List Str).Nodup from by decide +kernel),eV (Of hu (ae 0) (ae 1)),ae 0⟩) rfl rfl (by decide +kernel)) (ak (fN (fsc:=av gm) 4 iG.nd ["names", "owners", "last", "there", "behind"] ["name", "last"] 1 [2] rfl rfl (bI (ae 3)) (λcl C s₀ H₀ ex=>⟨bj 0 (show (["name", "last"]:List Str).Nodup from by decide +kernel),eV (OZ (ae 0) (ae 1)),ae 0⟩) rfl rfl (by decide +kernel)) (ax (aE (ix (nz (aV aZ bx rfl T.df rfl (aa (ae 4) (ai))) (le_int)) (au (ae 4) (le_int)) (au (ae 3) (le_int))))))
theorem cf:aH ["way", "names", "standing", "last", "stands", "out", "name", "owners"] ["way", "names", "standing", "last"] (av fR):=by walk_at "sc"
theorem qU (T:Txt w.params K mg t):aP P w K mg base 2 "out_by_turns" ["way", "names", "standing", "last"] L3.dM:=aI T.qw T.qo cf L3.ml L3.oj (λ_ _ _ _ _ _ _ _=>by walk_at "b4") λ_ _ _ _ _ _ hr hu=>
 ak (aC 4 cf.nd (aY iW tu rfl T.mC rfl (aa (ae 2) (ai)))) (ak (aC 5 cf.nd (gJ (ai))) (ak (aC 6 cf.nd (ae 3)) (ak (qK Vv (LW.lt (ma (nz (aV aZ bx rfl T.df rfl (aa (ae 4) (ai))) (le_int)) (j5 (l6 (aV aZ bx rfl T.df rfl (aa (ae 5) (ai))) (au (ae 0) (aG rfl T.AB)))))) (ak (mH (fsc:=av fR) 7 cf.nd ["way", "names", "standing", "last", "stands", "out", "name", "owners"] ["letter"] 1 [] rfl rfl (ae 4) (λcl C s₀ H₀ ex=>⟨bj 0 (show (["letter"]:List Str).Nodup from by decide +kernel),b7,au (ae 0) (aG rfl T.b9)⟩) rfl rfl (by decide +kernel)) (ak (aC 6 cf.nd (ao (vU T) hr rfl (aa (ae 1) (aa (ae 7) (aa (ae 6) (ai)))))) (ax (cU (le_app (ae 5) (Pa (ae 4) (FY hu (ae 7) (ae 6))))))))) (ax (aE (aQ (aa (aY aO a7 rfl T.bo rfl (aa (ae 5) (ai))) (aa (aY aO a7 rfl T.bo rfl (aa (ae 4) (ai))) (aa (ae 6) (ai))))))))))
theorem A8:aH ["way", "names", "standing", "last"] ["way", "names", "standing", "last"] (av sY):=by walk_at "sc"
theorem Dx (T:Txt w.params K mg t):aP P w K mg base 3 "let_out" ["way", "names", "standing", "last"] L3.iO:=aI T.DC T.DM A8 L3.ym L3.A4 (λ_ _ _ _ _ _ _ _=>by walk_at "b4") λ_ _ _ _ _ _ hr hu=>
 ak (bN (lt_eq hu (au (ae 0) (aG rfl T.OP)) (le_str)) (ax (aE (ao (qU T) hr rfl (aa (ae 0) (aa (ae 1) (aa (ae 2) (aa (ae 3) (ai)))))))) (a6)) (ax (aE (aQ (aa (aY aO a7 rfl T.bo rfl (aa (nE (ae 2) (ql) (iT (au (ae 0) (aG rfl T.AB)))) (ai))) (aa (aY aO a7 rfl T.bo rfl (aa (nE (ae 2) (iT (au (ae 0) (aG rfl T.AB))) (ql)) (ai))) (aa (le_str) (ai)))))))
theorem iY:aH ["grid", "sender", "first"] ["grid", "sender"] (av jB):=by walk_at "sc"
theorem pQ (T:Txt w.params K mg t):aP P w K mg base 5 "begun_sender" ["grid", "sender"] L3.dI:=aI T.p8 T.rE iY L3.l9 L3.nW (λ_ _ _ _ _ _ _ _=>by walk_at "b2") λ_ _ _ _ _ _ hr hu=>
 ak (aC 2 iY.nd (ao (y1 T) hr rfl (aa (au (ae 1) (aG rfl T.HC)) (aa (ae 0) (ai))))) (ax (aE (aQ (aa (au (ae 1) (aG rfl T.b9)) (aa (au (ae 1) (aG rfl T.LC)) (aa (au (ae 2) (le_int)) (aa (au (ae 2) (le_int)) (aa (le_int) (aa (au (ae 1) (aG rfl T.Qz)) (aa (aQ (ai)) (aa (aQ (ai)) (aa (le_int) (aa (le_int) (aa (le_int) (ai)))))))))))))))
theorem xk:aH ["plan", "ways"] ["plan"] (av oE):=by walk_at "sc"
theorem Jv (T:Txt w.params K mg t):aP P w K mg base 6 "begun" ["plan"] L3.lN:=aI T.Lo T.KI xk L3.DH L3.Ff (λ_ _ _ _ _ _ _ _=>by walk_at "b1") λ_ _ _ _ _ _ hr hu=>
 ak (aC 1 xk.nd (aY aO a7 rfl T.bo rfl (aa (bZ (fsc:=av oE) ["plan", "ways"] ["way"] 1 [] rfl rfl (bI (au (ae 0) (aG rfl T.u7))) (λcl C s₀ H₀ ex=>⟨bj 0 (show (["way"]:List Str).Nodup from by decide +kernel),b7,aQ (aa (aQ (ai)) (aa (aQ (ai)) (aa (le_str) (ai))))⟩) rfl rfl (by decide +kernel)) (ai)))) (ax (aE (aQ (aa (ae 1) (aa (aY aO a7 rfl T.bo rfl (aa (bZ (fsc:=av oE) ["plan", "ways"] ["sender", "plan"] 1 [0] rfl rfl (bI (au (ae 0) (aG rfl T.sQ))) (λcl C s₀ H₀ ex=>⟨bj 0 (show (["sender", "plan"]:List Str).Nodup from by decide +kernel),b7,ao (pQ T) hr rfl (aa (au (ae 1) (aG rfl T.Hq)) (aa (ae 0) (ai)))⟩) rfl rfl (by decide +kernel)) (ai))) (ai))))))
theorem fI:aH ["state", "name", "count", "way"] ["state", "name"] (av jM):=by walk_at "sc"
theorem xQ (T:Txt w.params K mg t):aP P w K mg base 1 "under_way" ["state", "name"] L3.fv:=aI T.wb T.xD fI L3.sf L3.uB (λ_ _ _ _ _ _ _ _=>by walk_at "b2") λ_ _ _ _ _ _ hr hu=>
 ak (aC 2 fI.nd (le_int)) (ak (eF Vv rfl (bI (au (ae 0) (aG rfl T.lW))) (fZ 3 fI.nd) (ax (DL 2 fI.nd (aV aZ bx rfl T.df rfl (aa (bZ (fsc:=av jM) ["state", "name", "count", "way"] ["letter", "name"] 1 [1] rfl rfl (bI (aJ (au (ae 3) (aG rfl T.wU)) (au (ae 3) (aG rfl T.pO)))) (λcl C s₀ H₀ ex=>⟨bj 0 (show (["letter", "name"]:List Str).Nodup from by decide +kernel),eV (lt_eq hu (au (ae 0) (aG rfl T.b9)) (ae 1)),ae 0⟩) rfl rfl (by decide +kernel)) (ai)))))) (ax (aE (ae 2))))
theorem wj:aH ["kept", "places"] ["kept", "places"] (av qW):=by walk_at "sc"
theorem Bk (T:Txt w.params K mg t):aP P w K mg base 1 "new_ones" ["kept", "places"] L3.gc:=aI T.Ac T.AF wj L3.vn L3.xR (λ_ _ _ _ _ _ _ _=>by walk_at "b2") λ_ _ _ _ _ _ hr hu=>
 ax (aE (ix (mP (au (ae 0) (aG rfl T.pj)) (cV)) (ae 1) (aV (C0 rfl) Hz rfl T.QR rfl (aa (ae 1) (aa (au (ae 0) (aG rfl T.pj)) (ai))))))
theorem dS:aH ["kept", "places", "old", "count", "first", "left", "filled"] ["kept", "places"] (av qx):=by walk_at "sc"
theorem Af (T:Txt w.params K mg t):aP P w K mg base 2 "sent_off" ["kept", "places"] L3.gi:=aI T.yQ T.A9 dS L3.uP L3.xy (λ_ _ _ _ _ _ _ _=>by walk_at "b2") λ_ _ _ _ _ _ hr hu=>
 ak (aC 2 dS.nd (nE (au (ae 0) (aG rfl T.uG)) (ql) (iT (ae 1)))) (ak (aC 3 dS.nd (ao (Bk T) hr rfl (aa (ae 0) (aa (fW (ae 1) (aV aZ bx rfl T.df rfl (aa (ae 2) (ai)))) (ai))))) (ak (aC 4 dS.nd (au (ae 0) (aG rfl T.Ad))) (ak (aC 5 dS.nd (ix (mP (au (ae 0) (aG rfl T.pj)) (cV)) (cV) (fW (au (ae 0) (aG rfl T.pj)) (ae 3)))) (ak (aC 6 dS.nd (aJ (aJ (nE (ae 0) (ql) (iT (aG rfl T.Ad))) (aQ (aa (aJ (ae 4) (ae 3)) (aa (ae 5) (aa (nE (au (ae 0) (aG rfl T.uG)) (iT (aV aZ bx rfl T.df rfl (aa (ae 2) (ai)))) (ql)) (ai)))))) (nE (ae 0) (iT (aG rfl T.qZ)) (ql)))) (ax (aE (aQ (aa (ae 6) (aa (aJ (ae 2) (MA rfl rfl T.bo rfl T.lL (ae 4) (aJ (ae 4) (ae 3)))) (ai))))))))))
theorem hE:aH ["grid", "sender", "kept", "state", "heard", "told", "again", "ready"] ["grid", "sender", "kept", "state"] (av wC):=by walk_at "sc"
theorem IT (T:Txt w.params K mg t):aP P w K mg base 6 "beaten" ["grid", "sender", "kept", "state"] L3.j2:=aI T.EK T.Eo hE L3.zM L3.C9 (λ_ _ _ _ _ _ _ _=>by walk_at "b4") λ_ _ _ _ _ _ hr hu=>
 ak (bN (yD hu (au (ae 2) (aG rfl T.Fi)) (le_int)) (ax (aE (aQ (aa (ae 2) (aa (aQ (ai)) (ai)))))) (a6)) (ak (aC 4 hE.nd (aQ (aa (au (ae 2) (aG rfl T.Ib)) (aa (au (ae 2) (aG rfl T.yG)) (aa (aV aZ bx rfl T.df rfl (aa (au (ae 2) (aG rfl T.qZ)) (ai))) (aa (au (ae 2) (aG rfl T.HM)) (ai))))))) (ak (aC 5 hE.nd (ao (zN T) hr rfl (aa (au (ae 1) (aG rfl T.HC)) (aa (ae 0) (aa (au (ae 2) (aG rfl T.xi)) (aa (au (ae 2) (aG rfl T.Kd)) (aa (ae 4) (ai)))))))) (ak (aC 6 hE.nd (aY aO a7 rfl T.bo rfl (aa (vK rfl T.o9 rfl (aa (aJ (au (ae 2) (aG rfl T.uG)) (au (ae 2) (aG rfl T.qZ))) (ai))) (ai)))) (ak (aC 7 hE.nd (aQ (aa (au (ae 2) (aG rfl T.b9)) (aa (au (ae 2) (aG rfl T.Fi)) (aa (au (ae 5) (le_int)) (aa (au (ae 5) (le_int)) (aa (au (ae 2) (aG rfl T.Ad)) (aa (au (ae 2) (aG rfl T.pj)) (aa (ae 6) (aa (aQ (ai)) (aa (le_int) (aa (le_int) (aa (le_int) (ai)))))))))))))) (ax (aE (ao (Af T) hr rfl (aa (ae 7) (aa (aV (sZ rfl) xc rfl T.Bv rfl (aa (le_int) (aa (fW (ao (zp T) hr rfl (aa (au (ae 5) (le_int)) (ai))) (ao (xQ T) hr rfl (aa (ae 3) (aa (au (ae 2) (aG rfl T.b9)) (ai))))) (ai)))) (ai))))))))))
theorem cF:aH ["senders", "numbers", "sent", "turn", "sender", "own"] ["senders", "numbers"] (av fj):=by walk_at "sc"
theorem nL (T:Txt w.params K mg t):aP P w K mg base 1 "sent_in_order" ["senders", "numbers"] L3.da:=aI T.nZ T.ow cF L3.lq L3.mf (λ_ _ _ _ _ _ _ _=>by walk_at "b2") λ_ _ _ _ _ _ hr hu=>
 ak (aC 2 cF.nd (gJ (ai))) (ak (eF Vv rfl (j7 rfl T.lL (BD rfl rfl T.Bv (bZ (fsc:=av fj) ["senders", "numbers", "sent", "turn", "sender", "own"] ["own"] 1 [] rfl rfl (bI (ae 1)) (λcl C s₀ H₀ ex=>⟨bj 0 (show (["own"]:List Str).Nodup from by decide +kernel),b7,aV aZ bx rfl T.df rfl (aa (ae 0) (ai))⟩) rfl rfl (by decide +kernel)) (le_int))) (fZ 3 cF.nd) (ax (eF Vv rfl (jX rfl T.qP (aa (ae 0) (aa (ae 1) (ai)))) (jy rfl (bz 4 cF.nd (bz 5 cF.nd (gE)))) (ax (bN (l6 (ae 3) (aV aZ bx rfl T.df rfl (aa (ae 5) (ai)))) (ax (cU (le_app (ae 2) (aQ (aa (au (au (ae 4) (aG rfl T.Hn)) (le_int)) (aa (aQ (aa (au (ae 4) (aG rfl T.b9)) (aa (au (ae 5) (ae 3)) (aa (le_int) (aa (le_int) (aa (le_int) (ai))))))) (ai))))))) (a6)))))) (ax (aE (p9 (ae 2)))))
theorem j3:aH ["way", "names", "kept", "sent", "came", "held", "told"] ["way", "names", "kept", "sent"] (av qu):=by walk_at "sc"
theorem IE (T:Txt w.params K mg t):aP P w K mg base 4 "passed" ["way", "names", "kept", "sent"] L3.j4:=aI T.Hb T.IJ j3 L3.AK L3.D6 (λ_ _ _ _ _ _ _ _=>by walk_at "b4") λ_ _ _ _ _ _ hr hu=>
 ak (aC 4 j3.nd (aJ (au (ae 2) (aG rfl T.wU)) (aY aO a7 rfl T.bo rfl (aa (bZ (fsc:=av qu) ["way", "names", "kept", "sent", "came", "held", "told"] ["first", "letter", "way"] 2 [0] rfl rfl (bI (ae 3)) (λcl C s₀ H₀ ex=>⟨gq rfl (bw 0 (show (["first", "letter", "way"]:List Str).Nodup from by decide +kernel) (bw 1 (show (["first", "letter", "way"]:List Str).Nodup from by decide +kernel) (fe))),eV (lt_eq hu (ae 0) (au (ae 2) (aG rfl T.b9))),ae 1⟩) rfl rfl (by decide +kernel)) (ai))))) (ak (aC 5 j3.nd (ao (y6 T) hr rfl (aa (ae 0) (aa (au (ae 2) (aG rfl T.pO)) (aa (ae 4) (ai)))))) (ak (aC 6 j3.nd (ao (Dx T) hr rfl (aa (ae 0) (aa (ae 1) (aa (au (ae 5) (le_int)) (aa (au (ae 2) (aG rfl T.Oy)) (ai))))))) (ax (aE (aQ (aa (ae 4) (aa (au (ae 5) (le_int)) (aa (au (ae 6) (le_int)) (aa (au (ae 6) (le_int)) (aa (au (ae 6) (le_int)) (ai)))))))))))
theorem ka:aH ["roads", "letter", "road"] ["roads", "letter"] (av lP):=by walk_at "sc"
theorem iN (T:Txt w.params K mg t):aP P w K mg base 1 "way_behind" ["roads", "letter"] L3.cP:=aI T.u9 T.uZ ka L3.pM L3.sA (λ_ _ _ _ _ _ _ _=>by walk_at "b2") λ_ _ _ _ _ _ hr hu=>
 ak (aC 2 ka.nd (cD hu (ae 0) (au (ae 1) (aG rfl T.b9)))) (ax (aE (ix (l6 (aJ (au (ae 1) (aG rfl T.CM)) (le_int)) (aV aZ bx rfl T.df rfl (aa (ae 2) (ai)))) (au (ae 2) (aJ (au (ae 1) (aG rfl T.CM)) (le_int))) (cV))))
theorem cL:aH ["way", "roads", "went", "events", "place", "letter", "word"] ["way", "roads", "went"] (av mN):=by walk_at "sc"
theorem vP (T:Txt w.params K mg t):aP P w K mg base 2 "events_of" ["way", "roads", "went"] L3.ft:=aI T.xf T.xm cL L3.rX L3.t9 (λ_ _ _ _ _ _ _ _=>by walk_at "b3") λ_ _ _ _ _ _ hr hu=>
 ak (aC 3 cL.nd (gJ (ai))) (ak (eF Vv rfl (ug rfl T.jN (aa (au (ae 2) (le_int)) (ai))) (jy rfl (bz 4 cL.nd (bz 5 cL.nd (gE)))) (ak (aC 6 cL.nd (ix (l6 (ae 4) (fW (aV aZ bx rfl T.df rfl (aa (au (ae 2) (le_int)) (ai))) (aV aZ bx rfl T.df rfl (aa (au (ae 2) (le_int)) (ai))))) (le_str) (le_str))) (ax (cU (le_app (ae 3) (aQ (aa (ae 6) (aa (au (ae 5) (aG rfl T.b9)) (aa (au (ae 5) (aG rfl T.jt)) (aa (au (ae 0) (aG rfl T.b9)) (ai))))))))))) (ak (eF Vv rfl (bI (au (ae 2) (le_int))) (fZ 5 cL.nd) (ak (aC 6 cL.nd (ix (mP (ao (iN T) hr rfl (aa (ae 1) (aa (ae 5) (ai)))) (cV)) (le_str) (le_str))) (ax (cU (le_app (ae 3) (aQ (aa (ae 6) (aa (au (ae 5) (aG rfl T.b9)) (aa (au (ae 5) (aG rfl T.jt)) (aa (au (ae 0) (aG rfl T.b9)) (ai))))))))))) (ax (aE (p9 (ae 3))))))
theorem Jl:aH ["letter", "hops"] ["letter", "hops"] (av HF):=by walk_at "sc"
theorem HZ (T:Txt w.params K mg t):aP P w K mg base 1 "aged" ["letter", "hops"] L3.lS:=aI T.Pr T.OR Jl L3.Hu L3.K3 (λ_ _ _ _ _ _ _ _=>by walk_at "b2") λ_ _ _ _ _ _ hr hu=>
 ax (aE (aQ (aa (au (ae 0) (aG rfl T.b9)) (aa (au (ae 0) (aG rfl T.jt)) (aa (aJ (au (ae 0) (aG rfl T.M9)) (le_int)) (aa (aJ (au (ae 0) (aG rfl T.CM)) (ae 1)) (aa (au (ae 0) (aG rfl T.jm)) (ai))))))))
theorem lI:aH ["way", "roads", "went", "out", "coming"] ["way", "roads", "went", "out"] (av gF):=by walk_at "sc"
theorem vH (T:Txt w.params K mg t):aP P w K mg base 2 "way_after" ["way", "roads", "went", "out"] L3.fq:=aI T.xr T.yl lI L3.rP L3.ve (λ_ _ _ _ _ _ _ _=>by walk_at "b4") λ_ _ _ _ _ _ hr hu=>
 ak (mH (fsc:=av gF) 4 lI.nd ["way", "roads", "went", "out", "coming"] ["letter", "roads", "way"] 1 [1,0] rfl rfl (ae 3) (λcl C s₀ H₀ ex=>⟨bj 0 (show (["letter", "roads", "way"]:List Str).Nodup from by decide +kernel),eV (lt_eq hu (ao (iN T) hr rfl (aa (ae 1) (aa (ae 0) (ai)))) (au (ae 2) (aG rfl T.b9))),ao (HZ T) hr rfl (aa (ae 0) (aa (le_int) (ai)))⟩) rfl rfl (by decide +kernel)) (ax (aE (aQ (aa (aY aO a7 rfl T.bo rfl (aa (ae 4) (ai))) (aa (aY aO a7 rfl T.bo rfl (aa (bZ (fsc:=av gF) ["way", "roads", "went", "out", "coming"] ["letter"] 1 [] rfl rfl (bI (au (ae 2) (le_int))) (λcl C s₀ H₀ ex=>⟨bj 0 (show (["letter"]:List Str).Nodup from by decide +kernel),b7,ao (HZ T) hr rfl (aa (ae 0) (aa (le_int) (ai)))⟩) rfl rfl (by decide +kernel)) (ai))) (aa (au (ae 2) (le_int)) (ai)))))))
theorem uL:aH ["sender", "due"] ["sender", "due"] (av nv):=by walk_at "sc"
theorem yf (T:Txt w.params K mg t):aP P w K mg base 1 "due_after" ["sender", "due"] L3.fz:=aI T.yH T.xl uL L3.sy L3.vv (λ_ _ _ _ _ _ _ _=>by walk_at "b2") λ_ _ _ _ _ _ hr hu=>
 ak (bN (mP (ae 1) (cV)) (ax (aE (cV))) (a6)) (ax (aE (ix (lt_eq hu (ae 1) (le_int)) (fW (au (ae 0) (aG rfl T.Qc)) (le_int)) (fW (ae 1) (le_int)))))
theorem bF:aH ["sender", "kept", "lost", "taken", "numbers", "own", "marked", "wait", "heard", "start"] ["sender", "kept", "lost", "taken"] (av cE):=by walk_at "sc"
theorem pU (T:Txt w.params K mg t):aP P w K mg base 2 "sender_after" ["sender", "kept", "lost", "taken"] L3.dN:=aI T.pP T.qI bF L3.mB L3.oi (λ_ _ _ _ _ _ _ _=>by walk_at "b4") λ_ _ _ _ _ _ hr hu=>
 ak (mH (fsc:=av cE) 4 bF.nd ["sender", "kept", "lost", "taken", "numbers", "own", "marked", "wait", "heard", "start"] ["letter", "sender"] 1 [0] rfl rfl (ae 2) (λcl C s₀ H₀ ex=>⟨bj 0 (show (["letter", "sender"]:List Str).Nodup from by decide +kernel),eV (lt_eq hu (au (ae 0) (aG rfl T.b9)) (au (ae 1) (aG rfl T.b9))),au (ae 0) (aG rfl T.jt)⟩) rfl rfl (by decide +kernel)) (ak (fN (fsc:=av cE) 5 bF.nd ["sender", "kept", "lost", "taken", "numbers", "own", "marked", "wait", "heard", "start"] ["letter", "sender"] 1 [0] rfl rfl (bI (ae 3)) (λcl C s₀ H₀ ex=>⟨bj 0 (show (["letter", "sender"]:List Str).Nodup from by decide +kernel),eV (lt_eq hu (au (ae 0) (aG rfl T.b9)) (au (ae 1) (aG rfl T.b9))),ae 0⟩) rfl rfl (by decide +kernel)) (ak (aC 6 bF.nd (aV (Dr rfl) F9 rfl T.SH rfl (aa (bZ (fsc:=av cE) ["sender", "kept", "lost", "taken", "numbers", "own", "marked", "wait", "heard", "start"] ["letter"] 1 [] rfl rfl (bI (ae 5)) (λcl C s₀ H₀ ex=>⟨bj 0 (show (["letter"]:List Str).Nodup from by decide +kernel),b7,au (ae 0) (aG rfl T.jm)⟩) rfl rfl (by decide +kernel)) (ai)))) (ak (aC 7 bF.nd (BD rfl rfl T.Bv (bZ (fsc:=av cE) ["sender", "kept", "lost", "taken", "numbers", "own", "marked", "wait", "heard", "start"] ["letter"] 1 [] rfl rfl (bI (ae 5)) (λcl C s₀ H₀ ex=>⟨bj 0 (show (["letter"]:List Str).Nodup from by decide +kernel),b7,fW (au (ae 0) (aG rfl T.M9)) (au (ae 0) (aG rfl T.CM))⟩) rfl rfl (by decide +kernel)) (le_int))) (ak (aC 8 bF.nd (aQ (aa (fW (aJ (au (ae 1) (aG rfl T.Ib)) (aV aZ bx rfl T.df rfl (aa (ae 5) (ai)))) (ae 6)) (aa (aJ (au (ae 1) (aG rfl T.yG)) (ae 6)) (aa (aV (sZ rfl) xc rfl T.Bv rfl (aa (au (ae 1) (aG rfl T.HM)) (aa (ae 7) (ai)))) (ai)))))) (ak (aC 9 bF.nd (aQ (aa (au (ae 1) (aG rfl T.b9)) (aa (ao (yf T) hr rfl (aa (ae 0) (aa (au (ae 1) (aG rfl T.Fi)) (ai)))) (ai))))) (ax (aE (aJ (aJ (aJ (ae 9) (nE (ae 1) (iT (aG rfl T.xi)) (iT (aG rfl T.qZ)))) (aQ (aa (aY aO a7 rfl T.bo rfl (aa (vK rfl T.o9 rfl (aa (aJ (au (ae 1) (aG rfl T.qZ)) (aY aO a7 rfl T.bo rfl (aa (ae 4) (ai)))) (ai))) (ai))) (ai)))) (ae 8)))))))))
theorem bh:aH ["plan", "state", "senders", "names", "roads", "beats", "sent", "went", "events", "lost", "out", "way", "told", "taken", "ways", "after"] ["plan", "state"] (av cG):=by walk_at "sc"
theorem CZ (T:Txt w.params K mg t):aP P w K mg base 7 "stepped" ["plan", "state"] L3.iX:=aI T.Dw T.C5 bh L3.xT L3.y4 (λ_ _ _ _ _ _ _ _=>by walk_at "b2") λ_ _ _ _ _ _ hr hu=>
 ak (aC 2 bh.nd (au (ae 0) (aG rfl T.sQ))) (ak (aC 3 bh.nd (aY aO a7 rfl T.bo rfl (aa (bZ (fsc:=av cG) ["plan", "state", "senders", "names", "roads", "beats", "sent", "went", "events", "lost", "out", "way", "told", "taken", "ways", "after"] ["sender"] 1 [] rfl rfl (bI (ae 2)) (λcl C s₀ H₀ ex=>⟨bj 0 (show (["sender"]:List Str).Nodup from by decide +kernel),b7,au (ae 0) (aG rfl T.b9)⟩) rfl rfl (by decide +kernel)) (ai)))) (ak (aC 4 bh.nd (aY (zE rfl) Iv rfl T.NR rfl (aa (bZ (fsc:=av cG) ["plan", "state", "senders", "names", "roads", "beats", "sent", "went", "events", "lost", "out", "way", "told", "taken", "ways", "after"] ["sender"] 1 [] rfl rfl (bI (ae 2)) (λcl C s₀ H₀ ex=>⟨bj 0 (show (["sender"]:List Str).Nodup from by decide +kernel),b7,aQ (aa (au (ae 0) (aG rfl T.b9)) (aa (au (ae 0) (aG rfl T.Hn)) (ai)))⟩) rfl rfl (by decide +kernel)) (ai)))) (ak (fN (fsc:=av cG) 5 bh.nd ["plan", "state", "senders", "names", "roads", "beats", "sent", "went", "events", "lost", "out", "way", "told", "taken", "ways", "after"] ["sender", "kept", "state", "plan"] 2 [1,0] rfl rfl (jX rfl T.qP (aa (ae 2) (aa (au (ae 1) (aG rfl T.nO)) (ai)))) (λcl C s₀ H₀ ex=>⟨gq rfl (bw 0 (show (["sender", "kept", "state", "plan"]:List Str).Nodup from by decide +kernel) (bw 1 (show (["sender", "kept", "state", "plan"]:List Str).Nodup from by decide +kernel) (fe))),b7,ao (IT T) hr rfl (aa (au (ae 3) (aG rfl T.Hq)) (aa (ae 0) (aa (ae 1) (aa (ae 2) (ai)))))⟩) rfl rfl (by decide +kernel)) (ak (aC 6 bh.nd (ao (nL T) hr rfl (aa (ae 2) (aa (bZ (fsc:=av cG) ["plan", "state", "senders", "names", "roads", "beats", "sent", "went", "events", "lost", "out", "way", "told", "taken", "ways", "after"] ["kept", "numbers"] 2 [] rfl rfl (bI (ae 5)) (λcl C s₀ H₀ ex=>⟨gq rfl (bw 0 (show (["kept", "numbers"]:List Str).Nodup from by decide +kernel) (bw 1 (show (["kept", "numbers"]:List Str).Nodup from by decide +kernel) (fe))),b7,ae 1⟩) rfl rfl (by decide +kernel)) (ai))))) (ak (fN (fsc:=av cG) 7 bh.nd ["plan", "state", "senders", "names", "roads", "beats", "sent", "went", "events", "lost", "out", "way", "told", "taken", "ways", "after"] ["way", "kept", "names", "sent"] 2 [3,6] rfl rfl (jX rfl T.qP (aa (au (ae 0) (aG rfl T.u7)) (aa (au (ae 1) (aG rfl T.lW)) (ai)))) (λcl C s₀ H₀ ex=>⟨gq rfl (bw 0 (show (["way", "kept", "names", "sent"]:List Str).Nodup from by decide +kernel) (bw 1 (show (["way", "kept", "names", "sent"]:List Str).Nodup from by decide +kernel) (fe))),b7,ao (IE T) hr rfl (aa (ae 0) (aa (ae 2) (aa (ae 1) (aa (ae 3) (ai)))))⟩) rfl rfl (by decide +kernel)) (ak (EH (fsc:=av cG) 8 bh.nd ["plan", "state", "senders", "names", "roads", "beats", "sent", "went", "events", "lost", "out", "way", "told", "taken", "ways", "after"] ["first", "letter"] 2 [] rfl rfl (bI (ae 6)) (λcl C s₀ H₀ ex=>⟨gq rfl (bw 0 (show (["first", "letter"]:List Str).Nodup from by decide +kernel) (bw 1 (show (["first", "letter"]:List Str).Nodup from by decide +kernel) (fe))),b7,aQ (aa (le_str) (aa (au (ae 1) (aG rfl T.b9)) (aa (au (ae 1) (aG rfl T.jt)) (aa (ae 0) (ai)))))⟩) rfl rfl (by decide +kernel)) (ak (aC 9 bh.nd (gJ (ai))) (ak (aC 10 bh.nd (gJ (ai))) (ak (eF Vv rfl (jX rfl T.qP (aa (au (ae 0) (aG rfl T.u7)) (aa (ae 7) (ai)))) (jy rfl (bz 11 bh.nd (bz 12 bh.nd (gE)))) (ak (cU (oH (ae 8) (ao (vP T) hr rfl (aa (ae 11) (aa (ae 4) (aa (ae 12) (ai))))))) (ak (cU (oH (ae 9) (au (ae 12) (le_int)))) (ax (cU (oH (ae 10) (au (ae 12) (le_int)))))))) (ak (aC 13 bh.nd (D8 (fsc:=av cG) ["plan", "state", "senders", "names", "roads", "beats", "sent", "went", "events", "lost", "out", "way", "told", "taken", "ways", "after"] ["letter", "roads"] 1 [4] rfl rfl (ae 10) (λcl C s₀ H₀ ex=>⟨bj 0 (show (["letter", "roads"]:List Str).Nodup from by decide +kernel),eV (mP (ao (iN T) hr rfl (aa (ae 1) (aa (ae 0) (ai)))) (cV)),ae 0⟩) rfl rfl (by decide +kernel))) (ak (fN (fsc:=av cG) 14 bh.nd ["plan", "state", "senders", "names", "roads", "beats", "sent", "went", "events", "lost", "out", "way", "told", "taken", "ways", "after"] ["way", "told", "roads", "out"] 2 [4,10] rfl rfl (jX rfl T.qP (aa (au (ae 0) (aG rfl T.u7)) (aa (ae 7) (ai)))) (λcl C s₀ H₀ ex=>⟨gq rfl (bw 0 (show (["way", "told", "roads", "out"]:List Str).Nodup from by decide +kernel) (bw 1 (show (["way", "told", "roads", "out"]:List Str).Nodup from by decide +kernel) (fe))),b7,ao (vH T) hr rfl (aa (ae 0) (aa (ae 2) (aa (ae 1) (aa (ae 3) (ai)))))⟩) rfl rfl (by decide +kernel)) (ak (fN (fsc:=av cG) 15 bh.nd ["plan", "state", "senders", "names", "roads", "beats", "sent", "went", "events", "lost", "out", "way", "told", "taken", "ways", "after"] ["sender", "beat", "lost", "taken"] 2 [9,13] rfl rfl (jX rfl T.qP (aa (ae 2) (aa (ae 5) (ai)))) (λcl C s₀ H₀ ex=>⟨gq rfl (bw 0 (show (["sender", "beat", "lost", "taken"]:List Str).Nodup from by decide +kernel) (bw 1 (show (["sender", "beat", "lost", "taken"]:List Str).Nodup from by decide +kernel) (fe))),b7,ao (pU T) hr rfl (aa (ae 0) (aa (au (ae 1) (le_int)) (aa (ae 2) (aa (ae 3) (ai)))))⟩) rfl rfl (by decide +kernel)) (ax (aE (aQ (aa (aQ (aa (aY aO a7 rfl T.bo rfl (aa (ae 14) (ai))) (aa (aY aO a7 rfl T.bo rfl (aa (ae 15) (ai))) (ai)))) (aa (p9 (ae 8)) (ai))))))))))))))))))
theorem l7:aH ["plan", "many", "state", "rows", "turn", "told"] ["plan", "many"] (av Nt):=by walk_at "sc"
theorem Ni (T:Txt w.params K mg t):aP P w K mg base 8 "run" ["plan", "many"] p7:=aI T.Q1 T.R0 l7 Lv OT (λ_ _ _ _ _ _ _ _=>by walk_at "b2") λ_ _ _ _ _ _ hr hu=>
 ak (aC 2 l7.nd (ao (Jv T) hr rfl (aa (ae 0) (ai)))) (ak (aC 3 l7.nd (gJ (ai))) (ak (eF Vv rfl (j7 rfl T.lL (ae 1)) (fZ 4 l7.nd) (ak (aC 5 l7.nd (ao (CZ T) hr rfl (aa (ae 0) (aa (ae 2) (ai))))) (ak (aC 2 l7.nd (au (ae 5) (le_int))) (ax (cU (le_app (ae 3) (au (ae 5) (le_int)))))))) (ax (aE (aQ (aa (ae 2) (aa (p9 (ae 3)) (ai))))))))
theorem ff:aH ["plan", "name", "number", "many", "told", "turn", "events", "word", "owner", "own_number", "way"] ["plan", "name", "number", "many"] (av Ca):=by walk_at "sc"
theorem B8 (T:Txt w.params K mg t):aP P w K mg base 9 "story" ["plan", "name", "number", "many"] jE:=aI T.Kl T.Ks ff CY Hf (λ_ _ _ _ _ _ _ _=>by walk_at "b4") λ_ _ _ _ _ _ hr hu=>
 ak (aC 4 ff.nd (gJ (ai))) (ak (eF Vv rfl (ug rfl T.jN (aa (au (ao (Ni T) hr rfl (aa (ae 0) (aa (ae 3) (ai)))) (le_int)) (ai))) (jy rfl (bz 5 ff.nd (bz 6 ff.nd (gE)))) (ax (eF Vv rfl (bI (ae 6)) (jy rfl (bz 7 ff.nd (bz 8 ff.nd (bz 9 ff.nd (bz 10 ff.nd (gE)))))) (ax (bN (LW.lt (ma (lt_eq hu (ae 8) (ae 1)) (j5 (lt_eq hu (ae 9) (ae 2))))) (ax (cU (le_app (ae 4) (aQ (aa (ae 5) (aa (ae 7) (aa (ae 10) (ai)))))))) (a6)))))) (ax (aE (ae 4))))
theorem xJ:aH ["_law_script"] ["_law_script"] (av qO):=by walk_at "sc"
theorem Bf (T:Txt w.params K mg t):aP P w K mg base 1 "_law_pot" ["_law_script"] L3.oG:=aI T.Ak T.zI xJ L3.Ew L3.Jx (λ_ _ _ _ _ _ _ _=>by walk_at "b1") λ_ _ _ _ _ _ hr hu=>
 ax (aE (Ji (jY (IL rfl rfl T.mC rfl (aa (ae 0) (ai))) (jY (le_int) (jY (le_int) (jY (le_int) (jY (le_int) (jY (le_int) (J7)))))))))
theorem jw:aH ["_law_number", "_law_turn", "_law_one", "_law_two"] ["_law_number", "_law_turn"] (av pE):=by walk_at "sc"
theorem qc (T:Txt w.params K mg t):aP P w K mg base 1 "_law_mix" ["_law_number", "_law_turn"] L3.iK:=aI T.zB T.yX jw L3.GJ L3.Jt (λ_ _ _ _ _ _ _ _=>by walk_at "b2") λ_ _ _ _ _ _ hr hu=>
 ak (aC 2 jw.nd (iC (le_mul (aJ (aJ (iC (ae 0) (le_int)) (le_mul (le_int) (ae 1))) (le_int)) (le_int)) (le_int))) (ak (aC 3 jw.nd (iC (le_mul (ae 2) (ae 2)) (le_int))) (ax (aE (iC (le_mul (aJ (ae 3) (ae 1)) (le_int)) (le_int)))))
theorem iP:aH ["_law_pot_here", "_law_many", "_law_cell", "_law_digit"] ["_law_pot_here", "_law_many"] (av nI):=by walk_at "sc"
theorem aA (T:Txt w.params K mg t):aP P w K mg base 2 "_law_take" ["_law_pot_here", "_law_many"] iR:=aI T.vM T.w4 iP rQ uK (λ_ _ _ _ _ _ _ _=>by walk_at "b2") λ_ _ _ _ _ _ hr hu=>
 ak (kE hu (ae 0) (le_str) (le_int)) (ak (bN (LW.lt (ma (LW.lt (Cm (lt_eq hu (cD hu (ae 0) (le_str)) (le_int)) (vj (lt_eq hu (cD hu (ae 0) (le_str)) (le_int))))) (j5 (l6 (cD hu (ae 0) (le_str)) (aV aZ bx rfl T.df rfl (aa (cD hu (ae 0) (le_str)) (ai))))))) (ak (aC 2 iP.nd (aV rL uu rfl T.GD rfl (aa (au (cD hu (ae 0) (le_str)) (cD hu (ae 0) (le_str))) (ai)))) (ak (kE hu (ae 0) (le_str) (le_int)) (ak (ly hu (ae 0) (le_str) (le_mul (ae 2) (aY tq Cu rfl T.F6 rfl (aa (Se (ae 2) (le_pow (le_int) (le_int))) (ai))))) (ak (ly hu (ae 0) (le_str) (le_int)) (ax (ly hu (ae 0) (le_str) (ao (qc T) hr rfl (aa (aJ (cD hu (ae 0) (le_str)) (ae 2)) (aa (cD hu (ae 0) (le_str)) (ai)))))))))) (a6)) (ak (bN (LW.lt (ma (nz (cD hu (ae 0) (le_str)) (le_int)) (j5 (l6 (cD hu (ae 0) (le_str)) (le_int))))) (ak (kE hu (ae 0) (le_str) (le_int)) (ak (aC 3 iP.nd (iC (cD hu (ae 0) (le_str)) (ae 1))) (ak (ly hu (ae 0) (le_str) (js (cD hu (ae 0) (le_str)) (ae 1))) (ax (aE (ae 3)))))) (a6)) (ak (ly hu (ae 0) (le_str) (ao (qc T) hr rfl (aa (cD hu (ae 0) (le_str)) (aa (cD hu (ae 0) (le_str)) (ai))))) (ax (aE (iC (js (cD hu (ae 0) (le_str)) (le_int)) (ae 1)))))))
theorem eX:aH ["_law_pot_here", "_law_many", "_law_words", "_law_first", "_law_step"] ["_law_pot_here", "_law_many"] (av iD):=by walk_at "sc"
theorem l5 (T:Txt w.params K mg t):aP P w K mg base 3 "_law_names" ["_law_pot_here", "_law_many"] L3.ie:=aI T.uC T.vi eX L3.Ao L3.Dd (λ_ _ _ _ _ _ _ _=>by walk_at "b2") λ_ _ _ _ _ _ hr hu=>
 ak (aC 2 eX.nd (cQ (aa (le_str) (aa (le_str) (aa (le_str) (aa (le_str) (aa (le_str) (aa (le_str) (aa (le_str) (aa (le_str) (aa (le_str) (aa (le_str) (aa (le_str) (aa (le_str) (aa (le_str) (aa (le_str) (aa (le_str) (aa (le_str) (ai))))))))))))))))))) (ak (ER (aQ (aa (ao (aA T) hr rfl (aa (ae 0) (aa (le_int) (ai)))) (aa (aJ (le_int) (ao (aA T) hr rfl (aa (ae 0) (aa (le_int) (ai))))) (ai)))) (jy rfl (bz 3 eX.nd (bz 4 eX.nd (gE))))) (ax (aE (bZ (fsc:=av iD) ["_law_pot_here", "_law_many", "_law_words", "_law_first", "_law_step"] ["_law_k", "_law_words", "_law_first", "_law_step"] 1 [2,3,4] rfl rfl (j7 rfl T.lL (ae 1)) (λcl C s₀ H₀ ex=>⟨bj 0 (show (["_law_k", "_law_words", "_law_first", "_law_step"]:List Str).Nodup from by decide +kernel),b7,au (aJ (ae 1) (cQ (aa (le_str) (ai)))) (iC (aJ (ae 2) (le_mul (ae 3) (ae 0))) (le_int))⟩) rfl rfl (by decide +kernel)))))
theorem fJ:aH ["_law_top", "_law_bottom", "_law_one", "_law_other"] ["_law_top", "_law_bottom"] (av j9):=by walk_at "sc"
theorem dz (T:Txt w.params K mg t):aP P w K mg base 1 "_law_lowest" ["_law_top", "_law_bottom"] L3.cc:=aI T.sx T.rT fJ L3.zZ L3.Dj (λ_ _ _ _ _ _ _ _=>by walk_at "b2") λ_ _ _ _ _ _ hr hu=>
 ak (uQ 2 3 rfl fJ.nd (aa (ae 0) (aa (ae 1) (ai)))) (ak (qK Vv (nz (ae 3) (le_int)) (ax (uQ 2 3 rfl fJ.nd (aa (ae 3) (aa (iC (ae 2) (ae 3)) (ai)))))) (ax (aE (aQ (aa (js (ae 0) (ae 2)) (aa (js (ae 1) (ae 2)) (ai)))))))
theorem gY:aH ["_law_pot_here", "_law_low", "_law_most", "_law_bottom"] ["_law_pot_here", "_law_low", "_law_most"] (av i8):=by walk_at "sc"
theorem i4 (T:Txt w.params K mg t):aP P w K mg base 3 "_law_fraction" ["_law_pot_here", "_law_low", "_law_most"] L3.cI:=aI T.nR T.oh gY L3.sv L3.vd (λ_ _ _ _ _ _ _ _=>by walk_at "b3") λ_ _ _ _ _ _ hr hu=>
 ak (aC 3 gY.nd (au (cQ (aa (le_int) (aa (le_int) (aa (le_int) (aa (le_int) (aa (le_int) (aa (le_int) (ai)))))))) (ao (aA T) hr rfl (aa (ae 0) (aa (le_int) (ai)))))) (ax (aE (ao (dz T) hr rfl (aa (aJ (le_mul (ae 1) (ae 3)) (ao (aA T) hr rfl (aa (ae 0) (aa (aJ (le_mul (fW (ae 2) (ae 1)) (ae 3)) (le_int)) (ai))))) (aa (ae 3) (ai))))))
theorem cw:aH ["_law_pot_here", "_law_most", "_law_word", "_law_w", "_law_top", "_law_parts", "_law_up", "_law_down", "_law_low"] ["_law_pot_here", "_law_most"] (av nG):=by walk_at "sc"
theorem vT (T:Txt w.params K mg t):aP P w K mg base 4 "_law_rule" ["_law_pot_here", "_law_most"] iu:=aI T.xU T.vY cw rW vp (λ_ _ _ _ _ _ _ _=>by walk_at "b2") λ_ _ _ _ _ _ hr hu=>
 ak (aC 2 cw.nd (au (cQ (aa (le_str) (aa (le_str) (aa (le_str) (aa (le_str) (aa (le_str) (ai))))))) (ao (aA T) hr rfl (aa (ae 0) (aa (le_int) (ai)))))) (ak (uQ 3 4 rfl cw.nd (aa (ao (i4 T) hr rfl (aa (ae 0) (aa (le_int) (aa (ae 1) (ai))))) (aa (ao (i4 T) hr rfl (aa (ae 0) (aa (le_int) (aa (ae 1) (ai))))) (ai)))) (ak (bN (nz (le_mul (au (ae 3) (le_int)) (au (ae 4) (le_int))) (le_mul (au (ae 4) (le_int)) (au (ae 3) (le_int)))) (ax (uQ 3 4 rfl cw.nd (aa (ae 4) (aa (ae 3) (ai))))) (a6)) (ak (aC 5 cw.nd (aJ (le_int) (ao (aA T) hr rfl (aa (ae 0) (aa (le_int) (ai)))))) (ak (aC 6 cw.nd (ao (dz T) hr rfl (aa (aJ (le_int) (ao (aA T) hr rfl (aa (ae 0) (aa (le_mul (le_int) (ae 5)) (ai))))) (aa (ae 5) (ai))))) (ak (aC 7 cw.nd (ao (dz T) hr rfl (aa (aJ (le_int) (ao (aA T) hr rfl (aa (ae 0) (aa (ae 5) (ai))))) (aa (aJ (ae 5) (le_int)) (ai))))) (ak (bN (lt_eq hu (ae 2) (le_str)) (ax (aE (aQ (aa (ae 2) (aa (ae 3) (ai)))))) (a6)) (ak (bN (lt_eq hu (ae 2) (le_str)) (ax (aE (aQ (aa (ae 2) (aa (ae 3) (aa (ae 6) (aa (ae 7) (aa (ae 4) (ai))))))))) (a6)) (ak (bN (lt_eq hu (ae 2) (le_str)) (ax (aE (aQ (aa (ae 2) (aa (ae 3) (aa (ao (dz T) hr rfl (aa (aJ (au (ae 6) (le_int)) (au (ae 6) (le_int))) (aa (au (ae 6) (le_int)) (ai)))) (aa (ae 7) (aa (ae 4) (ai))))))))) (a6)) (ak (bN (lt_eq hu (ae 2) (le_str)) (ax (aE (aQ (aa (ae 2) (aa (ae 3) (aa (ae 6) (aa (ao (dz T) hr rfl (aa (aJ (le_int) (ao (aA T) hr rfl (aa (ae 0) (aa (ae 5) (ai))))) (aa (ae 5) (ai)))) (aa (ae 4) (ai))))))))) (a6)) (ak (aC 8 cw.nd (ao (aA T) hr rfl (aa (ae 0) (aa (le_int) (ai))))) (ax (aE (aQ (aa (ae 2) (aa (ae 3) (aa (ae 6) (aa (ae 8) (aa (aJ (ae 8) (ao (aA T) hr rfl (aa (ae 0) (aa (le_int) (ai))))) (aa (ae 4) (ai))))))))))))))))))))
theorem c8:aH ["_law_pot_here", "_law_names_here", "_law_rows", "_law_name", "_law_pace", "_law_room", "_law_mark"] ["_law_pot_here", "_law_names_here"] (av mR):=by walk_at "sc"
theorem xB (T:Txt w.params K mg t):aP P w K mg base 3 "_law_ways" ["_law_pot_here", "_law_names_here"] L3.kK:=aI T.yr T.wX c8 L3.DZ L3.Gm (λ_ _ _ _ _ _ _ _=>by walk_at "b2") λ_ _ _ _ _ _ hr hu=>
 ak (aC 2 c8.nd (gJ (ai))) (ak (eF Vv rfl (bI (ae 1)) (fZ 3 c8.nd) (ak (aC 4 c8.nd (au (cQ (aa (le_int) (aa (le_int) (aa (le_int) (aa (le_int) (aa (aJ (le_int) (ao (aA T) hr rfl (aa (ae 0) (aa (le_int) (ai))))) (ai))))))) (ao (aA T) hr rfl (aa (ae 0) (aa (le_int) (ai)))))) (ak (aC 5 c8.nd (au (cQ (aa (aJ (le_int) (ao (aA T) hr rfl (aa (ae 0) (aa (le_int) (ai))))) (aa (aJ (le_int) (ao (aA T) hr rfl (aa (ae 0) (aa (le_int) (ai))))) (aa (aJ (le_int) (ao (aA T) hr rfl (aa (ae 0) (aa (le_int) (ai))))) (ai))))) (ao (aA T) hr rfl (aa (ae 0) (aa (le_int) (ai)))))) (ak (aC 6 c8.nd (au (cQ (aa (cV) (aa (ao (aA T) hr rfl (aa (ae 0) (aa (aJ (ae 5) (le_int)) (ai)))) (aa (ao (aA T) hr rfl (aa (ae 0) (aa (le_int) (ai)))) (ai))))) (ao (aA T) hr rfl (aa (ae 0) (aa (le_int) (ai)))))) (ax (cU (le_app (ae 2) (aQ (aa (ae 3) (aa (ae 4) (aa (ae 5) (aa (ae 6) (aa (au (cQ (aa (le_str) (aa (le_str) (ai)))) (ao (aA T) hr rfl (aa (ae 0) (aa (le_int) (ai))))) (ai)))))))))))))) (ax (aE (aY aO a7 rfl T.bo rfl (aa (ae 2) (ai))))))
theorem cX:aH ["_law_pot_here", "_law_name", "_law_ways_here", "_law_most", "_law_road", "_law_beat", "_law_many"] ["_law_pot_here", "_law_name", "_law_ways_here", "_law_most"] (av gI):=by walk_at "sc"
theorem sj (T:Txt w.params K mg t):aP P w K mg base 5 "_law_sender" ["_law_pot_here", "_law_name", "_law_ways_here", "_law_most"] fL:=aI T.rR T.r6 cX nM pR (λ_ _ _ _ _ _ _ _=>by walk_at "b4") λ_ _ _ _ _ _ hr hu=>
 ak (aC 4 cX.nd (aY aO a7 rfl T.bo rfl (aa (bZ (fsc:=av gI) ["_law_pot_here", "_law_name", "_law_ways_here", "_law_most", "_law_road", "_law_beat", "_law_many"] ["_law_way", "_law_pot_here"] 1 [0] rfl rfl (bI (ae 2)) (λcl C s₀ H₀ ex=>⟨bj 0 (show (["_law_way", "_law_pot_here"]:List Str).Nodup from by decide +kernel),eV (lt_eq hu (ao (aA T) hr rfl (aa (ae 1) (aa (le_int) (ai)))) (le_int)),au (ae 0) (le_int)⟩) rfl rfl (by decide +kernel)) (ai)))) (ak (bN (lt_eq hu (aV aZ bx rfl T.df rfl (aa (ae 4) (ai))) (le_int)) (ax (aC 4 cX.nd (aQ (aa (au (au (ae 2) (ao (aA T) hr rfl (aa (ae 0) (aa (aV aZ bx rfl T.df rfl (aa (ae 2) (ai))) (ai))))) (le_int)) (ai))))) (a6)) (ak (aC 5 cX.nd (au (cQ (aa (le_int) (aa (le_int) (aa (le_int) (aa (le_int) (aa (aJ (le_int) (ao (aA T) hr rfl (aa (ae 0) (aa (le_int) (ai))))) (ai))))))) (ao (aA T) hr rfl (aa (ae 0) (aa (le_int) (ai)))))) (ak (aC 6 cX.nd (au (cQ (aa (cV) (aa (cV) (aa (ao (aA T) hr rfl (aa (ae 0) (aa (le_int) (ai)))) (aa (ao (aA T) hr rfl (aa (ae 0) (aa (le_int) (ai)))) (ai)))))) (ao (aA T) hr rfl (aa (ae 0) (aa (le_int) (ai)))))) (ax (aE (aQ (aa (ae 1) (aa (ae 4) (aa (ae 5) (aa (au (cQ (aa (le_int) (aa (le_int) (aa (ao (aA T) hr rfl (aa (ae 0) (aa (le_int) (ai)))) (aa (ao (aA T) hr rfl (aa (ae 0) (aa (le_int) (ai)))) (ai)))))) (ao (aA T) hr rfl (aa (ae 0) (aa (le_int) (ai))))) (aa (ae 6) (aa (ao (vT T) hr rfl (aa (ae 0) (aa (ae 3) (ai)))) (ai)))))))))))))
theorem eI:aH ["_law_pot_here", "_law_grid", "_law_ways_here", "_law_most", "_law_names_here"] ["_law_pot_here"] (av jr):=by walk_at "sc"
theorem xo (T:Txt w.params K mg t):aP P w K mg base 6 "_law_plan" ["_law_pot_here"] L3.kX:=aI T.vI T.xn eI L3.DE L3.Jb (λ_ _ _ _ _ _ _ _=>by walk_at "b1") λ_ _ _ _ _ _ hr hu=>
 ak (aC 1 eI.nd (au (cQ (aa (le_int) (aa (le_int) (aa (le_int) (aa (aJ (le_int) (ao (aA T) hr rfl (aa (ae 0) (aa (le_int) (ai))))) (ai)))))) (ao (aA T) hr rfl (aa (ae 0) (aa (le_int) (ai)))))) (ak (aC 2 eI.nd (ao (xB T) hr rfl (aa (ae 0) (aa (ao (l5 T) hr rfl (aa (ae 0) (aa (au (cQ (aa (le_int) (aa (le_int) (aa (le_int) (aa (le_int) (aa (le_int) (aa (le_int) (ai)))))))) (ao (aA T) hr rfl (aa (ae 0) (aa (le_int) (ai))))) (ai)))) (ai))))) (ak (aC 3 eI.nd (au (cQ (aa (le_int) (aa (le_int) (aa (le_int) (aa (le_int) (aa (le_int) (ai))))))) (ao (aA T) hr rfl (aa (ae 0) (aa (le_int) (ai)))))) (ak (aC 4 eI.nd (ao (l5 T) hr rfl (aa (ae 0) (aa (au (cQ (aa (le_int) (aa (le_int) (aa (le_int) (aa (le_int) (aa (le_int) (aa (le_int) (aa (le_int) (aa (le_int) (ai)))))))))) (ao (aA T) hr rfl (aa (ae 0) (aa (le_int) (ai))))) (ai))))) (ax (aE (aQ (aa (ae 1) (aa (ae 2) (aa (aY aO a7 rfl T.bo rfl (aa (bZ (fsc:=av jr) ["_law_pot_here", "_law_grid", "_law_ways_here", "_law_most", "_law_names_here"] ["_law_name", "_law_pot_here", "_law_ways_here", "_law_most"] 1 [0,2,3] rfl rfl (bI (EC rfl T.o9 rfl (aa (ae 4) (ai)))) (λcl C s₀ H₀ ex=>⟨bj 0 (show (["_law_name", "_law_pot_here", "_law_ways_here", "_law_most"]:List Str).Nodup from by decide +kernel),b7,ao (sj T) hr rfl (aa (ae 1) (aa (ae 0) (aa (ae 2) (aa (ae 3) (ai)))))⟩) rfl rfl (by decide +kernel)) (ai))) (ai))))))))))
theorem lG:aH ["_law_found", "_law_due_here"] ["_law_found", "_law_due_here"] (av jl):=by walk_at "sc"
theorem mY {Pm:zcr}(T:Txt Pm K mg t):Binds K t.gr ["_law_found", "_law_due_here"] []:=T.cZ.binds λ_ _ _ _ _ _ _ _=>by walk_at "b2"
theorem kc (T:Txt w.params K mg t):∀ n:Nat,jb P w K mg base CX0 (1+n) t.gx t.gr ["_law_found", "_law_due_here"] (lift K (c6 n))
 | 0=>RK T.cZ lG
 | n+1=>by
  refine HP (k:=1+n) (T:=nK (c6 n)) T.cZ lG (nX (n+1)) (λcdv A outer s H E hr=>?_) (qT n)
  have hu:=hr.units
  exact ak (bN (kl (aV Dg (EL _) rfl T.bJ rfl (aa (ae 1) (aa (aQ (aa (M8 rfl T.bo rfl) (aa (M8 rfl T.mC rfl) (ai)))) (ai))))) (ak (bN (LW.lt (Cm (yD hu (gh rfl T.bJ rfl (ae 0) rfl T.bo rfl) (gh rfl T.bJ rfl (ae 1) rfl T.bo rfl)) (vj (yD hu (gh rfl T.bJ rfl (ae 0) rfl T.mC rfl) (gh rfl T.bJ rfl (ae 1) rfl T.mC rfl))))) (ax (aE (Bt))) (a6)) (ax (aE (uI (le_eq hu (aV aZ bx rfl T.df rfl (aa (ae 0) (ai))) (aV aZ bx rfl T.df rfl (aa (ae 1) (ai)))) (ue (aV (C4 rfl) Kz rfl T.R6 rfl (aa (C2 (fsc:=av jl) ["_law_found", "_law_due_here"] ["_law_one", "_law_other"] 2 [] rfl rfl rfl T.qP (aa (ae 0) (aa (ae 1) (ai))) (λcl C s₀ H₀ ex=>⟨gq rfl (bw 0 (show (["_law_one", "_law_other"]:List Str).Nodup from by decide +kernel) (bw 1 (show (["_law_one", "_law_other"]:List Str).Nodup from by decide +kernel) (fe))),b7,BP (kc T n) (hr.mono (by omega)) rfl T.mW T.cZ.kp (mY T) (aa (ae 0) (aa (ae 1) (ai)))⟩) rfl rfl (by decide +kernel)) (ai)))))))) (a6)) (ak (bN (mP (ae 1) (cV)) (ax (aE (Rj (ae 0) (cV)))) (a6)) (ak (bN (kl (gh rfl T.bJ rfl (ae 1) rfl T.MP rfl)) (ax (aE (uI (gh rfl T.bJ rfl (ae 0) rfl T.MP rfl) (ue (le_eq hu (ae 0) (ae 1)))))) (a6)) (ax (aE (uI (gh rfl T.bJ rfl (ae 0) rfl T.F6 rfl) (uI (PB (gh rfl T.bJ rfl (ae 0) rfl T.Px rfl)) (ue (le_eq hu (ae 0) (ae 1)))))))))
theorem cZ (T:Txt w.params K mg t):jb P w K mg base CX0 7 t.gx t.gr ["_law_found", "_law_due_here"] (lift K lQ):=kc T 6
theorem mU (T:Txt w.params K mg t):aP P w K mg base 7 "_law_same" ["_law_found", "_law_due_here"] lQ:=⟨_,_,cZ T,T.mW,T.cZ.kp,mY T⟩
theorem gs:aH ["_law_rounds", "_law_name", "_law_number", "_law_rows", "_law_at", "_law_events"] ["_law_rounds", "_law_name", "_law_number"] (av kF):=by walk_at "sc"
theorem zF (T:Txt w.params K mg t):aP P w K mg base 1 "_law_due" ["_law_rounds", "_law_name", "_law_number"] f6:=aI T.zS T.zG gs vf w6 (λ_ _ _ _ _ _ _ _=>by walk_at "b3") λ_ _ _ _ _ _ hr hu=>
 ak (aC 3 gs.nd (gJ (ai))) (ak (eF Vv rfl (ug rfl T.jN (aa (ae 0) (ai))) (jy rfl (bz 4 gs.nd (bz 5 gs.nd (gE)))) (ax (cU (oH (ae 3) (bZ (fsc:=av kF) ["_law_rounds", "_law_name", "_law_number", "_law_rows", "_law_at", "_law_events"] ["_law_event", "_law_at", "_law_name", "_law_number"] 1 [4,1,2] rfl rfl (bI (ae 5)) (λcl C s₀ H₀ ex=>⟨bj 0 (show (["_law_event", "_law_at", "_law_name", "_law_number"]:List Str).Nodup from by decide +kernel),eV (LW.lt (ma (lt_eq hu (au (ae 0) (le_int)) (ae 2)) (j5 (lt_eq hu (au (ae 0) (le_int)) (ae 3))))),aQ (aa (ae 1) (aa (au (ae 0) (le_int)) (aa (au (ae 0) (le_int)) (ai))))⟩) rfl rfl (by decide +kernel)))))) (ax (aE (p9 (ae 3)))))
theorem fO:aH ["_law_script", "_law_pot_here", "_law_plan_here", "_law_many", "_law_state", "_law_rounds", "_law_row", "_law_k", "_law_number", "_law_due_here", "_law_found"] ["_law_script"] (av MV):=by walk_at "sc"
theorem Cv (T:Txt w.params K mg t):jb P w K mg base CX0 10 t.Hk t.MR ["_law_script"] (lift K gO):=by
 refine HP (T:=FE) T.Cv fO uD (λcdv A outer s H E hr=>?_) NA
 have hu:=hr.units
 exact ak (aC 1 fO.nd (ao (Bf T) hr rfl (aa (ae 0) (ai)))) (ak (aC 2 fO.nd (ao (xo T) hr rfl (aa (ae 1) (ai)))) (ak (aC 3 fO.nd (au (cQ (aa (ao (aA T) hr rfl (aa (ae 1) (aa (le_int) (ai)))) (aa (ao (aA T) hr rfl (aa (ae 1) (aa (le_int) (ai)))) (ai)))) (ao (aA T) hr rfl (aa (ae 1) (aa (le_int) (ai)))))) (ak (ER (ao (Ni T) hr rfl (aa (ae 2) (aa (ae 3) (ai)))) (jy rfl (bz 4 fO.nd (bz 5 fO.nd (gE))))) (ak (eF Vv rfl (bI (au (ae 4) (le_int))) (fZ 6 fO.nd) (ax (eF Vv rfl (j7 rfl T.lL (au (cQ (aa (le_int) (aa (le_int) (ai)))) (aY tq Cu rfl T.F6 rfl (aa (MQ (aV aZ bx rfl T.df rfl (aa (au (ae 4) (le_int)) (ai))) (le_int)) (ai))))) (fZ 7 fO.nd) (ak (aC 8 fO.nd (au (cQ (aa (ae 7) (aa (ao (aA T) hr rfl (aa (ae 1) (aa (aJ (au (ae 6) (le_int)) (le_int)) (ai)))) (ai)))) (ao (aA T) hr rfl (aa (ae 1) (aa (le_int) (ai)))))) (ak (aC 9 fO.nd (ao (zF T) hr rfl (aa (ae 5) (aa (au (ae 6) (le_int)) (aa (ae 8) (ai)))))) (ak (aC 10 fO.nd (ao (B8 T) hr rfl (aa (ae 2) (aa (au (ae 6) (le_int)) (aa (ae 8) (aa (ae 3) (ai))))))) (ak (bN (FD (kl (ao (mU T) hr rfl (aa (ae 10) (aa (ae 9) (ai)))))) (ax (aE (Bt))) (a6)) (ak (cU (le_app (ae 10) (le_int))) (ax (bN (LW.lt (ma (lt_eq hu (ae 7) (le_int)) (j5 (FD (kl (ao (mU T) hr rfl (aa (ao (B8 T) hr rfl (aa (ae 2) (aa (au (ae 6) (le_int)) (aa (ae 8) (aa (ae 3) (ai)))))) (aa (ae 9) (ai))))))))) (ax (aE (Bt))) (a6))))))))))) (ax (aE (Bt)))))))
end
theorem all_mk {l:zad}{w:VB}{K:UH}{mg:Str->Option UK}{fa:Addr}{t:Adr}(hfa:mg "law" = some (.ref fa))(T:Txt w.params K mg t):∃ fd:U8,(∀ (s:UN) (v:UK),zbs s fd ⟨[v],[]⟩ [("_law_script", v)])/\∀ base:Heap,K.In base->base.Ns Wo mg->jb l.prog w K mg base CX0 10 fa fd ["_law_script"] (lift K gO):=by
 have e:=hfa.symm.trans T.Sx
 injection e with e
 injection e with e
 subst e
 obtain ⟨oc,od,kV,dc,pm,an,cd,ct,sl,ed,_,_⟩:=T.Cv.ex
 exact ⟨_,λs v=>.of_eq (by rw[ed];rfl),λbase _ _=>Cv T⟩
end Kk
namespace PySem.W.Fast
def tw660236459050492855:=0
def tw876636074309291072:=0
def tw6196752699385774336:=0
def tw7278852380414051616:=0
def tw18114686905992500640:=0
def tw8728322744543721376:=0
def tw9342326663143694561:=0
def tw563923252139978369:=0
def tw791546317943078018:=0
def tw8661053235514363042:=0
def tw9823726857155435906:=0
def tw13028373147854742178:=0
def tw7291900197040766722:=0
def tw11537145835757083554:=0
def tw12688729095889107971:=0
def tw12786377932606372291:=0
def tw13398128058347201123:=0
def tw9217695243610815107:=0
def tw4166485969467676515:=0
def tw17024723385486228451:=0
def tw13905239314325768612:=0
def tw4367304042370091428:=0
def tw12984185582148470308:=0
def tw16423121879586810692:=0
def tw16272980576134732965:=0
def tw4537050585773328773:=0
def tw4712447893722110437:=0
def tw17888292319810289125:=0
def tw9326484387980503685:=0
def tw11535239265343328965:=0
def tw4693594378259854534:=0
def tw2572601062376929894:=0
def tw792953136657065606:=0
def tw7247924058216942342:=0
def tw5910854413380713350:=0
def tw6493670279601633222:=0
def tw11974168696704301319:=0
def tw15545260456362507591:=0
def tw11558190497713512903:=0
def tw11148828852967457255:=0
def tw1058587302040300199:=0
def tw5243269650753872904:=0
def tw16888488722557849800:=0
def tw16580515810987216233:=0
def tw13989194137648553417:=0
def tw12133613405686590985:=0
def tw7690887900946777673:=0
def tw8197220300124055529:=0
def tw656898417953581738:=0
def tw17562578469563904714:=0
def tw8726436419857529578:=0
def tw10609955019705184074:=0
def tw14171657340140839786:=0
def tw16886129782558390475:=0
def tw10760303104070406411:=0
def tw12568582063632015723:=0
def tw6218364104108423563:=0
def tw10600977989719518795:=0
def tw7913222820150580203:=0
def tw8878395922730363883:=0
def tw821207876841572460:=0
def tw2964762974256145612:=0
def tw15932618532879206028:=0
def tw11353229177423661804:=0
def tw2692733025398886541:=0
def tw9490817323771953357:=0
def tw15533822886757307757:=0
def tw1246205583307417037:=0
def tw2306360715837505133:=0
def tw17491254689757317933:=0
def tw8636981317495778414:=0
def tw16333389608226741774:=0
def tw15685573149338692206:=0
def tw10695124287739102862:=0
def tw14741585181211140846:=0
def tw11727993647285444526:=0
def tw16205976272268618800:=0
def tw717407730766340848:=0
def tw6083407586354438928:=0
def tw5353556309218474992:=0
def tw13419687674620179633:=0
def tw8277775705924658865:=0
def tw11105386886347661522:=0
def tw14902451982703232306:=0
def tw16130607979998038418:=0
def tw11850677823027019506:=0
def tw4834959526454361906:=0
def tw17217434872571169875:=0
def tw5852222023531373107:=0
def tw5313527413570719699:=0
def tw6880369060778141108:=0
def tw298533839403229844:=0
def tw5249917055877814357:=0
def tw10934883228720379765:=0
def tw14506779893118345526:=0
def tw10600148771231072598:=0
def tw3709833907222376918:=0
def tw1235792934665383702:=0
def tw5184773673845253175:=0
def tw15863857055672034391:=0
def tw13192047962309788887:=0
def tw3996925534097648887:=0
def tw11936550457867978999:=0
def tw1275536314173560215:=0
def tw1830878392859599255:=0
def tw13398738277303030519:=0
def tw14584812473088655191:=0
def tw2361480966047180952:=0
def tw5550428188004873400:=0
def tw10182805791693169912:=0
def tw535773361516848600:=0
def tw11284494116607861240:=0
def tw16344596406653587096:=0
def tw6818174743642922744:=0
def tw108190088868923160:=0
def tw12700408234288666488:=0
def tw13916085731422774168:=0
def tw13942404274010950681:=0
def tw17154649378609986585:=0
def tw3627014015433661497:=0
def tw5499342437347429017:=0
def tw4880626046708144057:=0
def tw6926206597601837146:=0
def tw17557545117953661274:=0
def tw5978139304994590138:=0
def tw16068926168800206490:=0
def tw1299500497147273371:=0
def tw6442954218421107195:=0
def tw11053077653398306299:=0
def tw7835971912808480763:=0
def tw939265928599880764:=0
def tw17379593082211348604:=0
def tw11411976123788212636:=0
def tw13929533698075055996:=0
def tw1446837913062562748:=0
def tw8716033514885984605:=0
def tw5853988034172422749:=0
def tw9750467422613058333:=0
def tw16520307280095949725:=0
def tw14083289142923937822:=0
def tw8341844457075591230:=0
def tw17247313348186547614:=0
def tw37125310464533791:=0
def tw15256575722081413087:=0
end PySem.W.Fast
open PySem PySem.W PyProof.Rows L2 L3
set_option maxRecDepth 100000 in
set_option maxHeartbeats 0 in
theorem PySem.Challenge.cw_swellways_k39_stories_holds : PySem.Challenge.rw_swellways_k39_stories.Holds := by
 w_on;o_law;k_head;(case hw=>w_witness2)
 k_fill
 refine L3.Sg (l:=PySem.Challenge.rw_swellways_k39_stories) (k:=10) (sp:=Kk.gO) (x := "_law_script") rfl rfl ⟨rfl,by decide,by decide⟩ (λw h Y=>PySem.W.kIn_of Y) Kk.my ?F
 case F=>
  intro w mg fa h KX G hmg
  refine' Kk.all_mk (t:=⟨_,_,_,_,_,_,_,_,_,_,_,_,_,_,_,_,_,_,_,_,_,_,_,_,_,_,_,_,_,_,_,_,_,_,_,_,_,_,_,_,_,_,_,_,_,_,_,_,_,_,_,_,_,_,_,_,_,_,_,_,_,_,_,_,_,_,_,_,_,_,_,_,_,_,_,_,_,_,_,_,_,_,_,_,_,_,_,_,_,_,_,_,_,_,_,_,_,_,_,_,_,_⟩) hmg ⟨V6 KX G ?_,aS ?_ ?_ ?_,V6 KX G ?_,aS ?_ ?_ ?_,V6 KX G ?_,aS ?_ ?_ ?_,V6 KX G ?_,aS ?_ ?_ ?_,V6 KX G ?_,aS ?_ ?_ ?_,V6 KX G ?_,aS ?_ ?_ ?_,V6 KX G ?_,aS ?_ ?_ ?_,V6 KX G ?_,aS ?_ ?_ ?_,V6 KX G ?_,aS ?_ ?_ ?_,V6 KX G ?_,aS ?_ ?_ ?_,V6 KX G ?_,aS ?_ ?_ ?_,V6 KX G ?_,aS ?_ ?_ ?_,V6 KX G ?_,aS ?_ ?_ ?_,V6 KX G ?_,aS ?_ ?_ ?_,V6 KX G ?_,aS ?_ ?_ ?_,V6 KX G ?_,aS ?_ ?_ ?_,V6 KX G ?_,aS ?_ ?_ ?_,V6 KX G ?_,aS ?_ ?_ ?_,V6 KX G ?_,aS ?_ ?_ ?_,V6 KX G ?_,aS ?_ ?_ ?_,V6 KX G ?_,aS ?_ ?_ ?_,V6 KX G ?_,aS ?_ ?_ ?_,V6 KX G ?_,aS ?_ ?_ ?_,V6 KX G ?_,aS ?_ ?_ ?_,V6 KX G ?_,aS ?_ ?_ ?_,V6 KX G ?_,aS ?_ ?_ ?_,V6 KX G ?_,aS ?_ ?_ ?_,V6 KX G ?_,aS ?_ ?_ ?_,V6 KX G ?_,aS ?_ ?_ ?_,V6 KX G ?_,aS ?_ ?_ ?_,V6 KX G ?_,aS ?_ ?_ ?_,V6 KX G ?_,aS ?_ ?_ ?_,V6 KX G ?_,aS ?_ ?_ ?_,V6 KX G ?_,aS ?_ ?_ ?_,V6 KX G ?_,aS ?_ ?_ ?_,V6 KX G ?_,aS ?_ ?_ ?_,V6 KX G ?_,aS ?_ ?_ ?_,V6 KX G ?_,aS ?_ ?_ ?_,V6 KX G ?_,aS ?_ ?_ ?_,V6 KX G ?_,aS ?_ ?_ ?_,V6 KX G ?_,aS ?_ ?_ ?_,V6 KX G ?_,aS ?_ ?_ ?_,V6 KX G ?_,aS ?_ ?_ ?_,V6 KX G ?_,aS ?_ ?_ ?_,V6 KX G ?_,aS ?_ ?_ ?_,V6 KX G ?_,aS ?_ ?_ ?_,V6 KX G ?_,aS ?_ ?_ ?_,V6 KX G ?_,aS ?_ ?_ ?_,V6 KX G ?_,aS ?_ ?_ ?_,V6 KX G ?_,aS ?_ ?_ ?_,V6 KX G ?_,aS ?_ ?_ ?_,Wi KX G ?_,Wi KX G ?_,Wi KX G ?_,Wi KX G ?_,Wi KX G ?_,Wi KX G ?_,Wi KX G ?_,Wi KX G ?_,Wi KX G ?_,Wi KX G ?_,Wi KX G ?_,Wi KX G ?_,Wi KX G ?_,Wi KX G ?_,Wi KX G ?_,Wi KX G ?_,Wi KX G ?_,bc KX G ?_,bc KX G ?_,bc KX G ?_,bc KX G ?_,bc KX G ?_,bc KX G ?_,bc KX G ?_,bc KX G ?_,Bj (its:=#[.int 1 _,.int 2 _]) (xs:=[V.int 1,V.int 2]) KX G ?_ ?_ ?_ ?_ ?_ (show 2<=sizeLine by decide) (.cons ⟨_,rfl⟩ (.cons ⟨_,rfl⟩ (.nil))) (λ_=>.cons (.int _) (.cons (.int _) (.nil))),bc KX G ?_,bc KX G ?_,bc KX G ?_,bc KX G ?_,bc KX G ?_,bc KX G ?_,bc KX G ?_,bc KX G ?_,bc KX G ?_,bc KX G ?_,Bj (its:=#[.int 0 _,.int 1 _]) (xs:=[V.int 0,V.int 1]) KX G ?_ ?_ ?_ ?_ ?_ (show 2<=sizeLine by decide) (.cons ⟨_,rfl⟩ (.cons ⟨_,rfl⟩ (.nil))) (λ_=>.cons (.int _) (.cons (.int _) (.nil))),bc KX G ?_,Bj (its:=#[.int 1 _,.int 1 _]) (xs:=[V.int 1,V.int 1]) KX G ?_ ?_ ?_ ?_ ?_ (show 2<=sizeLine by decide) (.cons ⟨_,rfl⟩ (.cons ⟨_,rfl⟩ (.nil))) (λ_=>.cons (.int _) (.cons (.int _) (.nil))),bc KX G ?_,bc KX G ?_,bc KX G ?_,bc KX G ?_,bc KX G ?_,bc KX G ?_,bc KX G ?_,bc KX G ?_,bc KX G ?_,bc KX G ?_,bc KX G ?_,bc KX G ?_,bc KX G ?_⟩
  all_goals try first | k_is | rfl
