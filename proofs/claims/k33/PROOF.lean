import PyProof.Rows.All
import Wide.All
import OpenK.AllK
import Wide.FinOn
import Lean
import PyProof.EqAt
import PyProof.EqKinds
import PyProof.TupleCall
import PyProof.P3Eq
import PyProof.NeKinds
import PyProof.NeData
import PyProof.ZipIter
import PyProof.EnumMake
import PyProof.EnumFor
import OpenK.KTop
import PyProof.IsRules
import PyProof.AttrMissHeap
import PyProof.DictUpdate
import KE.KDictOf
import PyProof.Rows.SortStr
import PyProof.FString5
import PyProof.StrOps
import PyProof.ListRange
import PyProof.TupleOfGen
import PyProof.Rows.SumAny
import PyProof.Rows.CallKwBuiltin
import PyProof.StrLoop
import PyProof.StrWalks
import PyProof.StrOps2
import PyProof.SliceStr2
import PyProof.StrBlockI
import PyProof.StrLaws
import PyProof.StrBlock
import PyProof.StrBlockL
import PyProof.StrCalls2
import KE.KStrOpen
import KE.KDictList
import PyProof.DictValues
import PyProof.DictTruth
import KE.KUnpack
import PySem.Challenge.RW_swellways_k33_whole_runs_in_pieces
set_option Elab.async false
set_option linter.all false
set_option maxRecDepth 100000
set_option maxHeartbeats 4000000
def zzS (t:String):Lean.MacroM (Lean.TSyntax `tactic):=do
 let a←(t.splitOn " ").toArray.mapM fun s=>if s.startsWith "↓" then `(Lean.Parser.Tactic.simpLemma| ↓ $(Lean.mkIdent (s.drop 1).toString.toName):term) else `(Lean.Parser.Tactic.simpLemma| $(Lean.mkIdent s.toName):term)
 `(tactic| try simp only [$a,*])
open PySem.Str renaming ofString → OF
open PySem.W renaming Frag → Wq, mg_of → XE, mg_none_of → XT, kia_one → YX, kia_tup → YZ, fnOf → Zl, keepIn → ZU, methodObj → za1, cellsFrom_some → zby, OpenLaw → zbK, codeIn → zb2, kitx_tuple → zcM, kitx_none → zc3, kitx_bool → zc4, kitx_list → zc5, plainGet → zdr, kitx_int → zdv, kitx_str → zdw, instObj → zdK, kitAny → zea, WalkO → zeh, mg_of → zei, nsIn → zes
open PySem renaming wpAny_bind → Wr, Value → Wv, Shared → Wz, wpAny_pure → WC, starEach → WI, FuncData → WT, wpAny → WW, model → W2, Expr → W4, Program → W9, wpAny_field → Xe, wpAny_setField_rec → Xg, wpAny_seqItems → Xk, wpAny_callSpecial?_slot → Xl, World → Xm, foldedSetIterable → Xs, IsZip → Xy, Around → XC, wpAny_newObj_type → XD, eval → XG, wpAny_call_entry → XH, backTo → XM, wpAny_mono → XO, bootBuiltins → XR, mem_of_lookup → XS, wpAny_truthy_bool → XU, mainGlobals → X2, assignEach → X5, IsPair → X7, compareOp → X9, wpAny_letGo → Yr, wpAny_rule → Yt, swapsWith → Yz, wpAny_passesOwn → YA, sysModules → YE, wpAny_onRaise → YI, plainId_quiet → YK, binaryOp → YN, keywordEach → YS, pyNext → YV, Keyword → YW, wpAny_updateSeq → Y0, behindInMarks → Y3, wpAny_holding → Y4, attributeBase → Y5, wpAny_pyIter_list → Y9, codeAny → Za, wpAny_updateSeq_pair → Zf, wpAny_tryCatch → Zh, wpAny_attempt → Zw, wpAny_Call_Name_kw → ZD, sliceBounds → ZL, rawInt → ZT, Builtin → Z0, argBest → Z3, call_meets → zab, wpAny_pyIter_zip → zag, backToKw → zaj, NameKind → zak, intItems → zas, wpAny_execs_nil → zau, letOwnedTupleGo → zav, wpAny_loadPart' → zaC, getItem → zaE, tupleKind_room_in1 → zaQ, field → zaR, wpAny_letOwnedTupleGo_zip → zaW, Paired → za6, swapsWithSole → za7, swappedStores → za8, wpAny_standAt → za9, intBits_le_64 → zba, tupleKind → zbg, noFill_tuple_add → zbi, holding → zbw, wpAny_pyNext_list_item → zbx, concat_meets → zbz, callerA → zbC, IsEnum → zbI, codeAny_builtin → zbO, wpAny_pyNext_list_end → zbS, call → zbT, wpAny_loadName_local → zbY, assign → zbZ, Operator → zb0, sizeLine_eq → zb1, subscripted → zb3, wpAny_newTuple → zb6, isSubtype_stop → zb7, seqIndex? → zck, valueAt → zcl, seqItems? → zcm, wpAny_loadName_cell → zcn, assignInOrder → zct, seq_tuple_add → zcu, wpAny_pyIter_tuple → zcO, getattributeRaised → zcR, BindsTo → zcX, codeAny_mono → zcY, wpAny_sequenceKey → zcZ, slot_list_getitem → zc0, callType_new → zc6, wpAny_pyIter_enum → zdk, wpAny_execs_cons → zdp, PassesOwn → zdq, Result → zds, checkBuiltinCall → zdz, atKey → zdE, wpAny_of_eq → zdG, numAt → zdH, builtinsNs → zdT, wpAny_Name → zdU, bindName → zdV, CmpOp → zdX, bindL → zdY, bindC → zdZ, typeLookup → zd0, Params → zd2, call → zd3, compEnvC → zd5, compPost → zd6, argsOk → zee, sub_zip → zej
open PySem.Heap renaming get?_push_of_some → Wu, lt_size → WH, get?_push_size → WJ, get?_update_other → XF, size_push → XY, SameBut → YT, get?_update_self → Y6, ExtBut → zdF
open List renaming length_map → Ww, mem_map → WE, length_append → WG, mem_cons → WK, zip → WM, map_cons → WN, getElem?_eq_getElem → WO, map_map → WQ, size_toArray → WR, mem_cons_self → WS, not_mem_nil → WY, of_mem_zip → W0, mem_cons_of_mem → W5, length_cons → W6, mem_append_right → Xb, getElem?_eq_some_iff → Xc, map_append → Xf, range → Xh, append_nil → Xi, map_congr_left → Xn, mem_append → Xr, nodup_cons → Xt, mem_filter → Xv, filterMap_append → Xz, flatMap_append → XA, find?_cons → XB, length_zipWith → XJ, length → XQ, getElem?_map → XW, zipWith → X0, sum_cons → X4, replicate → X6, drop_eq_getElem_cons → Yb, lookup_cons → Yd, getElem_mem → Ye, length_filterMap_le → Yh, filterMap_cons → Yn, mem_singleton → Yu, getD_eq_getElem?_getD → Yw, length_filter_le → Yx, mem_append_left → YB, getElem?_set_ne → YC, flatMap_cons → YD, any_cons → YG, getElem_of_mem → YL, mem_range → YM, drop_length → YO, mem_flatMap → YR, forIn_cons → YY, foldl_cons → Y1, getElem?_append_right → Zd, mem_of_getElem? → Ze, range_eq_range' → Zj, all_eq_true → Zm, any_eq_true → Zn, getElem?_append_left → Zo, getElem?_eq_none_iff → Zr, nil_append → Zz, range_succ → ZA, pairwise_cons → ZG, filter_filter → ZH, getElem?_cons_zero → ZM, getElem?_cons_succ → ZN, findIdx?_eq_some_iff_getElem → ZQ, getElem?_set_self → ZS, map_nil → ZW, take_of_length_le → Z1, length_replicate → Z4, filterMap_eq_map → Z7, length_take → Z9, length_drop → zaa, filter_cons → zac, zipIdx_cons → zaf, getElem_zip → zai, range'_append_1 → zat, length_nil → zaw, zipIdx_nil → zay, length_zip → zaA, mem_filterMap → zaL, forIn_nil → zaS, nodup_iff_pairwise_ne → zaU, filter_append → zaV, mem_of_find?_eq_some → zaZ, getElem?_zip_eq_some → za0, pairwise_map → za5, sublist_append_left → zbd, filterMap_cons_none → zbe, filterMap_cons_some → zbf, getElem?_replicate → zbh, cons_append → zbm, map_zipWith → zbs, filter_cons_of_neg → zbt, flatMap_def → zbu, foldr_cons → zbQ, filter_map → zbR, getElem?_zipWith → zbU, nodup_nil → zb5, mem_iff_getElem → zca, range' → zci, getElem?_range → zcp, map_eq_nil_iff → zcr, zip_map_right → zcU, length_zipIdx → zcV, map → zc7, nodup_append → zdd, length_range → zdj, append_assoc → zdm, getElem_inj → zdo, countP_cons → zdA, zipWith_map → zdB, range'_succ → zdC, append → zdI, not_lt → zdJ, sum_append → zdS, map_take → zeo, map_drop → zep, zip_map → zew, set → zeD
open Iff renaming rfl → Wx
open False renaming elim → WA
open PySem.PyData renaming strOk → WD, eqv → YH, eqvAll → zbc, canLayAll0 → zc2, depthAll → zdN, canLay0 → zd4
open Nat renaming le_refl → WL, lt_of_lt_of_le → WV, ne_of_lt → WZ, le_trans → Xu, zero_le → Ya, ne_of_gt → Yf, lt_irrefl → YF, le_of_lt → ZR, le_succ → zal, succ_lt_succ_iff → zan, succ_le_succ → zbj, reduceLeDiff → zbn, zero_lt_succ → zbo, min_le_left → zbL, zero_lt_one → zbM, lt_add_one → zb9, reduceSub → zcy, reduceAdd → zcz, mod_lt → zcT, lt_trans → zc1, sub_self → zc8, reduceLT → zc9, zero_add → zdn, min_eq_right → zdx, min_eq_left → zdP, le_of_dvd → zen, le_total → zet
open Int renaming mul_le_mul_of_nonneg_right → WU, gcd → W8, le_refl → Xp, mul_comm → XZ, mul_ediv_mul_of_pos_left → X1, mul_pos → X3, le_ediv_iff_mul_le → X8, gcd_pos_of_ne_zero_right → Ym, toNat_of_nonneg → Yo, ediv_eq_of_eq_mul_right → Yp, dvd_gcd_mul_iff_dvd_mul → Yq, mul_fdiv_cancel_left → YJ, mul_nonneg → YQ, ediv_le_of_le_mul → Y7, toNat_natCast → Zb, mul_lt_mul_of_pos_right → Zc, eq_of_mul_eq_mul_right → Zg, le_of_mul_le_mul_right → Zi, mul_neg_of_pos_of_neg → Zs, lt_of_mul_lt_mul_left → Zt, natCast_nonneg → ZF, eq_ofNat_of_zero_le → ZO, lt_trichotomy → Z2, mul_le_mul_of_nonneg_left → zar, lt_of_mul_lt_mul_right → zaT, gcd_ediv_gcd_ediv_gcd → zaX, le_of_mul_le_mul_left → zaY, sub_mul → za4, gcd_comm → zbF, le_of_lt → zbG, reduceToNat → zbN, ediv_mul_le → zbP, natAbs_dvd_natAbs → zbW, one_mul → zcd, add_mul → zce, reducePow → zcB, reduceNeg → zcC, reduceSub → zcD, reduceAdd → zcE, reduceMul → zcF, natAbs_natCast → zcP, gcd_zero_right → zcQ, reduceEq → zda, gcd_dvd_right → zdb, mul_left_comm → zdc, gcd_dvd_left → zdy, neg_mul_neg → zdQ, natAbs_mul → zd9, mul_le_mul → zec, mul_assoc → zek
open Ne renaming symm → WX
open PySem.Builtin.SmallTypes renaming nextOf → W3, ownedTupleIsFree → W7, ownedTupleHandOut → Xo
open PySem.Value renaming ref → Xa, none → Yj, isStrOf → Y2, int → ZI, str → zaH, bool → zaI, type → zbv, isInt → zey
open Bool renaming and_eq_true → Xd, false_ne_true → YU, false_eq_true → ZE, beq_eq_decide_eq → Z6, not_false → zb8, and_false → zcb, false_or → zcw, not_true → zcA, and_self → zcG, and_true → zcH, true_and → zcI, false_and → zdW, or_false → zeg, true_or → zer
open PySem.PassesOwn renaming never → Xj
open Option.some renaming inj → Xq
open PyProof.Rows renaming callWith_type1 → Xw, slot_tuple_getitem → Xx, IntsAre → Zy, kindOf → Z8, seqObj → zaz, assignInOrder_cons → zaK, envOfC → zaM, AllBare → za2, intBits_le → zbl, subscriptTail_builtinR → zbA, entry_tuple_getitem → zco, subscriptTail → zcv, args_tuple_getitem → zcL, assignInOrder_nil → zcW, callWith_builtin1 → zdt, IsTup → zdD, Subscript_ → zd1, sortedHeap → zed, iadd_int → zex
open PySem.Builtin.Tuple renaming tupleExact → XI, tupleItemsOf → zaO, tupleIsExact → zd7
open PySem.Builtin.List renaming listTooLong → XX
open True renaming intro → Yc
open PySem.NameKind renaming free → Yg, cell → zcx
open PySem.F renaming plainAttrs_list → Yi, slot_zip_next → Yl, plain_max_loop → Ys, slot_tuple_iterator_next → Yv, slot_enumerate_next → Y8, args_tuple_add_2 → Zv, slot_list_getattribute → Zx, entry_tuple_add → ZK, slot_tuple_add → ZV, args_zip_next_1 → ZZ, slot_dict_get → Z5, entry_zip_next → zae, args_tuple_iterator_next_1 → zax, entry_tuple_iterator_next → zaF, args_dict_get_3 → zbk, args_enumerate_next_1 → zbq, entry_max_loop → zbr, entry_dict_get → zbE, entry_enumerate_next → zbJ, args_list_extend_2 → zcc, called_tuple → zcg, args_object_init_2 → zch, entry_list_extend → zcq, slot_list_extend → zcS, plain_list_iadd → zdh, plain_tuple_new → zdi, entry_zip_new → zdO
open ForInStep renaming yield → Yk
open PySem.Builtin.Slice renaming slicePlaces → Yy, sliceAdjust → Zq, sliceApplied → zaN, slicePartIndex → zdL, sliceFields → zef
open Sum renaming inr → Zk, inl → zcj
open Array renaming length_toList → Zu, mem_iff_getElem → zbV, toArray_toList → zcf, append_assoc → zcK, size_append → zde, toList → zeq
open PySem.Calls renaming spliced_cons → ZC, Name_function_global → zaJ, spliced_nil → za3, callWith_builtin → zbB, evalArgs_plain → zb4
open PySem.Builtin.Range renaming rangeSize → ZJ, small → zeE
open Classical renaming propDecidable → ZP
open Or renaming inl → ZX, inr → ZY
open Option renaming getD_some → zad, isSome_iff_exists → zbb, map_eq_some_iff → zbD, getD_none → zdu, map_some → zdR, none → zeB
open PySem.AutoSeq1 renaming sub_tuple_tuple → zah, sub_tuple_list → zap, sub_list_tuple → zaq, sub_list_list → zaB, idx_int → zbH
open PySem.Shared renaming heap → zam
open PySem.Around renaming under_plainId → zao
open PySem.Heap.SameBut renaming update → zaD
open PySem.Builtin.Builtins renaming bindParams → zaG
open PySem.Obj renaming mapSeq → zaP, data_mapFields → zcN
open PySem.Builtin.Dict renaming updateFrom → zbp, addKeywords → zel, selfAndRest → zem, pairItems → zeu
open List.Perm renaming append_left → zbX
open PySem.Paired renaming length → zcs, snoc → zeC
open List.cons renaming inj → zcJ
open List.Sublist renaming refl → zdf, map → zeJ
open Function renaming comp_def → zdg
open List.Pairwise renaming map → zdl, nil → zeI
open PySem.Heap.DictOf renaming new → zdM
open Prod renaming fst → zd8
open PySem.SeqAt renaming EqAt → zeb
open Sum.inr renaming inj → zez
open PySem.IsRange renaming new → zeA
open PySem.Heap.IsSliceOf renaming new → zeF
open PySem.W.WShape renaming has → zeG
open PySem.Walks renaming list → zeH
namespace L2
open PySem PySem.Spec PyProof.Rows
abbrev Key:=Sum Int Str
def um:Key->Wv->Bool
 | .inl k,v=>zey k v
 | .inr x,v=>Y2 x v
def UY (w:Xm):Key->Int
 | .inl k=>hashInt k
 | .inr x=>hashStr w x
theorem bZ:∀ {k:Key} {v:Wv},um k v=true->(∃ i t,k=zcj i/\v=ZI i t)∨(∃ x t,k=Zk x/\v=zaH x t)
 | .inl i,v,h=>by
  obtain ⟨t,e⟩:=Value.isInt_shape (k:=i) (v:=v) h
  exact .inl ⟨i,t,rfl,e⟩
 | .inr x,v,h=>by
  obtain ⟨t,e⟩:=Value.isStrOf_shape (x:=x) (v:=v) h
  exact .inr ⟨x,t,rfl,e⟩
theorem Fg (i:Int)(t:Tok):um (.inl i) (.int i t)=true:=by simp[um,zey]
theorem Ep (x:Str)(t:Tok):um (.inr x) (.str x t)=true:=by simp[um,Y2]
theorem Qy (a b:Int):decide ((zcj a:Key)=zcj b)=(a == b):=by
 by_cases e:a=b
 ·subst e;simp
 ·have h:¬ (zcj a:Key)=zcj b:=λq=>e (Sum.inl.inj q)
  rw[decide_eq_false h]
  exact (beq_eq_false_iff_ne.mpr e).symm
theorem RD (a b:Str):decide ((Zk a:Key)=Zk b)=decide (a=b):=by
 by_cases e:a=b
 ·subst e;simp
 ·have h:¬ (Zk a:Key)=Zk b:=λq=>e (zez q)
  rw[decide_eq_false h,decide_eq_false e]
theorem RB (a:Int)(b:Str):decide ((zcj a:Key)=Zk b)=false:=decide_eq_false (λq=>nomatch q)
theorem Qw (a:Str)(b:Int):decide ((Zk a:Key)=zcj b)=false:=decide_eq_false (λq=>nomatch q)
def bM (prog:W9)(w:Xm):PySem.KeyKind prog w Key where
 is:=um
 hash:=UY w
 inj:=λv a b ha hb=>by
  rcases bZ ha with ⟨i,t,rfl,rfl⟩ | ⟨x,t,rfl,rfl⟩
  ·rcases bZ hb with ⟨j,u,rfl,e⟩ | ⟨y,u,rfl,e⟩
   ·injection e with e1 _;rw[e1]
   ·exact nomatch e
  ·rcases bZ hb with ⟨j,u,rfl,e⟩ | ⟨y,u,rfl,e⟩
   ·exact nomatch e
   ·injection e with e1 _;rw[e1]
 byValue:=λk v h=>by
  rcases bZ h with ⟨i,t,rfl,rfl⟩ | ⟨x,t,rfl,rfl⟩ <;> rfl
 pyHash:=λhv h=>by
  rcases bZ hv with ⟨i,t,rfl,rfl⟩ | ⟨x,t,rfl,rfl⟩
  ·exact wpAny_pyHash_int h
  ·exact wpAny_pyHash_str h
 eqBool:=λhu hv h=>by
  rcases bZ hu with ⟨i,t,rfl,rfl⟩ | ⟨x,t,rfl,rfl⟩
  ·rcases bZ hv with ⟨j,u,rfl,rfl⟩ | ⟨y,u,rfl,rfl⟩
   ·rw[Qy] at h;exact wpAny_eqBool_int h
   ·rw[RB] at h;exact SeqAt.EqAt.int_str i t y u _ _ _ _ h
  ·rcases bZ hv with ⟨j,u,rfl,rfl⟩ | ⟨y,u,rfl,rfl⟩
   ·rw[Qw] at h;exact SeqAt.EqAt.str_int x t j u _ _ _ _ h
   ·rw[RD] at h;exact wpAny_eqBool_str h
 «strs»:=λk x t v h=>by
  rcases bZ h with ⟨i,u,rfl,e⟩ | ⟨y,u,rfl,e⟩
  ·exact nomatch e
  ·injection e with e1 _
   subst e1
   cases v<;>rfl
theorem Aa (prog:W9)(w:Xm)(i:Int)(t:Tok):(bM prog w).is (.inl i) (.int i t)=true:=Fg i t
theorem zH (prog:W9)(w:Xm)(x:Str)(t:Tok):(bM prog w).is (.inr x) (.str x t)=true:=Ep x t
end L2
namespace L2
open PySem PySem.Spec PyProof.Rows
inductive V where
 | non | bl (b:Bool) | int (i:Int) | str (x:Str) | byt (b:Array UInt8) | flt (b:UInt64) | ref (a:Addr) | ty (n:String)
 deriving DecidableEq
def RelV:V->Wv->Prop
 | .non,u=>u=Yj
 | .bl b,u=>u=zaI b
 | .int i,u=>∃ t,u=ZI i t
 | .str x,u=>∃ t,u=zaH x t
 | .byt b,u=>∃ t,u=Value.bytes b t
 | .flt b,u=>∃ t,u=Value.float b t
 | .ref a,u=>u=Xa a
 | .ty n,u=>u=zbv n
abbrev Vals:List V->List Wv->Prop:=za6 RelV
theorem Vals.length {xs:List V}{us:List Wv}(r:Vals xs us):xs.length=us.length:=zcs r
theorem Vals.get:∀ {xs:List V} {us:List Wv} {i:Nat} {x:V},Vals xs us->xs[i]? = some x->∃ u,us[i]? = some u/\RelV x u
 | _,_,_,_,.nil,e=>by simp at e
 | _,_,0,_,.cons r _,e=>by simp at e;subst e;exact ⟨_,rfl,r⟩
 | _,_,i+1,x,.cons _ t,e=>by
  obtain ⟨u,h1,h2⟩:=Vals.get (i:=i) (x:=x) t (by simpa using e)
  exact ⟨u,by simpa using h1,h2⟩
theorem Vals.set {x:V}{u:Wv}(r:RelV x u):∀ {xs:List V} {us:List Wv} (i:Nat),Vals xs us->Vals (xs.set i x) (us.set i u)
 | _,_,_,.nil=>.nil
 | _,_,0,.cons _ t=>.cons r t
 | _,_,i+1,.cons q t=>.cons q (Vals.set r i t)
theorem Vals.append:∀ {xs ys:List V} {us ws:List Wv},Vals xs us->Vals ys ws->Vals (xs++ys) (us++ws)
 | _,_,_,_,.nil,s=>s
 | _,_,_,_,.cons r t,s=>.cons r (Vals.append t s)
theorem Vals.take:∀ {xs:List V} {us:List Wv} (n:Nat),Vals xs us->Vals (xs.take n) (us.take n)
 | _,_,0,_=>.nil
 | _,_,_+1,.nil=>.nil
 | _,_,n+1,.cons r t=>.cons r (Vals.take n t)
theorem Vals.drop:∀ {xs:List V} {us:List Wv} (n:Nat),Vals xs us->Vals (xs.drop n) (us.drop n)
 | _,_,0,r=>r
 | _,_,_+1,.nil=>.nil
 | _,_,n+1,.cons _ t=>Vals.drop n t
def oZ:Option V->Option Wv->Prop
 | some v,some u=>RelV v u
 | none,none=>True
 | _,_=>False
def KV {κ:Type}:List (κ×V)->List (κ×Wv)->Prop:=za6 λ(p:κ×V) (q:κ×Wv)=>p.1=q.1/\RelV p.2 q.2
def kV:Key->V
 | .inl i=>.int i
 | .inr x=>.str x
inductive HO where
  | lst (xs:List V)
  | tup (xs:List V)
  | dK (kvs:List (Key×V)) | dT (kvs:List (List Key×V))
  | set (S:Int->Bool) (n:Nat)
  | ins (C dx:Addr) (fs:List (Str×V))
  | own (x:Addr)
  | xd (fs:List (Str×V))
  | met (f x:Addr)
  | rng (lo hi:Int)
  | frz (o:Obj) (u:HO)
  | tbl (ps:Array Wv)
  | ext (φ:Heap->Prop)
abbrev Hp:=Addr->Option HO
def upd (H:Hp)(a:Addr)(o:HO):Hp:=λb=>if b=a then some o else H b
theorem aK {H:Hp}{a:Addr}{o:HO}:upd H a o a=some o:=by unfold upd;rw[if_pos rfl]
theorem aJ {H:Hp}{a b:Addr}{o:HO}(h:b≠a):upd H a o b=H b:=by unfold upd;rw[if_neg h]
theorem vG {H:Hp}{a:Addr}{o u:HO}:upd (upd H a o) a u=upd H a u:=by
 funext b;unfold upd;split<;>rfl
theorem Ur {H:Hp}{a b:Addr}{o u:HO}(h:H a=some o)(h':H b=some u)(d:o≠u):a≠b:=by
 intro e;subst e;rw[h] at h';exact d (Xq h')
theorem aZ {H:Hp}{a b:Addr}{o:HO}(h:H a=some o)(h':H b=none):a≠b:=by
 intro e;subst e;rw[h] at h';cases h'
def vY (h:Heap)(a:Addr)(items:Array Wv):Prop:=∃ n,h.get? a=some { cls:=.type "tuple", data:=.seq items n }
theorem vY.tup {h:Heap}{a:Addr}{items:Array Wv}(p:vY h a items):zdD h a items:=by obtain ⟨n,e⟩:=p;exact ⟨_,e,rfl,n,rfl⟩
theorem vY.new (h:Heap)(items:Array Wv):vY (h.push { cls:=.type "tuple", data:=.seq items }) h.objs.size items:=⟨_,WJ _ rfl⟩
section
variable (P:W9) (w:Xm)
def cZ (H:Hp)(h:Heap)(a:Addr):HO->Prop
 | .lst xs=>xs.length<=sizeLine/\∃ (its:List Wv) (n:Nat),Vals xs its/\h.get? a=some { cls:=.type "list", data:=.seq its.toArray n }
 | .tup xs=>xs.length<=sizeLine/\∃ its:List Wv,Vals xs its/\vY h a its.toArray
 | .dK kvs=>kvs.length<=sizeLine/\(a == YE)=false/\∃ vs,KV kvs vs/\h.DictOf (bM P w) a vs
 | .dT kvs=>kvs.length<=sizeLine/\(a == YE)=false/\∃ xs:List (List Key×Addr×Wv),
   za6 (λ(p:List Key×V) (q:List Key×Addr×Wv)=>p.1=q.1/\H q.2.1=some (.tup (p.1.map kV))/\RelV p.2 q.2.2) kvs xs/\
   ∃ o es ep,h.get? a=some o/\o.ExactDict/\o.data=.dict es ep/\es.toList=xs.map (entryOfKey (zbg (bM P w)))/\(xs.map (·.1)).Nodup
 | .set S n=>h.SetOf (intKind P w) a S n
 | .ins C dx fs=>H dx=some (.own a)/\fs.length<=1000/\dx≠a/\h.get? a=some (zdK C dx)/\
   ∃ mA,h.Ns1 dx mA/\(∀ f,oZ (fs.lookup f) (mA f))/\PySem.Within mA (fs.map (·.1))
 | .own _=>∃ o,h.get? a=some o
 | .xd fs=>∃ mA,h.Ns1 a mA/\∀ f,oZ (fs.lookup f) (mA f)
 | .rng lo hi=>∃ t u v,h.get? a=some { cls:=.type "range", data:=.fields #[.int lo t,.int hi u,.int 1 v] }
 | .frz o u=>h.get? a=some o/\cZ H h a u
 | .tbl ps=>h.get? a=some { cls:=.none,data:=.fields ps }
 | .met f x=>h.get? a=some (za1 (.ref f) (.ref x))
 | .ext φ=>φ h/\(∃ o,h.get? a=some o)/\∀ h1 h2:Heap,φ h1->(∀ o,h1.get? a=some o->h2.get? a=some o)->φ h2
def HOk (H:Hp)(h:Heap):Prop:=∀ a o,H a=some o->cZ P w H h a o
end
section
variable {P:W9} {w:Xm} {H H':Hp} {h h':Heap} {a:Addr} {o:HO}
theorem cZ.lt (x:cZ P w H h a o):a < h.objs.size:=by
 cases o with
 | lst xs=>obtain ⟨_,_,_,_,e⟩:=x;exact WH e
 | tup xs=>obtain ⟨_,_,_,p⟩:=x;exact p.tup.lt
 | dK kvs=>obtain ⟨_,_,_,_,o,_,_,e,_⟩:=x;exact WH e
 | dT kvs=>obtain ⟨_,_,_,_,o,_,_,e,_⟩:=x;exact WH e
 | set S n=>obtain ⟨o,_,_,_,e,_⟩:=x;exact WH e
 | ins C dx fs=>obtain ⟨_,_,_,e,_⟩:=x;exact WH e
 | own y=>obtain ⟨_,e⟩:=x;exact WH e
 | xd fs=>obtain ⟨_,⟨_,_,_,e,_⟩,_⟩:=x;exact WH e
 | rng lo hi=>obtain ⟨_,_,_,e⟩:=x;exact WH e
 | frz ob u=>obtain ⟨e,_⟩:=x;exact WH e
 | tbl ps=>exact WH (show h.get? a=some _ from x)
 | met f y=>exact WH (show h.get? a=some _ from x)
 | ext φ=>obtain ⟨_,⟨_,e⟩,_⟩:=x;exact WH e
theorem za6.RE {α β:Type}{F G:α->β->Prop}:∀ {l₁:List α} {l₂:List β},za6 F l₁ l₂->(∀ a b,F a b->G a b)->za6 G l₁ l₂
 | _,_,.nil,_=>.nil
 | _,_,.cons r t,f=>.cons (f _ _ r) (za6.RE t f)
theorem cZ.lK (x:cZ P w H h a o)(k:∀ b u,(b=a∨H b=some (.own a))->h.get? b=some u->h'.get? b=some u)
  (ho:∀ b,H b=some (.own a)->H' b=some (.own a)) (ht:∀ b xs,H b=some (.tup xs)->H' b=some (.tup xs)):cZ P w H' h' a o:=by
 induction o with
 | lst xs=>obtain ⟨z,its,n,r,e⟩:=x;exact ⟨z,its,n,r,k _ _ (.inl rfl) e⟩
 | tup xs=>obtain ⟨z,its,r,m,e⟩:=x;exact ⟨z,its,r,m,k _ _ (.inl rfl) e⟩
 | dK kvs=>obtain ⟨z,y,vs,r,ob,es,ep,e,c⟩:=x;exact ⟨z,y,vs,r,ob,es,ep,k _ _ (.inl rfl) e,c⟩
 | dT kvs=>
  obtain ⟨z,y,xs,r,ob,es,ep,e,c⟩:=x
  exact ⟨z,y,xs,za6.RE r λp q z=>⟨z.1,ht _ _ z.2.1,z.2.2⟩,ob,es,ep,k _ _ (.inl rfl) e,c⟩
 | set S n=>obtain ⟨ob,es,ep,t,e,c⟩:=x;exact ⟨ob,es,ep,t,k _ _ (.inl rfl) e,c⟩
 | ins C dx fs=>
  obtain ⟨d,z,ne,e,mA,⟨od,es,ep,e2,c⟩,r⟩:=x
  exact ⟨ho _ d,z,ne,k _ _ (.inl rfl) e,mA,⟨od,es,ep,k _ _ (.inr d) e2,c⟩,r⟩
 | own y=>obtain ⟨ob,e⟩:=x;exact ⟨ob,k _ _ (.inl rfl) e⟩
 | xd fs=>obtain ⟨mA,⟨od,es,ep,e,c⟩,r⟩:=x;exact ⟨mA,⟨od,es,ep,k _ _ (.inl rfl) e,c⟩,r⟩
 | rng lo hi=>obtain ⟨t,u,v,e⟩:=x;exact ⟨t,u,v,k _ _ (.inl rfl) e⟩
 | frz ob u ih=>obtain ⟨e,q⟩:=x;exact ⟨k _ _ (.inl rfl) e,ih q⟩
 | tbl ps=>
  have e:h.get? a=some { cls:=.none,data:=.fields ps }:=x
  show h'.get? a=some { cls:=.none,data:=.fields ps }
  exact k a _ (.inl rfl) e
 | met f y=>
  have e:h.get? a=some (za1 (.ref f) (.ref y)):=x
  show h'.get? a=some (za1 (.ref f) (.ref y))
  exact k a _ (.inl rfl) e
 | ext φ=>obtain ⟨p,⟨o,e⟩,st⟩:=x;exact ⟨st _ _ p λo q=>k _ _ (.inl rfl) q,⟨o,k _ _ (.inl rfl) e⟩,st⟩
theorem HOk.lt (x:HOk P w H h)(e:H a=some o):a < h.objs.size:=(x a o e).lt
theorem HOk.fresh (x:HOk P w H h)(e:h.objs.size<=a):H a=none:=by
 cases q:H a with
 | none=>rfl
 | some u=>exact absurd (WV (x.lt q) e) (YF _)
theorem HOk.kept (x:HOk P w H h)(k:∀ b u,h.get? b=some u->h'.get? b=some u):HOk P w H h':=λa o e=>
 (x a o e).lK (λb u _ q=>k b u q) (λ_ q=>q) λ_ _ q=>q
theorem HOk.laid (x:HOk P w H h)(k:∀ b u,h.get? b=some u->h'.get? b=some u)(hp:h.objs.size<=a)(new:cZ P w (upd H a o) h' a o):HOk P w (upd H a o) h':=λb u e=>by
 have hn:=x.fresh hp
 by_cases hb:b=a
 ·subst hb;rw[aK] at e;cases e;exact new
 ·rw[aJ hb] at e
  exact (x b u e).lK (λc v _ q=>k c v q) (λc q=>by rw[aJ (aZ q hn)];exact q) λc xs q=>by rw[aJ (aZ q hn)];exact q
end
def Rd (H:Hp)(a:Addr)(u:HO):Prop:=H a=some u∨∃ o,H a=some (.frz o u)
theorem Rd.ok {P:W9}{w:Xm}{H:Hp}{h:Heap}{a:Addr}{u:HO}(r:Rd H a u)(x:HOk P w H h):cZ P w H h a u:=by
 rcases r with r | ⟨o,r⟩
 ·exact x a u r
 ·obtain ⟨_,q⟩:=x a _ r
  exact q
def Mut:Option HO->Prop
 | some (.lst _)=>True
 | some (.dK _)=>True
 | some (.dT _)=>True
 | some (.set _ _)=>True
 | some (.ins _ _ _)=>True
 | some (.ext _)=>True
 | _=>False
section
variable {P:W9} {w:Xm} {H:Hp} {h h':Heap} {x e:Addr} {o':HO}
theorem HOk.write (ok:HOk P w H h)(mu:Mut (H x))(he:e=x∨H e=some (.own x))(k:∀ b u,b≠e->h.get? b=some u->h'.get? b=some u)(heo:∃ u,h'.get? e=some u)
  (new:cZ P w (upd H x o') h' x o'):HOk P w (upd H x o') h':=λb u q=>by
 have TQ:∀ c y,H c=some (.own y)->c≠x:=λc y r z=>by subst z;rw[r] at mu;exact mu
 have UN:∀ c xs,H c=some (.tup xs)->c≠x:=λc xs r z=>by subst z;rw[r] at mu;exact mu
 by_cases hb:b=x
 ·subst hb;rw[aK] at q;cases q;exact new
 ·rw[aJ hb] at q
  by_cases hbe:b=e
  ·have q':H b=some (.own x):=by
    rcases he with z | z
    ·exact absurd (hbe.trans z) hb
    ·rw[hbe];exact z
   rw[q] at q';cases q'
   obtain ⟨v,hv⟩:=heo
   exact ⟨v,by rw[hbe];exact hv⟩
  ·refine (ok b u q).lK (λc v hc r=>k c v ?_ r) (λc r=>by rw[aJ (TQ c b r)];exact r) λc xs r=>by rw[aJ (UN c xs r)];exact r
   rcases hc with rfl | hc
   ·exact hbe
   ·rintro rfl
    rcases he with z | z
    ·exact TQ c b hc z
    ·rw[hc] at z;cases z;exact hb rfl
end
structure Un (fs ex:List Addr) (H H':Hp) (h h':Heap):Prop where
 keep:∀ b o,h.get? b=some o->H b=none->b ∉ fs->b ∉ ex->h'.get? b=some o
 slot:∀ b o,h.get? b=some o->H b=none->b∈fs->b ∉ ex->∃ sl,h'.get? b=some { o with slots:=sl }
 free:∀ b o,h.get? b=some o->H b=none->b ∉ ex->H' b=none
 there:∀ b o,h.get? b=some o->b ∉ ex->∃ o',h'.get? b=some o'
 oS:∀ b xs,H b=some (.tup xs)->H' b=some (.tup xs)
 nq:∀ b o u,H b=some (.frz o u)->H' b=some (.frz o u)
 oV:∀ b ps,H b=some (.tbl ps)->∃ more,H' b=some (.tbl (ps++more))
section
variable {fs fs' ex ex':List Addr} {H H1 H2:Hp} {h h1 h2 h':Heap} {a x e:Addr} {o:HO}
theorem Un.any (u:Un fs ex H H1 h h1){b:Addr}{ob:Obj}(q:h.get? b=some ob)(n:H b=none)(hx:b ∉ ex):∃ sl,h1.get? b=some { ob with slots:=sl }:=by
 by_cases hb:b∈fs
 ·exact u.slot b ob q n hb hx
 ·exact ⟨ob.slots,u.keep b ob q n hb hx⟩
theorem Un.trans (a:Un fs ex H H1 h h1)(b:Un fs ex H1 H2 h1 h2):Un fs ex H H2 h h2 where
 keep:=λc ob q n hc hx=>b.keep c ob (a.keep c ob q n hc hx) (a.free c ob q n hx) hc hx
 slot:=λc ob q n hc hx=>by
  obtain ⟨sl,e1⟩:=a.slot c ob q n hc hx
  obtain ⟨sl',e2⟩:=b.slot c _ e1 (a.free c ob q n hx) hc hx
  exact ⟨sl',e2⟩
 free:=λc ob q n hx=>by
  obtain ⟨o',e1⟩:=a.there c ob q hx
  exact b.free c o' e1 (a.free c ob q n hx) hx
 there:=λc ob q hx=>by
  obtain ⟨o',e1⟩:=a.there c ob q hx
  exact b.there c o' e1 hx
 oS:=λc xs q=>b.oS c xs (a.oS c xs q)
 nq:=λc ob xs q=>b.nq c ob xs (a.nq c ob xs q)
 oV:=λc ps q=>by
  obtain ⟨m1,e1⟩:=a.oV c ps q
  obtain ⟨m2,e2⟩:=b.oV c _ e1
  exact ⟨m1++m2,by rw[e2,zcK]⟩
theorem Un.kept (k:∀ b u,h.get? b=some u->h'.get? b=some u):Un fs ex H H h h':=
 ⟨λb ob q _ _ _=>k b ob q,λb ob q _ _ _=>⟨ob.slots,k b ob q⟩,λ_ _ _ n _=>n,λb ob q _=>⟨ob,k b ob q⟩,λ_ _ q=>q,λ_ _ _ q=>q,λ_ ps q=>⟨#[],by rw[q];simp⟩⟩
theorem Un.refl:Un fs ex H H h h:=Un.kept λ_ _ q=>q
theorem Un.laid (k:∀ b u,h.get? b=some u->h'.get? b=some u)(hp:h.objs.size<=a)(hn:H a=none):Un fs ex H (upd H a o) h h' where
 keep:=λb u q _ _ _=>k b u q
 slot:=λb u q _ _ _=>⟨u.slots,k b u q⟩
 free:=λb u q n _=>by rw[aJ (WZ (WV (WH q) hp))];exact n
 there:=λb u q _=>⟨u,k b u q⟩
 oS:=λb xs q=>by rw[aJ (aZ q hn)];exact q
 nq:=λb u xs q=>by rw[aJ (aZ q hn)];exact q
 oV:=λb ps q=>⟨#[],by rw[aJ (aZ q hn),q];simp⟩
theorem Un.write (mu:Mut (H x))(he:e=x∨H e=some (.own x))(k:∀ b u,b≠e->h.get? b=some u->h'.get? b=some u)(heo:∃ u,h'.get? e=some u):Un fs ex H (upd H x o) h h':=by
 have hx:∀ b,H b=none->b≠x:=λb n z=>by subst z;rw[n] at mu;exact mu
 have hb:∀ b,H b=none->b≠e:=λb n z=>by
  subst z
  rcases he with r | r
  ·exact hx b n r
  ·rw[n] at r;cases r
 have hm:∀ b u,H b=some u->¬ Mut (some u)->b≠x:=λb u q nm z=>by subst z;rw[q] at mu;exact nm mu
 refine ⟨λb u q n _ _=>k b u (hb b n) q,λb u q n _ _=>⟨u.slots,k b u (hb b n) q⟩,λb u q n _=>by rw[aJ (hx b n)];exact n,λb u q _=>?_,
  λb xs q=>by rw[aJ (hm b _ q λz=>z)];exact q,λb u xs q=>by rw[aJ (hm b _ q λz=>z)];exact q,λb ps q=>⟨#[],by rw[aJ (hm b _ q λz=>z),q];simp⟩⟩
 by_cases hbe:b=e
 ·subst hbe;exact heo
 ·exact ⟨u,k b u hbe q⟩
theorem Un.mono (u:Un fs ex H H1 h h1)(hs:∀ b∈fs,b∈fs')(hx:∀ b∈ex,b∈ex'):Un fs' ex' H H1 h h1:=
 ⟨λb ob q n hb he=>u.keep b ob q n (λz=>hb (hs b z)) λz=>he (hx b z),λ_ _ q n _ he=>u.any q n λz=>he (hx _ z),λb ob q n he=>u.free b ob q n λz=>he (hx b z),λb ob q he=>u.there b ob q λz=>he (hx b z),u.oS,u.nq,u.oV⟩
end
def trk (h:Heap)(H:Hp):List Addr:=(Xh h.objs.size).filter λa=>(H a).isSome
def wN (h:Heap)(H:Hp):Heap:=PySem.W.hideAll h (trk h H)
theorem EW (h:Heap)(H:Hp):(wN h H).objs.size=h.objs.size:=PySem.W.hideAll_size _ _
theorem IT {h:Heap}{H:Hp}{b:Addr}{o:Obj}(e:h.get? b=some o)(n:H b=none):(wN h H).get? b=some o:=
 PySem.W.hideAll_get _ e λhm=>by
  have q:(H b).isSome=true:=(Xv.mp hm).2
  rw[n] at q;simp at q
theorem KY {h:Heap}{H:Hp}{b:Addr}{o:Obj}(e:(wN h H).get? b=some o):h.get? b=some o/\H b=none:=by
 have e':h.get? b=some o:=PySem.W.of_hideAll (trk h H) e
 refine ⟨e',?_⟩
 cases q:H b with
 | none=>rfl
 | some x=>
  have hm:b∈trk h H:=Xv.mpr ⟨YM.mpr (WH e'),by simp[q]⟩
  have z:(wN h H).get? b=none:=PySem.W.hideAll_none (trk h H) hm
  rw[z] at e;cases e
def K0 (g h:Heap)(L:Addr):List (Addr×Obj):=(Xh h.objs.size).filterMap λa=>if a=L∨(g.get? a).isSome=true then none else (h.get? a).map λo=>(a,o)
def rest (g h:Heap)(L d:Addr):List (Addr×Obj):=(K0 g h L).filter λp=>decide (p.1≠d)
end L2
namespace L2
open PySem PySem.Spec PyProof.Rows
structure Mod (K:Wq) (mg:Str->Option Wv) (base:Heap):Prop where
 kin:K.In base
 glob:base.Ns X2 mg
 blt:∃ mb,base.Ns zdT mb/\∀ x:Str,x ≠ "__name__" -> mb x=XR x
 nolimit:base.NoLimit
structure Cx where
 prog:W9
 w:Xm
 K:Wq
 mg:Str->Option Wv
 base:Heap
 A:XC
 N:List Str
 s₀:Wz
 H₀:Hp
 env:Env
 outer:List Env
 stack:List Env
 ex:List Addr
 fn:Str->Bool
 calm:Bool
 pn:List (Addr×Obj)
 xe:Wv->Wz->Prop
def frs (l:List Env):List Addr:=l.filterMap (·.frame)
abbrev Cx.fs (X:Cx):List Addr:=frs X.outer
def Vis (sc:Scope)(x:Str):Prop:=sc.names.lookup x=some .local∨sc.names.lookup x=some .cell∨sc.names.lookup x=some .free
def Loc (sc:Scope)(x:Str):Prop:=sc.names.lookup x=some .local∨sc.names.lookup x=some .cell
def Look (env:Env)(h:Heap)(m:Str->Option Wv)(x:Str)(u:Wv):Prop:=
 (env.kindOf x=some .local/\m x=some u)∨((env.kindOf x=some .cell∨env.kindOf x=some .free)/\∃ c,env.cells.lookup x=some c/\h.IsCell c (some u))
structure Cx.Ok (X:Cx):Prop where
 mod:Mod X.K X.mg X.base
 kind:X.env.scope.kind=.function
 glob:X.env.globals=X2
 blt:X.env.builtins=zdT
 above:X.s₀.heap.objs.size<=X.env.locals
 inj:∀ x y c,X.env.cells.lookup x=some c->X.env.cells.lookup y=some c->x=y
 has:∀ x,(X.env.kindOf x=some .cell∨X.env.kindOf x=some .free)->∃ c,X.env.cells.lookup x=some c
 cab:∀ x c,X.fn x=true->X.env.cells.lookup x=some c->X.s₀.heap.objs.size<=c
 hd:X.calm=true->X.A.handled=none
 frames:X.A.frames=some X.stack
 stk:X.stack=X.outer∨(X.stack=X.env::X.outer/\X.env.frame=some X.env.locals)
 exf:∀ b∈X.ex,b≠X.env.locals/\∀ x c,X.env.cells.lookup x=some c->c≠b
 bs:∀ b o,X.base.get? b=some o->X.s₀.heap.get? b=some o/\X.H₀ b=none
 bsz:X.base.objs.size<=X.s₀.heap.objs.size
 Gg:∀ b o,X.base.get? b=some o->b ∉ X.ex
 F4:∀ b∈X.ex,b ∉ X.fs
 qM:X.s₀.heap.FunFrames X.base X.outer
 frf:∀ b∈X.fs,X.H₀ b=none
structure Inv (X:Cx) (pins:List (Addr×Obj)) (σ:List (Option V)) (H:Hp) (s:Wz):Prop where
 ok:X.Ok
 os:s.os=X.s₀.os
 bare:za2 s.gens
 base:Un X.fs X.ex X.H₀ H X.s₀.heap s.heap
 loc:∃ m,s.heap.Ns X.env.locals m/\∀ (i:Nat) (x:Str) (v:V),X.N[i]? = some x->σ[i]? = some (some v)->Vis X.env.scope x->∃ u,RelV v u/\Look X.env s.heap m x u
 cell:∀ x c,X.env.cells.lookup x=some c->∃ v,s.heap.IsCell c v
 free:H X.env.locals=none
 jS:∀ x c,X.env.cells.lookup x=some c->H c=none
 pin:∀ p∈X.pn++pins,s.heap.get? p.1=some p.2/\H p.1=none/\p.1≠X.env.locals/\p.1 ∉ X.fs/\∀ v,p.2.data≠.cell v
 hok:HOk X.prog X.w H s.heap
 len:σ.length=X.N.length
section
variable {X:Cx} {pins:List (Addr×Obj)} {σ:List (Option V)} {H H':Hp} {s:Wz} {h':Heap}
theorem Cx.Ok.V7 (ok:X.Ok){b:Addr}{o:Obj}(e:X.base.get? b=some o):b ∉ X.fs:=λhb=>by
 have:=(ok.qM.mem hb).1
 rw[e] at this;cases this
theorem Inv.bs (I:Inv X pins σ H s):∀ b o,X.base.get? b=some o->s.heap.get? b=some o/\H b=none:=λb o e=>
 ⟨I.base.keep b o (I.ok.bs b o e).1 (I.ok.bs b o e).2 (I.ok.V7 e) (I.ok.Gg b o e),I.base.free b o (I.ok.bs b o e).1 (I.ok.bs b o e).2 (I.ok.Gg b o e)⟩
theorem Inv.bk (I:Inv X pins σ H s):∀ b o,X.base.get? b=some o->s.heap.get? b=some o:=λb o e=>(I.bs b o e).1
theorem Inv.mod (I:Inv X pins σ H s):Mod X.K X.mg X.base:=I.ok.mod
theorem Inv.kIn (I:Inv X pins σ H s):X.K.In s.heap:=I.ok.mod.kin.keeps I.bk
theorem Inv.nolimit (I:Inv X pins σ H s):s.heap.NoLimit:=I.ok.mod.nolimit.keeps I.bk
theorem Inv.fr (I:Inv X pins σ H s):∃ m,Fr X.base X.env.locals s.heap m:=
 let ⟨m,hn,_⟩:=I.loc
 ⟨m,hn,I.bk,Xu I.ok.bsz I.ok.above⟩
theorem Inv.lt (I:Inv X pins σ H s):X.env.locals < s.heap.objs.size:=let ⟨_,hn,_⟩:=I.loc;hn.lt
theorem Inv.sz (I:Inv X pins σ H s):X.s₀.heap.objs.size<=s.heap.objs.size:=Xu I.ok.above (ZR I.lt)
theorem Inv.V4 (I:Inv X pins σ H s){a:Addr}(h:s.heap.objs.size<=a):a ∉ X.fs:=λhb=>by
 obtain ⟨_,o,ho,_⟩:=I.ok.qM.mem hb
 exact absurd (WV (WH ho) (Xu I.sz h)) (YF _)
theorem Inv.cne (I:Inv X pins σ H s):∀ x c,X.env.cells.lookup x=some c->c≠X.env.locals:=λx c e z=>by
 obtain ⟨v,o,ho,hd⟩:=I.cell x c e
 obtain ⟨m,⟨o',es,ep,ho',hd',_⟩,_⟩:=I.loc
 rw[z,ho'] at ho;cases ho;rw[hd'] at hd;cases hd
theorem Inv.qM (I:Inv X pins σ H s):s.heap.FunFrames X.base X.outer:=by
 have all:∀ (l:List Env),(∀ b∈frs l,b∈X.fs)->X.s₀.heap.FunFrames X.base l->s.heap.FunFrames X.base l:=by
  intro l
  induction l with
  | nil=>intro _ _;trivial
  | cons env r ih=>
   intro hs hl
   obtain ⟨hk,⟨L,o,hf,hn,ho,hd⟩,hr⟩:=hl
   have hL:L∈X.fs:=hs L (by unfold frs;rw[Yn,hf];exact WS)
   obtain ⟨sl,e⟩:=I.base.slot L o ho (I.ok.frf L hL) hL λz=>I.ok.F4 L z hL
   exact ⟨hk,⟨L,_,hf,hn,e,hd⟩,ih (λb hb=>hs b (by unfold frs;rw[Yn,hf];exact W5 _ hb)) hr⟩
 exact all X.outer (λ_ hb=>hb) I.ok.qM
theorem Inv.stack (I:Inv X pins σ H s):s.heap.FunFrames X.base X.stack:=by
 rcases I.ok.stk with e | ⟨e,hf⟩
 ·rw[e];exact I.qM
 ·rw[e]
  obtain ⟨m,hn,_⟩:=I.loc
  refine .cons (by rw[I.ok.kind];decide) hf hn ?_ I.qM
  exact Heap.get?_none_of_le (Xu I.ok.bsz I.ok.above)
theorem Inv.BE (I:Inv X pins σ H s):∀ b∈frs X.stack,b∈X.env.locals::X.fs:=λb hb=>by
 rcases I.ok.stk with e | ⟨e,hf⟩
 ·rw[e] at hb;exact W5 _ hb
 ·rw[e] at hb
  unfold frs at hb
  rw[Yn,hf] at hb
  exact hb
theorem Inv.C2 (I:Inv X pins σ H s):∀ b∈frs X.stack,H b=none:=λb hb=>by
 rcases WK.mp (I.BE b hb) with e | hb
 ·rw[e];exact I.free
 ·obtain ⟨_,o,ho,_⟩:=I.ok.qM.mem hb
  exact I.base.free b o ho (I.ok.frf b hb) λz=>I.ok.F4 b z hb
theorem Inv.step {g':Array GenState}{t':Nat}{d':Drawn}{ch:List Addr}(I:Inv X pins σ H s)
  (hch:∀ b∈ch,(b∈X.ex∨X.s₀.heap.objs.size<=b)/\b≠X.env.locals/\(∀ x c,X.env.cells.lookup x=some c->c≠b)/\∀ p∈X.pn++pins,p.1≠b)
  (keep:∀ b o,b≠X.env.locals->b ∉ X.fs->b ∉ ch->s.heap.get? b=some o->H b=none->h'.get? b=some o)
  (slot:∀ b o,b≠X.env.locals->b∈X.fs->b ∉ ch->s.heap.get? b=some o->H b=none->∃ sl,h'.get? b=some { o with slots:=sl }) (free:∀ b o,b ∉ ch->s.heap.get? b=some o->H b=none->H' b=none)
  (there:∀ b o,b ∉ ch->s.heap.get? b=some o->∃ o',h'.get? b=some o')
  (oS:∀ b xs,H b=some (.tup xs)->H' b=some (.tup xs)) (nq:∀ b o u,H b=some (.frz o u)->H' b=some (.frz o u)) (oV:∀ b ps,H b=some (.tbl ps)->∃ more,H' b=some (.tbl (ps++more)))
  (ns:∀ m,s.heap.Ns X.env.locals m->h'.Ns X.env.locals m) (hok:HOk X.prog X.w H' h') (hg:za2 g') :
  Inv X pins σ H' { s with heap:=h',gens:=g',drawn:=d',toks:=t' }:=by
 have neL:∀ b o,X.s₀.heap.get? b=some o->b≠X.env.locals:=λb o e=>WZ (WV (WH e) I.ok.above)
 have neC:∀ b o,X.s₀.heap.get? b=some o->b ∉ X.ex->b ∉ ch:=λb o e hx hb=>by
  rcases (hch b hb).1 with z | z
  ·exact hx z
  ·exact absurd (WV (WH e) z) (YF _)
 have cellK:∀ x c,X.env.cells.lookup x=some c->∀ v,s.heap.IsCell c v->h'.IsCell c v:=λx c e v ⟨o,ho,hd⟩=>by
  have nch:c ∉ ch:=λz=>(hch c z).2.2.1 x c e rfl
  by_cases hc:c∈X.fs
  ·obtain ⟨sl,q⟩:=slot c o (I.cne x c e) hc nch ho (I.jS x c e)
   exact ⟨_,q,hd⟩
  ·exact ⟨o,keep c o (I.cne x c e) hc nch ho (I.jS x c e),hd⟩
 refine ⟨I.ok,I.os,hg,⟨λb o e n hb hx=>?_,λb o e n hb hx=>?_,λb o e n hx=>?_,λb o e hx=>?_,λb xs e=>oS b xs (I.base.oS b xs e),λb o xs e=>nq b o xs (I.base.nq b o xs e),λb ps e=>?_⟩,?_,λx c e=>?_,?_,λx c e=>?_,λp hp=>?_,hok,I.len⟩
 ·exact keep b o (neL b o e) hb (neC b o e hx) (I.base.keep b o e n hb hx) (I.base.free b o e n hx)
 ·obtain ⟨sl,e1⟩:=I.base.slot b o e n hb hx
  obtain ⟨sl',e2⟩:=slot b _ (neL b o e) hb (neC b o e hx) e1 (I.base.free b o e n hx)
  exact ⟨sl',e2⟩
 ·obtain ⟨o',e1⟩:=I.base.there b o e hx
  exact free b o' (neC b o e hx) e1 (I.base.free b o e n hx)
 ·obtain ⟨o',e1⟩:=I.base.there b o e hx
  exact there b o' (neC b o e hx) e1
 ·obtain ⟨m1,e1⟩:=I.base.oV b ps e
  obtain ⟨m2,e2⟩:=oV b _ e1
  exact ⟨m1++m2,by rw[e2,zcK]⟩
 ·obtain ⟨m,hn,hl⟩:=I.loc
  refine ⟨m,ns m hn,λi x v e1 e2 e3=>?_⟩
  obtain ⟨u,r,l⟩:=hl i x v e1 e2 e3
  refine ⟨u,r,?_⟩
  rcases l with l | ⟨k,c,e,z⟩
  ·exact .inl l
  ·exact .inr ⟨k,c,e,cellK x c e _ z⟩
 ·obtain ⟨v,z⟩:=I.cell x c e
  exact ⟨v,cellK x c e v z⟩
 ·obtain ⟨m,⟨o,_,_,ho,_⟩,_⟩:=I.loc
  exact free _ o (λz=>(hch _ z).2.1 rfl) ho I.free
 ·obtain ⟨v,o,ho,hd⟩:=I.cell x c e
  exact free c o (λz=>(hch c z).2.2.1 x c e rfl) ho (I.jS x c e)
 ·obtain ⟨e,n,ne,nf,d⟩:=I.pin p hp
  have nch:p.1 ∉ ch:=λz=>(hch p.1 z).2.2.2 p hp rfl
  exact ⟨keep p.1 p.2 ne nf nch e n,free p.1 p.2 nch e n,ne,nf,d⟩
theorem Inv.un {t':Nat}(I:Inv X pins σ H s)(u:Un X.fs [] H H' s.heap h')(hok:HOk X.prog X.w H' h'):Inv X pins σ H' { s with heap:=h',toks:=t' }:=by
 obtain ⟨m,⟨o,es,ep,ho,r⟩,_⟩:=id I.loc
 obtain ⟨sl,hL⟩:=u.any ho I.free (by simp)
 exact I.step (g':=s.gens) (d':=s.drawn) (ch:=[]) (λ_ z=>nomatch z) (λb o _ hb _ e n=>u.keep b o e n hb (by simp)) (λb o _ hb _ e n=>u.slot b o e n hb (by simp)) (λb o _ e n=>u.free b o e n (by simp)) (λb o _ e=>u.there b o e (by simp)) u.oS u.nq u.oV (λm' hm=>by
  obtain ⟨o',es',ep',ho',r'⟩:=hm
  rw[ho] at ho';cases ho'
  exact ⟨_,es',ep',hL,r'⟩) hok I.bare
theorem Inv.call {g':Array GenState}{t':Nat}{d':Drawn}{ch:List Addr}(I:Inv X pins σ H s)(u:Un (frs X.stack) ch H H' s.heap h')(hok:HOk X.prog X.w H' h')(hg:za2 g')
  (hch:∀ b∈ch,(b∈X.ex∨X.s₀.heap.objs.size<=b)/\b≠X.env.locals/\(∀ x c,X.env.cells.lookup x=some c->c≠b)/\∀ p∈X.pn++pins,p.1≠b) :
  Inv X pins σ H' { s with heap:=h',gens:=g',drawn:=d',toks:=t' }:=by
 obtain ⟨m,⟨o,es,ep,ho,r⟩,_⟩:=id I.loc
 obtain ⟨sl,hL⟩:=u.any ho I.free λz=>(hch _ z).2.1 rfl
 exact I.step (ch:=ch) hch (λb o hL hb hc e n=>u.keep b o e n (λz=>(WK.mp (I.BE b z)).elim hL hb) hc) (λb o _ _ hc e n=>u.any e n hc) (λb o hc e n=>u.free b o e n hc) (λb o hc e=>u.there b o e hc) u.oS u.nq u.oV (λm' hm=>by
  obtain ⟨o',es',ep',ho',r'⟩:=hm
  rw[ho] at ho';cases ho'
  exact ⟨_,es',ep',hL,r'⟩) hok hg
theorem Inv.turned {t':Nat}{it:Addr}(I:Inv X pins σ H s)(k:∀ b o,b≠it->s.heap.get? b=some o->h'.get? b=some o)(hn:H it=none)(hL:it≠X.env.locals)
  (h1:it∈X.ex∨X.s₀.heap.objs.size<=it) (h2:∀ x c,X.env.cells.lookup x=some c->c≠it) (h3:∀ p∈X.pn++pins,p.1≠it):Inv X pins σ H { s with heap:=h',toks:=t' }:=by
 have nit:∀ b u,H b=some u->b≠it:=λb u e z=>by rw[z,hn] at e;cases e
 refine I.step (g':=s.gens) (d':=s.drawn) (ch:=[it]) (λb hb=>?_) (λb o _ _ hc e _=>k b o (λz=>hc (by simp[z])) e) (λb o _ _ hc e _=>⟨o.slots,k b o (λz=>hc (by simp[z])) e⟩) (λ_ _ _ _ n=>n)
  (λb o hc e=>⟨o,k b o (λz=>hc (by simp[z])) e⟩) (λ_ _ e=>e) (λ_ _ _ e=>e) (λb ps e=>⟨#[],by rw[e];simp⟩) (λm hm=>?_) (λb u e=>?_) I.bare
 ·have e:b=it:=by simpa using hb
  subst e
  exact ⟨h1,hL,h2,h3⟩
 ·obtain ⟨o,es,ep,ho,r⟩:=hm
  exact ⟨o,es,ep,k _ o (WX hL) ho,r⟩
 ·refine (I.hok b u e).lK (λc v hc q=>k c v ?_ q) (λ_ q=>q) λ_ _ q=>q
  rcases hc with z | z
  ·rw[z];exact nit b u e
  ·exact nit c _ z
theorem Inv.tok (I:Inv X pins σ H s)(t:Nat):Inv X pins σ H { s with toks:=t }:=I.un (h':=s.heap) (t':=t) Un.refl I.hok
theorem Inv.kept {t':Nat}(I:Inv X pins σ H s)(k:∀ b u,s.heap.get? b=some u->h'.get? b=some u):Inv X pins σ H { s with heap:=h',toks:=t' }:=I.un (Un.kept k) (I.hok.kept k)
theorem Inv.laid {a:Addr}{o:HO}{t':Nat}(I:Inv X pins σ H s)(k:∀ b u,s.heap.get? b=some u->h'.get? b=some u)(hp:s.heap.objs.size<=a)(new:cZ X.prog X.w (upd H a o) h' a o) :
  Inv X pins σ (upd H a o) { s with heap:=h',toks:=t' }:=I.un (Un.laid k hp (I.hok.fresh hp)) (I.hok.laid k hp new)
theorem Inv.write {x e:Addr}{o:HO}{t':Nat}(I:Inv X pins σ H s)(mu:Mut (H x))(he:e=x∨H e=some (.own x))(k:∀ b u,b≠e->s.heap.get? b=some u->h'.get? b=some u)(heo:∃ u,h'.get? e=some u)
  (new:cZ X.prog X.w (upd H x o) h' x o):Inv X pins σ (upd H x o) { s with heap:=h',toks:=t' }:=I.un (Un.write mu he k heo) (I.hok.write mu he k heo new)
theorem Inv.weak {σ':List (Option V)}(I:Inv X pins σ H s)(hl:σ'.length=σ.length)(w:∀ (i:Nat) v,σ'[i]? = some (some v)->σ[i]? = some (some v)):Inv X pins σ' H s:=
 ⟨I.ok,I.os,I.bare,I.base,let ⟨m,hn,hl'⟩:=I.loc;⟨m,hn,λi x v e1 e2 e3=>hl' i x v e1 (w i v e2) e3⟩,I.cell,I.free,I.jS,I.pin,I.hok,hl.trans I.len⟩
theorem Inv.CI {pins':List (Addr×Obj)}(I:Inv X pins σ H s)(h:∀ p∈pins',s.heap.get? p.1=some p.2/\H p.1=none/\p.1≠X.env.locals/\p.1 ∉ X.fs/\∀ v,p.2.data≠.cell v):Inv X pins' σ H s:=
 ⟨I.ok,I.os,I.bare,I.base,I.loc,I.cell,I.free,I.jS,λp hp=>(Xr.mp hp).elim (λz=>I.pin p (YB _ z)) (h p),I.hok,I.len⟩
theorem zg {N:List Str}(hN:N.Nodup){i j:Nat}{x:Str}(a:N[i]? = some x)(b:N[j]? = some x):i=j:=by
 obtain ⟨h1,e1⟩:=Xc.mp a
 obtain ⟨h2,e2⟩:=Xc.mp b
 exact (zdo hN).mp (e1.trans e2.symm)
theorem D9 {M:Model}{A:XC}{E:Wv->Wz->Prop}{i:Nat}{x:Str}{v:V}{u:Wv}{Q:Unit->Wz->Prop}(I:Inv X pins σ H s)(hN:X.N.Nodup)(hi:X.N[i]? = some x)(hx:Loc X.env.scope x)(r:RelV v u)
  (h:∀ s',Inv X pins (σ.set i (some v)) H s'->(∃ a,YT a s.heap s'.heap/\(a=X.env.locals∨X.env.cells.lookup x=some a))->Q () s') (hf:X.fn x=true∨X.env.scope.names.lookup x=some .local:=by first | exact .inl rfl | exact .inr rfl | assumption):WW M A (storeName X.env x u) Q E s:=by
 obtain ⟨m,hn,hl⟩:=id I.loc
 have Vv:(X.env.scope.kind == .class || (X.env.scope.kind == .module&&X.env.locals != X.env.globals))=false:=by rw[I.ok.kind];rfl
 have hiσ:i < σ.length:=by rw[I.len];exact (Xc.mp hi).1
 have cne:=I.cne
 have tracked:∀ {a:Addr} {h':Heap},(∃ o,s.heap.get? a=some o/\H a=none)->YT a s.heap h'->HOk X.prog X.w H h':=λ{a h'} ha hs b ob e=>by
  obtain ⟨_,_,hfree⟩:=ha
  refine (I.hok b ob e).lK (λc w' hc q=>(hs.2 c ?_).trans q) (λ_ q=>q) λ_ _ q=>q
  rintro rfl
  rcases hc with rfl | hc
  ·rw[hfree] at e;cases e
  ·rw[hfree] at hc;cases hc
 rcases hx with hk | hk
 ·refine wpAny_storeName_local hk hn (λh' hn' hs=>?_) Vv
  obtain ⟨oL,_,_,hoL,_⟩:=id hn
  refine h _ ⟨I.ok,I.os,I.bare,⟨λb o e n hb hx=>?_,λb o e n hb hx=>?_,I.base.free,λb o e hx=>?_,I.base.oS,I.base.nq,I.base.oV⟩,⟨_,hn',λj y v' e1 e2 e3=>?_⟩,λy c e=>?_,I.free,I.jS,λp hp=>?_,tracked ⟨oL,hoL,I.free⟩ hs,by simpa using I.len⟩ ⟨_,hs,.inl rfl⟩
  ·exact (hs.2 b (WZ (WV (WH e) I.ok.above))).trans (I.base.keep b o e n hb hx)
  ·obtain ⟨sl,e1⟩:=I.base.slot b o e n hb hx
   exact ⟨sl,(hs.2 b (WZ (WV (WH e) I.ok.above))).trans e1⟩
  ·obtain ⟨o',e1⟩:=I.base.there b o e hx
   exact ⟨o',(hs.2 b (WZ (WV (WH e) I.ok.above))).trans e1⟩
  ·by_cases hj:j=i
   ·subst hj
    rw[hi] at e1;cases e1
    rw[ZS hiσ] at e2
    cases e2
    exact ⟨u,r,.inl ⟨hk,by simp⟩⟩
   ·rw[YC (WX hj)] at e2
    obtain ⟨u',r',q⟩:=hl j y v' e1 e2 e3
    refine ⟨u',r',?_⟩
    rcases q with ⟨k,e⟩ | ⟨k,c,e,z⟩
    ·refine .inl ⟨k,?_⟩
     have:y≠x:=λe=>hj (zg hN e1 (e ▸ hi))
     simp[this,e]
    ·exact .inr ⟨k,c,e,z.sameBut hs (cne y c e)⟩
  ·obtain ⟨w',z⟩:=I.cell y c e
   exact ⟨w',z.sameBut hs (cne y c e)⟩
  ·obtain ⟨e,n,ne,nf,d⟩:=I.pin p hp
   exact ⟨(hs.2 p.1 ne).trans e,n,ne,nf,d⟩
 ·have hfn:X.fn x=true:=by
   rcases hf with z | z
   ·exact z
   ·rw[z] at hk;cases hk
  obtain ⟨c,hc⟩:=I.ok.has x (.inl hk)
  obtain ⟨w',z⟩:=I.cell x c hc
  refine wpAny_storeName_cell I.ok.kind hk hc z (λh' hc' hs=>?_)
  obtain ⟨oc,hoc,hocd⟩:=id z
  refine h { s with heap:=h' } ⟨I.ok,I.os,I.bare,⟨λb o e n hb hx=>?_,λb o e n hb hx=>?_,I.base.free,λb o e hx=>?_,I.base.oS,I.base.nq,I.base.oV⟩,⟨m,hn.sameBut hs (WX (cne x c hc)),λj y v' e1 e2 e3=>?_⟩,λy c' e=>?_,I.free,I.jS,λp hp=>?_,tracked ⟨oc,hoc,I.jS x c hc⟩ hs,by simpa using I.len⟩ ⟨c,hs,.inr hc⟩
  ·exact (hs.2 b (WZ (WV (WH e) (I.ok.cab x c hfn hc)))).trans (I.base.keep b o e n hb hx)
  ·obtain ⟨sl,e1⟩:=I.base.slot b o e n hb hx
   exact ⟨sl,(hs.2 b (WZ (WV (WH e) (I.ok.cab x c hfn hc)))).trans e1⟩
  ·obtain ⟨o',e1⟩:=I.base.there b o e hx
   exact ⟨o',(hs.2 b (WZ (WV (WH e) (I.ok.cab x c hfn hc)))).trans e1⟩
  ·by_cases hj:j=i
   ·subst hj
    rw[hi] at e1;cases e1
    rw[ZS hiσ] at e2
    cases e2
    exact ⟨u,r,.inr ⟨.inl hk,c,hc,hc'⟩⟩
   ·rw[YC (WX hj)] at e2
    obtain ⟨u',r',q⟩:=hl j y v' e1 e2 e3
    refine ⟨u',r',?_⟩
    rcases q with q | ⟨k,c',e,z'⟩
    ·exact .inl q
    ·refine .inr ⟨k,c',e,z'.sameBut hs ?_⟩
     rintro rfl
     exact hj (zg hN e1 (I.ok.inj _ _ _ e hc ▸ hi))
  ·by_cases hcc:c'=c
   ·subst hcc;exact ⟨_,hc'⟩
   ·obtain ⟨w2,z2⟩:=I.cell y c' e
    exact ⟨w2,z2.sameBut hs hcc⟩
  ·obtain ⟨e,n,ne,nf,d⟩:=I.pin p hp
   refine ⟨(hs.2 p.1 ?_).trans e,n,ne,nf,d⟩
   intro q
   rw[q,hoc] at e
   have q':oc=p.2:=Xq e
   exact d w' (by rw[← q'];exact hocd)
theorem jU {M:Model}{A:XC}{E:Wv->Wz->Prop}{i:Nat}{x:Str}{v:V}{u:Wv}{Q:Unit->Wz->Prop}(I:Inv X pins σ H s)(hN:X.N.Nodup)(hi:X.N[i]? = some x)(hx:Loc X.env.scope x)(r:RelV v u)
  (h:∀ s',Inv X pins (σ.set i (some v)) H s'->Q () s') (hf:X.fn x=true∨X.env.scope.names.lookup x=some .local:=by first | exact .inl rfl | exact .inr rfl | assumption):WW M A (storeName X.env x u) Q E s:=
 D9 I hN hi hx r (λs' I' _=>h s' I') hf
theorem Inv.Og {s':Wz}{ch:List Addr}(I:Inv X pins σ H s)(ho:s'.os=s.os)(u:Un (frs X.stack) ch H H' s.heap s'.heap)(hok:HOk X.prog X.w H' s'.heap)(hg:za2 s'.gens)
  (hch:∀ b∈ch,(b∈X.ex∨X.s₀.heap.objs.size<=b)/\b≠X.env.locals/\(∀ x c,X.env.cells.lookup x=some c->c≠b)/\∀ p∈X.pn++pins,p.1≠b):Inv X pins σ H' s':=by
 obtain ⟨h',g',d',t',o'⟩:=s'
 have e:o'=s.os:=ho
 subst e
 exact I.call (g':=g') (t':=t') (d':=d') u hok hg hch
end
abbrev XK:=Wv->Option Addr->Hp->Prop
abbrev St:=List (Option V)
abbrev VK:=V->Hp->Prop
abbrev TE:=St->Hp->VK->Prop
abbrev TT:=St->Hp->(Bool->Hp->Prop)->Prop
abbrev TA:=St->Hp->(List V->Hp->Prop)->Prop
structure Ends where
 nx:St->Hp->Prop
 rt:VK
 bk:St->Hp->Prop:=λ_ _=>False
 ct:St->Hp->Prop:=λ_ _=>False
abbrev TS:=Ends->St->Hp->Prop
def EP (X:Cx)(pins:List (Addr×Obj))(σ:St)(Q:VK)(u:Wv)(s':Wz):Prop:=∃ v H',Inv X pins σ H' s'/\RelV v u/\Q v H'
def TP (X:Cx)(pins:List (Addr×Obj))(σ:St)(Q:Bool->Hp->Prop)(b:Bool)(s':Wz):Prop:=∃ H',Inv X pins σ H' s'/\Q b H'
def AP (X:Cx)(pins:List (Addr×Obj))(σ:St)(Q:List V->Hp->Prop)(us:List Wv)(s':Wz):Prop:=∃ vs H',Inv X pins σ H' s'/\Vals vs us/\Q vs H'
def SP (X:Cx)(pins:List (Addr×Obj))(D:Ends)(f:Flow)(s':Wz):Prop:=
 match f with
 | .next=>∃ σ' H',Inv X pins σ' H' s'/\D.nx σ' H'
 | .brk=>∃ σ' H',Inv X pins σ' H' s'/\D.bk σ' H'
 | .cont=>∃ σ' H',Inv X pins σ' H' s'/\D.ct σ' H'
 | .ret u=>∃ v σ' H',Inv X pins σ' H' s'/\RelV v u/\D.rt v H'
def PE (X:Cx)(e:W4)(t:TE):Prop:=
 ∀ (pins:List (Addr×Obj)) (s:Wz) (σ:St) (H:Hp) (Q:VK),Inv X pins σ H s->t σ H Q->WW (W2 X.prog X.w) X.A (XG e X.env) (EP X pins σ Q) X.xe s
def PT (X:Cx)(e:W4)(t:TT):Prop:=
 ∀ (pins:List (Addr×Obj)) (s:Wz) (σ:St) (H:Hp) (Q:Bool->Hp->Prop),Inv X pins σ H s->t σ H Q->WW (W2 X.prog X.w) X.A (isTrue e X.env (XG e X.env)) (TP X pins σ Q) X.xe s
def PW (X:Cx)(e:W4)(t:TT):Prop:=
 ∀ (whole:Sem Wv) (pins:List (Addr×Obj)) (s:Wz) (σ:St) (H:Hp) (Q:Bool->Hp->Prop),Inv X pins σ H s->t σ H Q->WW (W2 X.prog X.w) X.A (isTrue e X.env whole) (TP X pins σ Q) X.xe s
theorem PW.pt {X:Cx}{e:W4}{t:TT}(h:PW X e t):PT X e t:=h _
def PA (X:Cx)(es:List W4)(t:TA):Prop:=
 ∀ (pos:Pos) (pins:List (Addr×Obj)) (s:Wz) (σ:St) (H:Hp) (Q:List V->Hp->Prop),Inv X pins σ H s->t σ H Q->WW (W2 X.prog X.w) X.A (spliced (XM pos (WI es X.env))) (AP X pins σ Q) X.xe s
def PS (X:Cx)(st:Stmt)(t:TS):Prop:=
 ∀ (pins:List (Addr×Obj)) (s:Wz) (σ:St) (H:Hp) (D:Ends),Inv X pins σ H s->t D σ H->WW (W2 X.prog X.w) X.A (exec st X.env) (SP X pins D) X.xe s
def PSs (X:Cx)(st:List Stmt)(t:TS):Prop:=
 ∀ (pins:List (Addr×Obj)) (s:Wz) (σ:St) (H:Hp) (D:Ends),Inv X pins σ H s->t D σ H->WW (W2 X.prog X.w) X.A (execs st X.env) (SP X pins D) X.xe s
theorem thn {α:Type}{t:Sem α}{Q Q':α->Wz->Prop}{M:Model}{A:XC}{E:Wv->Wz->Prop}{s:Wz}(h:WW M A t Q E s)(hQ:∀ a s,Q a s->Q' a s):WW M A t Q' E s:=XO h hQ λ_ _ x=>x
end L2
namespace L2
open PySem PySem.Spec PyProof.Rows
section
variable {X:Cx}
def TY (i:Nat):TE:=λσ H Q=>∃ v,σ[i]? = some (some v)/\Q v H
def tC (v:V):TE:=λ_ H Q=>Q v H
theorem JQ {i:Nat}{x:Str}{pos:Pos}(hN:X.N[i]? = some x)(hv:Vis X.env.scope x)(hd:(x == ("__debug__" : Str))=false:=by decide)(hcd:(x == ("__classdict__" : Str))=false:=by decide):PE X (.Name x pos) (TY i):=by
 intro pins s σ H Q I h
 obtain ⟨v,e,h⟩:=h
 obtain ⟨m,hn,hl⟩:=I.loc
 obtain ⟨u,r,l⟩:=hl i x v hN e hv
 have fin:EP X pins σ Q u s:=⟨v,H,I,r,h⟩
 rcases l with ⟨hk,hm⟩ | ⟨hk,c,hc,hcell⟩
 ·exact zdU (zbY I.ok.kind hk hn hm fin) hd
 ·rcases hk with hk | hk
  ·exact zdU (zcn I.ok.kind hk hc hcell fin) hd
  ·exact zdU (wpAny_loadName_free I.ok.kind hk hc hcell fin hcd) hd
theorem Qj {i j pos}:PE X (.Constant (.int i) j pos) (tC (.int i)):=λ_ _ _ H _ I h=>wpAny_Constant_int ⟨.int i,H,I.tok _,⟨_,rfl⟩,h⟩
theorem Tv {b j pos}:PE X (.Constant (.bool b) j pos) (tC (.bl b)):=λ_ _ _ H _ I h=>Constant_bool ⟨.bl b,H,I,rfl,h⟩
theorem QN {j pos}:PE X (.Constant .none j pos) (tC .non):=λ_ _ _ H _ I h=>Constant_none ⟨.non,H,I,rfl,h⟩
theorem Fy {x j pos}:PE X (.Constant (.str x) j pos) (tC (.str x)):=λ_ _ _ H _ I h=>Calls.Constant_str ⟨.str x,H,I.tok _,⟨_,rfl⟩,h⟩
def Gl (X:Cx)(x:Str):Prop:=X.env.kindOf x=some .globalImplicit
theorem CB {E:Wv->Wz->Prop}{pins:List (Addr×Obj)}{s:Wz}{σ:St}{H:Hp}{x:Str}{u:Wv}{pos:Pos}{Q:Wv->Wz->Prop}(I:Inv X pins σ H s)(hg:Gl X x)(hm:X.mg x=some u)(h:Q u s)
  (hd:(x == ("__debug__" : Str))=false:=by decide):WW (W2 X.prog X.w) X.A (XG (.Name x pos) X.env) Q E s:=
 zaJ I.ok.kind hg (Calls.loadGlobal_global (by rw[I.ok.glob];exact I.mod.glob.keeps I.bk) hm h) hd
theorem gU {E:Wv->Wz->Prop}{pins:List (Addr×Obj)}{s:Wz}{σ:St}{H:Hp}{x:Str}{u:Wv}{pos:Pos}{Q:Wv->Wz->Prop}(I:Inv X pins σ H s)(hg:Gl X x)(hm:X.mg x=none)(hv:XR x=some u)(h:Q u s)
  (hn:x ≠ "__name__" := by decide) (hd:(x == ("__debug__" : Str))=false:=by decide):WW (W2 X.prog X.w) X.A (XG (.Name x pos) X.env) Q E s:=by
 obtain ⟨mb,h1,h2⟩:=I.mod.blt
 exact zaJ I.ok.kind hg (Calls.loadGlobal_builtin (by rw[I.ok.glob];exact I.mod.glob.keeps I.bk) hm (by rw[I.ok.blt];exact h1.keeps I.bk) ((h2 x hn).trans hv) h) hd
theorem KP {x:Str}{v:V}{u:Wv}{pos:Pos}(hg:Gl X x)(hm:X.mg x=some u)(r:RelV v u)(hd:(x == ("__debug__" : Str))=false:=by decide):PE X (.Name x pos) (tC v):=
 λ_ _ _ H _ I h=>CB I hg hm ⟨v,H,I,r,h⟩ hd
theorem CQ {x:Str}{v:V}{u:Wv}{pos:Pos}(hg:Gl X x)(hm:X.mg x=none)(hv:XR x=some u)(r:RelV v u)(hn:x ≠ "__name__" := by decide)(hd:(x == ("__debug__" : Str))=false:=by decide):PE X (.Name x pos) (tC v):=
 λ_ _ _ H _ I h=>gU I hg hm hv ⟨v,H,I,r,h⟩ hn hd
variable {a b:W4} {ta tb:TE} {pos:Pos}
def tB (t:TE):TT:=λσ H Q=>t σ H λx H1=>∃ c,x=.bl c/\Q c H1
theorem Pz {e:W4}{t:TE}(h:PE X e t)(he:∀ whole,isTrue e X.env whole=(do let v ← whole;standAt e.pos;zbw [v] (truthy v)):=by intro _;rfl):PT X e (tB t):=by
 intro pins s σ H Q I hw
 refine isTrue_plain (thn (h pins s σ H _ I hw) λv s1 ⟨x,H1,I1,r1,q1⟩=>?_) (he _)
 obtain ⟨d,rfl,q⟩:=q1
 cases r1
 exact XU ⟨H1,I1,q⟩
variable {tA tB':TT} {rest:List W4}
def VD (t u:TT):TT:=λσ H Q=>t σ H λc H1=>if c=true then u σ H1 Q else Q false H1
def tOr (t u:TT):TT:=λσ H Q=>t σ H λc H1=>if c=true then Q true H1 else u σ H1 Q
def UW (t:TT):TT:=λσ H Q=>t σ H λc H1=>Q (!c) H1
theorem pw_and1 (ha:PT X a tA):PW X (.BoolOp .And [a] pos) tA:=by
 intro wh pins s σ H Q I h
 refine isTrue_and (thn (ha pins s σ H Q I h) λc s1 e=>?_)
 cases c with
 | true=>exact isTrue_and_nil e
 | false=>exact e
theorem pw_or1 (ha:PT X a tA):PW X (.BoolOp .Or [a] pos) tA:=by
 intro wh pins s σ H Q I h
 refine isTrue_or (thn (ha pins s σ H Q I h) λc s1 e=>?_)
 cases c with
 | false=>exact isTrue_or_nil e
 | true=>exact e
theorem pw_and (ha:PT X a tA)(hb:PW X (.BoolOp .And (b::rest) pos) tB'):PW X (.BoolOp .And (a::b::rest) pos) (VD tA tB'):=by
 intro wh pins s σ H Q I h
 refine isTrue_and (thn (ha pins s σ H _ I h) λc s1 ⟨H1,I1,q1⟩=>?_)
 cases c with
 | true=>exact hb wh pins s1 σ H1 Q I1 q1
 | false=>exact ⟨H1,I1,q1⟩
theorem pw_or (ha:PT X a tA)(hb:PW X (.BoolOp .Or (b::rest) pos) tB'):PW X (.BoolOp .Or (a::b::rest) pos) (tOr tA tB'):=by
 intro wh pins s σ H Q I h
 refine isTrue_or (thn (ha pins s σ H _ I h) λc s1 ⟨H1,I1,q1⟩=>?_)
 cases c with
 | true=>exact ⟨H1,I1,q1⟩
 | false=>exact hb wh pins s1 σ H1 Q I1 q1
theorem Qk (ha:PT X a tA):PT X (.UnaryOp .Not a pos) (UW tA):=by
 intro pins s σ H Q I h
 exact isTrue_not (ha pins s σ H (λc H1=>Q (!c) H1) I h)
def Su (ta tb:TE):TE:=λσ H Q=>ta σ H λx H1=>∃ c,x=.bl c/\if c=true then tb σ H1 Q else Q (.bl false) H1
def Wc (ta tb:TE):TE:=λσ H Q=>ta σ H λx H1=>∃ c,x=.bl c/\if c=true then Q (.bl true) H1 else tb σ H1 Q
def SW (ta:TE):TE:=λσ H Q=>ta σ H λx H1=>∃ c,x=.bl c/\Q (.bl (!c)) H1
theorem Rp {op}{t:TE}(h:PE X a t):PE X (.BoolOp op [a] pos) t:=λpins s σ H Q I hw=>BoolOp_one (h pins s σ H Q I hw)
theorem OQ (ha:PE X a ta)(hb:PE X (.BoolOp .And (b::rest) pos) tb):PE X (.BoolOp .And (a::b::rest) pos) (Su ta tb):=by
 intro pins s σ H Q I h
 refine BoolOp_and (thn (ha pins s σ H _ I h) λv s1 ⟨x,H1,I1,r1,q1⟩=>?_)
 obtain ⟨c,rfl,q1⟩:=q1
 cases r1
 refine XU ?_
 cases c with
 | true=>exact hb pins s1 σ H1 Q I1 q1
 | false=>exact ⟨.bl false,H1,I1,rfl,q1⟩
theorem T7 (ha:PE X a ta)(hb:PE X (.BoolOp .Or (b::rest) pos) tb):PE X (.BoolOp .Or (a::b::rest) pos) (Wc ta tb):=by
 intro pins s σ H Q I h
 refine BoolOp_or (thn (ha pins s σ H _ I h) λv s1 ⟨x,H1,I1,r1,q1⟩=>?_)
 obtain ⟨c,rfl,q1⟩:=q1
 cases r1
 refine XU ?_
 cases c with
 | false=>exact hb pins s1 σ H1 Q I1 q1
 | true=>exact ⟨.bl true,H1,I1,rfl,q1⟩
theorem OK (ha:PE X a ta):PE X (.UnaryOp .Not a pos) (SW ta):=by
 intro pins s σ H Q I h
 refine UnaryOp_ (thn (ha pins s σ H _ I h) λv s1 ⟨x,H1,I1,r1,q1⟩=>?_)
 obtain ⟨c,rfl,q1⟩:=q1
 cases r1
 exact not_of (XU ⟨.bl (!c),H1,I1,rfl,q1⟩)
def tIf (t:TT)(ta tb:TE):TE:=λσ H Q=>t σ H λc H1=>if c=true then ta σ H1 Q else tb σ H1 Q
theorem Ks {c:W4}(hc:PT X c tA)(ha:PE X a ta)(hb:PE X b tb):PE X (.IfExp c a b pos) (tIf tA ta tb):=by
 intro pins s σ H Q I h
 refine wpAny_IfExp (thn (hc pins s σ H _ I h) λd s1 ⟨H1,I1,q1⟩=>?_)
 cases d with
 | true=>exact ha pins s1 σ H1 Q I1 q1
 | false=>exact hb pins s1 σ H1 Q I1 q1
end
end L2
namespace L2
open PySem PySem.Spec PyProof.Rows
def SqL (K:Wq)(H:Hp)(a:Addr)(xs:List V):Prop:=
 Rd H a (.lst xs)∨
  ∃ (o:Obj) (its:Array Wv) (n:Nat),K.lookup a=some o/\o.cls=.type "list" /\ o.dict=none/\o.data=.seq its n/\its.size<=sizeLine/\Vals xs its.toList
def SqT (K:Wq)(H:Hp)(a:Addr)(xs:List V):Prop:=
 Rd H a (.tup xs)∨
  ∃ (o:Obj) (its:Array Wv) (n:Nat),K.lookup a=some o/\o.cls=.type "tuple" /\ o.dict=none/\o.data=.seq its n/\its.size<=sizeLine/\Vals xs its.toList
def Vr:Wv->Option V
 | .none=>some .non
 | .bool b=>some (.bl b)
 | .int i _=>some (.int i)
 | .str x _=>some (.str x)
 | .bytes b _=>some (.byt b)
 | .float b _=>some (.flt b)
 | .ref a=>some (.ref a)
 | .type n=>some (.ty n)
 | _=>none
theorem RelV.abs {x:V}{u:Wv}(r:RelV x u):Vr u=some x:=by
 cases x with
 | non=>cases r;rfl
 | bl _=>cases r;rfl
 | int _=>obtain ⟨t,rfl⟩:=r;rfl
 | str _=>obtain ⟨t,rfl⟩:=r;rfl
 | byt _=>obtain ⟨t,rfl⟩:=r;rfl
 | flt _=>obtain ⟨t,rfl⟩:=r;rfl
 | ref _=>cases r;rfl
 | ty _=>cases r;rfl
theorem RelV.inj {x y:V}{u:Wv}(r:RelV x u)(q:RelV y u):x=y:=Xq (r.abs.symm.trans q.abs)
theorem Vals.inj:∀ {xs ys:List V} {us:List Wv},Vals xs us->Vals ys us->xs=ys
 | _,_,_,.nil,.nil=>rfl
 | _,_,_,.cons r t,.cons r' t'=>by rw[r.inj r',Vals.inj t t']
section
variable {X:Cx} {pins:List (Addr×Obj)} {σ:St} {H:Hp} {s:Wz} {a:Addr} {xs ys:List V}
theorem SqL.of {K:Wq}(h:H a=some (.lst xs)):SqL K H a xs:=.inl (.inl h)
theorem SqT.of {K:Wq}(h:H a=some (.tup xs)):SqT K H a xs:=.inl (.inl h)
theorem Inv.list (I:Inv X pins σ H s)(h:SqL X.K H a xs):∃ its:List Wv,Vals xs its/\PlainL s.heap a its.toArray/\xs.length<=sizeLine:=by
 rcases h with h | ⟨o,its,n,hk,hc,hd,hs,hz,r⟩
 ·obtain ⟨z,its,n,r,e⟩:=h.ok I.hok
  exact ⟨its,r,⟨_,n,e,rfl,rfl,rfl⟩,z⟩
 ·refine ⟨its.toList,r,⟨o,n,I.kIn a o hk,hc,hd,by simpa using hs⟩,?_⟩
  have e:=r.length
  simp only[Zu] at e
  omega
theorem Inv.tuple (I:Inv X pins σ H s)(h:SqT X.K H a xs):∃ its:List Wv,Vals xs its/\zdD s.heap a its.toArray/\xs.length<=sizeLine:=by
 rcases h with h | ⟨o,its,n,hk,hc,hdn,hs,hz,r⟩
 ·obtain ⟨z,its,r,p⟩:=h.ok I.hok
  exact ⟨its,r,p.tup,z⟩
 ·refine ⟨its.toList,r,⟨o,I.kIn a o hk,hc,n,by simpa using hs⟩,?_⟩
  have e:=r.length
  simp only[Zu] at e
  omega
theorem Inv.Ab (I:Inv X pins σ H s)(h:SqL X.K H a xs)(h':SqL X.K H a ys):xs=ys:=by
 obtain ⟨its,r,⟨o,n,e,_,_,d⟩,_⟩:=I.list h
 obtain ⟨its',r',⟨o',n',e',_,_,d'⟩,_⟩:=I.list h'
 rw[e] at e';cases e'
 rw[d] at d'
 injection d' with d1 _
 have:its=its':=by simpa using congrArg zeq d1
 subst this
 exact r.inj r'
theorem Inv.ix (I:Inv X pins σ H s)(h:SqT X.K H a xs)(h':SqT X.K H a ys):xs=ys:=by
 obtain ⟨its,r,⟨o,e,_,n,d⟩,_⟩:=I.tuple h
 obtain ⟨its',r',⟨o',e',_,n',d'⟩,_⟩:=I.tuple h'
 rw[e] at e';cases e'
 rw[d] at d'
 injection d' with d1 _
 have:its=its':=by simpa using congrArg zeq d1
 subst this
 exact r.inj r'
end
abbrev Cx.pF (X:Cx)(E:Wv->Wz->Prop):Cx:={ X with xe:=E }
abbrev Cx.nox (X:Cx):Cx:=X.pF λ_ _=>False
theorem Cx.Ok.pF {X:Cx}(ok:X.Ok)(E:Wv->Wz->Prop):(X.pF E).Ok:=
 ⟨ok.mod,ok.kind,ok.glob,ok.blt,ok.above,ok.inj,ok.has,ok.cab,ok.hd,ok.frames,ok.stk,ok.exf,ok.bs,ok.bsz,ok.Gg,ok.F4,ok.qM,ok.frf⟩
theorem Cx.Ok.hU {X:Cx}{E:Wv->Wz->Prop}(ok:(X.pF E).Ok):X.Ok:=
 ⟨ok.mod,ok.kind,ok.glob,ok.blt,ok.above,ok.inj,ok.has,ok.cab,ok.hd,ok.frames,ok.stk,ok.exf,ok.bs,ok.bsz,ok.Gg,ok.F4,ok.qM,ok.frf⟩
section
variable {X:Cx} {pins:List (Addr×Obj)} {σ:St} {H:Hp} {s:Wz} {E:Wv->Wz->Prop}
theorem Inv.pF (I:Inv X pins σ H s)(E:Wv->Wz->Prop):Inv (X.pF E) pins σ H s:=⟨I.ok.pF E,I.os,I.bare,I.base,I.loc,I.cell,I.free,I.jS,I.pin,I.hok,I.len⟩
theorem Inv.hU (I:Inv (X.pF E) pins σ H s):Inv X pins σ H s:=⟨I.ok.hU,I.os,I.bare,I.base,I.loc,I.cell,I.free,I.jS,I.pin,I.hok,I.len⟩
theorem SP.hU {D:Ends}{f:Flow}{s':Wz}(h:SP (X.pF E) pins D f s'):SP X pins D f s':=by
 cases f with
 | next=>obtain ⟨σ',H',I,q⟩:=h;exact ⟨σ',H',I.hU,q⟩
 | brk=>obtain ⟨σ',H',I,q⟩:=h;exact ⟨σ',H',I.hU,q⟩
 | cont=>obtain ⟨σ',H',I,q⟩:=h;exact ⟨σ',H',I.hU,q⟩
 | ret u=>obtain ⟨v,σ',H',I,r,q⟩:=h;exact ⟨v,σ',H',I.hU,r,q⟩
theorem PE.nox {e:W4}{t:TE}(h:PE X.nox e t):PE X e t:=λpins s σ H Q I hw=>
 XO (h pins s σ H Q (I.pF _) hw) (λ_ _ ⟨v,H',I',r,q⟩=>⟨v,H',I'.hU,r,q⟩) λ_ _ z=>WA z
theorem PT.nox {e:W4}{t:TT}(h:PT X.nox e t):PT X e t:=λpins s σ H Q I hw=>
 XO (h pins s σ H Q (I.pF _) hw) (λ_ _ ⟨H',I',q⟩=>⟨H',I'.hU,q⟩) λ_ _ z=>WA z
theorem PSs.nox {st:List Stmt}{t:TS}(h:PSs X.nox st t):PSs X st t:=λpins s σ H D I hw=>
 XO (h pins s σ H D (I.pF _) hw) (λ_ _ q=>q.hU) λ_ _ z=>WA z
end
section
variable {X:Cx} {st:Stmt} {rest:List Stmt} {t u:TS} {e:W4} {te:TE} {pos:Pos}
def T3:TS:=λD σ H=>D.nx σ H
def U7 (t u:TS):TS:=λD σ H=>t { D with nx:=u D } σ H
theorem ND:PSs X [] T3:=λ_ _ σ H _ I h=>zau ⟨σ,H,I,h⟩
theorem HN (h1:PS X st t)(h2:PSs X rest u):PSs X (st::rest) (U7 t u):=by
 intro pins s σ H D I h
 refine zdp (thn (h1 pins s σ H { D with nx:=u D } I h) λf s1 q=>?_)
 cases f with
 | next=>
  obtain ⟨σ',H',I',q⟩:=q
  exact h2 pins s1 σ' H' D I' q
 | ret v=>exact q
 | brk=>exact q
 | cont=>exact q
theorem Lv (h1:PS X st t):PSs X [st] t:=by
 intro pins s σ H D I h
 refine zdp (thn (h1 pins s σ H D I h) λf s1 q=>?_)
 cases f with
 | next=>exact zau q
 | ret v=>exact q
 | brk=>exact q
 | cont=>exact q
theorem Inv.quiet {pins:List (Addr×Obj)}{σ:St}{H:Hp}{s:Wz}(I:Inv X pins σ H s):interactive X.env=false:=by simp[interactive,I.ok.kind]
def Sv (te:TE):TS:=λD σ H=>te σ H λ_ H1=>D.nx σ H1
theorem K8 (he:PE X e te)(hs:Yz e none pos.line X.env=pure false:=by rfl):PS X (.Expr e pos) (Sv te):=by
 intro pins s σ H D I h
 exact wpAny_Expr_any (thn (he pins s σ H _ I h) λv s1 ⟨x,H1,I1,r1,q1⟩=>⟨σ,H1,I1,q1⟩) I.quiet hs
def Ve (te:TE):TS:=λD σ H=>te σ H D.rt
theorem Qf (he:PE X e te):PS X (.Return (some e) pos) (Ve te):=by
 intro pins s σ H D I h
 exact wpAny_Return_some (thn (he pins s σ H _ I h) λv s1 ⟨x,H1,I1,r1,q1⟩=>⟨x,σ,H1,I1,r1,q1⟩)
def US (c:TT)(t u:TS):TS:=λD σ H=>c σ H λb H1=>if b=true then t D σ H1 else u D σ H1
theorem T6 {c:W4}{a b:List Stmt}{tc:TT}(hc:PT X c tc)(ha:PSs X a t)(hb:PSs X b u):PS X (.If c a b pos) (US tc t u):=by
 intro pins s σ H D I h
 refine wpAny_If (thn (hc pins s σ H _ I h) λd s1 ⟨H1,I1,q1⟩=>?_)
 cases d with
 | true=>exact ha pins s1 σ H1 D I1 q1
 | false=>exact hb pins s1 σ H1 D I1 q1
end
abbrev TG:=V->St->Hp->(St->Hp->Prop)->Prop
abbrev TGs:=List V->St->Hp->(St->Hp->Prop)->Prop
def PG (X:Cx)(target:W4)(t:TG):Prop:=
 ∀ (pins:List (Addr×Obj)) (s:Wz) (σ:St) (H:Hp) (v:V) (u:Wv) (Q:St->Hp->Prop),Inv X pins σ H s->RelV v u->t v σ H Q->
  WW (W2 X.prog X.w) X.A (zbZ target X.env u) (λ_ s'=>∃ σ' H',Inv X pins σ' H' s'/\Q σ' H') X.xe s
def PGs (X:Cx)(ts:List W4)(t:TGs):Prop:=
 ∀ (pins:List (Addr×Obj)) (s:Wz) (σ:St) (H:Hp) (vs:List V) (us:List Wv) (Q:St->Hp->Prop),Inv X pins σ H s->Vals vs us->t vs σ H Q->
  WW (W2 X.prog X.w) X.A (zct ((X5 ts X.env).map (·.2)) us) (λ_ s'=>∃ σ' H',Inv X pins σ' H' s'/\Q σ' H') X.xe s
abbrev TIp:=V->V->Hp->VK->Prop
def PIp (X:Cx)(op:zb0)(t:TIp):Prop:=
 ∀ (pins:List (Addr×Obj)) (s:Wz) (σ:St) (H:Hp) (x y:V) (v u:Wv) (Q:VK),Inv X pins σ H s->RelV x v->RelV y u->t x y H Q->
  WW (W2 X.prog X.w) X.A (inplaceOp op v u) (EP X pins σ Q) X.xe s
section
variable {X:Cx} {pos:Pos}
def lI (i:Nat):TG:=λv σ H Q=>Q (σ.set i (some v)) H
theorem iE {i:Nat}{x:Str}(hN:X.N.Nodup)(hi:X.N[i]? = some x)(hx:Loc X.env.scope x)(hf:X.fn x=true∨X.env.scope.names.lookup x=some .local:=by first | exact .inl rfl | exact .inr rfl | assumption):PG X (.Name x pos) (lI i):=by
 intro pins s σ H v u Q I r h
 exact wpAny_assign_Name (jU I hN hi hx r (λs' I'=>⟨_,H,I',h⟩) hf)
def V6:TGs:=λvs σ H Q=>vs=[]/\Q σ H
def Tj (t:TG)(u:TGs):TGs:=λvs σ H Q=>∃ v r,vs=v::r/\t v σ H λσ' H'=>u r σ' H' Q
theorem Dc:PGs X [] V6:=by
 intro pins s σ H vs us Q I r h
 obtain ⟨e,h⟩:=h
 subst e
 cases r
 exact zcW ⟨σ,H,I,h⟩
theorem zI {e:W4}{es:List W4}{t:TG}{u:TGs}(h1:PG X e t)(h2:PGs X es u)
  (hs:(X5 (e::es) X.env).map (·.2)=zbZ e X.env::(X5 es X.env).map (·.2):=by rfl):PGs X (e::es) (Tj t u):=by
 intro pins s σ H vs us Q I r h
 obtain ⟨v,vr,e1,h⟩:=h
 subst e1
 cases r with
 | cons r rr=>
  rw[hs]
  refine zaK (thn (h1 pins s σ H _ _ _ I r h) λ_ s1 ⟨σ1,H1,I1,q1⟩=>?_)
  exact h2 pins s1 σ1 H1 _ _ Q I1 rr q1
def VB (K:Wq)(n:Nat)(t:TGs):TG:=λv σ H Q=>∃ a xs,v=.ref a/\SqT K H a xs/\xs.length=n/\t xs σ H Q
theorem JY {es:List W4}{k:Nat}{t:TGs}{n:Nat}(hc:X.calm=true)(h:PGs X es t)
  (hn:(X5 es X.env).length=n:=by rfl) (hst:(X5 es X.env).findIdx? (·.1)=none:=by rfl):PG X (.Tuple es k pos) (VB X.K n t):=by
 intro pins s σ H v u Q I r hw
 obtain ⟨a,xs,e1,hq,hl,hw⟩:=hw
 subst e1
 cases r
 obtain ⟨its,rv,ht,hz⟩:=I.tuple hq
 refine assign_Tuple_tuple (I.ok.hd hc) ht (by simp[hn,← hl,rv.length]) hst λh' hx=>?_
 have I1:Inv X pins σ H { s with heap:=h' }:=I.kept (t':=s.toks) λb o e=>hx b o (WZ (WH e)) e
 exact h pins _ σ H xs _ Q I1 (by simpa using rv) hw
def Hk (te:TE)(g:TG):TS:=λD σ H=>te σ H λx H1=>g x σ H1 D.nx
theorem Px {tg e:W4}{te:TE}{g:TG}(he:PE X e te)(hg:PG X tg g)(hs:za7 [tg] e pos.line X.env=pure false:=by rfl)(hw:za8 [tg] e X.env=pure none:=by rfl)
  (h1:(X5 [tg] X.env).map (·.2)=[zbZ tg X.env]:=by rfl):PS X (.Assign [tg] e pos) (Hk te g):=by
 intro pins s σ H D I h
 refine wpAny_Assign_stores (thn (he pins s σ H _ I h) λv s1 ⟨x,H1,I1,r1,q1⟩=>?_) hs hw
 rw[h1]
 exact thn (hg pins s1 σ H1 x v _ I1 r1 q1) λ_ s2 q=>q
theorem Ra {i:Nat}{x:Str}{e:W4}{te:TE}{pos':Pos}(hN:X.N.Nodup)(hi:X.N[i]? = some x)(hx:Loc X.env.scope x)(he:PE X e te)(hs:Yz e (some (.Name x pos')) pos.line X.env=pure false:=by rfl)(hf:X.fn x=true∨X.env.scope.names.lookup x=some .local:=by first | exact .inl rfl | exact .inr rfl | assumption) :
  PS X (.Assign [.Name x pos'] e pos) (Hk te (lI i)):=by
 intro pins s σ H D I h
 refine wpAny_Assign_Name (thn (he pins s σ H _ I h) λv s1 ⟨y,H1,I1,r1,q1⟩=>?_) hs
 exact jU I1 hN hi hx r1 (λs2 I2=>⟨_,H1,I2,q1⟩) hf
def V8 (i j:Nat)(ta:TA):TS:=λD σ H=>ta σ H λvs H1=>∃ v w,vs=[v,w]/\D.nx ((σ.set i (some v)).set j (some w)) H1
theorem OW {i j:Nat}{x y:Str}{a b:W4}{ta:TA}{px py pt:Pos}{kt k2 pt2}(hc:X.calm=true)(hN:X.N.Nodup)(hi:X.N[i]? = some x)(hj:X.N[j]? = some y)(hij:i≠j)
  (hx:X.env.scope.names.lookup x=some .local) (hy:X.env.scope.names.lookup y=some .local) (ha:PA X [a,b] ta)
  (hw:za8 [.Tuple [.Name x px,.Name y py] kt pt] (.Tuple [a,b] k2 pt2) X.env=pure (some [x,y]))
  (hs:za7 [.Tuple [.Name x px,.Name y py] kt pt] (.Tuple [a,b] k2 pt2) pos.line X.env=pure false:=by rfl) :
  PS X (.Assign [.Tuple [.Name x px,.Name y py] kt pt] (.Tuple [a,b] k2 pt2) pos) (V8 i j ta):=by
 intro pins s σ H D I h
 rw[exec_Assign_arm]
 refine Wr (za9 ?_)
 rw[hs]
 refine Wr (WC ?_)
 rw[if_neg (by decide)]
 refine Wr (Tuple_ (thn (ha _ pins s σ H _ I h) λus s1 ⟨vs,H1,I1,r1,q1⟩=>?_))
 obtain ⟨v,w,e1,q1⟩:=q1
 subst e1
 obtain ⟨u1,u2,rfl,rv,rw'⟩:∃ u1 u2,us=[u1,u2]/\RelV v u1/\RelV w u2:=by
  cases r1 with
  | cons p q=>
   cases q with
   | cons p' q'=>
    cases q'
    exact ⟨_,_,rfl,p,p'⟩
 refine XD ?_ (by show 2<=sizeLine;decide)
 have I2:Inv X pins σ H1 { s1 with heap:=s1.heap.push { cls:=.type "tuple", data:=.seq [u1,u2].toArray } }:=I1.kept (t':=s1.toks) λb o e=>Wu _ e
 rw[hw]
 refine Wr (WC ?_)
 show WW (W2 X.prog X.w) X.A (do rule "assign.swapped-stores";let items ← unpackItems (.ref s1.heap.objs.size) 2 none;zct [λv=>zdV X.env y v,λv=>zdV X.env x v] items.reverse;pure Flow.next) _ _ _
 refine Wr (Yt (Wr (unpackItems_tuple (items:=#[u1,u2]) (I.ok.hd hc) (IsTup.new s1.heap _) λh' hx'=>?_)))
 have I3:=I2.kept (h':=h') (t':=s1.toks) λb o e=>hx' b o (WZ (WH e)) e
 show WW _ _ (zct [λv=>zdV X.env y v,λv=>zdV X.env x v] [u2,u1] >>= λ_=>pure Flow.next) _ _ _
 refine Wr (zaK (wpAny_bindName (jU I3 hN hj (.inl hy) rw' (λs2 I4=>?_) (.inr hy))))
 refine zaK (wpAny_bindName (jU I4 hN hi (.inl hx) rv (λs3 I5=>zcW (WC ?_)) (.inr hx)))
 rw[List.set_comm _ _ (WX hij)] at I5
 exact ⟨_,H1,I5,q1⟩
def Sj (i:Nat)(te:TE)(ti:TIp):TS:=λD σ H=>∃ x,σ[i]? = some (some x)/\te σ H λy H1=>ti x y H1 λz H2=>D.nx (σ.set i (some z)) H2
theorem Pg {i:Nat}{x:Str}{e:W4}{te:TE}{op:zb0}{ti:TIp}{pos':Pos}(hN:X.N.Nodup)(hi:X.N[i]? = some x)(hx:Loc X.env.scope x)(he:PE X e te)(ho:PIp X op ti)(hf:X.fn x=true∨X.env.scope.names.lookup x=some .local:=by first | exact .inl rfl | exact .inr rfl | assumption) :
  PS X (.AugAssign (.Name x pos') op e pos) (Sj i te ti):=by
 intro pins s σ H D I h
 obtain ⟨v,e1,h⟩:=h
 obtain ⟨m,hn,hl⟩:=I.loc
 have vis:Vis X.env.scope x:=by rcases hx with k | k;exact .inl k;exact .inr (.inl k)
 obtain ⟨u,r,l⟩:=hl i x v hi e1 vis
 refine wpAny_AugAssign_Name ?_
 have go:WW (W2 X.prog X.w) X.A (XG e X.env) (λw s₂=>WW (W2 X.prog X.w) X.A (inplaceOp op u w) (λr s₃=>WW (W2 X.prog X.w) X.A (storeName X.env x r) (λ_=>SP X pins D .next) X.xe s₃) X.xe s₂) X.xe s:=by
  refine thn (he pins s σ H _ I h) λw s1 ⟨y,H1,I1,r1,q1⟩=>?_
  refine thn (ho pins s1 σ H1 v y u w _ I1 r r1 q1) λz s2 ⟨zv,H2,I2,r2,q2⟩=>?_
  exact jU I2 hN hi hx r2 (λs3 I3=>⟨_,H2,I3,q2⟩) hf
 rcases l with ⟨hk,hm⟩ | ⟨hk,c,hc,hcell⟩
 ·exact zbY I.ok.kind hk hn hm go
 ·rcases hk with hk | hk
  ·exact zcn I.ok.kind hk hc hcell go
  ·rcases hx with k | k
   ·have:X.env.scope.names.lookup x=some .free:=hk
    rw[k] at this;cases this
   ·have:X.env.scope.names.lookup x=some .free:=hk
    rw[k] at this;cases this
def ipI (f:Int->Int->Int):TIp:=λx y H Q=>∃ i j,x=.int i/\y=.int j/\Q (.int (f i j)) H
theorem Ql:PIp X .Add (ipI λi j=>i+j):=by
 intro pins s σ H x y v u Q I r1 r2 h
 obtain ⟨i,j,e1,e2,q⟩:=h
 subst e1;subst e2
 obtain ⟨t,rfl⟩:=r1
 obtain ⟨t',rfl⟩:=r2
 exact iadd_int ⟨.int _,H,I.tok _,⟨_,rfl⟩,q⟩
end
section
variable {X:Cx} {pos:Pos}
def PX (c:TT)(tb:TS):TS:=λD σ H=>∃ W:Nat->St->Hp->Prop,(∃ m,W m σ H)/\∀ m σ H,W m σ H->
 c σ H λb H1=>if b=true then ∃ N:St->Hp->Prop,(∀ σ' H',N σ' H'->∃ m',m' < m/\W m' σ' H')/\tb { D with nx:=N,ct:=N,bk:=D.nx } σ H1 else D.nx σ H1
theorem Kd {c:W4}{body:List Stmt}{tc:TT}{tb:TS}(hp:zdq (W2 X.prog X.w) X.A X.env X.xe)(hc:PT X c tc)(hb:PSs X body tb):PS X (.While c body [] pos) (PX tc tb):=by
 intro pins s σ H D I h
 obtain ⟨W,⟨m0,w0⟩,turn⟩:=h
 refine wpAny_While (codeAny_whileLoop (λn s'=>∃ σ' H',Inv X pins σ' H' s'/\W n σ' H') ?_ m0 ⟨σ,H,I,w0⟩)
 rintro n s1 ⟨σ1,H1,I1,w1⟩
 refine YA hp (thn (hc pins s1 σ1 H1 _ I1 (turn n σ1 H1 w1)) λb s2 ⟨H2,I2,q2⟩=>?_)
 cases b with
 | true=>
  obtain ⟨N,hN,q2⟩:=q2
  rw[if_pos rfl]
  refine YA hp (thn (hb pins s2 σ1 H2 _ I2 q2) λf s3 q3=>?_)
  cases f with
  | next=>
   obtain ⟨σ3,H3,I3,n3⟩:=q3
   obtain ⟨m',hm,w3⟩:=hN σ3 H3 n3
   exact ⟨m',hm,σ3,H3,I3,w3⟩
  | cont=>
   obtain ⟨σ3,H3,I3,n3⟩:=q3
   obtain ⟨m',hm,w3⟩:=hN σ3 H3 n3
   exact ⟨m',hm,σ3,H3,I3,w3⟩
  | brk=>exact q3
  | ret v=>exact q3
 | false=>
  rw[if_neg YU]
  exact zau ⟨σ1,H2,I2,q2⟩
end
structure It where
 go:Nat->Hp->Prop
 yld:Nat->Hp->V->Hp->Prop
 stop:Nat->Hp->Prop
def pU (X:Cx)(pins:List (Addr×Obj))(H:Hp)(b:Addr):Prop:=
 H b=none/\b≠X.env.locals/\b ∉ X.fs/\(b∈X.ex∨X.s₀.heap.objs.size<=b)/\(∀ x c,X.env.cells.lookup x=some c->c≠b)/\∀ p∈X.pn++pins,p.1≠b
theorem Inv.AB {X:Cx}{pins:List (Addr×Obj)}{σ:St}{H H':Hp}{s:Wz}{b:Addr}(I:Inv X pins σ H s)(hb:s.heap.objs.size<=b)(hn:H' b=none):pU X pins H' b:=by
 refine ⟨hn,Yf (WV I.lt hb),I.V4 hb,.inr (Xu I.sz hb),λx c e z=>?_,λp hp z=>?_⟩
 ·obtain ⟨v,q⟩:=I.cell x c e
  exact absurd (WV q.lt (by rw[z];exact hb)) (YF _)
 ·exact absurd (WV (WH (I.pin p hp).1) (by rw[z];exact hb)) (YF _)
structure Turn (P:W9) (w:Xm) (K:Wq) (tg:W4) (J:It) (fp:List Addr) (it:Addr) (tn:Nat->Heap->Prop):Prop where
 mem:it∈fp
 obj:∀ i h,tn i h->∀ b∈fp,∃ o,h.get? b=some o/\∀ v,o.data≠.cell v
 keep:∀ i h h',tn i h->(∀ b∈fp,∀ o,h.get? b=some o->h'.get? b=some o)->tn i h'
 item:∀ (X:Cx),X.prog=P->X.w=w->X.K=K->X.calm=true->∀ (i:Nat) (pins:List (Addr×Obj)) (s:Wz) (σ:St) (H:Hp) (E:Wv->Wz->Prop),Inv X pins σ H s->(∀ b∈fp,pU X pins H b)->tn i s.heap->J.go i H->
  WW (W2 P w) X.A (YV (.ref it)) (λr s1=>∃ u,r=some u/\
   WW (W2 P w) X.A (zav tg (.ref it) u) (λ_ s2=>∃ x H',Inv X pins σ H' s2/\RelV x u/\J.yld i H x H'/\tn (i+1) s2.heap/\∀ b∈fp,H' b=none) E s1) E s
 done:∀ (X:Cx),X.prog=P->X.w=w->X.K=K->X.calm=true->∀ (i:Nat) (pins:List (Addr×Obj)) (s:Wz) (σ:St) (H:Hp) (E:Wv->Wz->Prop),Inv X pins σ H s->(∀ b∈fp,pU X pins H b)->tn i s.heap->J.stop i H->
  WW (W2 P w) X.A (YV (.ref it)) (λr s1=>r=none/\Inv X pins σ H s1) E s
 self:∀ (A:XC) (i:Nat) (s:Wz) (Q:Wv->Wz->Prop) (E:Wv->Wz->Prop),tn i s.heap->Q (.ref it) s->WW (W2 P w) A (pyIter (.ref it)) Q E s
abbrev TI:=St->Hp->(It->Hp->Prop)->Prop
def PIE (X:Cx)(pins:List (Addr×Obj))(σ:St)(tg:W4)(R:It->Hp->Prop)(itv:Wv)(s2:Wz):Prop:=
 ∃ (it:Addr) (fp:List Addr) (tn:Nat->Heap->Prop) (J:It) (H':Hp),itv=.ref it/\Inv X pins σ H' s2/\Turn X.prog X.w X.K tg J fp it tn/\tn 0 s2.heap/\(∀ b∈fp,pU X pins H' b)/\R J H'
def PI (X:Cx)(tg iter:W4)(wi:TI):Prop:=
 ∀ (pins:List (Addr×Obj)) (s:Wz) (σ:St) (H:Hp) (R:It->Hp->Prop),Inv X pins σ H s->wi σ H R->
  WW (W2 X.prog X.w) X.A (XG iter X.env) (λv s1=>WW (W2 X.prog X.w) X.A (pyIter v) (PIE X pins σ tg R) X.xe s1) X.xe s
theorem Gn {M:Model}{A:XC}{E:Wv->Wz->Prop}{s:Wz}{tg:W4}{it:Addr}{u:Wv}{o:Obj}{n:String}{vs:Array Wv}{Q:Unit->Wz->Prop}(ho:s.heap.get? it=some o)(hc:o.cls=.type n)(hd:o.data=.fields vs)
  (hn:["enumerate", "zip", "dict_itemiterator", "dict_reverseitemiterator", "odict_iterator", "itertools.zip_longest", "itertools.pairwise"].contains n=false) (hQ:Q () s):WW M A (zav tg (.ref it) u) Q E s:=by
 unfold zav
 cases tg<;>first
  | exact WC hQ
  | (cases u<;>first
    | exact WC hQ
    | (refine Wr (wpAny_load ho ?_)
       rw[hc,hd]
       show WW M A (if (["enumerate", "zip", "dict_itemiterator", "dict_reverseitemiterator", "odict_iterator", "itertools.zip_longest", "itertools.pairwise"].contains n&&vs[0]? == some (ZT _))=true then _ else _) Q E s
       rw[if_neg (by intro h;rw[hn,zdW] at h;cases h)]
       exact WC hQ))
def Itl (K:Wq)(a:Addr):It:=
 ⟨λi H=>∃ xs x,SqL K H a xs/\xs[i]? = some x,λi H x H'=>H'=H/\∀ xs,SqL K H a xs->xs[i]? = some x,λi H=>∃ xs,SqL K H a xs/\xs.length<=i⟩
def Itt (K:Wq)(a:Addr):It:=
 ⟨λi H=>∃ xs x,SqT K H a xs/\xs[i]? = some x,λi H x H'=>H'=H/\∀ xs,SqT K H a xs->xs[i]? = some x,λi H=>∃ xs,SqT K H a xs/\xs.length<=i⟩
def Itr (lo:Int)(n:Nat):It:=⟨λi _=>i < n,λi H x H'=>H'=H/\x=.int (lo+i),λi _=>n<=i⟩
theorem t8 {P:W9}{w:Xm}{K:Wq}{tg:W4}(a it:Addr):Turn P w K tg (Itl K a) [it] it (λi h=>h.IsListIter it a i) where
 mem:=by simp
 obj:=λi h st b hb=>by
  have e:b=it:=by simpa using hb
  subst e
  obtain ⟨o,e,c,d⟩:=st
  exact ⟨o,e,λv z=>by rw[d] at z;cases z⟩
 keep:=λi h h' st k=>st.at λo e=>k it (by simp) o e
 item:=by
  intro X hP hw hK hc i pins s σ H E I hf st hg
  subst hP hw hK
  obtain ⟨xs,x,hq,hx⟩:=hg
  obtain ⟨its,rv,p,hz⟩:=I.list hq
  obtain ⟨u,hu,ru⟩:=rv.get hx
  obtain ⟨f0,f1,f2,f3,f4,f5⟩:=hf it (by simp)
  refine zbx st p.isList (x:=u) (by simpa using hu) λh' st' sb=>?_
  have I1:Inv X pins σ H { s with heap:=h' }:=I.turned (t':=s.toks) (λb o hb e=>(sb.2 b hb).trans e) f0 f1 f3 f4 f5
  obtain ⟨o,e,c,d⟩:=id st'
  exact ⟨u,rfl,Gn (s:={ s with heap:=h' }) e c d (by decide) ⟨x,H,I1,ru,⟨rfl,λys hy=>by rw[I.Ab hy hq];exact hx⟩,st',λb hb=>(hf b hb).1⟩⟩
 done:=by
  intro X hP hw hK hc i pins s σ H E I hf st hg
  subst hP hw hK
  obtain ⟨xs,hq,hx⟩:=hg
  obtain ⟨its,rv,p,hz⟩:=I.list hq
  obtain ⟨f0,f1,f2,f3,f4,f5⟩:=hf it (by simp)
  have hl:=rv.length
  exact zbS (I.ok.hd hc) st p.isList (by simp;omega) λh' eb=>⟨rfl,I.turned (t':=s.toks) (λb o hb e=>eb b o hb e) f0 f1 f3 f4 f5⟩
 self:=λ_ _ _ _ _ st h=>wpAny_pyIter_listiter st h
theorem Ar {P:W9}{w:Xm}{K:Wq}{tg:W4}(a it:Addr):Turn P w K tg (Itt K a) [it] it (λi h=>h.IsTupleIter it a i) where
 mem:=by simp
 obj:=λi h st b hb=>by
  have e:b=it:=by simpa using hb
  subst e
  obtain ⟨o,e,c,d⟩:=st
  exact ⟨o,e,λv z=>by rw[d] at z;cases z⟩
 keep:=λi h h' st k=>st.at λo e=>k it (by simp) o e
 item:=by
  intro X hP hw hK hc i pins s σ H E I hf st hg
  subst hP hw hK
  obtain ⟨xs,x,hq,hx⟩:=hg
  obtain ⟨its,rv,p,hz⟩:=I.tuple hq
  obtain ⟨u,hu,ru⟩:=rv.get hx
  obtain ⟨f0,f1,f2,f3,f4,f5⟩:=hf it (by simp)
  refine wpAny_pyNext_tuple_item st (show s.heap.IsTuple a its.toArray from p) (x:=u) (by simpa using hu) λh' st' sb=>?_
  have I1:Inv X pins σ H { s with heap:=h' }:=I.turned (t':=s.toks) (λb o hb e=>(sb.2 b hb).trans e) f0 f1 f3 f4 f5
  obtain ⟨o,e,c,d⟩:=id st'
  exact ⟨u,rfl,Gn (s:={ s with heap:=h' }) e c d (by decide) ⟨x,H,I1,ru,⟨rfl,λys hy=>by rw[I.ix hy hq];exact hx⟩,st',λb hb=>(hf b hb).1⟩⟩
 done:=by
  intro X hP hw hK hc i pins s σ H E I hf st hg
  subst hP hw hK
  obtain ⟨xs,hq,hx⟩:=hg
  obtain ⟨its,rv,p,hz⟩:=I.tuple hq
  obtain ⟨f0,f1,f2,f3,f4,f5⟩:=hf it (by simp)
  have hl:=rv.length
  exact wpAny_pyNext_tuple_end (I.ok.hd hc) st (show s.heap.IsTuple a its.toArray from p) (by simp;omega) λh' eb=>⟨rfl,I.turned (t':=s.toks) (λb o hb e=>eb b o hb e) f0 f1 f3 f4 f5⟩
 self:=λ_ _ _ _ _ st h=>wpAny_pyIter_tupleiter st h
theorem Af {P:W9}{w:Xm}{K:Wq}{tg:W4}(it:Addr)(lo:Int)(n:Nat):Turn P w K tg (Itr lo n) [it] it (λi h=>IsRangeIter h it (lo+(i:Nat)*1) ((n:Int) - (i:Nat)) 1) where
 mem:=by simp
 obj:=λi h st b hb=>by
  have e:b=it:=by simpa using hb
  subst e
  exact ⟨_,st,λv z=>by
   have z':Data.fields _=Data.cell v:=z
   cases z'⟩
 keep:=λi h h' st k=>k it (by simp) _ st
 item:=by
  intro X hP hw hK hc i pins s σ H E I hf st hg
  subst hP hw hK
  obtain ⟨f0,f1,f2,f3,f4,f5⟩:=hf it (by simp)
  have W:=Walks.range (prog:=X.prog) (w:=X.w) (I.ok.hd hc) it lo 1 n
  refine W.item i s _ _ hg st λv h' tk hv st' kk=>?_
  obtain ⟨t,rfl⟩:=hv
  have I1:Inv X pins σ H { s with heap:=h',toks:=tk }:=I.turned (λb o hb e=>kk b o (by simpa using hb) e) f0 f1 f3 f4 f5
  refine ⟨_,rfl,Gn (s:={ s with heap:=h',toks:=tk }) (n := "range_iterator") st' rfl rfl (by decide) ⟨.int (lo+i),H,I1,⟨t,?_⟩,⟨rfl,rfl⟩,st',λb hb=>(hf b hb).1⟩⟩
  rw[Int.mul_one]
 done:=by
  intro X hP hw hK hc i pins s σ H E I hf st hg
  subst hP hw hK
  obtain ⟨f0,f1,f2,f3,f4,f5⟩:=hf it (by simp)
  exact wpAny_pyNext_range_end (I.ok.hd hc) st (by have:n<=i:=hg;omega) λh' eb=>⟨rfl,I.turned (t':=s.toks) (λb o hb e=>eb b o hb e) f0 f1 f3 f4 f5⟩
 self:=λ_ _ _ _ _ st h=>wpAny_pyIter_rangeiter st h
end L2
namespace L2
open PySem PySem.Spec PyProof.Rows
section
variable {X:Cx} {tg:W4}
def N5 (K:Wq)(tl:TE):TI:=λσ H R=>tl σ H λx H1=>∃ a,x=.ref a/\(∃ xs,SqL K H1 a xs)/\R (Itl K a) H1
theorem CY {l:W4}{tl:TE}(hl:PE X l tl):PI X tg l (N5 X.K tl):=by
 intro pins s σ H R I h
 refine thn (hl pins s σ H _ I h) λv s1 ⟨x,H1,I1,r1,q1⟩=>?_
 obtain ⟨a,e,⟨xs,hq⟩,q⟩:=q1
 subst e
 cases r1
 obtain ⟨its,rv,p,hz⟩:=I1.list hq
 refine Y9 p.isList ?_
 refine ⟨s1.heap.objs.size,[s1.heap.objs.size],_,_,H1,rfl,I1.kept (t':=s1.toks) λb o e=>Wu _ e,t8 a _,⟨_,WJ _ rfl,rfl,rfl⟩,λb hb=>?_,q⟩
 have e:b=s1.heap.objs.size:=by simpa using hb
 subst e
 exact I1.AB (WL _) (I1.hok.fresh (WL _))
theorem Ki {pins:List (Addr×Obj)}{σ:St}{H:Hp}{s:Wz}{R:It->Hp->Prop}{E:Wv->Wz->Prop}{lo hi:Int}{t u v:Tok}{tk:Nat}(I:Inv X pins σ H s)(h1:-(2 ^ 62)<=lo)(h2:lo < 2 ^ 62)(h3:-(2 ^ 62)<=hi)(h4:hi < 2 ^ 62)
  (q:R (Itr lo (hi - lo).toNat) H):WW (W2 X.prog X.w) X.A (pyIter (.ref s.heap.objs.size)) (PIE X pins σ tg R) E { s with heap:=s.heap.push { cls:=.type "range", data:=.fields #[.int lo t,.int hi u,.int 1 v] },toks:=tk }:=by
 refine wpAny_pyIter_range (zeA ..) (small_one h1 h2 h3 h4) ?_
 have I1:Inv X pins σ H { s with heap:=s.heap.push { cls:=.type "range", data:=.fields #[.int lo t,.int hi u,.int 1 v] },toks:=tk }:=I.kept λb o e=>Wu _ e
 refine ⟨(s.heap.push { cls:=.type "range", data:=.fields #[.int lo t,.int hi u,.int 1 v] }).objs.size,[(s.heap.push { cls:=.type "range", data:=.fields #[.int lo t,.int hi u,.int 1 v] }).objs.size],_,_,H,rfl,
  I1.kept (t':=tk) λb o e=>Wu _ e,Af _ lo (hi - lo).toNat,?_,λb hb=>?_,q⟩
 ·have e1:lo+((0:Nat):Int)*1=lo:=by simp
  have e2:(((hi - lo).toNat:Nat):Int) - ((0:Nat):Int)=ZJ lo hi 1:=by rw[rangeSize_one];split<;>omega
  show IsRangeIter _ _ (lo+((0:Nat):Int)*1) ((((hi - lo).toNat:Nat):Int) - ((0:Nat):Int)) 1
  rw[e1,e2]
  exact WJ _ rfl
 ·have e:b=(s.heap.push { cls:=.type "range", data:=.fields #[.int lo t,.int hi u,.int 1 v] }).objs.size:=by simpa using hb
  subst e
  exact I1.AB (WL _) (I1.hok.fresh (WL _))
def TJ (ta:TA):TI:=λσ H R=>ta σ H λvs H1=>∃ j:Int,vs=[.int j]/\-(2 ^ 62)<=j/\j < 2 ^ 62/\R (Itr 0 j.toNat) H1
theorem D0 {a:W4}{ta:TA}{p pos:Pos}(hg:Gl X "range")(hm:X.mg "range" = none)(ha:PA X [a] ta)(hs:WI [a] X.env=[(false,XG a X.env)]:=by rfl):PI X tg (.Call (.Name "range" p) [a] [] pos) (TJ ta):=by
 intro pins s σ H R I h
 refine Call_ (gU I hg hm boot_range (Xw (thn (ha pos pins s σ H _ I h) λus s1 ⟨vs,H1,I1,r1,q1⟩=>?_) hs rfl))
 obtain ⟨j,e,q1,q2,q⟩:=q1
 subst e
 cases r1 with
 | cons r rr=>
  cases rr
  obtain ⟨t,rfl⟩:=r
  exact call_range_1 (Ki I1 (by omega) (by omega) q1 q2 (by simpa using q))
def UX (wi:TI)(g:TG)(tb:TS):TS:=λD σ H=>wi σ H λJ H1=>∃ W:Nat->Nat->St->Hp->Prop,(∃ m,W 0 m σ H1)/\∀ i m σ H,W i m σ H->
 (J.stop i H/\D.nx σ H)∨(J.go i H/\∃ N:St->Hp->Prop,(∀ σ' H',N σ' H'->∃ m',m' < m/\W (i+1) m' σ' H')/\∀ x H',J.yld i H x H'->g x σ H' λσ2 H2=>tb { D with nx:=N,ct:=N,bk:=D.nx } σ2 H2)
def qm (fp:List Addr)(h:Heap):List (Addr×Obj):=fp.filterMap λb=>(h.get? b).map λo=>(b,o)
theorem gf {fp:List Addr}{h:Heap}{b:Addr}{o:Obj}(hb:b∈fp)(e:h.get? b=some o):(b,o)∈qm fp h:=zaL.mpr ⟨b,hb,by rw[e];rfl⟩
theorem Eh {fp:List Addr}{h:Heap}{p:Addr×Obj}(hp:p∈qm fp h):p.1∈fp/\h.get? p.1=some p.2:=by
 obtain ⟨b,hb,e⟩:=zaL.mp hp
 cases q:h.get? b with
 | none=>rw[q] at e;cases e
 | some o=>
  rw[q] at e
  have e':(b,o)=p:=Xq e
  subst e'
  exact ⟨hb,q⟩
theorem Inv.pinned {pins:List (Addr×Obj)}{σ:St}{H:Hp}{s:Wz}{fp:List Addr}(I:Inv X pins σ H s)(hf:∀ b∈fp,pU X pins H b)(ho:∀ b∈fp,∃ o,s.heap.get? b=some o/\∀ v,o.data≠.cell v):Inv X (pins++qm fp s.heap) σ H s:=
 I.CI λp hp=>(Xr.mp hp).elim (λz=>I.pin p (Xb _ z)) λz=>by
  obtain ⟨hb,e⟩:=Eh z
  obtain ⟨f0,f1,f2,_⟩:=hf p.1 hb
  obtain ⟨o,e',d⟩:=ho p.1 hb
  rw[e] at e';cases e'
  exact ⟨e,f0,f1,f2,d⟩
theorem Inv.jP {pins pl:List (Addr×Obj)}{σ:St}{H:Hp}{s:Wz}(I:Inv X (pins++pl) σ H s):Inv X pins σ H s:=I.CI λp hp=>I.pin p (Xb _ (YB _ hp))
theorem QB {iter:W4}{body:List Stmt}{wi:TI}{g:TG}{tb:TS}{pos:Pos}(hp:zdq (W2 X.prog X.w) X.A X.env X.xe)(hc:X.calm=true)(hi:PI X tg iter wi)(hg:PG X tg g)(hb:PSs X body tb)
  (hs:∀ x,Xs iter X.env x=pure x:=by intro _;rfl):PS X (.For tg iter body [] pos) (UX wi g tb):=by
 intro pins s σ H D I h
 refine wpAny_For (thn (hi pins s σ H _ I h) λv s1 h1=>thn h1 λitv s2 h2=>?_) hs
 obtain ⟨it,fp,tn,J,H2,e,I2,T,st2,f2,W,⟨m0,w0⟩,turn⟩:=h2
 subst e
 -- what stays true of the iterator's objects through the loop
 have BL:∀ {H':Hp},(∀ b∈fp,H' b=none)->∀ b∈fp,pU X pins H' b:=λhn b hb=>⟨hn b hb,(f2 b hb).2⟩
 refine codeAny_forLoop_any (λn s'=>∃ i σ' H',Inv X pins σ' H' s'/\tn i s'.heap/\(∀ b∈fp,H' b=none)/\W i n σ' H') ?_ m0 ⟨0,σ,H2,I2,st2,λb hb=>(f2 b hb).1,w0⟩
 rintro n s3 ⟨i,σ3,H3,I3,st3,fr3,w3⟩
 rcases turn i n σ3 H3 w3 with ⟨stop,qn⟩ | ⟨go,N,hN,step⟩
 ·refine YA hp (thn (T.done X rfl rfl rfl hc i pins s3 σ3 H3 X.xe I3 (BL fr3) st3 stop) λr s4 ⟨hr,I4⟩=>?_)
  subst hr
  exact zau ⟨σ3,H3,I4,qn⟩
 ·refine YA hp (thn (T.item X rfl rfl rfl hc i pins s3 σ3 H3 X.xe I3 (BL fr3) st3 go) λr s4 ⟨u,hr,h4⟩=>?_)
  subst hr
  refine YA hp (thn h4 λ_ s5 ⟨x,H5,I5,r5,y5,st5,fr5⟩=>?_)
  have I5':=I5.pinned (BL fr5) (T.obj _ _ st5)
  refine YA hp (thn (hg _ s5 σ3 H5 x u _ I5' r5 (step x H5 y5)) λ_ s6 ⟨σ6,H6,I6,q6⟩=>?_)
  refine YA hp (thn (hb _ s6 σ6 H6 _ I6 q6) λf s7 q7=>?_)
  have again:∀ {σ7:St} {H7:Hp},Inv X (pins++qm fp s5.heap) σ7 H7 s7->N σ7 H7->∃ m,m < n/\∃ i σ' H',Inv X pins σ' H' s7/\tn i s7.heap/\(∀ b∈fp,H' b=none)/\W i m σ' H':=λ{σ7 H7} I7 n7=>by
   obtain ⟨m',hm,w7⟩:=hN σ7 H7 n7
   refine ⟨m',hm,i+1,σ7,H7,I7.jP,T.keep _ _ _ st5 λb hb o e=>(I7.pin (b,o) (Xb _ (Xb _ (gf hb e)))).1,λb hb=>?_,w7⟩
   obtain ⟨o,e,d⟩:=T.obj _ _ st5 b hb
   exact (I7.pin (b,o) (Xb _ (Xb _ (gf hb e)))).2.1
  cases f with
  | next=>obtain ⟨σ7,H7,I7,n7⟩:=q7;exact again I7 n7
  | cont=>obtain ⟨σ7,H7,I7,n7⟩:=q7;exact again I7 n7
  | brk=>obtain ⟨σ7,H7,I7,q7⟩:=q7;exact ⟨σ7,H7,I7.jP,q7⟩
  | ret v=>obtain ⟨x7,σ7,H7,I7,r7,q7⟩:=q7;exact ⟨x7,σ7,H7,I7.jP,r7,q7⟩
end
end L2
namespace L2
open PySem PySem.Spec PyProof.Rows
abbrev R2:=V->V->Hp->VK->Prop
def OpR (X:Cx)(f:Wv->Wv->Sem Wv)(r:R2):Prop:=
 ∀ (pins:List (Addr×Obj)) (s:Wz) (σ:St) (H:Hp) (x y:V) (v u:Wv) (Q:VK),Inv X pins σ H s->RelV x v->RelV y u->r x y H Q->
  WW (W2 X.prog X.w) X.A (f v u) (EP X pins σ Q) X.xe s
def UnR (X:Cx)(f:Wv->Sem Wv)(r:V->Hp->VK->Prop):Prop:=
 ∀ (pins:List (Addr×Obj)) (s:Wz) (σ:St) (H:Hp) (x:V) (v:Wv) (Q:VK),Inv X pins σ H s->RelV x v->r x H Q->
  WW (W2 X.prog X.w) X.A (f v) (EP X pins σ Q) X.xe s
def bU (X:Cx)(f:Wv)(r:List V->Hp->VK->Prop):Prop:=
 ∀ (pins:List (Addr×Obj)) (s:Wz) (σ:St) (H:Hp) (xs:List V) (us:List Wv) (Q:VK),Inv X pins σ H s->Vals xs us->r xs H Q->
  WW (W2 X.prog X.w) X.A (zbT f us) (EP X pins σ Q) X.xe s
def tOp (r:R2)(ta tb:TE):TE:=λσ H Q=>ta σ H λx H1=>tb σ H1 λy H2=>r x y H2 Q
def tUn (r:V->Hp->VK->Prop)(ta:TE):TE:=λσ H Q=>ta σ H λx H1=>r x H1 Q
def rI (C:Int->Int->Prop)(g:Int->Int->V):R2:=λx y H Q=>∃ i j,x=.int i/\y=.int j/\C i j/\Q (g i j) H
def rI0 (g:Int->Int->V):R2:=λx y H Q=>∃ i j,x=.int i/\y=.int j/\Q (g i j) H
def rU (g:Int->V):V->Hp->VK->Prop:=λx H Q=>∃ i,x=.int i/\Q (g i) H
section
variable {X:Cx} {a b c:W4} {ta tb tc:TE} {pos:Pos}
theorem QJ (ha:PE X a ta)(hb:PE X b tb){pins:List (Addr×Obj)}{s:Wz}{σ:St}{H:Hp}{R:V->V->Hp->Prop}(I:Inv X pins σ H s)
  (h:ta σ H λx H1=>tb σ H1 λy H2=>R x y H2) {Q:Wv->Wz->Prop} {f:Wv->Wv->Sem Wv}
  (hf:∀ v u s2 x y H2,Inv X pins σ H2 s2->RelV x v->RelV y u->R x y H2->WW (W2 X.prog X.w) X.A (f v u) Q X.xe s2) :
  WW (W2 X.prog X.w) X.A (XG a X.env) (λv s₁=>WW (W2 X.prog X.w) X.A (XG b X.env) (λu s₂=>WW (W2 X.prog X.w) X.A (f v u) Q X.xe s₂) X.xe s₁) X.xe s:=by
 refine thn (ha pins s σ H _ I h) λv s1 ⟨x,H1,I1,r1,q1⟩=>?_
 refine thn (hb pins s1 σ H1 _ I1 q1) λu s2 ⟨y,H2,I2,r2,q2⟩=>?_
 exact hf v u s2 x y H2 I2 r1 r2 q2
theorem Oc {op:zb0}{r:R2}(ho:OpR X (YN op) r)(ha:PE X a ta)(hb:PE X b tb):PE X (.BinOp a op b pos) (tOp r ta tb):=by
 intro pins s σ H Q I h
 exact wpAny_BinOp (QJ ha hb I h λv u s2 x y H2 I2 rx ry q=>ho pins s2 σ H2 x y v u Q I2 rx ry q)
theorem Uj {op:UnaryOp}{r:V->Hp->VK->Prop}(ho:UnR X (unaryOp op) r)(ha:PE X a ta):PE X (.UnaryOp op a pos) (tUn r ta):=by
 intro pins s σ H Q I h
 exact UnaryOp_ (thn (ha pins s σ H _ I h) λv s1 ⟨x,H1,I1,r1,q1⟩=>ho pins s1 σ H1 x v Q I1 r1 q1)
theorem opI {f:Wv->Wv->Sem Wv}{C:Int->Int->Prop}{g:Int->Int->Int}
  (rule:∀ (i j:Int) (t u:Tok) (s:Wz) (Q:Wv->Wz->Prop) (E:Wv->Wz->Prop),C i j->Q (.int (g i j) s.toks) { s with toks:=s.toks+1 }->WW (W2 X.prog X.w) X.A (f (.int i t) (.int j u)) Q E s) :
  OpR X f (rI C λi j=>.int (g i j)):=by
 intro pins s σ H x y v u Q I rx ry h
 obtain ⟨i,j,rfl,rfl,hc,q⟩:=h
 obtain ⟨t,rfl⟩:=rx
 obtain ⟨t',rfl⟩:=ry
 exact rule i j t t' s _ _ hc ⟨.int (g i j),H,I.tok _,⟨_,rfl⟩,q⟩
theorem SH {f:Wv->Wv->Sem Wv}{g:Int->Int->Int}
  (rule:∀ (i j:Int) (t u:Tok) (s:Wz) (Q:Wv->Wz->Prop) (E:Wv->Wz->Prop),Q (.int (g i j) s.toks) { s with toks:=s.toks+1 }->WW (W2 X.prog X.w) X.A (f (.int i t) (.int j u)) Q E s) :
  OpR X f (rI0 λi j=>.int (g i j)):=by
 intro pins s σ H x y v u Q I rx ry h
 obtain ⟨i,j,rfl,rfl,q⟩:=h
 obtain ⟨t,rfl⟩:=rx
 obtain ⟨t',rfl⟩:=ry
 exact rule i j t t' s _ _ ⟨.int (g i j),H,I.tok _,⟨_,rfl⟩,q⟩
theorem M5 {f:Wv->Wv->Sem Wv}{g:Int->Int->Bool}
  (rule:∀ (i j:Int) (t u:Tok) (s:Wz) (Q:Wv->Wz->Prop) (E:Wv->Wz->Prop),Q (.bool (g i j)) s->WW (W2 X.prog X.w) X.A (f (.int i t) (.int j u)) Q E s) :
  OpR X f (rI0 λi j=>.bl (g i j)):=by
 intro pins s σ H x y v u Q I rx ry h
 obtain ⟨i,j,rfl,rfl,q⟩:=h
 obtain ⟨t,rfl⟩:=rx
 obtain ⟨t',rfl⟩:=ry
 exact rule i j t t' s _ _ ⟨.bl (g i j),H,I,rfl,q⟩
def VR (i j:Int):Prop:=0<=j/\j<=1000000/\i.natAbs < 2 ^ 64
def TL (i j:Int):Prop:=(-(2 ^ 64) < i/\i < 2 ^ 64)∨(-(2 ^ 64) < j/\j < 2 ^ 64)
theorem TL.ok {i j:Int}(h:TL i j):IntMulOk i j:=by
 rcases h with ⟨h1,h2⟩ | ⟨h1,h2⟩
 ·exact .of_left (zba h1 h2)
 ·exact .of_right (zba h1 h2)
theorem OP:OpR X (YN .Add) (rI0 λi j=>.int (i+j)):=SH λ_ _ _ _ _ _ _ q=>add_int q
theorem QM:OpR X (YN .Sub) (rI0 λi j=>.int (i - j)):=SH λ_ _ _ _ _ _ _ q=>sub_int q
theorem Lk:OpR X (YN .Mod) (rI (λ_ j=>j≠0) λi j=>.int (i.fmod j)):=opI λ_ _ _ _ _ _ _ hc q=>mod_int' hc q
theorem Qc:OpR X (YN .Pow) (rI VR λi j=>.int (i ^ j.toNat)):=opI λ_ _ _ _ _ _ _ hc q=>pow_int_small hc.1 hc.2.1 hc.2.2 q
theorem unI {f:Wv->Sem Wv}{g:Int->Int}
  (rule:∀ (i:Int) (t:Tok) (s:Wz) (Q:Wv->Wz->Prop) (E:Wv->Wz->Prop),Q (.int (g i) s.toks) { s with toks:=s.toks+1 }->WW (W2 X.prog X.w) X.A (f (.int i t)) Q E s) :
  UnR X f (rU λi=>.int (g i)):=by
 intro pins s σ H x v Q I rx h
 obtain ⟨i,rfl,q⟩:=h
 obtain ⟨t,rfl⟩:=rx
 exact rule i t s _ _ ⟨.int (g i),H,I.tok _,⟨_,rfl⟩,q⟩
theorem QX:UnR X (unaryOp .USub) (rU λi=>.int (-i)):=unI λ_ _ _ _ _ q=>neg_int q
end
def Tz:V->V->Bool
 | .non,.non=>true | .non,.int _=>true | .int _,.non=>true | .non,.bl _=>true | .bl _,.non=>true | .non,.str _=>true | .str _,.non=>true
 | .int _,.int _=>true | .bl _,.bl _=>true | .str _,.str _=>true | .byt _,.byt _=>true
 | .int _,.str _=>true | .str _,.int _=>true | .bl _,.str _=>true | .str _,.bl _=>true
 | _,_=>false
def rEq:R2:=λx y H Q=>Tz x y=true/\Q (.bl (decide (x=y))) H
def rNe:R2:=λx y H Q=>Tz x y=true/\Q (.bl (!decide (x=y))) H
section
variable {X:Cx} {a b c:W4} {ta tb tc:TE} {pos:Pos}
theorem QC {pins:List (Addr×Obj)}{σ:St}{H:Hp}{s:Wz}{Q:VK}{k k':Bool}(I:Inv X pins σ H s)(q:Q (.bl k) H)(e:k=k'):EP X pins σ Q (.bool k') s:=by
 subst e
 exact ⟨.bl k,H,I,rfl,q⟩
theorem OG:OpR X (X9 .Lt) (rI0 λi j=>.bl (decide (i < j))):=M5 λ_ _ _ _ _ _ _ q=>lt_int q
theorem OI:OpR X (X9 .LtE) (rI0 λi j=>.bl (decide (i<=j))):=M5 λ_ _ _ _ _ _ _ q=>le_int q
theorem UA:OpR X (X9 .Gt) (rI0 λi j=>.bl (decide (j < i))):=M5 λ_ _ _ _ _ _ _ q=>gt_int q
theorem Oo:OpR X (X9 .GtE) (rI0 λi j=>.bl (decide (j<=i))):=M5 λ_ _ _ _ _ _ _ q=>ge_int q
theorem FG:OpR X (X9 .Is) (λx y H Q=>y=.non/\Q (.bl (decide (x=.non))) H):=by
 intro pins s σ H x y v u Q I rx ry h
 obtain ⟨rfl,q⟩:=h
 cases ry
 refine is_none_gen (QC I q ?_)
 cases x<;>first
  | (cases rx;rfl)
  | (obtain ⟨t,rfl⟩:=rx;rfl)
theorem fZ (b:W4){op:zdX}(h:op≠.In:=by decide)(h2:op≠.NotIn:=by decide):Y3 op b=false:=by
 have e1:(op == CmpOp.In)=false:=by cases op<;>first | rfl | exact absurd rfl h
 have e2:(op == CmpOp.NotIn)=false:=by cases op<;>first | rfl | exact absurd rfl h2
 cases b<;>simp[Y3,e1,e2]
theorem KH {op:zdX}{r:R2}(ho:OpR X (X9 op) r)(ha:PE X a ta)(hb:PE X b tb)(hm:Y3 op b=false):PE X (.Compare a [op] [b] pos) (tOp r ta tb):=by
 intro pins s σ H Q I h
 exact wpAny_Compare1 (QJ ha hb I h λv u s2 x y H2 I2 rx ry q=>ho pins s2 σ H2 x y v u Q I2 rx ry q) hm
def FE (t:TE):TT:=λσ H Q=>t σ H λx H'=>∃ k,x=.bl k/\Q k H'
theorem NT {op:zdX}{r:R2}(ho:OpR X (X9 op) r)(ha:PE X a ta)(hb:PE X b tb)(hm:Y3 op b=false):PT X (.Compare a [op] [b] pos) (FE (tOp r ta tb)):=by
 intro pins s σ H Q I h
 refine wpAny_isTrue_Compare1 (thn (ha pins s σ H _ I h) λv s1 ⟨x,H1,I1,r1,q1⟩=>thn (hb pins s1 σ H1 _ I1 q1) λu s2 ⟨y,H2,I2,r2,q2⟩=>
  thn (ho pins s2 σ H2 x y v u _ I2 r1 r2 q2) λc s3 ⟨z,H3,I3,r3,k,e,q3⟩=>?_) hm
 subst e
 cases r3
 exact XU ⟨H3,I3,q3⟩
def GI (r r':R2)(ta tb tc:TE):TE:=λσ H Q=>ta σ H λx H1=>tb σ H1 λy H2=>r x y H2 λz H3=>∃ k,z=.bl k/\
 (if k=true then tc σ H3 λw' H4=>r' y w' H4 Q else Q (.bl false) H3)
theorem I0 {op op':zdX}{r r':R2}(ho:OpR X (X9 op) r)(ho':OpR X (X9 op') r')(ha:PE X a ta)(hb:PE X b tb)(hc:PE X c tc)
  (hm:lastMarks [op,op'] [b,c]=false:=by with_unfolding_all rfl):PT X (.Compare a [op,op'] [b,c] pos) (FE (GI r r' ta tb tc)):=by
 intro pins s σ H Q I h
 refine isTrue_chain (thn (ha pins s σ H _ I h) λv s1 ⟨x,H1,I1,r1,q1⟩=>test_link (thn (hb pins s1 σ H1 _ I1 q1) λu s2 ⟨y,H2,I2,r2,q2⟩=>
  thn (ho pins s2 σ H2 x y v u _ I2 r1 r2 q2) λd s3 ⟨z,H3,I3,r3,k,e,q3⟩=>?_)) hm
 subst e
 cases r3
 refine XU ?_
 cases k with
 | false=>
  obtain ⟨k',e',q'⟩:=q3
  cases e'
  exact ite_ff ⟨H3,I3,q'⟩
 | true=>
  refine ite_tt (test_last (thn (hc pins s3 σ H3 _ I3 q3) λw' s4 ⟨z',H4,I4,r4,q4⟩=>thn (ho' pins s4 σ H4 y z' u w' _ I4 r2 r4 q4) λd' s5 ⟨z2,H5,I5,r5,k2,e2,q5⟩=>?_))
  subst e2
  cases r5
  exact XU ⟨H5,I5,q5⟩
theorem ro:(sizeLine:Nat) < 2 ^ 63:=by rw[zb1];decide
theorem Cn:OpR X (YN .Add) (λx y H Q=>∃ i j,x=.str i/\y=.str j/\i.length+j.length<=sizeLine/\Q (.str (i++j)) H):=by
 intro pins s σ H x y v u Q I rx ry h
 obtain ⟨i,j,rfl,rfl,hz,q⟩:=h
 obtain ⟨t,rfl⟩:=rx
 obtain ⟨t',rfl⟩:=ry
 exact add_str (λt' tk=>⟨.str (i++j),H,I.tok _,⟨_,rfl⟩,q⟩) hz
theorem vals1 {x:V}{us:List Wv}(r:Vals [x] us):∃ u,us=[u]/\RelV x u:=by
 cases r with
 | cons r1 r2=>cases r2;exact ⟨_,rfl,r1⟩
theorem vals2 {x y:V}{us:List Wv}(r:Vals [x,y] us):∃ u w',us=[u,w']/\RelV x u/\RelV y w':=by
 cases r with
 | cons r1 r2=>
  cases r2 with
  | cons r3 r4=>cases r4;exact ⟨_,_,rfl,r1,r3⟩
theorem sH:bU X (.builtin "abs") (λxs H Q=>∃ i,xs=[.int i]/\Q (.int (if i < 0 then -i else i)) H):=by
 intro pins s σ H xs us Q I r h
 obtain ⟨i,rfl,q⟩:=h
 obtain ⟨u,rfl,t,rfl⟩:=vals1 r
 exact call_abs_int λu tk=>⟨.int (if i < 0 then -i else i),H,I.tok _,⟨_,rfl⟩,q⟩
theorem uA (hc:X.calm=true):bU X (.builtin "max") (λxs H Q=>∃ i j,xs=[.int i,.int j]/\Q (.int (if j > i then j else i)) H):=by
 intro pins s σ H xs us Q I r h
 obtain ⟨i,j,rfl,q⟩:=h
 obtain ⟨u,w',rfl,⟨t,rfl⟩,⟨t',rfl⟩⟩:=vals2 r
 refine max_two_ints (I.ok.hd hc) λh' tk k=>⟨_,H,I.kept k,?_,q⟩
 by_cases hj:j > i
 ·rw[if_pos hj,if_pos hj];exact ⟨_,rfl⟩
 ·rw[if_neg hj,if_neg hj];exact ⟨_,rfl⟩
theorem DZ (hc:X.calm=true):bU X (.builtin "min") (λxs H Q=>∃ i j,xs=[.int i,.int j]/\Q (.int (if j < i then j else i)) H):=by
 intro pins s σ H xs us Q I r h
 obtain ⟨i,j,rfl,q⟩:=h
 obtain ⟨u,w',rfl,⟨t,rfl⟩,⟨t',rfl⟩⟩:=vals2 r
 refine min_two_ints (I.ok.hd hc) λh' tk k=>⟨_,H,I.kept k,?_,q⟩
 by_cases hj:j < i
 ·rw[if_pos hj,if_pos hj];exact ⟨_,rfl⟩
 ·rw[if_neg hj,if_neg hj];exact ⟨_,rfl⟩
theorem DN:bU X (.type "int") (λxs H Q=>(∃ i,xs=[.int i]/\Q (.int i) H)∨∃ k,xs=[.bl k]/\Q (.int (if k then 1 else 0)) H):=by
 intro pins s σ H xs us Q I r h
 rcases h with ⟨i,rfl,q⟩ | ⟨k,rfl,q⟩
 ·obtain ⟨u,rfl,t,rfl⟩:=vals1 r
  exact call_int_int ⟨.int i,H,I,⟨_,rfl⟩,q⟩
 ·obtain ⟨u,rfl,r1⟩:=vals1 r
  cases r1
  exact call_int_bool ⟨.int (if k then 1 else 0),H,I.tok _,⟨_,rfl⟩,q⟩
end
end L2
namespace L2
open PySem PySem.Spec PyProof.Rows
structure Wo (h:Heap) (x dx C:Addr) (mA:Str->Option Wv):Prop where
 obj:h.get? x=some (zdK C dx)
 ns:h.Ns1 dx mA
 ne:dx≠x
section
variable {prog:W9} {w:Xm} {A:XC} {E:Wv->Wz->Prop} {s:Wz} {K:Wq} {x dx C f:Addr} {mA:Str->Option Wv} {name:Str} {v:Wv}
end
theorem oZ.some_of {v:V}{o:Option Wv}(r:oZ (some v) o):∃ u,o=some u/\RelV v u:=by
 cases o with
 | none=>exact (show False from r).elim
 | some u=>exact ⟨u,rfl,r⟩
section
variable {P:W9} {w:Xm} {H H':Hp} {h h':Heap} {a C dx:Addr} {fs fs':List (Str×V)}
end
structure Cls (K:Wq) (C:Addr):Prop where
 pg:zdr K C Str.empty=true
 hd:PySem.W.hasDictIn K C=true
 po:PySem.W.plainOver K C=true
 sa:PySem.W.findIn K (.ref C) "__setattr__" = some (some (.builtin "object.__setattr__"))
theorem Cls.get {K:Wq}{C:Addr}(c:Cls K C)(f:Str):zdr K C f=true:=c.pg
section
variable {X:Cx} {pins:List (Addr×Obj)} {σ:St} {H:Hp} {s:Wz} {a C dx:Addr} {fs:List (Str×V)} {f:Str} {v:V} {A:XC} {E:Wv->Wz->Prop}
end
def SX (X:Cx)(op:zb0)(rd:V->V->Hp->VK->Prop):Prop:=
 ∀ (pins:List (Addr×Obj)) (s:Wz) (σ:St) (H:Hp) (x y:V) (u v:Wv) (Q:VK),Inv X pins σ H s->RelV x u->RelV y v->rd x y H Q->WW (W2 X.prog X.w) X.A (inplaceOp op u v) (EP X pins σ Q) X.xe s
section
variable {X:Cx} {o e value:W4} {f:Str} {pos pos' tpos:Pos} {ta tv:TE}
def SN:V->V->Hp->VK->Prop:=λx y H Q=>∃ i j,x=.int i/\y=.int j/\Q (.int (i+j)) H
def je:V->V->Hp->VK->Prop:=λx y H Q=>∃ i j,x=.int i/\y=.int j/\Q (.int (i - j)) H
theorem Qg:SX X .Add SN:=by
 rintro pins s σ H x y u v Q I rx ry ⟨i,j,rfl,rfl,q⟩
 obtain ⟨t,rfl⟩:=(show ∃ t,u=ZI i t from rx)
 obtain ⟨t',rfl⟩:=(show ∃ t',v=ZI j t' from ry)
 exact zex ⟨.int (i+j),H,I.tok _,⟨_,rfl⟩,q⟩
end
section
variable {X:Cx} {pins:List (Addr×Obj)} {σ:St} {H:Hp} {s:Wz} {A:XC} {E:Wv->Wz->Prop} {Q:Wv->Wz->Prop} {c:Wv} {b:Bool}
end
end L2
namespace L2
open PySem PySem.Spec PyProof.Rows
structure gm (k:Nat) (A:XC):Prop where
 hd:A.handled=none
 dp:A.depth+3*k+5 < recursionLimit
 un:A.units+16*k+200 < cLine
theorem gm.mono {j k:Nat}{A:XC}(r:gm k A)(h:j<=k):gm j A:=⟨r.hd,by have:=r.dp;omega,by have:=r.un;omega⟩
theorem gm.deeper {k:Nat}{A:XC}(r:gm (k+1) A)(env:Env):gm k (A.deeper env):=
 ⟨r.hd,by have:=r.dp;show A.depth+1+3*k+5 < _;omega,by have:=r.un;show A.units+3+16*k+200 < _;omega⟩
theorem gm.depth {k:Nat}{A:XC}(r:gm k A):A.depth < recursionLimit:=by have:=r.dp;omega
theorem gm.units {k:Nat}{A:XC}(r:gm k A):A.units+64 < cLine:=by have:=r.un;omega
def SJ:TA:=λ_ H Q=>Q [] H
def Ob (ta:TE)(tr:TA):TA:=λσ H Q=>ta σ H λx H1=>tr σ H1 λxs H2=>Q (x::xs) H2
section
variable {X:Cx} {e:W4} {es:List W4} {te:TE} {t:TA} {pos:Pos}
theorem gX:PA X [] SJ:=λ_ _ _ _ H Q I h=>za3 ⟨[],H,I,.nil,h⟩
theorem dU (ha:PE X e te)(hr:PA X es t)(hs:WI (e::es) X.env=(false,XG e X.env)::WI es X.env:=by rfl):PA X (e::es) (Ob te t):=by
 intro pos pins s σ H Q I h
 rw[hs]
 show WW _ _ (spliced ((false,XG e X.env)::XM pos (WI es X.env))) _ _ s
 refine ZC (thn (ha pins s σ H _ I h) λu s1 ⟨x,H1,I1,r1,q1⟩=>?_)
 exact thn (hr pos pins s1 σ H1 _ I1 q1) λus s2 ⟨xs,H2,I2,r2,q2⟩=>⟨x::xs,H2,I2,.cons r1 r2,q2⟩
def UQ (t:TA):TE:=λσ H Q=>t σ H λxs H1=>xs.length<=sizeLine/\∀ p,H1 p=none->Q (.ref p) (upd H1 p (.tup xs))
def Vd (t:TA):TE:=λσ H Q=>t σ H λxs H1=>xs.length<=sizeLine/\∀ p,H1 p=none->Q (.ref p) (upd H1 p (.lst xs))
theorem BJ {x1}(h:PA X es t):PE X (.Tuple es x1 pos) (UQ t):=by
 intro pins s σ H Q I hq
 refine wpAny_Tuple_spliced (thn (h pos pins s σ H _ I hq) λus s1 ⟨xs,H1,I1,r,z,q⟩=>⟨by rw[← r.length];exact z,?_⟩)
 have hf:H1 s1.heap.objs.size=none:=I1.hok.fresh (WL _)
 refine ⟨.ref s1.heap.objs.size,upd H1 s1.heap.objs.size (.tup xs),I1.laid (t':=s1.toks) (λb u e=>Wu _ e) (WL _) ?_,rfl,q _ hf⟩
 exact ⟨z,us,r,⟨_,WJ _ rfl⟩⟩
theorem Gh (h:PA X es t):PE X (.List es pos) (Vd t):=by
 intro pins s σ H Q I hq
 refine wpAny_List_spliced (thn (h pos pins s σ H _ I hq) λus s1 ⟨xs,H1,I1,r,z,q⟩=>⟨by rw[← r.length];exact z,?_⟩)
 have hf:H1 s1.heap.objs.size=none:=I1.hok.fresh (WL _)
 refine ⟨.ref s1.heap.objs.size,upd H1 s1.heap.objs.size (.lst xs),I1.laid (t':=s1.toks) (λb u e=>Wu _ e) (WL _) ?_,rfl,q _ hf⟩
 exact ⟨z,us,0,r,WJ _ rfl⟩
end
abbrev Sp:=List V->Hp->VK->XK->Prop
abbrev CXT:=List Env->Hp->Wz->XK->Wv->Wz->Prop
structure KC (P:W9) (w:Xm) (K:Wq) (mg:Str->Option Wv) (base:Heap) (A:XC) (outer:List Env) (s:Wz) (H:Hp):Prop where
 frames:A.frames=some outer
 mod:Mod K mg base
 bs:∀ b o,base.get? b=some o->s.heap.get? b=some o/\H b=none
 bsz:base.objs.size<=s.heap.objs.size
 qM:s.heap.FunFrames base outer
 frf:∀ b∈frs outer,H b=none
 hok:HOk P w H s.heap
 bare:za2 s.gens
def CE (outer:List Env)(P:W9)(w:Xm)(H:Hp)(s:Wz)(Q:VK)(u:Wv)(s':Wz):Prop:=
 ∃ v H',s'.os=s.os/\za2 s'.gens/\Un (frs outer) [] H H' s.heap s'.heap/\HOk P w H' s'.heap/\RelV v u/\Q v H'
def CR (CX:CXT)(outer:List Env)(P:W9)(w:Xm)(H:Hp)(s:Wz)(Q:VK)(E:XK)(r:zds)(s':Wz):Prop:=
 match r with
 | .ok (.ret u)=>CE outer P w H s Q u s'
 | .ok _=>False
 | .error e=>CX outer H s E e s'
structure jf (P:W9) (w:Xm) (K:Wq) (mg:Str->Option Wv) (base:Heap) (CX:CXT) (k:Nat) (f:Addr) (fd:WT) (ps:List Str) (sp:Sp):Prop where
 len:∀ vs H Q E,sp vs H Q E->vs.length=ps.length
 run:∀ (A:XC) (outer:List Env) (s:Wz) (H:Hp) (args:Args) (us:List Wv) (vs:List V) (Q:VK) (E:XK),gm k A->KC P w K mg base A outer s H->zcX s fd args (ps.zip us)->Vals vs us->sp vs H Q E->
  Za (W2 P w) A (.call (.ref f) args) (CR CX outer P w H s Q E) s
theorem jf.mono {P:W9}{w:Xm}{K:Wq}{mg:Str->Option Wv}{base:Heap}{CX:CXT}{j k:Nat}{f:Addr}{fd:WT}{ps:List Str}{sp:Sp}(F:jf P w K mg base CX j f fd ps sp)(h:j<=k) :
  jf P w K mg base CX k f fd ps sp:=⟨F.len,λA outer s H args us vs Q E hr=>F.run A outer s H args us vs Q E (hr.mono h)⟩
section
variable {X:Cx} {pins:List (Addr×Obj)} {σ:St} {H:Hp} {s s':Wz}
theorem Inv.Wg (I:Inv X pins σ H s):KC X.prog X.w X.K X.mg X.base X.A X.stack s H:=
 ⟨I.ok.frames,I.ok.mod,I.bs,Xu I.ok.bsz I.sz,I.stack,I.C2,I.hok,I.bare⟩
theorem Inv.after {Q:VK}{u:Wv}(I:Inv X pins σ H s)(h:CE X.stack X.prog X.w H s Q u s'):EP X pins σ Q u s':=by
 obtain ⟨v,H',os,bare,un,hok,r,q⟩:=h
 obtain ⟨hh,g,d,t,os'⟩:=s'
 obtain rfl:os'=s.os:=os
 exact ⟨v,H',I.call (h':=hh) (g':=g) (d':=d) (t':=t) (ch:=[]) un hok bare (λb z=>absurd z (by simp)),r,q⟩
end
def Uu (sp:Sp)(dvs:List V)(E:XK)(t:TA):TE:=λσ H Q=>t σ H λvs H1=>sp (vs++dvs) H1 Q E
def Binds (K:Wq)(fd:WT)(ps:List Str)(ds:List Wv):Prop:=
 ∀ (s:Wz) (us:List Wv),K.In s.heap->(us++ds).length=ps.length->zcX s fd ⟨us,[]⟩ (ps.zip (us++ds))
theorem Binds.all {K:Wq}{fd:WT}{ps:List Str}(h:∀ us:List Wv,us.length=ps.length->bindArgs fd ⟨us,[]⟩=pure (ps.zip us)):Binds K fd ps []:=λs us _ hl=>by
 rw[Xi] at hl ⊢
 exact .of_eq (h us hl)
def Passes (CX:CXT)(X:Cx)(E:XK):Prop:=∀ (pins:List (Addr×Obj)) (σ:St) (H:Hp) (s:Wz) (e:Wv) (s':Wz),Inv X pins σ H s->CX X.stack H s E e s'->X.xe e s'
section
variable {X:Cx} {CX:CXT} {k:Nat} {f C:Addr} {fd:WT} {ps:List Str} {sp:Sp} {dvs:List V} {ds:List Wv} {E:XK} {x m:Str} {p pos apos:Pos} {e o:W4} {es:List W4} {ta:TE} {t:TA}
theorem Q8 {pins:List (Addr×Obj)}{σ:St}{H:Hp}{s:Wz}{Q:VK}{us:List Wv}{vs:List V}(F:jf X.prog X.w X.K X.mg X.base CX k f fd ps sp)(hr:gm k X.A)(hb:Binds X.K fd ps ds)(hd:Vals dvs ds)(hx:Passes CX X E)
  (I:Inv X pins σ H s) (r:Vals vs us) (h:sp (vs++dvs) H Q E):WW (W2 X.prog X.w) X.A (zbT (.ref f) us) (EP X pins σ Q) X.xe s:=by
 have r2:Vals (vs++dvs) (us++ds):=r.append hd
 have hl:(us++ds).length=ps.length:=by rw[← r2.length];exact F.len _ _ _ _ h
 refine wpAny_call (zcY (F.run X.A X.stack s H ⟨us,[]⟩ (us++ds) (vs++dvs) Q E hr I.Wg (hb s us I.kIn hl) r2 h) λr s' hq=>?_)
 cases r with
 | error e=>exact hx pins σ H s e s' I hq
 | ok fl=>
  cases fl with
  | ret u=>exact I.after hq
  | next=>exact WA hq
  | brk=>exact WA hq
  | cont=>exact WA hq
theorem NY (F:jf X.prog X.w X.K X.mg X.base CX k f fd ps sp)(hr:gm k X.A)(hg:Gl X x)(hm:X.mg x=some (.ref f))(hk:ZU X.K (.ref f)=true)(hb:Binds X.K fd ps ds)(hd:Vals dvs ds)(hx:Passes CX X E)
  (ha:PA X (e::es) t) (hdb:(x == ("__debug__" : Str))=false:=by decide) (he:WI (e::es) X.env=(false,XG e X.env)::WI es X.env:=by rfl) (hpl:(XM pos (WI es X.env)).any (·.1)=false:=by rfl) :
  PE X (.Call (.Name x p) (e::es) [] pos) (Uu sp dvs E t):=by
 intro pins s σ H Q I h
 refine ZD (CB I hg hm ?_ hdb)
 refine PySem.W.callWith_K (h₀:=X.base) I.ok.mod.kin hk (thn (ha pos pins s σ H _ I h) λus s1 ⟨vs,H1,I1,r,q⟩=>⟨I1.kIn,?_⟩) he hpl
 exact Q8 F hr hb hd hx I1 r q
end
def PK (X:Cx)(kws:List YW)(t:TA):Prop:=
 ∀ (pos:Pos) (pins:List (Addr×Obj)) (s:Wz) (σ:St) (H:Hp) (Q:List V->Hp->Prop),Inv X pins σ H s->t σ H Q->WW (W2 X.prog X.w) X.A (evalAll ((zaj pos (YS kws X.env)).map (·.2))) (AP X pins σ Q) X.xe s
section
variable {X:Cx} {CX:CXT} {k:Nat} {f C:Addr} {fd:WT} {ps ks:List Str} {sp:Sp} {E:XK} {x m:Str} {p pos apos kpos:Pos} {e o:W4} {es:List W4} {kws:List YW} {te ta:TE} {t tk:TA} {nm:Option Str}
theorem PU:PK X [] SJ:=λ_ _ _ _ H Q I h=>wpAny_evalAll_nil ⟨[],H,I,.nil,h⟩
theorem NW (ha:PE X e te)(hr:PK X kws t):PK X (⟨nm,e,kpos⟩::kws) (Ob te t):=by
 intro pos pins s σ H Q I h
 show WW _ _ (evalAll ((do let v ← XG e X.env;standAt pos;pure v)::(zaj pos (YS kws X.env)).map (·.2))) _ _ s
 refine wpAny_evalAll_cons (Wr (thn (ha pins s σ H _ I h) λu s1 ⟨x,H1,I1,r1,q1⟩=>Wr (za9 (WC ?_))))
 exact thn (hr pos pins s1 σ H1 _ I1 q1) λus s2 ⟨xs,H2,I2,r2,q2⟩=>⟨x::xs,H2,I2,.cons r1 r2,q2⟩
variable {g:List Wv->List Wv->List Wv} {gV:List V->List V->List V}
end
structure aG (N P:List Str) (sc:Scope):Prop where
 kind:sc.kind=.function
 co:sc.isCoroutine=false
 gen:sc.isGenerator=false
 nd:N.Nodup
 pre:N.take P.length=P
 par:∀ x∈P,sc.names.lookup x=some .local∨sc.names.lookup x=some .cell
 Qa:∀ y∈sc.names,y.2≠.free
theorem ud {Z8:Str->Option zak}{x:Str}:∀ {binds:List (Str×Wv)} {m:Str->Option Wv},(∀ v,(x,v) ∉ binds)->zdY Z8 binds m x=m x
 | [],_,_=>rfl
 | (n,v)::r,m,h=>by
  unfold zdY
  rw[ud λw hw=>h w (W5 _ hw)]
  split
  ·have:x≠n:=by rintro rfl;exact h v WS
   simp[this]
  ·rfl
theorem uL {Z8:Str->Option zak}{x:Str}:∀ {binds:List (Str×Wv)} {m:Str->Option Wv},(∀ v,(x,v) ∉ binds)->zdZ Z8 binds m x=m x
 | [],_,_=>rfl
 | (n,v)::r,m,h=>by
  unfold zdZ
  rw[uL λw hw=>h w (W5 _ hw)]
  split
  ·rfl
  ·have:x≠n:=by rintro rfl;exact h v WS
   simp[this]
theorem ub {Z8:Str->Option zak}{x:Str}{v:Wv}:∀ {P:List Str} {vs:List Wv} {i:Nat} {m:Str->Option Wv},P.Nodup->P[i]? = some x->vs[i]? = some v->Z8 x=some .local->
  zdY Z8 (P.zip vs) m x=some v
 | [],_,_,_,_,h,_,_=>by simp at h
 | _::_,[],_,_,_,_,h,_=>by simp at h
 | p::P,w::vs,0,m,nd,h1,h2,hk=>by
  simp at h1 h2;subst h1;subst h2
  show zdY Z8 ((p,w)::P.zip vs) m p=_
  unfold zdY
  rw[ud λv hv=>(Xt.mp nd).1 (W0 hv).1,if_pos hk]
  simp
 | p::P,w::vs,i+1,m,nd,h1,h2,hk=>by
  show zdY Z8 ((p,w)::P.zip vs) m x=_
  unfold zdY
  exact ub (i:=i) (Xt.mp nd).2 (by simpa using h1) (by simpa using h2) hk
theorem uz {Z8:Str->Option zak}{x:Str}{v:Wv}:∀ {P:List Str} {vs:List Wv} {i:Nat} {m:Str->Option Wv},P.Nodup->P[i]? = some x->vs[i]? = some v->Z8 x≠some .local->
  zdZ Z8 (P.zip vs) m x=some v
 | [],_,_,_,_,h,_,_=>by simp at h
 | _::_,[],_,_,_,_,h,_=>by simp at h
 | p::P,w::vs,0,m,nd,h1,h2,hk=>by
  simp at h1 h2;subst h1;subst h2
  show zdZ Z8 ((p,w)::P.zip vs) m p=_
  unfold zdZ
  rw[uL λv hv=>(Xt.mp nd).1 (W0 hv).1,if_neg hk]
  simp
 | p::P,w::vs,i+1,m,nd,h1,h2,hk=>by
  show zdZ Z8 ((p,w)::P.zip vs) m x=_
  unfold zdZ
  exact uz (i:=i) (Xt.mp nd).2 (by simpa using h1) (by simpa using h2) hk
def start (N:List Str)(vs:List V):St:=vs.map some++X6 (N.length - vs.length) none
def yS (CX:CXT)(P:W9)(w:Xm)(K:Wq)(mg:Str->Option Wv)(base:Heap)(N:List Str)(qual:Str)(scope:Scope)(f:Addr)(cd:Wv)(A:XC)(outer:List Env)(s:Wz)(H:Hp)(E:XK):Cx where
 prog:=P
 w:=w
 K:=K
 mg:=mg
 base:=base
 A:=A.deeper (zaM qual scope s.heap.objs.size f cd)
 N:=N
 s₀:=s
 H₀:=H
 env:=zaM qual scope s.heap.objs.size f cd
 outer:=outer
 stack:=zaM qual scope s.heap.objs.size f cd::outer
 ex:=[]
 calm:=true
 fn:=λ_=>true
 pn:=[]
 xe:=λe s'=>WW (W2 P w) (A.deeper (zaM qual scope s.heap.objs.size f cd)) (leaving (zaM qual scope s.heap.objs.size f cd) e) (λ_ s''=>CX outer H s E e s'') (λe' s''=>CX outer H s E e' s'') s'
theorem zh {sc:Scope}{n:Nat}{x:Str}(h:sc.names.lookup x=some .cell):∃ c,(cellsFrom n sc.names []).lookup x=some c:=by
 have q:=zby sc.names n [] (.inl h)
 exact zbb.mp q
theorem Ed {CX:CXT}{P:W9}{w:Xm}{K:Wq}{mg:Str->Option Wv}{base:Heap}{N ps:List Str}{qual:Str}{scope:Scope}{f:Addr}{cd:Wv}{A:XC}{outer:List Env}{s s1:Wz}{H:Hp}{E:XK}{us:List Wv}{vs:List V}
  (S:aG N ps scope) (hd:A.handled=none) (e0:KC P w K mg base A outer s H) (hl:vs.length=ps.length) (r:Vals vs us)
  (x:InCallC s s.heap.objs.size (zdY (zaM qual scope s.heap.objs.size f cd).kindOf (ps.zip us) λ_=>none) (cellsFrom (s.heap.objs.size+1) scope.names []) (zdZ (zaM qual scope s.heap.objs.size f cd).kindOf (ps.zip us) λ_=>none) s1) :
  Inv (yS CX P w K mg base N qual scope f cd A outer s H E) [] (start N vs) H s1:=by
 have hpl:ps.length<=N.length:=by have:=congrArg XQ S.pre;rw[Z9] at this;omega
 obtain ⟨h1,tk,rfl,hk⟩:=x.done
 have noA:∀ b:Addr,b ∉ (yS CX P w K mg base N qual scope f cd A outer s H E).ex:=λb z=>absurd (show b∈([]:List Addr) from z) (by simp)
 refine ⟨⟨e0.mod,S.kind,rfl,rfl,WL _,λy z c h1 h2=>?_,λy hy=>?_,λy c _ h=>?_,λ_=>hd,Around.frames_deeper e0.frames,.inr ⟨rfl,rfl⟩,λb z=>absurd z (noA b),e0.bs,e0.bsz,λb _ _=>noA b,λb z=>absurd z (noA b),e0.qM,e0.frf⟩,
  rfl,e0.bare,Un.kept hk,⟨_,x.toInCall.ns,λi y v h1 h2 h3=>?_⟩,λy c h=>⟨_,x.cell y c h⟩,e0.hok.fresh (WL _),λy c h=>?_,λp hp=>absurd (show p∈([]:List (Addr×Obj)) from hp) (by simp),e0.hok.kept hk,?_⟩
 ·exact name_of_addr x.apart (XS h1) (XS h2)
 ·have hy:scope.names.lookup y=some .cell∨scope.names.lookup y=some .free:=hy
  rcases hy with hy | hy
  ·exact zh hy
  ·exact absurd rfl (S.Qa _ (XS hy))
 ·exact ZR (x.above y c (XS h))
 ·have hi:i < vs.length:=by
   unfold start at h2
   by_cases hi:i < vs.length
   ·exact hi
   ·rw[Zd (by simpa using hi)] at h2
    rw[zbh] at h2
    split at h2<;>cases h2
  have ha:vs[i]? = some v:=by
   unfold start at h2
   rw[Zo (by simpa using hi),XW] at h2
   cases e:vs[i]? with
   | none=>rw[e] at h2;cases h2
   | some a=>rw[e] at h2;cases h2;rfl
  obtain ⟨u,hu,rv⟩:=r.get ha
  have hp:ps[i]? = some y:=by
   rw[← S.pre,List.getElem?_take_of_lt (by omega)];exact h1
  have ndP:ps.Nodup:=by rw[← S.pre];exact S.nd.sublist (List.take_sublist _ _)
  refine ⟨u,rv,?_⟩
  rcases S.par y (Ze hp) with k | k
  ·exact .inl ⟨k,ub ndP hp hu k⟩
  ·obtain ⟨c,e⟩:=zh (n:=s.heap.objs.size+1) k
   refine .inr ⟨.inl k,c,e,?_⟩
   have q:=x.cell y c e
   rw[uz ndP hp hu (by show scope.names.lookup y≠_;rw[k];decide)] at q
   exact q
 ·exact e0.hok.fresh (ZR (x.above y c (XS h)))
 ·unfold start
  show _=N.length
  rw[WG,Ww,Z4]
  omega
theorem Sg {CX:CXT}{P:W9}{w:Xm}{K:Wq}{mg:Str->Option Wv}{base:Heap}{k:Nat}{f:Addr}{name qual:Str}{params:Arguments}{body:List Stmt}{scope:Scope}{dV kV doc pm cdv ct oc:Wv}{an od:Option Addr}
  {osl:Array (Option Wv)} {N ps:List Str} {sp:Sp} (lk:K.lookup f=some ⟨oc,od,.func (Zl name qual params body scope dV kV doc pm an cdv ct),osl⟩) (hcd:zb2 K cdv qual=true) (S:aG N ps scope)
  (len:∀ vs H Q E,sp vs H Q E->vs.length=ps.length)
  (hbody:∀ (A:XC) (outer:List Env) (s:Wz) (H:Hp) (vs:List V) (Q:VK) (E:XK),gm k (A.deeper (zaM qual scope s.heap.objs.size f cdv))->sp vs H Q E->
   ∃ t,PSs (yS CX P w K mg base N qual scope f cdv A outer s H E) body t/\t { nx:=λ_ H'=>Q .non H',rt:=Q } (start N vs) H) :
  jf P w K mg base CX (k+1) f (Zl name qual params body scope dV kV doc pm an cdv ct) ps sp:=by
 refine ⟨len,λA outer s H args us vs Q E hr e0 hb r hsp=>?_⟩
 have hl:=len _ _ _ _ hsp
 have KX:K.In s.heap:=e0.mod.kin.keeps λb o e=>(e0.bs b o e).1
 have lim:s.heap.NoLimit:=e0.mod.nolimit.keeps λb o e=>(e0.bs b o e).1
 have gk:∀ y∈ps.zip us,scope.names.lookup y.1=some .local∨(scope.names.lookup y.1=some .cell/\((cellsFrom (s.heap.objs.size+1) scope.names []).lookup y.1).isSome=true):=λ⟨n,v⟩ hy=>by
  rcases S.par n (W0 hy).1 with q | q
  ·exact .inl q
  ·exact .inr ⟨q,zby _ _ _ (.inl q)⟩
 refine codeAny_call_function hr.depth (KX _ _ lk) rfl S.co S.gen rfl (PySem.W.codeRec_of KX hcd) (hb _ _ _ _ ?_)
 refine wpAny_newFunctionEnv_cells S.kind gk λenv he s1 x=>?_
 subst he
 refine ⟨lim.keeps x.toInCall.keep,codeAny_func ?_⟩
 obtain ⟨t,ht,hq⟩:=hbody A outer s H vs Q E (hr.deeper _) hsp
 have I:Inv (yS CX P w K mg base N qual scope f cdv A outer s H E) [] (start N vs) H s1:=Ed S hr.hd e0 hl r x
 refine XO (ht [] s1 (start N vs) H _ I hq) (λfl s' hs=>?_) λe s' hs=>hs
 have fin:∀ {σ':St} {H':Hp} {v:V} {u:Wv},Inv (yS CX P w K mg base N qual scope f cdv A outer s H E) [] σ' H' s'->RelV v u->Q v H'->CE outer P w H s Q u s':=
  λ{σ' H' v u} J rv q=>⟨v,H',J.os,J.bare,J.base,J.hok,rv,q⟩
 cases fl with
 | ret u=>
  obtain ⟨v,σ',H',J,rv,q⟩:=hs
  exact fin J rv q
 | next=>
  obtain ⟨σ',H',J,q⟩:=hs
  exact fin (v:=V.non) (u:=Yj) J rfl q
 | brk=>
  obtain ⟨_,_,_,q⟩:=hs
  exact WA q
 | cont=>
  obtain ⟨_,_,_,q⟩:=hs
  exact WA q
end L2
namespace L2
open PySem PySem.Spec PyProof.Rows
section
variable {X:Cx} {x:Str} {p pos:Pos} {e:W4} {es:List W4} {t:TA} {id T:String} {r:List V->Hp->VK->Prop}
def tCB (r:List V->Hp->VK->Prop)(t:TA):TE:=λσ H Q=>t σ H λvs H1=>r vs H1 Q
theorem lT (hc:bU X (.builtin id) r)(hg:Gl X x)(hm:X.mg x=none)(hv:XR x=some (.builtin id))(ha:PA X (e::es) t)(hn:x ≠ "__name__" := by decide)(hdb:(x == ("__debug__" : Str))=false:=by decide)
  (he:WI (e::es) X.env=(false,XG e X.env)::WI es X.env:=by rfl) (hpl:(XM pos (WI es X.env)).any (·.1)=false:=by rfl):PE X (.Call (.Name x p) (e::es) [] pos) (tCB r t):=by
 intro pins s σ H Q I h
 refine ZD (gU I hg hm hv ?_ hn hdb)
 exact zdt (thn (ha pos pins s σ H _ I h) λus s1 ⟨vs,H1,I1,r1,q1⟩=>hc pins s1 σ H1 vs us Q I1 r1 q1) he hpl
theorem uu (hc:bU X (.type T) r)(hg:Gl X x)(hm:X.mg x=none)(hv:XR x=some (.type T))(ha:PA X (e::es) t)(hn:x ≠ "__name__" := by decide)(hdb:(x == ("__debug__" : Str))=false:=by decide)
  (he:WI (e::es) X.env=(false,XG e X.env)::WI es X.env:=by rfl) (hpl:(XM pos (WI es X.env)).any (·.1)=false:=by rfl):PE X (.Call (.Name x p) (e::es) [] pos) (tCB r t):=by
 intro pins s σ H Q I h
 refine ZD (gU I hg hm hv ?_ hn hdb)
 exact Xw (thn (ha pos pins s σ H _ I h) λus s1 ⟨vs,H1,I1,r1,q1⟩=>hc pins s1 σ H1 vs us Q I1 r1 q1) he hpl
end
end L2
namespace HT
open PySem PyProof.Rows
section
open PySem.SeqAt
open PySem.AutoSeq1 (wpAny_loadPart')
open PySem.MeetsSeq PySem.MeetsSeq2 PySem.MeetsSeq3
end
section
variable {prog:W9} {w:Xm} {A:XC} {E:Wv->Wz->Prop} {s:Wz}
theorem L7 {t b:Addr}{vs ws:List Wv}{Q:Wv->Wz->Prop}(ht:zdD s.heap t vs.toArray)(hb:zdD s.heap b ws.toArray)(hv:vs≠[])
  (h1:ws=[]->Q (.ref t) s) (h2:ws≠[]->Q (.ref s.heap.objs.size) { s with heap:=s.heap.push { cls:=.type "tuple", data:=.seq (vs++ws).toArray } })
  (hsz:vs.length+ws.length<=sizeLine):WW (W2 prog w) A (YN .Add (.ref t) (.ref b)) Q E s:=by
 obtain ⟨⟨cls,dd,data,sl⟩,ho,hc,n,hd⟩:=id ht
 obtain ⟨⟨cls2,dd2,data2,sl2⟩,ho2,hc2,n2,hd2⟩:=id hb
 simp only at hc hd hc2 hd2
 subst hc hd hc2 hd2
 have e:vs.toArray++ws.toArray=(vs++ws).toArray:=by simp
 by_cases hw:ws=[]
 ·exact zbz ⟨_,ho,rfl⟩ ⟨_,ho2,rfl⟩ zbi zcu ZV ZK (Zv _ _)
   (tuple_addW1 t b vs.toArray ws.toArray n n2 dd dd2 sl sl2 (by simpa using hv) (by simp[hw])) ⟨ho,ho2,h1 hw⟩
 ·refine zbz ⟨_,ho,rfl⟩ ⟨_,ho2,rfl⟩ zbi zcu ZV ZK (Zv _ _)
   (tuple_addW2 t b vs.toArray ws.toArray n n2 dd dd2 sl sl2 (by simpa using hv) (by simpa using hw) (by rw[WR,WR];exact hsz)) ⟨ho,ho2,?_⟩
  rw[e]
  exact h2 hw
def sIx (n d:Nat):Option Int->Nat
 | none=>d
 | some v=>if v < 0 then (v+(n:Int)).toNat else min v.toNat n
theorem yV (n d:Nat):sIx n d none=d:=rfl
theorem Dz (n d k:Nat):sIx n d (some (k:Int))=min k n:=by
 show (if (k:Int) < 0 then ((k:Int)+(n:Int)).toNat else min (k:Int).toNat n)=min k n
 rw[if_neg (by omega),Zb]
theorem Pb (n d:Nat)(hd:d<=n)(o:Option Int):sIx n d o<=n:=by
 cases o with
 | none=>exact hd
 | some v=>
  show (if v < 0 then (v+(n:Int)).toNat else min v.toNat n)<=n
  by_cases hv:v < 0
  ·rw[if_pos hv];omega
  ·rw[if_neg hv];exact Nat.min_le_right _ _
theorem C0 (v:Int)(n d:Nat):(if v < 0 then max (v+(n:Int)) 0 else min v (n:Int))=((sIx n d (some v):Nat):Int):=by
 show (if v < 0 then max (v+(n:Int)) 0 else min v (n:Int))=(((if v < 0 then (v+(n:Int)).toNat else min v.toNat n):Nat):Int)
 by_cases hv:v < 0
 ·simp only[if_pos hv];omega
 ·simp only[if_neg hv];omega
theorem BR (lo hi:Option Int)(n:Nat):Zq lo hi 1 (n:Int)=(((sIx n 0 lo:Nat):Int),((sIx n n hi:Nat):Int)):=by
 have h1:¬ ((1:Int) < 0):=by omega
 unfold Zq
 simp only[h1,if_false]
 refine Prod.ext ?_ ?_
 ·cases lo with
  | none=>rfl
  | some v=>exact C0 v n 0
 ·cases hi with
  | none=>rfl
  | some v=>exact C0 v n n
theorem A7 (i j:Nat):Yy (i:Int) (j:Int) 1=j - i:=by
 unfold Yy
 have h1:(1:Int) > 0:=by omega
 simp only[h1,if_true,Int.ediv_one]
 split<;>omega
theorem rW {v:Wv}{o:Option Int}{Q:Option Int->Wz->Prop}(p:IsPart v o)(h:Q o s):WW (W2 prog w) A (zdL v) Q E s:=by
 cases p with
 | none=>exact slicePart_none h
 | int i t=>exact slicePart_int h
theorem ij {sl:Addr}{vl vu:Wv}{lo hi:Option Int}{n:Nat}{Q:Int×Int×Nat->Wz->Prop}(hs:s.heap.IsSliceOf sl vl vu .none)(pl:IsPart vl lo)(pu:IsPart vu hi)
  (h:Q (((sIx n 0 lo:Nat):Int),1,sIx n n hi - sIx n 0 lo) s):WW (W2 prog w) A (zaN (.ref sl) (pure (n:Int))) Q E s:=by
 obtain ⟨os,hos,hcs,hds⟩:=id hs
 unfold zaN zef
 refine Wr (Wr (Xe hos hds (x:=vl) rfl (Wr (Xe hos hds (x:=vu) rfl (Wr (Xe hos hds (x:=.none) rfl (WC ?_)))))))
 refine Wr (slicePart_none ?_)
 show WW _ _ (if ((1:Int) == 0)=true then _ else _) _ _ s
 rw[if_neg (by decide)]
 refine Wr (rW pl (Wr (rW pu (Wr (WC ?_)))))
 show WW _ _ (match Zq lo hi 1 (n:Int) with | (lo,hi)=>pure (lo,(1:Int),Yy lo hi 1)) _ _ s
 rw[BR lo hi n]
 show WW _ _ (pure (((sIx n 0 lo:Nat):Int),(1:Int),Yy ((sIx n 0 lo:Nat):Int) ((sIx n n hi:Nat):Int) 1)) _ _ s
 rw[A7]
 exact WC h
theorem Gv (xs:Array Wv)(i k:Nat):((Xh k).filterMap λ(m:Nat)=>xs[((i:Int)+(m:Int)*1).toNat]?).toArray=((xs.toList.drop i).take k).toArray:=by
 have e:(λ(m:Nat)=>xs[((i:Int)+(m:Int)*1).toNat]?)=λm=>xs[i+m]?:=by
  funext m
  have:((i:Int)+(m:Int)*1).toNat=i+m:=by omega
  rw[this]
 rw[e]
 have:=pick_run xs i k
 rw[List.filterMap_map] at this
 have e2:((λx=>xs[x]?) ∘ λx=>i+x)=λm=>xs[i+m]?:=rfl
 rw[e2] at this
 rw[this]
theorem mI {t sl:Addr}{items:Array Wv}{vl vu:Wv}{lo hi:Option Int}{Q:Wv->Wz->Prop}(ht:zdD s.heap t items)(hs:s.heap.IsSliceOf sl vl vu .none)(pl:IsPart vl lo)(pu:IsPart vu hi)
  (hw:¬ (sIx items.size 0 lo=0/\sIx items.size items.size hi=items.size))
  (h:Q (.ref s.heap.objs.size) { s with heap:=s.heap.push { cls:=.type "tuple", data:=.seq ((items.toList.drop (sIx items.size 0 lo)).take (sIx items.size items.size hi - sIx items.size 0 lo)).toArray } })
  (hsz:items.size<=sizeLine):WW (W2 prog w) A (zaE (.ref t) (.ref sl)) Q E s:=by
 have C7:sizeOk (.seq ((items.toList.drop (sIx items.size 0 lo)).take (sIx items.size items.size hi - sIx items.size 0 lo)).toArray):=by
  show ((items.toList.drop (sIx items.size 0 lo)).take (sIx items.size items.size hi - sIx items.size 0 lo)).toArray.size<=sizeLine
  rw[WR,Z9,zaa,Zu]
  omega
 have hj:sIx items.size items.size hi<=items.size:=Pb _ _ (WL _) hi
 obtain ⟨os,hos,hcs,hds⟩:=id hs
 have hTs:s.TypeIs (.ref sl) "slice" := ⟨os,hos,hcs⟩
 unfold zaE
 try with_reducible refine Y4 ?_
 first | refine Wr (WC ?_) | skip
 refine Wr (zcZ ht.typeIs (by decide) ?_)
 refine Wr (Xl (name:=OF "__getitem__") ht.typeIs Xx
  (XH Xx ht.typeIs zco ?_ (zcL _ _)))
 show WW _ _ (zaO (.ref t) >>= _) _ _ s
 refine Wr (tupleItemsOf_ ht ?_)
 refine Wr (wpAny_typeOf hTs ?_)
 rw[if_pos (by decide)]
 refine Wr (ij hs pl pu ?_)
 have hno:¬ ((((sIx items.size 0 lo:Nat):Int) == 0&&(1:Int) == 1&&(sIx items.size items.size hi - sIx items.size 0 lo) == items.size)=true):=by
  intro q
  rw[Xd,Xd] at q
  have q1:((sIx items.size 0 lo:Nat):Int)=0:=eq_of_beq q.1.1
  have q2:sIx items.size items.size hi - sIx items.size 0 lo=items.size:=eq_of_beq q.2
  exact hw ⟨by omega,by omega⟩
 show WW _ _ (if (((sIx items.size 0 lo:Nat):Int) == 0&&(1:Int) == 1&&(sIx items.size items.size hi - sIx items.size 0 lo) == items.size)=true then _ else _) _ _ s
 rw[if_neg hno,Gv]
 first
  | exact Wr (m:=XI _) (XD (WC ⟨_,rfl,WC h⟩) C7)
  | exact Wr (m:=XI _) (XD (Wr (WC (WC ⟨_,rfl,WC h⟩))) C7)
  | exact Wr (Wr (m:=XI _) (XD (WC (WC ⟨_,rfl,WC h⟩)) C7))
  | exact Wr (Wr (m:=XI _) (XD (WC ⟨_,rfl,WC h⟩) C7))
end
end HT
namespace L2
open PySem PySem.Spec PyProof.Rows
abbrev TO:=St->Hp->(Option Int->Hp->Prop)->Prop
def PO (X:Cx)(e:Option W4)(t:TO):Prop:=
 ∀ (pins:List (Addr×Obj)) (s:Wz) (σ:St) (H:Hp) (Q:Option Int->Hp->Prop),Inv X pins σ H s->t σ H Q->
  WW (W2 X.prog X.w) X.A (evalPart e X.env) (λu s'=>∃ o H',Inv X pins σ H' s'/\IsPart u o/\Q o H') X.xe s
def Mx:TO:=λ_ H Q=>Q none H
def T4 (t:TE):TO:=λσ H Q=>t σ H λx H1=>∃ i,x=.int i/\Q (some i) H1
theorem intsAre_of {ns:List Int}:∀ {us:List Wv},Vals (ns.map V.int) us->Zy us ns:=by
 induction ns with
 | nil=>intro us r;rw[ZW] at r;cases r;exact .nil
 | cons n ns ih=>
  intro us r
  rw[WN] at r
  cases r with
  | cons r1 r2=>
   obtain ⟨t,e⟩:=r1
   subst e
   exact .cons n t (ih r2)
section
variable {X:Cx} {e:W4} {te:TE} {lo hi:Option W4} {tl th:TO} {pos p2:Pos}
theorem Mp:PO X none Mx:=by
 intro pins s σ H Q I h
 rw[evalPart_none]
 exact WC ⟨none,H,I,.none,h⟩
theorem Mw (h:PE X e te):PO X (some e) (T4 te):=by
 intro pins s σ H Q I hw
 rw[evalPart_some]
 refine thn (h pins s σ H _ I hw) λu s1 ⟨x,H1,I1,r1,q1⟩=>?_
 obtain ⟨i,rfl,q⟩:=q1
 obtain ⟨t,rfl⟩:=r1
 exact ⟨some i,H1,I1,.int i t,q⟩
def SlR (X:Cx)(r:V->Option Int->Option Int->Hp->VK->Prop):Prop:=
 ∀ (pins:List (Addr×Obj)) (s:Wz) (σ:St) (H:Hp) (x:V) (v vl vu:Wv) (lo hi:Option Int) (sl:Addr) (Q:VK),Inv X pins σ H s->RelV x v->s.heap.IsSliceOf sl vl vu .none->IsPart vl lo->IsPart vu hi->r x lo hi H Q->
  ∃ T id,zd0 (.type T) "__getitem__" = pure (some (.builtin id))/\s.TypeIs v T/\WW (W2 X.prog X.w) X.A (zaE v (.ref sl)) (EP X pins σ Q) X.xe s
theorem SlR.or {r r':V->Option Int->Option Int->Hp->VK->Prop}(h:SlR X r)(h':SlR X r'):SlR X (λx lo hi H Q=>r x lo hi H Q∨r' x lo hi H Q):=by
 intro pins s σ H x v vl vu lo hi sl Q I rx hs pl pu q
 rcases q with q | q
 ·exact h pins s σ H x v vl vu lo hi sl Q I rx hs pl pu q
 ·exact h' pins s σ H x v vl vu lo hi sl Q I rx hs pl pu q
def tSl (r:V->Option Int->Option Int->Hp->VK->Prop)(te:TE)(tl th:TO):TE:=λσ H Q=>te σ H λx H1=>tl σ H1 λl H2=>th σ H2 λu H3=>r x l u H3 Q
theorem Kq {r:V->Option Int->Option Int->Hp->VK->Prop}(hr:SlR X r)(he:PE X e te)(hl:PO X lo tl)(hu:PO X hi th):PE X (.Subscript e (.Slice lo hi none p2) pos) (tSl r te tl th):=by
 intro pins s σ H Q I h
 refine zd1 (thn (he pins s σ H _ I h) λv s1 ⟨x,H1,I1,r1,q1⟩=>?_)
 refine wpAny_Slice (thn (hl pins s1 σ H1 _ I1 q1) λvl s2 ⟨l,H2,I2,pl,q2⟩=>thn (hu pins s2 σ H2 _ I2 q2) λvu s3 ⟨u,H3,I3,pu,q3⟩=>?_)
 rw[evalPart_none]
 refine WC ?_
 have I4:Inv X pins σ H3 { s3 with heap:=s3.heap.push { cls:=.type "slice", data:=.fields #[vl,vu,.none] } }:=I3.kept (t':=s3.toks) λb ob q=>Wu _ q
 obtain ⟨T,id,hT,ht,hg⟩:=hr pins { s3 with heap:=s3.heap.push { cls:=.type "slice", data:=.fields #[vl,vu,.none] } } σ H3 x v vl vu l u s3.heap.objs.size Q I4 r1 (zeF ..) pl pu q3
 show WW (W2 X.prog X.w) X.A (zcv e (.Slice lo hi none p2) v (.ref s3.heap.objs.size)) (EP X pins σ Q) X.xe { s3 with heap:=s3.heap.push { cls:=.type "slice", data:=.fields #[vl,vu,.none] } }
 exact tail_any (ops:=[.ref s3.heap.objs.size,v]) ht hT hg (by with_unfolding_all rfl)
def xy (xs:List V)(lo hi:Option Int):List V:=(xs.drop (HT.sIx xs.length 0 lo)).take (HT.sIx xs.length xs.length hi - HT.sIx xs.length 0 lo)
theorem nL (xs:List V)(lo hi:Option Int):(xy xs lo hi).length<=xs.length:=by
 unfold xy
 rw[Z9,zaa]
 omega
def Wl (K:Wq):V->Option Int->Option Int->Hp->VK->Prop:=λx lo hi H Q=>∃ a xs,x=.ref a/\SqT K H a xs/\
 ¬ (HT.sIx xs.length 0 lo=0/\HT.sIx xs.length xs.length hi=xs.length)/\∀ p,H p=none->Q (.ref p) (upd H p (.tup (xy xs lo hi)))
theorem R7:SlR X (Wl X.K):=by
 intro pins s σ H x v vl vu lo hi sl Q I rx hs pl pu h
 obtain ⟨a,xs,rfl,hx,hw,q⟩:=h
 cases rx
 obtain ⟨its,r,ht,hz⟩:=I.tuple hx
 have hlen:its.toArray.size=xs.length:=by rw[WR];exact r.length.symm
 refine ⟨"tuple", _,Xx.lookup,ht.typeIs,?_⟩
 refine HT.mI ht hs pl pu (by rw[hlen];exact hw) ?_ (by rw[hlen];exact hz)
 rw[hlen]
 refine ⟨.ref s.heap.objs.size,_,I.laid (t':=s.toks) (o:=.tup (xy xs lo hi)) (λb ob q=>Wu _ q) (WL _) ?_,rfl,q _ (I.hok.fresh (WL _))⟩
 exact ⟨Xu (nL xs lo hi) hz,_,(r.drop (HT.sIx xs.length 0 lo)).take (HT.sIx xs.length xs.length hi - HT.sIx xs.length 0 lo),vY.new _ _⟩
def Om (K:Wq):R2:=λx y H Q=>∃ a b xs ys,x=.ref a/\y=.ref b/\SqT K H a xs/\SqT K H b ys/\xs≠[]/\xs.length+ys.length<=sizeLine/\
 (ys=[]->Q (.ref a) H)/\(ys≠[]->∀ p,H p=none->Q (.ref p) (upd H p (.tup (xs++ys))))
theorem Vals.wA {xs:List V}{us:List Wv}(r:Vals xs us):us=[]↔xs=[]:=by
 cases r with
 | nil=>simp
 | cons _ _=>simp
theorem MN:OpR X (YN .Add) (Om X.K):=by
 intro pins s σ H x y v u Q I rx ry h
 obtain ⟨a,b,xs,ys,rfl,rfl,ha,hb,hx,hz,q1,q2⟩:=h
 cases rx
 cases ry
 obtain ⟨its,r1,p1,_⟩:=I.tuple ha
 obtain ⟨its2,r2,p2,_⟩:=I.tuple hb
 refine HT.L7 p1 p2 (λz=>hx (r1.wA.mp z)) (λz=>⟨.ref a,H,I,rfl,q1 (r2.wA.mp z)⟩) (λz=>?_) (by rw[← r1.length,← r2.length];exact hz)
 refine ⟨.ref s.heap.objs.size,_,I.laid (t':=s.toks) (o:=.tup (xs++ys)) (λb ob q=>Wu _ q) (WL _) ?_,rfl,q2 (λw=>z (r2.wA.mpr w)) _ (I.hok.fresh (WL _))⟩
 exact ⟨by rw[WG];exact hz,_,r1.append r2,vY.new _ _⟩
end
end L2
namespace L2
open PySem PySem.Spec PyProof.Rows
def ixN (n:Nat)(i:Int):Option Nat:=if 0<=i then (if i < n then some i.toNat else none) else if -(n:Int)<=i then some (i+n).toNat else none
def atI {α:Type}(xs:List α)(i:Int):Option α:=(ixN xs.length i).bind λj=>xs[j]?
theorem Mv {n:Nat}{i:Int}{j:Nat}(h:ixN n i=some j):zck i n=some j/\j < n/\-(n:Int)<=i/\i < n:=by
 unfold ixN at h
 by_cases h0:0<=i
 ·rw[if_pos h0] at h
  by_cases h1:i < n
  ·rw[if_pos h1] at h
   have e:i.toNat=j:=Xq h
   exact ⟨by rw[seqIndex_of h0 h1,e],by omega,by omega,h1⟩
  ·rw[if_neg h1] at h;cases h
 ·rw[if_neg h0] at h
  by_cases h1:-(n:Int)<=i
  ·rw[if_pos h1] at h
   have e:(i+n).toNat=j:=Xq h
   exact ⟨by rw[seqIndex_neg (by omega) h1,e],by omega,h1,by omega⟩
  ·rw[if_neg h1] at h;cases h
theorem vZ {α:Type}{xs:List α}{i:Int}{v:α}(h:atI xs i=some v):∃ j,zck i xs.length=some j/\xs[j]? = some v/\j < xs.length/\-(xs.length:Int)<=i/\i < xs.length:=by
 unfold atI at h
 cases e:ixN xs.length i with
 | none=>rw[e] at h;cases h
 | some j=>
  rw[e] at h
  obtain ⟨h1,h2,h3,h4⟩:=Mv e
  exact ⟨j,h1,h,h2,h3,h4⟩
def Dq (b:W4):Prop:=∀ o i,zb3 b false o i=operate [o,i] (zaE o i)
def IxR (X:Cx)(r:R2):Prop:=
 ∀ (value slice:W4) (pins:List (Addr×Obj)) (s:Wz) (σ:St) (H:Hp) (x y:V) (v u:Wv) (Q:VK),Inv X pins σ H s->RelV x v->RelV y u->r x y H Q->
  zb3 slice false v u=operate [v,u] (zaE v u)->WW (W2 X.prog X.w) X.A (zcv value slice v u) (EP X pins σ Q) X.xe s
def MtR (X:Cx)(id:String)(r:V->List V->Hp->VK->Prop):Prop:=
 ∀ (pins:List (Addr×Obj)) (s:Wz) (σ:St) (H:Hp) (x:V) (xs:List V) (v:Wv) (us:List Wv) (Q:VK),Inv X pins σ H s->RelV x v->Vals xs us->r x xs H Q->
  WW (W2 X.prog X.w) X.A (zbT (.builtin id) (v::us)) (EP X pins σ Q) X.xe s
section
variable {X:Cx} {a b:W4} {ta tb:TE} {pos:Pos}
theorem IxR.or {r r':R2}(h:IxR X r)(h':IxR X r'):IxR X (λx y H Q=>r x y H Q∨r' x y H Q):=by
 intro value slice pins s σ H x y v u Q I rx ry q hs
 rcases q with q | q
 ·exact h value slice pins s σ H x y v u Q I rx ry q hs
 ·exact h' value slice pins s σ H x y v u Q I rx ry q hs
theorem UI {r:R2}(hr:IxR X r)(ha:PE X a ta)(hb:PE X b tb)(hs:Dq b):PE X (.Subscript a b pos) (tOp r ta tb):=by
 intro pins s σ H Q I h
 exact zd1 (QJ ha hb I h λv u s2 x y H2 I2 rx ry q=>hr a b pins s2 σ H2 x y v u Q I2 rx ry q (hs _ _))
def TH (K:Wq):R2:=λx y H Q=>∃ p xs i v,x=.ref p/\y=.int i/\SqL K H p xs/\atI xs i=some v/\Q v H
def Sh (K:Wq):R2:=λx y H Q=>∃ p xs i v,x=.ref p/\y=.int i/\SqT K H p xs/\atI xs i=some v/\Q v H
def S9:R2:=λx y H Q=>∃ z i c,x=.str z/\y=.int i/\z.length<=sizeLine/\atI z.cps.toList i=some c/\Q (.str ⟨#[c]⟩) H
theorem Nl:IxR X (TH X.K):=by
 intro value slice pins s σ H x y v u Q I rx ry h hs
 obtain ⟨p,xs,i,z,rfl,rfl,hq,he,q⟩:=h
 cases rx
 obtain ⟨t,rfl⟩:=ry
 obtain ⟨its,r,pl,hz⟩:=I.list hq
 obtain ⟨j,h1,h2,h3,h4,h5⟩:=vZ he
 obtain ⟨w,ew,rw'⟩:=r.get h2
 have hl:=r.length
 have hn:=ro
 have fin:EP X pins σ Q w s:=⟨z,H,I,rw',q⟩
 by_cases h0:0<=i
 ·have hj:i.toNat=j:=by
   rw[seqIndex_of h0 h5] at h1
   exact Xq h1
  exact item_listR pl.isList h0 (by omega) (by rw[hj];simpa using ew) fin hs
 ·have hj:(i+(its.toArray.size:Int)).toNat=j:=by
   rw[seqIndex_neg (by omega) h4] at h1
   rw[WR,← hl]
   exact Xq h1
  exact zbA (x:=w) pl.isList.typeIs zc0.lookup
   (wpAny_getItem_list_neg (Q:=λr s'=>r=w/\EP X pins σ Q r s') pl.isList (by omega) (by rw[WR]<;>omega) (by omega) (by rw[hj];simpa using ew) ⟨rfl,fin⟩) hs
theorem R0:IxR X (Sh X.K):=by
 intro value slice pins s σ H x y v u Q I rx ry h hs
 obtain ⟨p,xs,i,z,rfl,rfl,hq,he,q⟩:=h
 cases rx
 obtain ⟨t,rfl⟩:=ry
 obtain ⟨its,r,pl,hz⟩:=I.tuple hq
 obtain ⟨j,h1,h2,h3,h4,h5⟩:=vZ he
 obtain ⟨w,ew,rw'⟩:=r.get h2
 have hl:=r.length
 have hn:=ro
 have fin:EP X pins σ Q w s:=⟨z,H,I,rw',q⟩
 exact zbA (x:=w) pl.typeIs slot_tuple_getitem.lookup
  (getItem_tuple (j:=j) (Q:=λr s'=>r=w/\EP X pins σ Q r s') pl (by omega) (by omega) (by rw[WR,← hl];exact h1) (by simpa using ew) ⟨rfl,fin⟩) hs
theorem QF:IxR X S9:=by
 intro value slice pins s σ H x y v u Q I rx ry h hs
 obtain ⟨z,i,c,rfl,rfl,hz,he,q⟩:=h
 obtain ⟨t,rfl⟩:=rx
 obtain ⟨t',rfl⟩:=ry
 obtain ⟨j,h1,h2,h3,h4,h5⟩:=vZ he
 have hl:z.cps.toList.length=z.length:=by simp[Str.length]
 rw[hl] at h1 h4 h5
 have hn:=ro
 exact tail_any (typeIs_str s z t) slot_str_getitem.lookup (getItem_str (c:=c) (by
  have e1:decide (i < -(2 ^ 63:Int))=false:=decide_eq_false (by omega)
  have e2:decide (i ≥ 2 ^ 63)=false:=decide_eq_false (by omega)
  rw[e1,e2,zeg]) (by rw[h1];simpa using h2) ⟨.str ⟨#[c]⟩,H,I.tok _,⟨_,rfl⟩,q⟩) hs
def rIx (K:Wq):R2:=λx y H Q=>TH K x y H Q∨Sh K x y H Q∨S9 x y H Q
theorem QK:IxR X (rIx X.K):=Nl.or (R0.or QF)
theorem Inv.lst {pins:List (Addr×Obj)}{σ:St}{H:Hp}{s:Wz}{p:Addr}{xs:List V}(I:Inv X pins σ H s)(h:H p=some (.lst xs)) :
  ∃ (its:List Wv) (n:Nat),Vals xs its/\s.heap.get? p=some { cls:=.type "list", data:=.seq its.toArray n }/\xs.length<=sizeLine:=by
 obtain ⟨z,its,n,r,e⟩:=I.hok p _ h
 exact ⟨its,n,r,e,z⟩
theorem wJ (lo hi:Option Int)(n:Nat):(ZL lo hi none n).1=((HT.sIx n 0 lo:Nat):Int)/\(ZL lo hi none n).2.1=((HT.sIx n n hi:Nat):Int)/\(ZL lo hi none n).2.2=1:=by
 refine ⟨?_,?_,rfl⟩
 ·cases lo with
  | none=>simp[ZL,HT.sIx]
  | some i=>
   simp only[ZL,HT.sIx,zdu,show (1:Int) > 0 by decide,if_true]
   by_cases h:i < 0
   ·simp only[h,if_true]<;>omega
   ·simp only[h,if_false]<;>omega
 ·cases hi with
  | none=>simp[ZL,HT.sIx]
  | some i=>
   simp only[ZL,HT.sIx,zdu,show (1:Int) > 0 by decide,if_true]
   by_cases h:i < 0
   ·simp only[h,if_true]<;>omega
   ·simp only[h,if_false]<;>omega
theorem sU (its:List Wv)(lo hi:Option Int):slicePick its.toArray lo hi none=((its.drop (HT.sIx its.length 0 lo)).take (HT.sIx its.length its.length hi - HT.sIx its.length 0 lo)).toArray:=by
 obtain ⟨h1,h2,h3⟩:=wJ lo hi its.toArray.size
 unfold slicePick
 rw[h1,h2,h3]
 simp only[sliceRange_one,pick_run,WR]<;>rfl
def Wm (K:Wq):V->Option Int->Option Int->Hp->VK->Prop:=λx lo hi H Q=>∃ a xs,x=.ref a/\SqL K H a xs/\∀ p,H p=none->Q (.ref p) (upd H p (.lst (xy xs lo hi)))
theorem KI:SlR X (Wm X.K):=by
 intro pins s σ H x v vl vu lo hi sl Q I rx hs pl pu h
 obtain ⟨a,xs,rfl,hx,q⟩:=h
 cases rx
 obtain ⟨its,r,ht,hz⟩:=I.list hx
 have hlen:=r.length
 refine ⟨"list", _,zc0.lookup,ht.isList.typeIs,?_⟩
 refine wpAny_getItem_list_slice ht.isList hs pl pu .none (by simp) ?_ (by rw[WR]<;>omega)
 rw[sU,← hlen]
 refine ⟨.ref s.heap.objs.size,_,I.laid (t':=s.toks) (o:=.lst (xy xs lo hi)) (λb ob q=>Wu _ q) (WL _) ?_,rfl,q _ (I.hok.fresh (WL _))⟩
 exact ⟨Xu (nL xs lo hi) hz,_,0,(r.drop (HT.sIx xs.length 0 lo)).take (HT.sIx xs.length xs.length hi - HT.sIx xs.length 0 lo),WJ _ rfl⟩
def OJ:V->Bool
 | .non=>true
 | .bl _=>true
 | .int _=>true
 | .str _=>true
 | _=>false
def eqV:V->V->Bool
 | .non,.non=>true
 | .bl a,.bl b=>a == b
 | .bl a,.int b=>(if a then 1 else 0) == b
 | .int a,.bl b=>a == (if b then 1 else 0)
 | .int a,.int b=>a == b
 | .str a,.str b=>a == b
 | _,_=>false
def inV (x:V)(xs:List V):Bool:=xs.any λy=>eqV y x
def rIn (K:Wq)(neg:Bool):R2:=λx y H Q=>∃ p xs,y=.ref p/\(SqL K H p xs∨SqT K H p xs)/\OJ x=true/\xs.all OJ=true/\Q (.bl (if neg then !inV x xs else inV x xs)) H
theorem vX:bU X (.builtin "len") (λxs H Q=>∃ p ys,xs=[.ref p]/\(SqL X.K H p ys∨SqT X.K H p ys)/\Q (.int ys.length) H):=by
 intro pins s σ H xs us Q I r h
 obtain ⟨p,ys,rfl,hq,q⟩:=h
 obtain ⟨u,rfl,rx⟩:=vals1 r
 cases rx
 have hn:=ro
 rcases hq with hq | hq
 ·obtain ⟨its,r',pl,hz⟩:=I.list hq
  have hlen:=r'.length
  exact Calls.call_len_list pl.isList (by simp only[WR]<;>omega) ⟨.int ys.length,H,I.tok _,⟨s.toks+1,by rw[WR,hlen]⟩,q⟩
 ·obtain ⟨its,r',pl,hz⟩:=I.tuple hq
  have hlen:=r'.length
  exact len_tuple pl (by simp only[WR]<;>omega) ⟨.int ys.length,H,I.tok _,⟨s.toks+1,by rw[WR,hlen]⟩,q⟩
theorem va:bU X (.builtin "len") (λxs H Q=>∃ z,xs=[.str z]/\z.length<=sizeLine/\Q (.int z.length) H):=by
 intro pins s σ H xs us Q I r h
 obtain ⟨z,rfl,hz,q⟩:=h
 obtain ⟨u,rfl,t,rfl⟩:=vals1 r
 have hn:=ro
 exact len_str (by omega) ⟨.int z.length,H,I.tok _,⟨_,rfl⟩,q⟩
theorem bU.or {f:Wv}{r r':List V->Hp->VK->Prop}(h:bU X f r)(h':bU X f r'):bU X f (λxs H Q=>r xs H Q∨r' xs H Q):=by
 intro pins s σ H xs us Q I rs q
 rcases q with q | q
 ·exact h pins s σ H xs us Q I rs q
 ·exact h' pins s σ H xs us Q I rs q
theorem iY:bU X (.type "list") (λxs H Q=>∃ p ys,xs=[.ref p]/\(SqL X.K H p ys∨SqT X.K H p ys)/\∀ l,H l=none->Q (.ref l) (upd H l (.lst ys))):=by
 intro pins s σ H xs us Q I r h
 obtain ⟨p,ys,rfl,hq,q⟩:=h
 obtain ⟨u,rfl,rx⟩:=vals1 r
 cases rx
 have fin:∀ (its:List Wv),Vals ys its->ys.length<=sizeLine->∀ (h':Heap) (c':Nat),(∀ b o',s.heap.get? b=some o'->h'.get? b=some o')->
   h'.get? s.heap.objs.size=some { cls:=.type "list", dict:=none,data:=.seq its.toArray c',slots:=#[] }->EP X pins σ Q (.ref s.heap.objs.size) { s with heap:=h' }:=λits r' hz h' c' kp e=>
  ⟨.ref s.heap.objs.size,_,I.laid (t':=s.toks) kp (WL _) (show cZ X.prog X.w _ h' _ (.lst ys) from ⟨hz,its,c',r',e⟩),rfl,q _ (I.hok.fresh (WL _))⟩
 rcases hq with hq | hq
 ·obtain ⟨its,r',pl,hz⟩:=I.list hq
  have hlen:=r'.length
  obtain ⟨o,ho,hc,n,hd⟩:=pl.isList
  exact call_list_seq p (.inl rfl) ho hc hd (λh' c' kp e=>fin its r' hz h' c' kp e) (by simp only[WR]<;>omega)
 ·obtain ⟨its,r',pl,hz⟩:=I.tuple hq
  have hlen:=r'.length
  obtain ⟨o,ho,hc,n,hd⟩:=pl
  exact call_list_seq p (.inr rfl) ho hc hd (λh' c' kp e=>fin its r' hz h' c' kp e) (by simp only[WR]<;>omega)
theorem aM:bU X (.type "tuple") (λxs H Q=>∃ p ys,xs=[.ref p]/\((SqL X.K H p ys/\∀ l,H l=none->Q (.ref l) (upd H l (.tup ys)))∨(SqT X.K H p ys/\Q (.ref p) H))):=by
 intro pins s σ H xs us Q I r h
 obtain ⟨p,ys,rfl,h⟩:=h
 obtain ⟨u,rfl,rx⟩:=vals1 r
 cases rx
 rcases h with ⟨hq,q⟩ | ⟨hq,q⟩
 ·obtain ⟨its,r',pl,hz⟩:=I.list hq
  have hlen:=r'.length
  refine call_tuple_list pl.isList (λh' kp=>?_) (by simp only[WR]<;>omega)
  have I1:Inv X pins σ H { s with heap:=h' }:=I.kept (t':=s.toks) kp
  have I2:Inv X pins σ (upd H h'.objs.size (.tup ys)) { s with heap:=h'.push { cls:=.type "tuple", data:=.seq its.toArray } }:=
   I1.laid (t':=s.toks) (λb o e=>Wu _ e) (WL _) (show cZ X.prog X.w _ _ _ (.tup ys) from ⟨hz,its,r',vY.new _ _⟩)
  exact ⟨.ref h'.objs.size,_,I2,rfl,q _ (I1.hok.fresh (WL _))⟩
 ·obtain ⟨its,r',pl,hz⟩:=I.tuple hq
  exact call_tuple_same pl ⟨.ref p,H,I,rfl,q⟩
def tyV (K:Wq)(T:String)(x:V)(H:Hp):Prop:=match x with
 | .str _=>T = "str"
 | .int _=>T = "int"
 | .ref p=>(T = "list" /\ ∃ xs,SqL K H p xs)∨(T = "tuple" /\ ∃ o,K.lookup p=some o/\o.cls=.type "tuple" /\ o.dict=none)∨
   (T = "dict" /\ ((∃ kvs,H p=some (.dK kvs))∨∃ kvs,H p=some (.dT kvs)))∨(T = "set" /\ ∃ S n,H p=some (.set S n))
 | _=>False
theorem Py {pins:List (Addr×Obj)}{σ:St}{H:Hp}{s:Wz}{T:String}{x:V}{v:Wv}(I:Inv X pins σ H s)(r:RelV x v)(ty:tyV X.K T x H) :
  s.TypeIs v T/\∀ a,v=.ref a->∃ ob,s.heap.get? a=some ob/\ob.dict=none:=by
 cases x with
 | str z=>
  obtain ⟨t,rfl⟩:=r
  cases (show T = "str" from ty)
  exact ⟨typeIs_str s z t,λ_ e=>nomatch e⟩
 | int i=>
  obtain ⟨t,rfl⟩:=r
  cases (show T = "int" from ty)
  exact ⟨typeIs_int s i t,λ_ e=>nomatch e⟩
 | ref p=>
  cases r
  rcases ty with ⟨rfl,xs,hq⟩ | ⟨rfl,o,hk,hc,hd⟩ | ⟨rfl,hk⟩ | ⟨rfl,S,n,hk⟩
  ·obtain ⟨its,_,pl,_⟩:=I.list hq
   refine ⟨pl.isList.typeIs,λa e=>?_⟩
   cases e
   obtain ⟨o,n,e,c,hd,_⟩:=pl
   exact ⟨o,e,hd⟩
  ·refine ⟨⟨o,I.kIn p o hk,hc⟩,λa e=>?_⟩
   cases e
   exact ⟨o,I.kIn _ o hk,hd⟩
  ·have z:∃ o,s.heap.get? p=some o/\o.ExactDict:=by
    rcases hk with ⟨kvs,hk⟩ | ⟨kvs,hk⟩
    ·obtain ⟨_,_,_,_,o,_,_,e,ex,_⟩:=I.hok p _ hk
     exact ⟨o,e,ex⟩
    ·obtain ⟨_,_,_,_,o,_,_,e,ex,_⟩:=I.hok p _ hk
     exact ⟨o,e,ex⟩
   obtain ⟨o,e,ex⟩:=z
   refine ⟨⟨o,e,ex.1⟩,λa e2=>?_⟩
   cases e2
   exact ⟨o,e,ex.2.1⟩
  ·obtain ⟨o,_,_,_,e,ex,_⟩:=I.hok p _ hk
   refine ⟨⟨o,e,ex.1⟩,λa e2=>?_⟩
   cases e2
   exact ⟨o,e,ex.2.1⟩
 | _=>exact WA ty
def tBM (K:Wq)(T:String)(r:V->List V->Hp->VK->Prop)(to:TE)(t:TA):TE:=λσ H Q=>to σ H λx H1=>tyV K T x H1/\t σ H1 λxs H2=>r x xs H2 Q
variable {o e:W4} {es:List W4} {to:TE} {t:TA} {name:Str} {apos cpos:Pos} {T id:String} {r:V->List V->Hp->VK->Prop}
theorem xu (pa:PlainAttrs T)(slot:Slot T name id)(hty:typeOf (.builtin id)=pure (.type "method_descriptor"))(hm:MtR X id r)(ho:PE X o to)(ha:PA X (e::es) t)
  (hbase:Y5 o name X.env (XG o X.env)=XG o X.env:=by rfl)
  (hfew:((XM cpos (WI (e::es) X.env)).all (λx=>!x.1)&&(zaj cpos (YS [] X.env)).all (λx=>x.1.isSome)
   && decide ((e::es).length+([]:List YW).length+(if ([]:List YW).isEmpty then 0 else 1) < 30))=true:=by rfl)
  (hline:(apos.endLine == cpos.line)=true:=by rfl) (hs:WI (e::es) X.env=(false,XG e X.env)::WI es X.env:=by rfl) (hplain:(XM cpos (WI es X.env)).any (·.1)=false:=by rfl) :
  PE X (.Call (.Attribute o name apos) (e::es) [] cpos) (tBM X.K T r to t):=by
 intro pins s σ H Q I h
 refine wpAny_Call_method_late hbase hfew hline rfl (thn (ho pins s σ H _ I h) λv s1 ⟨x,H1,I1,r1,ty,q1⟩=>?_)
 obtain ⟨h1,h2⟩:=Py I1 r1 ty
 refine ⟨T,id,pa,slot,hty,h1,h2,?_⟩
 have hA:=ha cpos pins s1 σ H1 _ I1 q1
 rw[hs] at hA ⊢
 refine zbB (by show (false || (XM cpos (WI es X.env)).any (·.1))=false;rw[hplain]<;>rfl) (zb4 ?_)
 exact thn hA λus s2 ⟨vs,H2,I2,r2,q2⟩=>hm pins s2 σ H2 x vs v us Q I2 r1 r2 q2
end
end L2
namespace L2
open PySem PySem.Spec PyProof.Rows
def MtM (X:Cx)(id:String)(r:V->List V->Hp->VK->Prop):Prop:=
 ∀ (pins:List (Addr×Obj)) (s:Wz) (σ:St) (H:Hp) (x:V) (xs:List V) (v:Wv) (us:List Wv) (Q:VK),Inv X pins σ H s->RelV x v->Vals xs us->r x xs H Q->
  WW (W2 X.prog X.w) X.A (zbT (.builtin id) (v::us)) (EP X pins σ Q) X.xe s
theorem Vals.one:∀ {x:V} {us:List Wv},Vals [x] us->∃ u,us=[u]/\RelV x u
 | _,_,.cons r .nil=>⟨_,rfl,r⟩
theorem Vals.zero:∀ {us:List Wv},Vals [] us->us=[]
 | _,.nil=>rfl
theorem Vals.eraseIdx:∀ {xs:List V} {us:List Wv} (i:Nat),Vals xs us->Vals (xs.eraseIdx i) (us.eraseIdx i)
 | _,_,_,.nil=>.nil
 | _,_,0,.cons _ t=>t
 | _,_,i+1,.cons r t=>.cons r (Vals.eraseIdx i t)
theorem uM {α:Type}:∀ (l:List α) (i:Nat),(l.eraseIdx i).length<=l.length
 | [],_=>WL _
 | _::_,0=>zal _
 | _::r,i+1=>zbj (uM r i)
section
variable {X:Cx} {pins:List (Addr×Obj)} {σ:St} {H:Hp} {s:Wz} {l b:Addr} {xs ys zs:List V}
theorem Inv.Nb {its its':List Wv}{n:Nat}{f:Array Wv->Array Wv}{t':Nat}(I:Inv X pins σ H s)(hH:H l=some (.lst xs))
  (e:s.heap.get? l=some { cls:=.type "list", data:=.seq its.toArray n }) (hf:f its.toArray=its'.toArray) (hv:Vals ys its') (hz:ys.length<=sizeLine) :
  Inv X pins σ (upd H l (.lst ys)) { s with heap:=s.heap.update l (zaP f),toks:=t' }:=by
 have q:=PySem.IsL.update e f
 rw[hf] at q
 refine I.write (x:=l) (e:=l) (by rw[hH];exact trivial) (.inl rfl) (λb' u hb hu=>(XF s.heap (zaP f) (WX hb)).trans hu) ⟨_,q⟩ ?_
 exact ⟨hz,its',_,hv,q⟩
theorem Inv.V9 {its:List Wv}{t':Nat}(I:Inv X pins σ H s)(hv:Vals ys its)(hz:ys.length<=sizeLine) :
  Inv X pins σ (upd H s.heap.objs.size (.lst ys)) { s with heap:=s.heap.push { cls:=.type "list", data:=.seq its.toArray },toks:=t' }:=
 I.laid (λ_ _ q=>Wu _ q) (WL _) ⟨hz,its,0,hv,WJ _ rfl⟩
theorem Inv.fresh (I:Inv X pins σ H s):H s.heap.objs.size=none:=I.hok.fresh (WL _)
theorem Inv.NZ (I:Inv X pins σ H s)(hH:H l=some (.lst xs)):xs.length<=sizeLine/\∃ (its:List Wv) (n:Nat),Vals xs its/\xs.length=its.length/\s.heap.get? l=some { cls:=.type "list", data:=.seq its.toArray n }:=by
 obtain ⟨z,its,n,r,e⟩:=I.hok l _ hH
 exact ⟨z,its,n,r,r.length,e⟩
theorem Ac {n:Nat}(h:n<=sizeLine):XX n=false:=by
 unfold XX
 exact decide_eq_false (by omega)
end
section
variable {X:Cx}
def MM:V->List V->Hp->VK->Prop:=λx vs H Q=>∃ l xs y,x=.ref l/\vs=[y]/\H l=some (.lst xs)/\xs.length < sizeLine/\Q .non (upd H l (.lst (xs++[y])))
theorem uH:MtM X "list.append" MM:=by
 intro pins s σ H x vs v us Q I rx rv h
 obtain ⟨l,xs,y,rfl,rfl,hH,hz,q⟩:=h
 cases rx
 obtain ⟨u,rfl,ru⟩:=rv.one
 obtain ⟨z,its,n,r,hl,e⟩:=I.NZ hH
 refine zab F.slot_list_append ⟨_,e,rfl⟩ F.entry_list_append (F.args_list_append_2 _ _) (PySem.list_append l its.toArray n u (by rw[WR];omega)) ⟨e,?_⟩
 refine ⟨.non,_,I.Nb (its':=its++[u]) hH e (by simp) (r.append (.cons ru .nil)) ?_,rfl,q⟩
 rw[WG,List.length_singleton]
 omega
def PJ:V->List V->Hp->VK->Prop:=λx vs H Q=>∃ l xs i k y,x=.ref l/\vs=[.int i]/\H l=some (.lst xs)/\-(2 ^ 63)<=i/\i < 2 ^ 63/\zck i xs.length=some k/\xs[k]? = some y/\Q y (upd H l (.lst (xs.eraseIdx k)))
theorem FK:MtM X "list.pop" PJ:=by
 intro pins s σ H x vs v us Q I rx rv h
 obtain ⟨l,xs,i,k,y,rfl,rfl,hH,h1,h2,hk,hy,q⟩:=h
 cases rx
 obtain ⟨u,rfl,ru⟩:=rv.one
 obtain ⟨t,rfl⟩:=ru
 obtain ⟨z,its,n,r,hl,e⟩:=I.NZ hH
 obtain ⟨w,hw,rw'⟩:=r.get hy
 refine zab F.slot_list_pop ⟨_,e,rfl⟩ F.entry_list_pop (F.args_list_pop_2 _ _)
  (MeetsSeq.list_pop_at l its.toArray n i t k w (fitsIndex_both h1 h2) (by rw[WR,← hl];exact hk) (by rw[← Array.getElem?_toList];exact hw) (by rw[WR];omega)) ⟨e,?_⟩
 refine ⟨y,_,I.Nb (its':=its.eraseIdx k) hH e ?_ (r.eraseIdx k) ?_,rw',q⟩
 ·show its.toArray.eraseIdxIfInBounds k=(its.eraseIdx k).toArray
  rw[List.eraseIdxIfInBounds_toArray]
 ·have:=uM xs k
  omega
end
section
variable {prog:W9} {w:Xm} {A:XC} {E:Wv->Wz->Prop} {s:Wz}
end
section
variable {X:Cx}
end
end L2
namespace Att
open PySem PySem.W PySem.Calls PyProof.Rows
theorem pI {P:zd2}{h:Heap}:∀ (ns:List Int) (vs:List Wv),WellAll P h vs (ns.map WData.int)->Zy vs ns:=by
 intro ns
 induction ns with
 | nil=>
  intro vs w
  rw[ZW] at w
  cases w
  exact .nil
 | cons n ns ih=>
  intro vs w
  rw[WN] at w
  cases w with
  | cons a b=>
   cases a
   exact .cons _ _ (ih _ b)
theorem Fc {l:OpenLaw}{n:Nat}(hn:l.most=some n){P:zd2}{h:Heap}{args:List WData}{vals:List Wv}
  (hpre:l.row.toRowW.claim.pre args=true) (hwl:WellAll P h vals args) :
  ∃ a vs ns,vals=[Xa a]/\args=[WData.list (ns.map WData.int)]/\h.get? a=some { cls:=.type "list", data:=.seq vs.toArray }/\Zy vs ns/\ns.length<=n:=by
 have hsh:WShape.hasAll [] args [.list .int]=true:=(pre_splitW hpre).1
 have hc:l.pre.holds [] { args:=args }=true:=(pre_splitW hpre).2
 obtain ⟨d,r,rfl,h1,h2⟩:=hasAllW_cons hsh
 obtain rfl:=hasAllW_nil h2
 obtain ⟨xs,rfl,h3⟩:=hasW_list h1
 obtain ⟨ns,rfl⟩:=items_int h3
 have hlen:ns.length<=n:=by
  unfold OpenLaw.pre at hc
  have h4:(WTm.not (.lt (.lit (.int (n:Int))) (.len (.arg 0)))).holds [] { args:=[.list (ns.map .int)] }=true:=by
   have h4:=(holds_andW hc).1
   rw[hn] at h4
   exact h4
  have h5:=condW_of h4 (w_not (w_lt w_lit (w_len_list (w_arg rfl))))
  rw[Ww] at h5
  refine Nat.le_of_not_lt λq=>?_
  have q':(n:Int) < ((ns.length:Nat):Int):=by omega
  first
   | (rw[decide_eq_true q'] at h5;exact absurd h5 (by decide))
   | (simp at h5;omega)
 cases hwl with
 | cons w1 w2=>
  cases w2
  cases w1 with
  | list ho hall=>exact ⟨_,_,ns,rfl,rfl,ho,pI ns _ hall,hlen⟩
theorem Eb (l:OpenLaw)(args:List WData):l.row.toRowW.claim.post args (.bool true) args=true:=
 postW_of (r:=l.row.toRowW) (X:=(true == true))
  (show zeG [] (.bool true) .bool=true by first | rfl | decide | simp[zeG,WShape.arms,WShape.armsAll])
  (show (WTm.eq .res (.lit (.bool true))).value [] { args:=args,res:=some (.bool true),after:=args }=some (.bool (true == true)) from w_eq_bool (w_res rfl) w_lit) rfl
theorem yR {l:OpenLaw}{n:Nat}{q:W9}{loose:List Str}{XP:(Str->Option Wv)->Heap->Prop}{YP:Xm->Heap->Prop}{d:DefRec}
  (hn:l.most=some n) (hdf:d.params.defaults=[])
  (zbT:∀ (w:Xm) (s₀ s₁:Wz) (mg mb:Str->Option Wv) (fa:Addr) (o:Obj) (pm cd doc:Wv) (a:Addr) (vs:List Wv) (ns:List Int),
   Ground q loose [] XP w s₀ mg mb s₁.heap->YP w s₁.heap->
   s₁.heap.get? fa=some o->o.data=.func (docDef d.name d.params d.body d.scope pm cd doc)->s₁.heap.CodeRec cd d.name->mg d.name=some (.ref fa)->
   s₁.heap.get? a=some { cls:=.type "list", data:=.seq vs.toArray }->Zy vs ns->ns.length<=n->s₁.gens = #[]->
   Za (W2 l.prog w) zbC (.call (.ref fa) ⟨[.ref a],[]⟩) (λr s'=>r=.ok (.ret (.bool true))/\OldK s₁.heap s'.heap/\s'.os=s₁.os/\za2 s'.gens) s₁) :
  WalkO q loose XP YP l.row.toRowW d [] (λf vs=>zd3 f vs):=by
 intro w s₀ s₁ mg mb G Y fa o pm cd doc dV kV ho hd hcd hD hmg hg args vals as hpre hlay hrd hwl hlo
 obtain rfl:dV=.none:=Dflts.none hD hdf
 obtain rfl:kV=.none:=Dflts.noKw hD
 obtain ⟨a,vs,ns,rfl,rfl,hobj,hints,hlen⟩:=Fc hn hpre hwl
 refine enter_call (zcY (zbT w s₀ s₁ mg mb fa o pm cd doc a vs ns G Y ho (fd_plain hd) hcd hmg hobj hints hlen hg) λr s' hq=>?_)
 obtain ⟨rfl,h2,h3,h4⟩:=hq
 exact ⟨.inl ⟨.bool true,.bool true,[],rfl,λ_=>rfl,.bool true,Eb l _,λ_=>⟨zeI,λ_ hm=>(nomatch hm)⟩⟩,h2,h3,h4⟩
section
variable {prog:W9} {w:Xm} {A:XC} {E:Wv->Wz->Prop} {s:Wz} {K:Frag}
end
end Att
namespace L2
open PySem PySem.Spec PyProof.Rows
theorem tZ:∀ {vs:List Wv} {ns:List Int},Zy vs ns->Vals (ns.map V.int) vs
 | _,_,.nil=>.nil
 | _,_,.cons n t h=>.cons ⟨t,rfl⟩ (tZ h)
def Ms (H:Hp):Prop:=∀ b,H b=none∨∃ o xs,H b=some (.frz o (.lst xs))
theorem JN {P:W9}{w:Xm}{K:Wq}{mg mb:Str->Option Wv}{CX:CXT}{k:Nat}{fa a:Addr}{fd:WT}{x:Str}{sp:Sp}{s₁:Wz}{vs:List Wv}{ns:List Int}
  (KX:K.In s₁.heap) (hns:s₁.heap.Ns X2 mg) (hb:s₁.heap.Ns zdT mb) (hbb:∀ x:Str,x ≠ "__name__" -> mb x=XR x) (hlim:s₁.heap.NoLimit) (hg:s₁.gens = #[])
  (ha:s₁.heap.get? a=some { cls:=.type "list", data:=.seq vs.toArray }) (hi:Zy vs ns) (hl:ns.length<=sizeLine) (hr:gm k zbC)
  (F:∀ base:Heap,K.In base->base.Ns X2 mg->jf P w K mg base CX k fa fd [x] sp) (hbind:∀ (s:Wz) (u:Wv),zcX s fd ⟨[u],[]⟩ [(x,u)])
  (hsp:∀ H:Hp,Ms H->SqL K H a (ns.map V.int)->sp [.ref a] H (λv _=>v=.bl true) λ_ _ _=>False)
  (hCX:∀ H e s',CX [] H s₁ (λ_ _ _=>False) e s'->False) :
  Za (W2 P w) zbC (.call (.ref fa) ⟨[.ref a],[]⟩) (λr s'=>r=.ok (.ret (.bool true))/\OldK s₁.heap s'.heap/\s'.os=s₁.os/\za2 s'.gens) s₁:=by
 have rv:=tZ hi
 have Wn:=hi.length
 -- from an abstract heap in which nothing but the script may be tracked
 have core:∀ H:Hp,Ms H->SqL K H a (ns.map V.int)->HOk P w H s₁.heap->(∀ b,H b≠none->b=a)->(H a≠none->K.lookup a=none)->
   Za (W2 P w) zbC (.call (.ref fa) ⟨[.ref a],[]⟩) (λr s'=>r=.ok (.ret (.bool true))/\OldK s₁.heap s'.heap/\s'.os=s₁.os/\za2 s'.gens) s₁:=by
  intro H hO hS hok hA hK
  have base_of:∀ {b:Addr} {o:Obj},s₁.heap.get? b=some o->H b=none->(wN s₁.heap H).get? b=some o:=λe n=>IT e n
  have noA:∀ {b:Addr} {o:Obj} {es:Array DictEntry} {ep:Nat},s₁.heap.get? b=some o->o.data=.dict es ep->H b=none:=λ{b o es ep} e d=>by
   cases q:H b with
   | none=>rfl
   | some u=>
    have e':b=a:=hA b (by rw[q];simp)
    subst e'
    rw[ha] at e;cases e
    have d':Data.seq vs.toArray _=Data.dict es ep:=d
    cases d'
  have nsK:∀ {b:Addr} {m:Str->Option Wv},s₁.heap.Ns b m->(wN s₁.heap H).Ns b m:=λ{b m} ⟨o,es,ep,e,d,r⟩=>⟨o,es,ep,base_of e (noA e d),d,r⟩
  have hKb:K.In (wN s₁.heap H):=λb o e=>base_of (KX b o e) (by
   cases q:H b with
   | none=>rfl
   | some u=>
    have e':b=a:=hA b (by rw[q];simp)
    subst e'
    rw[hK (by rw[q];simp)] at e;cases e)
  have hM:Mod K mg (wN s₁.heap H):=⟨hKb,nsK hns,⟨mb,nsK hb,hbb⟩,let ⟨mc,h1,h2⟩:=hlim;⟨mc,nsK h1,h2⟩⟩
  have e0:KC P w K mg (wN s₁.heap H) zbC [] s₁ H:=⟨rfl,hM,λb o e=>KY e,Nat.le_of_eq (EW _ _),trivial,λb hb=>absurd (show b∈([]:List Addr) from hb) (by simp),hok,.of_eq hg⟩
  refine zcY ((F _ hKb (nsK hns)).run zbC [] s₁ H ⟨[.ref a],[]⟩ [.ref a] [.ref a] _ _ hr e0 (hbind s₁ (.ref a)) (.cons rfl .nil) (hsp H hO hS)) λr s' h=>?_
  cases r with
  | error e=>exact (hCX H e s' h).elim
  | ok fl=>
   cases fl with
   | next=>exact WA h
   | brk=>exact WA h
   | cont=>exact WA h
   | ret u=>
    obtain ⟨v,H',os,bare,un,hok',r',q⟩:=h
    have q':v=.bl true:=q
    subst q'
    obtain rfl:u=zaI true:=r'
    refine ⟨rfl,OldK.of_keep λb o e=>?_,os,bare⟩
    cases q:H b with
    | none=>exact un.keep b o e q (by intro z;exact absurd (show b∈([]:List Addr) from z) (by simp)) (by simp)
    | some u=>
     rcases hO b with z | ⟨ob,xs,z⟩
     ·rw[q] at z;cases z
     ·have z2:=un.nq b ob _ z
      obtain ⟨e1,_⟩:=hok b _ z
      obtain ⟨e2,_⟩:=hok' b _ z2
      rw[e] at e1;cases e1
      exact e2
 cases hk:K.lookup a with
 | some o=>
  -- the script is one of the module's own objects
  have e:=KX a o hk
  rw[ha] at e
  cases e
  refine core (λ_=>none) (λ_=>.inl rfl) (.inr ⟨_,vs.toArray,_,hk,rfl,rfl,rfl,by rw[WR,Wn];exact hl,by simpa using rv⟩) (λb u z=>by have z':(none:Option HO)=some u:=z;cases z') (λb z=>absurd rfl z) λz=>absurd rfl z
 | none=>
  refine core (λb=>if b=a then some (.frz { cls:=.type "list", data:=.seq vs.toArray } (.lst (ns.map V.int))) else none) (λb=>?_) (.inl (.inr ⟨{ cls:=.type "list", data:=.seq vs.toArray },if_pos rfl⟩)) (λb u z=>?_) (λb z=>?_) λ_=>hk
  ·by_cases hb:b=a
   ·exact .inr ⟨_,_,if_pos hb⟩
   ·exact .inl (if_neg hb)
  ·by_cases hb:b=a
   ·have z':=(if_pos hb).symm.trans z
    cases z'
    subst hb
    exact ⟨ha,by rw[Ww];exact hl,vs,_,rv,ha⟩
   ·have z':=(if_neg hb).symm.trans z
    cases z'
  ·by_cases hb:b=a
   ·exact hb
   ·exact absurd (if_neg hb) z
end L2
namespace L2
open PySem PySem.Spec PyProof.Rows
theorem NV {l:zbK}{n k:Nat}{q:W9}{loose:List Str}{XP:(Str->Option Wv)->Heap->Prop}{YP:Xm->Heap->Prop}{d:DefRec}{K:zd2->Wq}{CX:Xm->CXT}{sp:Xm->Sp}{x:Str}
  (hn:l.most=some n) (hn2:n<=sizeLine) (hdf:d.params.defaults=[]) (hr:gm k zbC)
  (hY:∀ (w:Xm) (h:Heap),YP w h->(K w.params).In h)
  (F:∀ (w:Xm) (mg:Str->Option Wv) (fa:Addr) (h:Heap),(K w.params).In h->h.Ns X2 mg->mg d.name=some (.ref fa)->
   ∃ fd:WT,(∀ (s:Wz) (u:Wv),zcX s fd ⟨[u],[]⟩ [(x,u)])/\
    ∀ base:Heap,(K w.params).In base->base.Ns X2 mg->jf l.prog w (K w.params) mg base (CX w) k fa fd [x] (sp w))
  (hsp:∀ (w:Xm) (H:Hp) (a:Addr) (ns:List Int),ns.length<=n->Ms H->SqL (K w.params) H a (ns.map V.int)->sp w [.ref a] H (λv _=>v=.bl true) λ_ _ _=>False)
  (hCX:∀ (w:Xm) (H:Hp) (s:Wz) (e:Wv) (s':Wz),CX w [] H s (λ_ _ _=>False) e s'->False) :
  zeh q loose XP YP l.row.toRowW d [] (λf vs=>zd3 f vs):=by
 refine Att.yR hn hdf λw s₀ s₁ mg mb fa o pm cd doc a vs ns G Y ho hd hcd hmg hobj hints hlen hg=>?_
 have KX:=hY w _ Y
 obtain ⟨fd,hb,hF⟩:=F w mg fa _ KX G.T.g hmg
 exact JN KX G.T.g G.T.b G.T.builtins G.T.nolimit hg hobj hints (Xu hlen hn2) hr hF hb (λH hO hS=>hsp w H a ns hlen hO hS) λH e s'=>hCX w H s₁ e s'
end L2
namespace L2
open PySem PySem.Spec PyProof.Rows
def mi (s:Stmt):Arguments:=match s with
 | .FunctionDef _ a _ _ _ _ _ _ _ _=>a
 | _=>{ posonlyargs:=[],args:=[],vararg:=none,kwonlyargs:=[],kw_defaults:=[],kwarg:=none,defaults:=[] }
def gn (s:Stmt):List Stmt:=match s with
 | .FunctionDef _ _ b _ _ _ _ _ _ _=>b
 | _=>[]
def av (s:Stmt):Scope:=match s with
 | .FunctionDef _ _ _ _ _ _ sc _ _ _=>sc
 | _=>{ kind:=.function,names:=[],isGenerator:=false,isCoroutine:=false }
abbrev CX0:CXT:=λ_ _ _ _ _ _=>False
abbrev E0:XK:=λ_ _ _=>False
theorem Ux {X:Cx}:Passes CX0 X E0:=λ_ _ _ _ _ _ _ h=>h.elim
structure Fun (K:Wq) (x qual:Str) (st:Stmt) (f:Addr) (fd:WT):Prop where
 ex:∃ (oc:Wv) (od:Option Addr) (kV doc pm:Wv) (an:Option Addr) (cdv ct:Wv) (osl:Array (Option Wv)),
  fd=Zl x qual (mi st) (gn st) (av st) .none kV doc pm an cdv ct/\K.lookup f=some ⟨oc,od,.func fd,osl⟩/\zb2 K cdv qual=true
 kp:ZU K (.ref f)=true
section
variable {P:W9} {w:Xm} {K:Wq} {mg:Str->Option Wv} {base:Heap}
theorem Fun.ok {x qual:Str}{st:Stmt}{f:Addr}{fd:WT}{N ps:List Str}{k:Nat}{sp:Sp}(F:Fun K x qual st f fd)(S:aG N ps (av st))(len:∀ vs H Q E,sp vs H Q E->vs.length=ps.length)
  (hbody:∀ (cdv:Wv) (A:XC) (outer:List Env) (s:Wz) (H:Hp) (vs:List V) (Q:VK) (E:XK),gm k (A.deeper (zaM qual (av st) s.heap.objs.size f cdv))->sp vs H Q E->
   ∃ t,PSs (yS CX0 P w K mg base N qual (av st) f cdv A outer s H E).nox (gn st) t/\t { nx:=λ_ H'=>Q .non H',rt:=Q } (start N vs) H):jf P w K mg base CX0 (k+1) f fd ps sp:=by
 obtain ⟨oc,od,kV,doc,pm,an,cdv,ct,osl,rfl,lk,hcd⟩:=F.ex
 refine Sg lk hcd S len λA outer s H vs Q E hr hsp=>?_
 obtain ⟨t,h,q⟩:=hbody cdv A outer s H vs Q E hr hsp
 exact ⟨t,h.nox,q⟩
theorem Fun.binds {x qual:Str}{st:Stmt}{f:Addr}{fd:WT}{ps:List Str}(F:Fun K x qual st f fd)
  (h:∀ (kV doc pm:Wv) (an:Option Addr) (cdv ct:Wv) (us:List Wv),us.length=ps.length->bindArgs (Zl x qual (mi st) (gn st) (av st) .none kV doc pm an cdv ct) ⟨us,[]⟩=pure (ps.zip us)):Binds K fd ps []:=by
 obtain ⟨oc,od,kV,doc,pm,an,cdv,ct,osl,rfl,lk,hcd⟩:=F.ex
 exact .all (h kV doc pm an cdv ct)
theorem aR {x qual:Str}{st:Stmt}{f:Addr}{oc:Wv}{od an:Option Addr}{osl:Array (Option Wv)}{kV doc pm cdv ct:Wv}(l:K.lookup f=some ⟨oc,od,.func (Zl x qual (mi st) (gn st) (av st) .none kV doc pm an cdv ct),osl⟩)
  (c:zb2 K cdv qual=true) (k:ZU K (.ref f)=true):Fun K x qual st f (Zl x qual (mi st) (gn st) (av st) .none kV doc pm an cdv ct):=⟨⟨oc,od,kV,doc,pm,an,cdv,ct,osl,rfl,l,c⟩,k⟩
end
section
variable {X:Cx}
theorem pv (i:Nat){x:Str}{pos:Pos}(hN:X.N[i]? = some x:=by rfl)(hv:Vis X.env.scope x:=by first | exact ZX rfl | exact ZY (ZX rfl) | exact ZY (ZY rfl))(hd:(x == ("__debug__" : Str))=false:=by decide)
  (hcd:(x == ("__classdict__" : Str))=false:=by decide):PE X (.Name x pos) (TY i):=JQ hN hv hd hcd
end
theorem pw {A B:Prop}(h:B):if false=true then A else B:=by
 rw[if_neg YU]
 exact h
theorem pk {A B:Prop}(h:A):if true=true then A else B:=by
 rw[if_pos rfl]
 exact h
def zr (H H':Hp):Prop:=∀ b o,H b=some o->H' b=some o
theorem zr.trans {H H1 H2:Hp}(a:zr H H1)(b:zr H1 H2):zr H H2:=λc o h=>b c o (a c o h)
theorem zr.free {H H':Hp}(e:zr H H'){l:Addr}(h:H' l=zeB):H l=zeB:=by
 cases q:H l with
 | none=>rfl
 | some o=>
  rw[e l o q] at h
  cases h
theorem zr.seq {K:Wq}{H H':Hp}{a:Addr}{xs:List V}(e:zr H H')(h:SqL K H a xs):SqL K H' a xs:=by
 rcases h with (h | ⟨o,h⟩) | h
 ·exact .inl (.inl (e _ _ h))
 ·exact .inl (.inr ⟨o,e _ _ h⟩)
 ·exact .inr h
end L2
namespace L2
open PySem PySem.Spec PyProof.Rows
section
variable {κ:Type} [DecidableEq κ]
def gT (kvs:List (κ×V))(k:κ):Option V:=(kvs.find? λkv=>decide (kv.1=k)).map (·.2)
def putK (kvs:List (κ×V))(k:κ)(v:V):List (κ×V):=
 if (kvs.any λkv=>decide (kv.1=k))=true then kvs.map (λkv=>if kv.1=k then (kv.1,v) else kv) else kvs++[(k,v)]
def Ow (kvs:List (κ×V))(k:κ):List (κ×V):=kvs.filter λkv=>decide (kv.1≠k)
theorem lU {p:κ×V}{r:List (κ×V)}{k:κ}(e:p.1=k):gT (p::r) k=some p.2:=by simp[gT,XB,e]
theorem mJ {p:κ×V}{r:List (κ×V)}{k:κ}(e:¬ p.1=k):gT (p::r) k=gT r k:=by simp[gT,XB,e]
theorem qO (k:κ):∀ kvs:List (κ×V),(kvs.any λkv=>decide (kv.1=k))=(gT kvs k).isSome
 | []=>rfl
 | p::r=>by
  rw[YG]
  by_cases e:p.1=k
  ·simp only[lU e,decide_eq_true e,zer,Option.isSome_some]
  ·rw[mJ e,decide_eq_false e,zcw];exact qO k r
theorem jz (kvs:List (κ×V))(k:κ)(v:V):(putK kvs k v).length<=kvs.length+1:=by
 unfold putK
 split
 ·rw[Ww];omega
 ·rw[WG,W6,zaw];omega
theorem Gr {kvs:List (κ×V)}{k:κ}(v:V)(h:gT kvs k=none):putK kvs k v=kvs++[(k,v)]:=by
 unfold putK
 rw[qO,h]
 exact if_neg (by decide)
theorem oZ.DM {o:Option V}{u:Option Wv}(r:oZ o u):o.isSome=u.isSome:=by
 cases o with
 | none=>cases u with
  | none=>rfl
  | some _=>exact (show False from r).elim
 | some _=>cases u with
  | none=>exact (show False from r).elim
  | some _=>rfl
theorem oZ.getD {o:Option V}{u:Option Wv}{d:V}{d':Wv}(r:oZ o u)(rd:RelV d d'):RelV (o.getD d) (u.getD d'):=by
 cases o with
 | none=>cases u with
  | none=>exact rd
  | some _=>exact (show False from r).elim
 | some _=>cases u with
  | none=>exact (show False from r).elim
  | some _=>exact r
theorem KV.val {kvs:List (κ×V)}{vs:List (κ×Wv)}(r:KV kvs vs)(k:κ):oZ (gT kvs k) (zcl vs k):=by
 unfold KV at r
 induction r with
 | nil=>exact Yc
 | @cons p q ps qs h t ih=>
  obtain ⟨h1,h2⟩:=h
  by_cases e:p.1=k
  ·have e':q.1=k:=h1.symm.trans e
   have b:zcl (q::qs) k=some q.2:=by simp[zcl,XB,e']
   rw[lU e,b];exact h2
  ·have e':¬ q.1=k:=λz=>e (h1.trans z)
   have b:zcl (q::qs) k=zcl qs k:=by simp[zcl,XB,e']
   rw[mJ e,b];exact ih
theorem KV.any {kvs:List (κ×V)}{vs:List (κ×Wv)}(r:KV kvs vs)(k:κ):(kvs.any λkv=>decide (kv.1=k))=vs.any λkv=>decide (kv.1=k):=by
 unfold KV at r
 induction r with
 | nil=>rfl
 | cons h t ih=>rw[YG,YG,ih,h.1]
theorem KV.Qh {kvs:List (κ×V)}{vs:List (κ×Wv)}(r:KV kvs vs)(k:κ){y:V}{u:Wv}(ry:RelV y u) :
  KV (kvs.map λkv=>if kv.1=k then (kv.1,y) else kv) (vs.map λkv=>if kv.1=k then (kv.1,u) else kv):=by
 unfold KV at r ⊢
 induction r with
 | nil=>exact .nil
 | @cons p q ps qs h t ih=>
  rw[WN,WN]
  refine .cons ?_ ih
  obtain ⟨h1,h2⟩:=h
  by_cases e:p.1=k
  ·rw[if_pos e,if_pos (h1.symm.trans e)];exact ⟨h1,ry⟩
  ·rw[if_neg e,if_neg (λz=>e (h1.trans z))];exact ⟨h1,h2⟩
theorem KV.put {kvs:List (κ×V)}{vs:List (κ×Wv)}(r:KV kvs vs)(k:κ){y:V}{u:Wv}(ry:RelV y u):KV (putK kvs k y) (stored vs k u):=by
 unfold putK stored
 rw[r.any k]
 by_cases e:(vs.any λkv=>decide (kv.1=k))=true
 ·rw[if_pos e,if_pos e];exact r.Qh k ry
 ·rw[if_neg e,if_neg e];exact zeC r ⟨rfl,ry⟩
theorem KV.drop {kvs:List (κ×V)}{vs:List (κ×Wv)}(r:KV kvs vs)(k:κ):KV (Ow kvs k) (without vs k):=by
 unfold KV at r ⊢
 unfold Ow without
 induction r with
 | nil=>exact .nil
 | @cons p q ps qs h t ih=>
  obtain ⟨h1,h2⟩:=h
  rw[zac,zac]
  by_cases e:p.1=k
  ·have a:¬ decide (p.1≠k)=true:=by simp[e]
   have b:¬ decide (q.1≠k)=true:=by simp[h1.symm.trans e]
   rw[if_neg a,if_neg b];exact ih
  ·have e':¬ q.1=k:=λz=>e (h1.trans z)
   have a:decide (p.1≠k)=true:=by simp[e]
   have b:decide (q.1≠k)=true:=by simp[e']
   rw[if_pos a,if_pos b];exact .cons ⟨h1,h2⟩ ih
theorem KV.keys {kvs:List (κ×V)}{vs:List (κ×Wv)}(r:KV kvs vs):kvs.map (·.1)=vs.map (·.1):=by
 unfold KV at r
 induction r with
 | nil=>rfl
 | cons h t ih=>rw[WN,WN,ih,h.1]
theorem KV.length {kvs:List (κ×V)}{vs:List (κ×Wv)}(r:KV kvs vs):kvs.length=vs.length:=zcs r
end
theorem uB {P:W9}{w:Xm}{k:Key}{u:Wv}(r:RelV (kV k) u):(bM P w).is k u=true:=by
 cases k with
 | inl i=>obtain ⟨t,e⟩:=(show ∃ t,u=ZI i t from r);subst e;exact Aa P w i t
 | inr x=>obtain ⟨t,e⟩:=(show ∃ t,u=zaH x t from r);subst e;exact zH P w x t
theorem uh {P:W9}{w:Xm}:∀ {ks:List Key} {us:List Wv},Vals (ks.map kV) us->ItemsAre (bM P w) ks us
 | [],_,r=>by rw[ZW] at r;cases r;exact .nil
 | k::ks,_,r=>by
  rw[WN] at r
  cases r with
  | cons h t=>exact .cons (uB h) (uh t)
abbrev KT (H:Hp):List (List Key×V)->List (List Key×Addr×Wv)->Prop:=za6 λp q=>p.1=q.1/\H q.2.1=some (.tup (p.1.map kV))/\RelV p.2 q.2.2
theorem KT.val {H:Hp}{kvs:List (List Key×V)}{xs:List (List Key×Addr×Wv)}(r:KT H kvs xs)(k:List Key):oZ (gT kvs k) ((zdE xs k).map (·.2)):=by
 induction r with
 | nil=>exact Yc
 | @cons p q ps qs h t ih=>
  obtain ⟨h1,_,h2⟩:=h
  by_cases e:p.1=k
  ·have e':q.1=k:=h1.symm.trans e
   have b:zdE (q::qs) k=some q.2:=by simp[zdE,XB,e']
   rw[lU e,b];exact h2
  ·have e':¬ q.1=k:=λz=>e (h1.trans z)
   have b:zdE (q::qs) k=zdE qs k:=by simp[zdE,XB,e']
   rw[mJ e,b];exact ih
theorem KT.Qh {H:Hp}{kvs:List (List Key×V)}{xs:List (List Key×Addr×Wv)}(r:KT H kvs xs)(k:List Key){y:V}{u:Wv}(ry:RelV y u) :
  KT H (kvs.map λkv=>if kv.1=k then (kv.1,y) else kv) (xs.map (putAt k u)):=by
 induction r with
 | nil=>exact .nil
 | @cons p q ps qs h t ih=>
  rw[WN,WN]
  refine .cons ?_ ih
  obtain ⟨h1,h2,h3⟩:=h
  unfold putAt
  by_cases e:p.1=k
  ·rw[if_pos e,if_pos (h1.symm.trans e)];exact ⟨h1,h2,ry⟩
  ·rw[if_neg e,if_neg (λz=>e (h1.trans z))];exact ⟨h1,h2,h3⟩
theorem KT.put {H:Hp}{kvs:List (List Key×V)}{xs:List (List Key×Addr×Wv)}(r:KT H kvs xs)(k:List Key){b:Addr}{y:V}{u:Wv}(hb:H b=some (.tup (k.map kV)))(ry:RelV y u) :
  KT H (putK kvs k y) (storedH xs k b u):=by
 have e:(kvs.any λkv=>decide (kv.1=k))=(zdE xs k).isSome:=by
  rw[qO,(r.val k).DM,Option.isSome_map]
 unfold putK storedH
 rw[e]
 by_cases q:(zdE xs k).isSome=true
 ·rw[if_pos q,if_pos q];exact r.Qh k ry
 ·rw[if_neg q,if_neg q];exact zeC r ⟨rfl,hb,ry⟩
theorem KT.keeps {H H':Hp}{kvs:List (List Key×V)}{xs:List (List Key×Addr×Wv)}(r:KT H kvs xs)(ht:∀ b ys,H b=some (.tup ys)->H' b=some (.tup ys)):KT H' kvs xs:=
 za6.RE r λ_ _ z=>⟨z.1,ht _ _ z.2.1,z.2.2⟩
section
variable {P:W9} {w:Xm} {H:Hp} {h:Heap} {a:Addr}
theorem Ov {u:HO}(ok:HOk P w H h)(e:Rd H a u):cZ P w H h a u:=e.ok ok
theorem xF {kvs:List (Key×V)}(ok:HOk P w H h)(e:Rd H a (.dK kvs)):kvs.length<=sizeLine/\(a == YE)=false/\∃ vs,KV kvs vs/\h.DictOf (bM P w) a vs:=
 show cZ P w H h a (.dK kvs) from Ov ok e
theorem Oz {kvs:List (Key×V)}(ok:HOk P w H h)(e:H a=some (.dK kvs)):kvs.length<=sizeLine/\(a == YE)=false/\∃ vs,KV kvs vs/\h.DictOf (bM P w) a vs:=xF ok (.inl e)
theorem uX {ks:List Key}(ok:HOk P w H h)(e:H a=some (.tup (ks.map kV))):(zbg (bM P w)).is h ks a:=by
 obtain ⟨_,its,r,n,h1⟩:=(show cZ P w H h a (.tup (ks.map kV)) from ok a _ e)
 exact ⟨_,its.toArray,n,h1,rfl,rfl,by simpa using uh r⟩
theorem zV {kvs:List (List Key×V)}(ok:HOk P w H h)(e:Rd H a (.dT kvs)):kvs.length<=sizeLine/\(a == YE)=false/\
  ∃ xs,KT H kvs xs/\h.DictOfH (zbg (bM P w)) a xs:=by
 obtain ⟨z,y,xs,r,o,es,ep,h1,h2,h3,h4,h5⟩:=(show cZ P w H h a (.dT kvs) from Ov ok e)
 refine ⟨z,y,xs,r,o,es,ep,h1,h2,h3,h4,λx hx=>?_,h5⟩
 have all:∀ {l:List (List Key×V)} {m:List (List Key×Addr×Wv)},KT H l m->∀ x∈m,(zbg (bM P w)).is h x.1 x.2.1:=by
  intro l m q
  induction q with
  | nil=>intro x hx;exact nomatch hx
  | @cons p q ps qs hq t ih=>
   intro x hx
   rcases WK.mp hx with e | hx
   ·subst e
    exact uX ok (by rw[← hq.1];exact hq.2.1)
   ·exact ih x hx
 exact all r x hx
theorem SU {kvs:List (List Key×V)}(ok:HOk P w H h)(e:H a=some (.dT kvs)):kvs.length<=sizeLine/\(a == YE)=false/\
  ∃ xs,KT H kvs xs/\h.DictOfH (zbg (bM P w)) a xs:=zV ok (.inl e)
end
def m8 (H:Hp)(a:Addr)(y:V)(r:Option V):Prop:=
 (∃ kvs k,Rd H a (.dK kvs)/\y=kV k/\r=gT kvs k)∨∃ kvs k b,Rd H a (.dT kvs)/\y=.ref b/\H b=some (.tup (k.map kV))/\r=gT kvs k
def tT (H:Hp)(a:Addr)(y v:V)(H':Hp):Prop:=
 (∃ kvs k,H a=some (.dK kvs)/\y=kV k/\kvs.length < sizeLine/\H'=upd H a (.dK (putK kvs k v)))∨
 ∃ kvs k b,H a=some (.dT kvs)/\y=.ref b/\H b=some (.tup (k.map kV))/\kvs.length < sizeLine/\H'=upd H a (.dT (putK kvs k v))
theorem m8.k {H:Hp}{a:Addr}{kvs:List (Key×V)}{k:Key}(e:H a=some (.dK kvs)):m8 H a (kV k) (gT kvs k):=.inl ⟨kvs,k,.inl e,rfl,rfl⟩
theorem m8.t {H:Hp}{a b:Addr}{kvs:List (List Key×V)}{k:List Key}(e:H a=some (.dT kvs))(eb:H b=some (.tup (k.map kV))):m8 H a (.ref b) (gT kvs k):=.inr ⟨kvs,k,b,.inl e,rfl,eb,rfl⟩
theorem tT.k {H:Hp}{a:Addr}{kvs:List (Key×V)}{k:Key}{v:V}(e:H a=some (.dK kvs))(hl:kvs.length < sizeLine):tT H a (kV k) v (upd H a (.dK (putK kvs k v))):=.inl ⟨kvs,k,e,rfl,hl,rfl⟩
theorem tT.t {H:Hp}{a b:Addr}{kvs:List (List Key×V)}{k:List Key}{v:V}(e:H a=some (.dT kvs))(eb:H b=some (.tup (k.map kV)))(hl:kvs.length < sizeLine) :
  tT H a (.ref b) v (upd H a (.dT (putK kvs k v))):=.inr ⟨kvs,k,b,e,rfl,eb,hl,rfl⟩
section
variable {X:Cx} {pins:List (Addr×Obj)} {σ:St} {H:Hp} {s:Wz} {a:Addr} {y v:V} {u r:Wv} {o:Option V} {A:XC} {E:Wv->Wz->Prop}
theorem Inv.big (I:Inv X pins σ H s):YE < s.heap.objs.size:=by
 have h:X2 < s.heap.objs.size:=(I.mod.glob.keeps I.bk).lt
 exact zc1 (by decide) h
theorem t7 {Q:Wv->Wz->Prop}(hu:A.units+1 < cLine)(I:Inv X pins σ H s)(g:m8 H a y (some v))(ry:RelV y u)(h:∀ w' s',Inv X pins σ H s'->RelV v w'->Q w' s') :
  WW (W2 X.prog X.w) A (zaE (.ref a) u) Q E s:=by
 rcases g with ⟨kvs,k,e,ey,l⟩ | ⟨kvs,k,b,e,ey,eb,l⟩
 ·subst ey
  obtain ⟨z,hd,vs,rel,dd⟩:=xF I.hok e
  obtain ⟨w',hw,rw'⟩:=oZ.some_of (v:=v) (o:=zcl vs k) (by rw[l];exact rel.val k)
  exact wpAny_getItem_of (uB ry) dd.mapOf hw (h w' _ (I.tok _) rw')
 ·subst ey
  cases (show u=Xa b from ry)
  obtain ⟨z,hd,xs,rel,dd⟩:=zV I.hok e
  obtain ⟨w',hw,rw'⟩:=oZ.some_of (v:=v) (o:=(zdE xs k).map (·.2)) (by rw[l];exact rel.val k)
  obtain ⟨p,hp,hp2⟩:=zbD.mp hw
  refine wpAny_getItem_heap (zaQ hu) (uX I.hok eb) dd hp ?_
  rw[hp2]
  exact h w' _ (I.tok _) rw'
theorem wa {h':Heap}{t':Nat}{ob:HO}(I:Inv X pins σ H s)(mu:Mut (H a))(hs:YT a s.heap h')(he:∃ q,h'.get? a=some q)(new:cZ X.prog X.w (upd H a ob) h' a ob) :
  Inv X pins σ (upd H a ob) { s with heap:=h',toks:=t' }:=
 I.write (x:=a) (e:=a) mu (.inl rfl) (λb q hb z=>(hs.2 b hb).trans z) he new
theorem BY {P:W9}{w:Xm}{H':Hp}{h':Heap}{kvs:List (Key×V)}{vs:List (Key×Wv)}(z:kvs.length<=sizeLine)(hd:(a == YE)=false)(rel:KV kvs vs)(dd:h'.DictOf (bM P w) a vs) :
  cZ P w H' h' a (.dK kvs):=⟨z,hd,vs,rel,dd⟩
theorem uk {H':Hp}{Q:Unit->Wz->Prop}(hu:A.units+1 < cLine)(I:Inv X pins σ H s)(g:tT H a y v H')(ry:RelV y u)(rv:RelV v r)(h:∀ s',Inv X pins σ H' s'->Q () s') :
  WW (W2 X.prog X.w) A (setItem (.ref a) u r) Q E s:=by
 rcases g with ⟨kvs,k,e,ey,l,eH⟩ | ⟨kvs,k,b,e,ey,eb,l,eH⟩
 ·subst ey eH
  obtain ⟨z,hd,vs,rel,dd⟩:=Oz I.hok e
  have hz:vs.length<=sizeLine:=by rw[← rel.length];exact z
  have hl:(putK kvs k v).length<=sizeLine:=by have:=jz kvs k v;omega
  refine wpAny_setItem_pairs (hsz:=hz) (uB ry) dd λh' dd' hs=>h _ ?_
  have he:∃ q,h'.get? a=some q:=let ⟨q,_,_,hq,_⟩:=dd';⟨q,hq⟩
  exact wa I (by rw[e];exact Yc) hs he (BY hl hd (rel.put k rv) dd')
 ·subst ey eH
  cases (show u=Xa b from ry)
  obtain ⟨z,hd,xs,rel,dd⟩:=SU I.hok e
  have hz:xs.length<=sizeLine:=by rw[← zcs rel];exact z
  have hl:(putK kvs k v).length<=sizeLine:=by have:=jz kvs k v;omega
  refine wpAny_setItem_heap (hsz:=hz) (zaQ hu) (uX I.hok eb) dd λh' dd' hs=>h _ ?_
  obtain ⟨q,es,ep,hq,h2,h3,h4,_,h5⟩:=dd'
  refine wa I (by rw[e];exact Yc) hs ⟨q,hq⟩ ⟨hl,hd,_,(rel.put k eb rv).keeps λc ys ec=>?_,q,es,ep,hq,h2,h3,h4,h5⟩
  rw[aJ (Ur ec e (λz=>nomatch z))]
  exact ec
end
section
variable {X:Cx} {pins:List (Addr×Obj)} {σ:St} {H:Hp} {s:Wz} {a:Addr} {kvs:List (Key×V)} {k:Key} {u:Wv} {A:XC} {E:Wv->Wz->Prop}
end
def QZ (i:W4):Prop:=∀ ov iv,zb3 i false ov iv=operate [ov,iv] (zaE ov iv)
theorem NS {prog:W9}{w:Xm}{A:XC}{E:Wv->Wz->Prop}{s:Wz}{env:Env}{value slice:W4}{pos:Pos}{T id:String}{Q:Wv->Wz->Prop}
  (hl:zd0 (.type T) "__getitem__" = pure (some (.builtin id))) (hs:QZ slice)
  (h:WW (W2 prog w) A (XG value env) (λo s₁=>WW (W2 prog w) A (XG slice env) (λi s₂=>s₂.TypeIs o T/\WW (W2 prog w) A (zaE o i) Q E s₂) E s₁) E s) :
  WW (W2 prog w) A (XG (.Subscript value slice pos) env) Q E s:=by
 refine zd1 (XO h (λo s₁ h₁=>XO h₁ (λi s₂ h₂=>?_) λ_ _ x=>x) λ_ _ x=>x)
 obtain ⟨hT,h₂⟩:=h₂
 unfold zcv
 refine Wr ?_
 rw[getitemInPython_of_ne hT.not_modules]
 refine Wr (wpAny_specialOf hT hl ?_)
 have fin:WW (W2 prog w) A (zb3 slice false o i) (λr s₃=>WW (W2 prog w) A (letTemporaryGo value o r >>= λ_=>pure r) Q E s₃) E s₂:=by
  rw[hs o i]
  exact wpAny_operating (XO h₂ (λr s₃ h₃=>Wr (wpAny_letTemporaryGo (WC h₃))) λ_ _ x=>x)
 first
  | exact WC (Wr fin)
  | exact Wr (WC (Wr fin))
  | exact Wr fin
theorem yQ {X:Cx}{pins:List (Addr×Obj)}{σ:St}{H:Hp}{s:Wz}{a:Addr}{y:V}{o:Option V}(I:Inv X pins σ H s)(g:m8 H a y o):s.TypeIs (.ref a) "dict" := by
 rcases g with ⟨kvs,k,e,_,_⟩ | ⟨kvs,k,b,e,_,_,_⟩
 ·obtain ⟨_,_,vs,_,dd⟩:=xF I.hok e
  exact dd.typeIs
 ·obtain ⟨_,_,xs,_,dd⟩:=zV I.hok e
  exact dd.typeIs
def Ug (td ty:TE):TE:=λσ H Q=>td σ H λx H1=>ty σ H1 λy H2=>∃ a v,x=.ref a/\m8 H2 a y (some v)/\Q v H2
def UJ (td ty tv:TE):TS:=λD σ H=>tv σ H λv H1=>td σ H1 λx H2=>ty σ H2 λy H3=>∃ a H4,x=.ref a/\tT H3 a y v H4/\D.nx σ H4
def Oa (td ty tv:TE)(rd:V->V->Hp->VK->Prop):TS:=λD σ H=>td σ H λx H1=>ty σ H1 λy H2=>∃ a v,x=.ref a/\m8 H2 a y (some v)/\
 tv σ H2 λy2 H3=>rd v y2 H3 λz H4=>∃ H5,tT H4 a y z H5/\D.nx σ H5
section
variable {X:Cx} {o i e value:W4} {pos pos' tpos:Pos} {td ty tv:TE}
theorem KQ (hu:X.A.units+1 < cLine)(ho:PE X o td)(hi:PE X i ty)(hs:QZ i):PE X (.Subscript o i pos) (Ug td ty):=by
 intro pins s σ H Q I h
 refine NS PySem.F.slot_dict_getitem.lookup hs (thn (ho pins s σ H _ I h) λu s1 ⟨x,H1,I1,rx,q1⟩=>thn (hi pins s1 σ H1 _ I1 q1) λiv s2 ⟨y,H2,I2,ry,a,v,ex,g,q2⟩=>?_)
 subst ex
 obtain rfl:u=Xa a:=rx
 exact ⟨yQ I2 g,t7 hu I2 g ry λw' s3 I3 rw'=>⟨v,H2,I3,rw',q2⟩⟩
theorem Dk (hu:X.A.units+1 < cLine)(ho:PE X o td)(hi:PE X i ty)(hv:PE X value tv)(hs:Yz value (some (.Subscript o i pos')) pos.line X.env=pure false) :
  PS X (.Assign [.Subscript o i pos'] value pos) (UJ td ty tv):=by
 intro pins s σ H D I h
 refine wpAny_Assign_Subscript (thn (hv pins s σ H _ I h) λr s1 ⟨v,H1,I1,rv,q1⟩=>thn (ho pins s1 σ H1 _ I1 q1) λu s2 ⟨x,H2,I2,rx,q2⟩=>thn (hi pins s2 σ H2 _ I2 q2) λiv s3 ⟨y,H3,I3,ry,a,H4,ex,g,q3⟩=>?_) hs
 subst ex
 obtain rfl:u=Xa a:=rx
 exact uk hu I3 g ry rv λs4 I4=>⟨σ,H4,I4,q3⟩
theorem Mi {op:zb0}{rd:V->V->Hp->VK->Prop}(hu:X.A.units+1 < cLine)(ho:PE X o td)(hi:PE X i ty)(hv:PE X value tv)(hop:SX X op rd)
  (ha:∀ ov iv new,augStore i ov iv new=(do zbw [new,ov,iv] (setItem ov iv new);release [new,ov,iv] [];pure .next)):PS X (.AugAssign (.Subscript o i tpos) op value pos) (Oa td ty tv rd):=by
 intro pins s σ H D I h
 refine wpAny_AugAssign_SubscriptAny (thn (ho pins s σ H _ I h) λu s1 ⟨x,H1,I1,rx,q1⟩=>thn (hi pins s1 σ H1 _ I1 q1) λiv s2 ⟨y,H2,I2,ry,a,v,ex,g,q2⟩=>?_) ha
 subst ex
 obtain rfl:u=Xa a:=rx
 refine t7 hu I2 g ry λw' s3 I3 rw'=>thn (hv pins s3 σ H2 _ I3 q2) λw2 s4 ⟨y2,H3,I4,ry2,q3⟩=>thn (hop pins s4 σ H3 v y2 w' w2 _ I4 rw' ry2 q3) λw3 s5 ⟨z,H4,I5,rz,H5,g5,q4⟩=>?_
 exact uk hu I5 g5 ry rz λs6 I6=>⟨σ,H5,I6,q4⟩
end
theorem Ht {P:W9}{w:Xm}{H:Hp}(h:Heap)(hb:YE < h.objs.size):cZ P w H (h.push { cls:=.type "dict", data:=.dict #[] }) h.objs.size (.dK []):=
 ⟨Ya _,beq_eq_false_iff_ne.mpr (WX (WZ hb)),[],.nil,zdM h⟩
theorem HH {P:W9}{w:Xm}{H:Hp}(h:Heap)(hb:YE < h.objs.size):cZ P w H (h.push { cls:=.type "dict", data:=.dict #[] }) h.objs.size (.dT []):=
 ⟨Ya _,beq_eq_false_iff_ne.mpr (WX (WZ hb)),[],.nil,_,#[],0,WJ _ rfl,⟨rfl,rfl,rfl⟩,rfl,rfl,zb5⟩
def Po:TE:=λ_ H Q=>∀ p,H p=none->Q (.ref p) (upd H p (.dT []))
section
variable {X:Cx} {pos:Pos}
theorem Ib:PE X (.Dict [] [] pos) Po:=λpins s σ H Q I h=>
 wpAny_Dict_empty ⟨.ref s.heap.objs.size,_,I.laid (a:=s.heap.objs.size) (o:=.dT []) (t':=s.toks) (λ_ _ q=>Wu _ q) (WL _) (HH s.heap I.big),rfl,h _ (I.hok.fresh (WL _))⟩
end
def wj:List (TE×TE)->St->Hp->(List (V×V)->Hp->Prop)->Prop
 | [],_,H,Q=>Q [] H
 | (tk,tv)::r,σ,H,Q=>tk σ H λx H1=>tv σ H1 λy H2=>wj r σ H2 λps H3=>Q ((x,y)::ps) H3
abbrev VV:List (V×V)->List (Wv×Wv)->Prop:=za6 λp q=>RelV p.1 q.1/\RelV p.2 q.2
def PPs (X:Cx)(pos:Pos)(keys:List (Option W4))(values:List W4)(trs:List (TE×TE)):Prop:=
 ∀ (pins:List (Addr×Obj)) (s:Wz) (σ:St) (H:Hp) (Q:List (V×V)->Hp->Prop),Inv X pins σ H s->wj trs σ H Q->
  WW (W2 X.prog X.w) X.A (evalPairs (pairTrees keys values X.env pos)) (λvs s'=>∃ ps H',Inv X pins σ H' s'/\VV ps vs/\Q ps H') X.xe s
theorem K7 {X:Cx}{pos:Pos}:PPs X pos [] [] []:=λpins s σ H Q I h=>pairTrees_nil_walk ⟨[],H,I,.nil,h⟩
theorem GQ {X:Cx}{pos:Pos}{k v:W4}{ks:List (Option W4)}{vs:List W4}{tk tv:TE}{trs:List (TE×TE)}(hk:PE X k tk)(hv:PE X v tv)(hr:PPs X pos ks vs trs) :
  PPs X pos (some k::ks) (v::vs) ((tk,tv)::trs):=λpins s σ H Q I h=>
 pairTrees_cons_walk (thn (hk pins s σ H _ I h) λu s1 ⟨x,H1,I1,rx,q1⟩=>thn (hv pins s1 σ H1 _ I1 q1) λw2 s2 ⟨y,H2,I2,ry,q2⟩=>
  thn (hr pins s2 σ H2 _ I2 q2) λws s3 ⟨ps,H3,I3,rel,q3⟩=>⟨(x,y)::ps,H3,I3,.cons ⟨rx,ry⟩ rel,q3⟩)
def eu (kvs more:List (Key×V)):List (Key×V):=more.foldl (λacc kv=>putK acc kv.1 kv.2) kvs
theorem KV.merge:∀ {more:List (Key×V)} {rs:List (Key×Wv)} {kvs:List (Key×V)} {vs:List (Key×Wv)},KV more rs->KV kvs vs->KV (eu kvs more) (merged vs rs):=by
 intro more rs kvs vs r
 unfold KV at r
 induction r generalizing kvs vs with
 | nil=>intro q;exact q
 | @cons p q ps qs h t ih=>
  intro r0
  have e:KV (putK kvs p.1 p.2) (stored vs q.1 q.2):=by
   have:=r0.put p.1 h.2
   rw[← h.1];exact this
  exact ih e
theorem gS:∀ (more kvs:List (Key×V)),(eu kvs more).length<=kvs.length+more.length
 | [],kvs=>by show kvs.length<=kvs.length+0;omega
 | p::r,kvs=>by
  have h1:=gS r (putK kvs p.1 p.2)
  have h2:=jz kvs p.1 p.2
  show (eu (putK kvs p.1 p.2) r).length<=_
  rw[W6];omega
theorem rS {P:W9}{w:Xm}:∀ {kvs:List (Key×V)} {ws:List (Wv×Wv)},VV (kvs.map λkv=>(kV kv.1,kv.2)) ws->∃ rs,Carries (bM P w) ws rs/\KV kvs rs
 | [],_,r=>by rw[ZW] at r;cases r;exact ⟨[],Yc,.nil⟩
 | p::kvs,_,r=>by
  rw[WN] at r
  cases r with
  | @cons a b as bs h t=>
   obtain ⟨rs,c,q⟩:=rS (P:=P) (w:=w) t
   obtain ⟨b1,b2⟩:=b
   exact ⟨(p.1,b2)::rs,⟨uB h.1,rfl,c⟩,.cons ⟨rfl,h.2⟩ q⟩
def So (trs:List (TE×TE)):TE:=λσ H Q=>∀ p,H p=none->wj trs σ (upd H p (.dK [])) λps H2=>H2 p=some (.dK [])/\∃ kvs:List (Key×V),ps=kvs.map (λkv=>(kV kv.1,kv.2))/\kvs.length<=15/\Q (.ref p) (upd H2 p (.dK (eu [] kvs)))
theorem MA {X:Cx}{pos:Pos}{keys:List (Option W4)}{values:List W4}{trs:List (TE×TE)}(h:PPs X pos keys values trs)(hall:keys.all (·.isSome)=true)(hl:keys.length=values.length)(h0:keys≠[])
  (h15:keys.length<=15):PE X (.Dict keys values pos) (So trs):=by
 intro pins s σ H Q I q
 have hn:=I.hok.fresh (WL s.heap.objs.size)
 have I1:=I.laid (a:=s.heap.objs.size) (o:=.dK []) (h':=s.heap.push { cls:=.type "dict", data:=.dict #[] }) (t':=s.toks) (λ_ _ q=>Wu _ q) (WL _) (Ht s.heap I.big)
 refine wpAny_Dict_walk (knd:=bM X.prog X.w) hall hl h0 h15 (thn (h pins _ σ _ _ I1 (q _ hn)) λws s2 ⟨ps,H2,I2,rel,e,kvs,ep,lk,q2⟩=>?_)
 subst ep
 obtain ⟨rs,c,rk⟩:=rS (P:=X.prog) (w:=X.w) rel
 obtain ⟨z,hd,vs0,r0,dd⟩:=Oz I2.hok e
 cases r0
 refine ⟨rs,c,dd,λh' dd' hs=>⟨.ref s.heap.objs.size,_,?_,rfl,q2⟩⟩
 have hz:(eu [] kvs).length<=sizeLine:=by
  have h1:=gS kvs []
  rw[zaw] at h1
  rw[zb1];omega
 have he:∃ q,h'.get? s.heap.objs.size=some q:=let ⟨q,_,_,hq,_⟩:=dd';⟨q,hq⟩
 exact wa I2 (by rw[e];exact Yc) hs he (BY hz hd (rk.merge .nil) dd')
structure M2 (X:Cx) (o:W4) (m:Str) (apos:Pos) (e f:W4) (cpos:Pos):Prop where
 base:Y5 o m X.env (XG o X.env)=XG o X.env
 few:((XM cpos (WI [e,f] X.env)).all (λx=>!x.1)&&(zaj cpos (YS [] X.env)).all (λx=>x.1.isSome)
  && decide (([e,f]:List W4).length+([]:List YW).length+(if ([]:List YW).isEmpty then 0 else 1) < 30))=true
 line:(apos.endLine == cpos.line)=true
 trees:XM cpos (WI [e,f] X.env)=[(false,XG e X.env),(false,XG f X.env)]
def IsD (H:Hp)(a:Addr):Prop:=(∃ kvs,Rd H a (.dK kvs))∨∃ kvs,Rd H a (.dT kvs)
theorem Q2 {X:Cx}{pins:List (Addr×Obj)}{σ:St}{H:Hp}{s:Wz}{a:Addr}(I:Inv X pins σ H s)(d:IsD H a) :
  s.TypeIs (.ref a) "dict" /\ (∀ b,Xa a=.ref b->∃ ob,s.heap.get? b=some ob/\ob.dict=none)/\(a == YE)=false:=by
 rcases d with ⟨kvs,e⟩ | ⟨kvs,e⟩
 ·obtain ⟨_,hd,vs,_,dd⟩:=xF I.hok e
  refine ⟨dd.typeIs,λb q=>?_,hd⟩
  cases q
  obtain ⟨ob,_,_,h1,h2,_⟩:=dd
  exact ⟨ob,h1,h2.2.1⟩
 ·obtain ⟨_,hd,xs,_,dd⟩:=zV I.hok e
  refine ⟨dd.typeIs,λb q=>?_,hd⟩
  cases q
  obtain ⟨ob,_,_,h1,h2,_⟩:=dd
  exact ⟨ob,h1,h2.2.1⟩
section
variable {X:Cx} {pins:List (Addr×Obj)} {σ:St} {H:Hp} {s:Wz} {a:Addr} {y d:V} {u r:Wv} {o:Option V} {A:XC} {E:Wv->Wz->Prop}
theorem QD {Q:Wv->Wz->Prop}(hu:A.units+1 < cLine)(I:Inv X pins σ H s)(g:m8 H a y o)(ry:RelV y u)(rd:RelV d r)(h:∀ w' s',Inv X pins σ H s'->RelV (o.getD d) w'->Q w' s') :
  WW (W2 X.prog X.w) A (zbT (.builtin "dict.get") [.ref a,u,r]) Q E s:=by
 rcases g with ⟨kvs,k,e,ey,l⟩ | ⟨kvs,k,b,e,ey,eb,l⟩
 ·subst ey
  obtain ⟨z,hd,vs,rel,dd⟩:=xF I.hok e
  refine call_meetsIn Z5 dd.typeIs zbE (zbk _ _ _) (meets_dict_get_default (bM X.prog X.w) a (uB ry) hd r) ⟨_,dd.mapOf,h _ _ (I.tok _) ?_⟩
  rw[l]
  exact (rel.val k).getD rd
 ·subst ey
  cases (show u=Xa b from ry)
  obtain ⟨z,hd,xs,rel,dd⟩:=zV I.hok e
  refine call_meetsIn Z5 dd.typeIs zbE (zbk _ _ _) (meetsH_dict_get_default (zbg (bM X.prog X.w)) a b hd r) ⟨zaQ hu,k,xs,uX I.hok eb,dd,h _ _ (I.tok _) ?_⟩
  rw[l]
  exact (rel.val k).getD rd
end
def Rn (td ty tx:TE):TE:=λσ H Q=>td σ H λx H1=>∃ a,x=.ref a/\IsD H1 a/\ty σ H1 λy H2=>tx σ H2 λz H3=>∃ o,m8 H3 a y o/\Q (o.getD z) H3
section
variable {X:Cx} {o e f:W4} {apos cpos:Pos} {td ty tx:TE}
theorem Hf (hu:X.A.units+1 < cLine)(ho:PE X o td)(he:PE X e ty)(hf:PE X f tx)(m:M2 X o "get" apos e f cpos):PE X (.Call (.Attribute o "get" apos) [e,f] [] cpos) (Rn td ty tx):=by
 intro pins s σ H Q I h
 refine wpAny_Call_method m.base m.few m.line PySem.F.plainAttrs_dict Z5 PySem.F.type_dict_get (thn (ho pins s σ H _ I h) λu s1 ⟨x,H1,I1,rx,a,ex,d,q1⟩=>?_)
 subst ex
 obtain rfl:u=Xa a:=rx
 obtain ⟨t1,t2,_⟩:=Q2 I1 d
 refine ⟨t1,t2,?_⟩
 rw[m.trees]
 refine zbB rfl (zb4 (ZC (thn (he pins s1 σ H1 _ I1 q1) λiv s2 ⟨y,H2,I2,ry,q2⟩=>
  ZC (thn (hf pins s2 σ H2 _ I2 q2) λfv s3 ⟨z,H3,I3,rz,ov,g,q3⟩=>za3 ?_))))
 exact QD hu I3 g ry rz λw' s4 I4 rw'=>⟨_,H3,I4,rw',q3⟩
end
section
variable {X:Cx} {pins:List (Addr×Obj)} {σ:St} {H:Hp} {s:Wz} {a:Addr} {kvs:List (Key×V)} {A:XC} {E:Wv->Wz->Prop}
end
section
variable {X:Cx} {pins:List (Addr×Obj)} {σ:St} {H:Hp} {s:Wz} {a:Addr} {y:V} {u:Wv} {A:XC} {E:Wv->Wz->Prop}
end
end L2
namespace L3
open PySem
local macro_rules | `(tactic| walk_at "ln")=>`(tactic| (intro ds μ Q h;split at h;rfl;exact h.elim))
theorem Jn {p q:Prop}(a:p)(b:q):p/\q:=⟨a,b⟩
inductive D where
 | non | bl (b:Bool) | int (i:Int) | str (x:Str) | ty (n:String) | tup (ds:List D) | ls (ds:List D) | obj (a:Addr)
inductive MO where
 | lst (ds:List D)
 | dct (kvs:List (L2.Key×D))
 | dcT (kvs:List (List L2.Key×D))
 | dcF (kvs:List (L2.Key×D))
abbrev Mu:=Addr->Option MO
def up (μ:Mu)(a:Addr)(o:MO):Mu:=λb=>if b=a then some o else μ b
theorem aF {μ:Mu}{a:Addr}{o:MO}:up μ a o a=some o:=by unfold up;rw[if_pos rfl]
theorem aS {μ:Mu}{a b:Addr}{o:MO}(h:b≠a):up μ a o b=μ b:=by unfold up;rw[if_neg h]
theorem iq {μ:Mu}{a:Addr}{o u:MO}:up (up μ a o) a u=up μ a u:=by
 funext b;unfold up;split<;>rfl
abbrev ST:=List (Option D)
abbrev DK:=D->Mu->Prop
abbrev ETr:=ST->Mu->DK->Prop
abbrev TTr:=ST->Mu->(Bool->Mu->Prop)->Prop
abbrev ATr:=ST->Mu->(List D->Mu->Prop)->Prop
abbrev DR:=D->Mu->DK->Prop
abbrev DR2:=D->D->Mu->DK->Prop
abbrev FSp:=List D->Mu->DK->Prop
def kcI (ds:List D)(f:Int->List D->Prop):Prop:=match ds with
 | .int i::r=>f i r
 | _=>False
theorem ecI {ds:List D}{f:Int->List D->Prop}(h:kcI ds f):∃ i r,ds=.int i::r/\f i r:=by
 cases ds with
 | nil=>exact WA h
 | cons d r=>cases d<;>first | exact ⟨_,_,rfl,h⟩ | exact WA h
theorem lcI {ds:List D}{f:Int->List D->Prop}{n:Nat}(h:kcI ds f)(k:∀ i r,f i r->r.length=n):ds.length=n+1:=by
 obtain ⟨i,r,e,h⟩:=ecI h
 rw[e,W6,k i r h]
def kcS (ds:List D)(f:Str->List D->Prop):Prop:=match ds with
 | .str i::r=>f i r
 | _=>False
theorem ecS {ds:List D}{f:Str->List D->Prop}(h:kcS ds f):∃ i r,ds=.str i::r/\f i r:=by
 cases ds with
 | nil=>exact WA h
 | cons d r=>cases d<;>first | exact ⟨_,_,rfl,h⟩ | exact WA h
theorem lcS {ds:List D}{f:Str->List D->Prop}{n:Nat}(h:kcS ds f)(k:∀ i r,f i r->r.length=n):ds.length=n+1:=by
 obtain ⟨i,r,e,h⟩:=ecS h
 rw[e,W6,k i r h]
def kcT (ds:List D)(f:List D->List D->Prop):Prop:=match ds with
 | .tup i::r=>f i r
 | _=>False
theorem ecT {ds:List D}{f:List D->List D->Prop}(h:kcT ds f):∃ i r,ds=.tup i::r/\f i r:=by
 cases ds with
 | nil=>exact WA h
 | cons d r=>cases d<;>first | exact ⟨_,_,rfl,h⟩ | exact WA h
theorem lcT {ds:List D}{f:List D->List D->Prop}{n:Nat}(h:kcT ds f)(k:∀ i r,f i r->r.length=n):ds.length=n+1:=by
 obtain ⟨i,r,e,h⟩:=ecT h
 rw[e,W6,k i r h]
def kcL (ds:List D)(f:List D->List D->Prop):Prop:=match ds with
 | .ls i::r=>f i r
 | _=>False
theorem ecL {ds:List D}{f:List D->List D->Prop}(h:kcL ds f):∃ i r,ds=.ls i::r/\f i r:=by
 cases ds with
 | nil=>exact WA h
 | cons d r=>cases d<;>first | exact ⟨_,_,rfl,h⟩ | exact WA h
theorem lcL {ds:List D}{f:List D->List D->Prop}{n:Nat}(h:kcL ds f)(k:∀ i r,f i r->r.length=n):ds.length=n+1:=by
 obtain ⟨i,r,e,h⟩:=ecL h
 rw[e,W6,k i r h]
def kcO (ds:List D)(f:Addr->List D->Prop):Prop:=match ds with
 | .obj i::r=>f i r
 | _=>False
theorem ecO {ds:List D}{f:Addr->List D->Prop}(h:kcO ds f):∃ i r,ds=.obj i::r/\f i r:=by
 cases ds with
 | nil=>exact WA h
 | cons d r=>cases d<;>first | exact ⟨_,_,rfl,h⟩ | exact WA h
theorem lcO {ds:List D}{f:Addr->List D->Prop}{n:Nat}(h:kcO ds f)(k:∀ i r,f i r->r.length=n):ds.length=n+1:=by
 obtain ⟨i,r,e,h⟩:=ecO h
 rw[e,W6,k i r h]
def kcA (ds:List D)(f:D->List D->Prop):Prop:=match ds with
 | i::r=>f i r
 | _=>False
theorem ecA {ds:List D}{f:D->List D->Prop}(h:kcA ds f):∃ i r,ds=i::r/\f i r:=by
 cases ds with
 | nil=>exact WA h
 | cons d r=>exact ⟨_,_,rfl,h⟩
theorem lcA {ds:List D}{f:D->List D->Prop}{n:Nat}(h:kcA ds f)(k:∀ i r,f i r->r.length=n):ds.length=n+1:=by
 obtain ⟨i,r,e,h⟩:=ecA h
 rw[e,W6,k i r h]
def kcN (ds:List D)(P:Prop):Prop:=match ds with
 | []=>P
 | _=>False
theorem ecN {ds:List D}{P:Prop}(h:kcN ds P):ds=[]/\P:=by
 cases ds with
 | nil=>exact ⟨rfl,h⟩
 | cons d r=>exact WA h
structure En where
 nx:ST->Mu->Prop
 rt:DK
 bk:ST->Mu->Prop:=λ_ _=>False
 ct:ST->Mu->Prop:=λ_ _=>False
abbrev STr:=En->ST->Mu->Prop
abbrev GTr:=D->ST->Mu->(ST->Mu->Prop)->Prop
def kIf (c:Bool)(A B:Prop):Prop:=match c with
 | true=>A
 | false=>B
def kB (x:D)(f:Bool->Prop):Prop:=match x with
 | .bl c=>f c
 | _=>False
def kI (x:D)(f:Int->Prop):Prop:=match x with
 | .int c=>f c
 | _=>False
def kO (x:Option D)(f:D->Prop):Prop:=match x with
 | some d=>f d
 | none=>False
def kS (x:D)(f:List D->Prop):Prop:=match x with
 | .tup ds=>f ds
 | .ls ds=>f ds
 | _=>False
def k2 (ds:List D)(f:D->D->Prop):Prop:=match ds with
 | [v,w]=>f v w
 | _=>False
def kL (μ:Mu)(a:Addr)(f:List D->Prop):Prop:=match μ a with
 | some (.lst ds)=>f ds
 | _=>False
def kD (μ:Mu)(a:Addr)(f:List (L2.Key×D)->Prop):Prop:=match μ a with
 | some (.dct ds)=>f ds
 | _=>False
def kN (x:Option Nat)(f:Nat->Prop):Prop:=match x with
 | some d=>f d
 | none=>False
def lk:ST->Nat->Option D
 | [],_=>none
 | o::_,0=>o
 | _::r,n+1=>lk r n
def ah (i:Nat):ETr:=λρ μ Q=>kO (lk ρ i) λd=>Q d μ
def TC (d:D):ETr:=λ_ μ Q=>Q d μ
def aj (r:DR2)(a b:ETr):ETr:=λρ μ Q=>a ρ μ λx μ1=>b ρ μ1 λy μ2=>r x y μ2 Q
def TUn (r:DR)(a:ETr):ETr:=λρ μ Q=>a ρ μ λx μ1=>r x μ1 Q
def S64 (i:Int):Prop:=-18446744073709551616 < i/\i < 18446744073709551616
def gc (i:Int):Prop:=-115792089237316195423570985008687907853269984665640564039457584007913129639936 < i/\i < 115792089237316195423570985008687907853269984665640564039457584007913129639936
def MulOk (i j:Int):Prop:=(S64 i∨S64 j)∨(gc i/\gc j)
def jE (j:Int):Prop:=j≠0/\gc j
def sC (i j:Int):Prop:=0<=j/\j<=1000000/\i.natAbs < 18446744073709551616
def SN:DR2:=λx y μ Q=>match x,y with
 | .int i,.int j=>Q (.int (i+j)) μ
 | .tup a,.tup b=>(a≠[]/\a.length+b.length<=1000000)/\Q (.tup (a++b)) μ
 | _,_=>False
def je:DR2:=λx y μ Q=>match x,y with
 | .int i,.int j=>Q (.int (i - j)) μ
 | _,_=>False
def eJ:DR2:=λx y μ Q=>match x,y with
 | .int i,.int j=>MulOk i j/\Q (.int (i*j)) μ
 | _,_=>False
def nJ:DR2:=λx y μ Q=>match x,y with
 | .int i,.int j=>jE j/\Q (.int (i.fdiv j)) μ
 | _,_=>False
def mP:DR2:=λx y μ Q=>match x,y with
 | .int i,.int j=>j≠0/\Q (.int (i.fmod j)) μ
 | _,_=>False
def IA:DR2:=λx y μ Q=>match x,y with
 | .int i,.int j=>sC i j/\Q (.int (i ^ j.toNat)) μ
 | _,_=>False
def Ny:DR:=λx μ Q=>match x with
 | .int i=>Q (.int (-i)) μ
 | _=>False
def Fz (p:Int->Int->Bool):DR2:=λx y μ Q=>match x,y with
 | .int i,.int j=>Q (.bl (p i j)) μ
 | _,_=>False
def rLt:DR2:=Fz λi j=>decide (i < j)
def rLe:DR2:=Fz λi j=>decide (i<=j)
def rGt:DR2:=Fz λi j=>decide (j < i)
def rGe:DR2:=Fz λi j=>decide (j<=i)
mutual
def eqD:D->D->Bool
 | .non,.non=>true
 | .bl a,.bl b=>a == b
 | .int a,.int b=>decide (a=b)
 | .bl a,.int b=>decide ((if a then 1 else 0:Int)=b)
 | .int a,.bl b=>decide (a=(if b then 1 else 0:Int))
 | .str a,.str b=>decide (a=b)
 | .tup a,.tup b=>jZ a b
 | .ls a,.ls b=>jZ a b
 | _,_=>false
def jZ:List D->List D->Bool
 | [],[]=>true
 | a::r,b::s=>eqD a b&&jZ r s
 | _,_=>false
end
mutual
def okD:Nat->D->Bool
 | _,.non=>true
 | _,.bl _=>true
 | _,.int _=>true
 | _,.str x=>WD x
 | n+1,.tup ds=>b7 n ds
 | n+1,.ls ds=>b7 n ds
 | _,_=>false
def b7:Nat->List D->Bool
 | _,[]=>true
 | n,d::ds=>okD n d&&b7 n ds
end
def rEq:DR2:=λx y μ Q=>(okD 40 x=true/\okD 40 y=true)/\Q (.bl (eqD x y)) μ
def rNe:DR2:=λx y μ Q=>(okD 40 x=true/\okD 40 y=true)/\Q (.bl (!eqD x y)) μ
def rIs:DR2:=λx y μ Q=>match y with
 | .non=>(match x with
  | .non=>Q (.bl true) μ
  | _=>Q (.bl false) μ)
 | _=>False
def Bk:DR2:=λx y μ Q=>match y with
 | .non=>(match x with
  | .non=>Q (.bl false) μ
  | _=>Q (.bl true) μ)
 | _=>False
def iz (a b:ETr):ETr:=λρ μ Q=>a ρ μ λx μ1=>kB x λc=>kIf c (b ρ μ1 Q) (Q (.bl false) μ1)
def IL (a b:ETr):ETr:=λρ μ Q=>a ρ μ λx μ1=>kB x λc=>kIf c (Q (.bl true) μ1) (b ρ μ1 Q)
def sR (a:ETr):ETr:=λρ μ Q=>a ρ μ λx μ1=>kB x λc=>Q (.bl (!c)) μ1
def TB (t:ETr):TTr:=λρ μ Q=>t ρ μ λx μ1=>kB x λc=>Q c μ1
def tL (t u:TTr):TTr:=λρ μ Q=>t ρ μ λc μ1=>kIf c (u ρ μ1 Q) (Q false μ1)
def TOr (t u:TTr):TTr:=λρ μ Q=>t ρ μ λc μ1=>kIf c (Q true μ1) (u ρ μ1 Q)
def uY (t:TTr):TTr:=λρ μ Q=>t ρ μ λc μ1=>Q (!c) μ1
def lC (c:TTr)(a b:ETr):ETr:=λρ μ Q=>c ρ μ λk μ1=>kIf k (a ρ μ1 Q) (b ρ μ1 Q)
def lr (r r':DR2)(a b c:ETr):ETr:=λρ μ Q=>a ρ μ λx μ1=>b ρ μ1 λy μ2=>r x y μ2 λz μ3=>kB z λk=>kIf k (c ρ μ3 λy' μ4=>r' y y' μ4 Q) (Q (.bl false) μ3)
def ar:ATr:=λ_ μ Q=>Q [] μ
def af (a:ETr)(r:ATr):ATr:=λρ μ Q=>a ρ μ λx μ1=>r ρ μ1 λxs μ2=>Q (x::xs) μ2
def bh (t:ATr):ETr:=λρ μ Q=>t ρ μ λds μ1=>ds.length<=1000000/\Q (.tup ds) μ1
def fM (t:ATr):ETr:=λρ μ Q=>t ρ μ λds μ1=>ds.length<=1000000/\Q (.ls ds) μ1
def lF (t:ATr):ETr:=λρ μ Q=>t ρ μ λds μ1=>ds.length<=1000000/\∀ p,μ1 p=none->Q (.obj p) (up μ1 p (.lst ds))
def aq (sp:FSp)(t:ATr):ETr:=λρ μ Q=>t ρ μ λds μ1=>sp ds μ1 Q
def atD (ds:List D)(i:Int):Option D:=L2.atI ds i
def rIx:DR2:=λx y μ Q=>match x,y with
 | .tup ds,.int i=>kO (atD ds i) λd=>Q d μ
 | .ls ds,.int i=>kO (atD ds i) λd=>Q d μ
 | .obj a,.int i=>kL μ a λds=>kO (atD ds i) λd=>Q d μ
 | _,_=>False
def zE:FSp:=λds μ Q=>match ds with
 | [.int i]=>Q (.int (if i < 0 then -i else i)) μ
 | _=>False
def ua:FSp:=λds μ Q=>match ds with
 | [.int i,.int j]=>Q (.int (if j > i then j else i)) μ
 | _=>False
def uv:FSp:=λds μ Q=>match ds with
 | [.int i,.int j]=>Q (.int (if j < i then j else i)) μ
 | _=>False
def AL:FSp:=λds μ Q=>match ds with
 | [.int i]=>Q (.int i) μ
 | [.bl k]=>Q (.int (if k then 1 else 0)) μ
 | _=>False
def cQ:FSp:=λds μ Q=>match ds with
 | [.tup xs]=>Q (.int xs.length) μ
 | [.ls xs]=>Q (.int xs.length) μ
 | [.str x]=>x.length<=1000000/\Q (.int x.length) μ
 | [.obj a]=>kL μ a λxs=>Q (.int xs.length) μ
 | _=>False
def tyD:D->Option String
 | .non=>some "NoneType"
 | .bl _=>some "bool"
 | .int _=>some "int"
 | .str _=>some "str"
 | .tup _=>some "tuple"
 | .ls _=>some "list"
 | _=>none
def eP (t c:String):Bool:=t == c || (t == "bool" && c == "int")
def eS (c:String):DR:=λx μ Q=>match tyD x with
 | some t=>Q (.bl (eP t c)) μ
 | none=>False
def a9:STr:=λE ρ μ=>E.nx ρ μ
def ay (t u:STr):STr:=λE ρ μ=>t { E with nx:=u E } ρ μ
def Bn:STr:=λE ρ μ=>E.bk ρ μ
def Ja:STr:=λE ρ μ=>E.ct ρ μ
def eU (e:ETr):STr:=λE ρ μ=>e ρ μ λ_ μ1=>E.nx ρ μ1
def aT (e:ETr):STr:=λE ρ μ=>e ρ μ E.rt
def Kl:STr:=λE _ μ=>E.rt .non μ
def bI (c:TTr)(t u:STr):STr:=λE ρ μ=>c ρ μ λb μ1=>kIf b (t E ρ μ1) (u E ρ μ1)
def aw (i:Nat):GTr:=λd ρ μ k=>k (ρ.set i (some d)) μ
def aN (e:ETr)(g:GTr):STr:=λE ρ μ=>e ρ μ λd μ1=>g d ρ μ1 E.nx
def pz (i j:Nat)(a:ATr):STr:=λE ρ μ=>a ρ μ λds μ1=>k2 ds λv w=>E.nx ((ρ.set i (some v)).set j (some w)) μ1
def TK (x z y:D)(μ:Mu)(f:Mu->Prop):Prop:=match x,z with
 | .obj a,.int n=>kL μ a λds=>kN (L2.ixN ds.length n) λj=>f (up μ a (.lst (ds.set j y)))
 | _,_=>False
def Cg (o k e:ETr):STr:=λE ρ μ=>e ρ μ λy μ1=>o ρ μ1 λx μ2=>k ρ μ2 λz μ3=>TK x z y μ3 λμ4=>E.nx ρ μ4
def wQ (c:TTr)(b:STr):STr:=λE ρ μ=>∃ (P:ST->Mu->Prop) (m:ST->Mu->Nat),P ρ μ/\∀ ρ μ,P ρ μ->
 c ρ μ λk μ1=>kIf k (b { E with nx:=λρ' μ'=>P ρ' μ'/\m ρ' μ' < m ρ μ,ct:=λρ' μ'=>P ρ' μ'/\m ρ' μ' < m ρ μ,bk:=E.nx } ρ μ1) (E.nx ρ μ1)
def forR (g:GTr)(b:STr)(E:En):List D->ST->Mu->Prop
 | [],ρ,μ=>E.nx ρ μ
 | d::r,ρ,μ=>g d ρ μ λρ1 μ1=>b { E with nx:=forR g b E r,ct:=forR g b E r,bk:=E.nx } ρ1 μ1
def iR (it:ATr)(g:GTr)(b:STr):STr:=λE ρ μ=>it ρ μ λds μ1=>forR g b E ds ρ μ1
def ck (lo:Int)(n:Nat):List D:=(Xh n).map λi=>.int (lo+(i:Nat))
def fi (a:ETr):ATr:=λρ μ Q=>a ρ μ λx μ1=>kI x λj=>(-4611686018427387904<=j/\j < 4611686018427387904)/\Q (ck 0 j.toNat) μ1
def eg (a:ETr):ATr:=λρ μ Q=>a ρ μ λx μ1=>kS x λds=>Q ds μ1
def dn (μ:Mu)(a:Addr):Mu:=λb=>if b=a then none else μ b
theorem sM {μ:Mu}{a:Addr}{o:MO}(h:μ a=none):dn (up μ a o) a=μ:=by
 funext b
 unfold dn up
 by_cases hb:b=a
 ·subst hb;simp[h]
 ·simp[hb]
def fc (ρ:ST)(n:Nat)(caps:List Nat):ST:=X6 n none++caps.map (lk ρ)
def fF (p:Addr)(G:GTr)(tt:TTr)(te:ETr)(ρc:ST)(K:Mu->Prop):List D->Mu->Prop
 | [],μ=>K μ
 | d::r,μ=>G d ρc μ λρ1 μ1=>tt ρ1 μ1 λb μ2=>kIf b (te ρ1 μ2 λy μ3=>kL μ3 p λzs=>zs.length < 1000000/\fF p G tt te ρc K r (up μ3 p (.lst (zs++[y])))) (fF p G tt te ρc K r μ2)
def bG (it:ATr)(G:GTr)(tt:TTr)(te:ETr)(n:Nat)(caps:List Nat):ETr:=λρ μ Q=>it ρ μ λds μ1=>∀ p,μ1 p=none->
 fF p G tt te (fc ρ n caps) (λμ'=>kL μ' p λzs=>Q (.ls zs) (dn μ' p)) ds (up μ1 p (.lst []))
def dA:TTr:=λ_ μ Q=>Q true μ
def G6:FSp:=λds μ Q=>match ds with
 | [.ls xs]=>∃ bs:List Bool,xs=bs.map .bl/\Q (.bl (bs.all id)) μ
 | _=>False
theorem bP {g:GTr}{b:STr}{E:En}(P:List D->ST->Mu->Prop)(hnil:∀ ρ μ,P [] ρ μ->E.nx ρ μ)
  (hcons:∀ d r ρ μ (N:ST->Mu->Prop),P (d::r) ρ μ->(∀ ρ' μ',P r ρ' μ'->N ρ' μ')->g d ρ μ λρ1 μ1=>b { E with nx:=N,ct:=N,bk:=E.nx } ρ1 μ1) :
  ∀ (ds:List D) (ρ:ST) (μ:Mu),P ds ρ μ->forR g b E ds ρ μ
 | [],ρ,μ,h=>hnil ρ μ h
 | d::r,ρ,μ,h=>hcons d r ρ μ _ h λρ' μ' q=>bP P hnil hcons r ρ' μ' q
section
open PySem PySem.Spec PyProof.Rows L2
def SqF (K:Wq)(H:Hp)(a:Addr)(xs:List V):Prop:=
 (∃ o,H a=some (.frz o (.lst xs)))∨
  ∃ (o:Obj) (its:Array Wv) (n:Nat),K.lookup a=some o/\o.cls=.type "list" /\ o.dict=none/\o.data=.seq its n/\its.size<=sizeLine/\Vals xs its.toList
theorem SqF.sq {K:Wq}{H:Hp}{a:Addr}{xs:List V}(h:SqF K H a xs):SqL K H a xs:=by
 rcases h with h | h
 ·exact .inl (.inr h)
 ·exact .inr h
mutual
inductive Dp (K:Wq) (H:Hp):V->D->Prop
 | non:Dp K H .non .non
 | bl (b:Bool):Dp K H (.bl b) (.bl b)
 | int (n:Int):Dp K H (.int n) (.int n)
 | str (z:Str):Dp K H (.str z) (.str z)
 | ty (n:String):Dp K H (.ty n) (.ty n)
 | tup {a:Addr} {xs:List V} {ds:List D}:SqT K H a xs->DpL K H xs ds->Dp K H (.ref a) (.tup ds)
 | ls {a:Addr} {xs:List V} {ds:List D}:SqF K H a xs->DpL K H xs ds->Dp K H (.ref a) (.ls ds)
 | obj (a:Addr):Dp K H (.ref a) (.obj a)
inductive DpL (K:Wq) (H:Hp):List V->List D->Prop
 | nil:DpL K H [] []
 | cons {v:V} {d:D} {vs:List V} {ds:List D}:Dp K H v d->DpL K H vs ds->DpL K H (v::vs) (d::ds)
end
structure Tk (H H':Hp):Prop where
 tup:∀ a xs,H a=some (.tup xs)->H' a=some (.tup xs)
 frz:∀ a o u,H a=some (.frz o u)->H' a=some (.frz o u)
theorem Tk.refl (H:Hp):Tk H H:=⟨λ_ _ h=>h,λ_ _ _ h=>h⟩
theorem Tk.trans {H H1 H2:Hp}(a:Tk H H1)(b:Tk H1 H2):Tk H H2:=⟨λc xs h=>b.tup c xs (a.tup c xs h),λc o u h=>b.frz c o u (a.frz c o u h)⟩
theorem Tk.upd {H:Hp}{a:Addr}{o:HO}(h1:∀ xs,H a≠some (.tup xs))(h2:∀ o u,H a≠some (.frz o u)):Tk H (L2.upd H a o):=
 ⟨λb xs h=>by rw[aJ (λz=>by subst z;exact h1 _ h)];exact h,λb o u h=>by rw[aJ (λz=>by subst z;exact h2 _ _ h)];exact h⟩
theorem Tk.new {H:Hp}{a:Addr}{o:HO}(h:H a=none):Tk H (L2.upd H a o):=.upd (λ_ e=>by rw[h] at e;cases e) λ_ _ e=>by rw[h] at e;cases e
theorem Tk.sqT {K:Wq}{H H':Hp}{a:Addr}{xs:List V}(t:Tk H H')(h:SqT K H a xs):SqT K H' a xs:=by
 rcases h with (h | ⟨o,h⟩) | h
 ·exact .inl (.inl (t.tup _ _ h))
 ·exact .inl (.inr ⟨o,t.frz _ _ _ h⟩)
 ·exact .inr h
theorem Tk.sqF {K:Wq}{H H':Hp}{a:Addr}{xs:List V}(t:Tk H H')(h:SqF K H a xs):SqF K H' a xs:=by
 rcases h with ⟨o,h⟩ | h
 ·exact .inl ⟨o,t.frz _ _ _ h⟩
 ·exact .inr h
mutual
theorem Dp.mono {K:Wq}{H H':Hp}(t:Tk H H'):∀ {v:V} {d:D},Dp K H v d->Dp K H' v d
 | _,_,.non=>.non
 | _,_,.bl b=>.bl b
 | _,_,.int i=>.int i
 | _,_,.str x=>.str x
 | _,_,.ty n=>.ty n
 | _,_,.tup h l=>.tup (t.sqT h) (DpL.mono t l)
 | _,_,.ls h l=>.ls (t.sqF h) (DpL.mono t l)
 | _,_,.obj a=>.obj a
theorem DpL.mono {K:Wq}{H H':Hp}(t:Tk H H'):∀ {vs:List V} {ds:List D},DpL K H vs ds->DpL K H' vs ds
 | _,_,.nil=>.nil
 | _,_,.cons h l=>.cons (Dp.mono t h) (DpL.mono t l)
end
theorem DpL.length {K:Wq}{H:Hp}:∀ {vs:List V} {ds:List D},DpL K H vs ds->vs.length=ds.length
 | _,_,.nil=>rfl
 | _,_,.cons _ l=>by rw[W6,W6,DpL.length l]
theorem DpL.get {K:Wq}{H:Hp}:∀ {vs:List V} {ds:List D} {i:Nat} {d:D},DpL K H vs ds->ds[i]? = some d->∃ v,vs[i]? = some v/\Dp K H v d
 | _,_,_,_,.nil,e=>by simp at e
 | _,_,0,_,.cons h _,e=>by simp at e;subst e;exact ⟨_,rfl,h⟩
 | _,_,i+1,d,.cons _ l,e=>by
  obtain ⟨v,e1,h⟩:=DpL.get (i:=i) (d:=d) l (by simpa using e)
  exact ⟨v,by simpa using e1,h⟩
theorem DpL.get' {K:Wq}{H:Hp}:∀ {vs:List V} {ds:List D} {i:Nat} {v:V},DpL K H vs ds->vs[i]? = some v->∃ d,ds[i]? = some d/\Dp K H v d
 | _,_,_,_,.nil,e=>by simp at e
 | _,_,0,_,.cons h _,e=>by simp at e;subst e;exact ⟨_,rfl,h⟩
 | _,_,i+1,d,.cons _ l,e=>by
  obtain ⟨v,e1,h⟩:=DpL.get' (i:=i) (v:=d) l (by simpa using e)
  exact ⟨v,by simpa using e1,h⟩
theorem DpL.set {K:Wq}{H:Hp}{v:V}{d:D}(h:Dp K H v d):∀ {vs:List V} {ds:List D} (i:Nat),DpL K H vs ds->DpL K H (vs.set i v) (ds.set i d)
 | _,_,_,.nil=>.nil
 | _,_,0,.cons _ l=>.cons h l
 | _,_,i+1,.cons q l=>.cons q (DpL.set h i l)
theorem DpL.append {K:Wq}{H:Hp}:∀ {vs ws:List V} {ds es:List D},DpL K H vs ds->DpL K H ws es->DpL K H (vs++ws) (ds++es)
 | _,_,_,_,.nil,s=>s
 | _,_,_,_,.cons h l,s=>.cons h (DpL.append l s)
theorem DpL.at {K:Wq}{H:Hp}{vs:List V}{ds:List D}{i:Int}{d:D}(l:DpL K H vs ds)(e:atD ds i=some d):∃ v,atI vs i=some v/\Dp K H v d:=by
 unfold atD atI at e
 unfold atI
 rw[l.length]
 cases q:ixN ds.length i with
 | none=>rw[q] at e;cases e
 | some j=>
  rw[q] at e
  exact l.get e
def DpK {κ:Type}(K:Wq)(H:Hp)(xs:List (κ×V))(kvs:List (κ×D)):Prop:=xs.map (·.1)=kvs.map (·.1)/\DpL K H (xs.map (·.2)) (kvs.map (·.2))
theorem DpK.mono {κ:Type}{K:Wq}{H H':Hp}(t:Tk H H'){xs:List (κ×V)}{kvs:List (κ×D)}(h:DpK K H xs kvs):DpK K H' xs kvs:=⟨h.1,h.2.mono t⟩
def AZ (K:Wq)(H:Hp)(a:Addr):MO->Prop
 | .lst ds=>∃ xs,H a=some (.lst xs)/\DpL K H xs ds
 | .dct kvs=>∃ xs,H a=some (.dK xs)/\DpK K H xs kvs
 | .dcT kvs=>∃ xs,H a=some (.dT xs)/\DpK K H xs kvs
 | .dcF kvs=>∃ xs,(∃ o,H a=some (.frz o (.dK xs)))/\DpK K H xs kvs
theorem AZ.go {K:Wq}{H H':Hp}{a:Addr}{o:MO}(h:AZ K H a o)(t:Tk H H')(k:∀ u,H a=some u->H' a=some u):AZ K H' a o:=by
 cases o<;>(obtain ⟨xs,z,l⟩:=h;first | exact ⟨xs,k _ z,l.mono t⟩ | (obtain ⟨o,z⟩:=z;exact ⟨xs,⟨o,k _ z⟩,l.mono t⟩))
theorem AZ.ne {K:Wq}{H:Hp}{a q:Addr}{o:MO}{u:HO}(h:AZ K H a o)(t:Tk H (L2.upd H q u))(k:a≠q):AZ K (L2.upd H q u) a o:=h.go t λ_ e=>by rw[aJ k];exact e
def bE (K:Wq)(H:Hp)(μ:Mu):Prop:=∀ a o,μ a=some o->AZ K H a o
theorem bE.free {K:Wq}{H:Hp}{μ:Mu}(h:bE K H μ){a:Addr}(e:H a=none):μ a=none:=by
 cases q:μ a with
 | none=>rfl
 | some o=>
  cases o<;>(obtain ⟨xs,z,_⟩:=h a _ q;first | (rw[e] at z;cases z;done) | (obtain ⟨o,z⟩:=z;rw[e] at z;cases z))
theorem bE.keep {K:Wq}{H H':Hp}{μ:Mu}(h:bE K H μ)(t:Tk H H')(k:∀ a u,μ a≠none->H a=some u->H' a=some u):bE K H' μ:=λa o e=>by
 exact (h a _ e).go t λu z=>k a u (by rw[e];simp) z
def Sub (μ μ':Mu):Prop:=∀ a o,μ a=some o->μ' a=some o
theorem Sub.refl (μ:Mu):Sub μ μ:=λ_ _ h=>h
theorem Sub.new {μ:Mu}{p:Addr}{o:MO}(h:μ p=none):Sub μ (up μ p o):=λa u e=>by
 rw[aS (λz=>by subst z;rw[h] at e;cases e)];exact e
theorem Sub.trans {μ μ1 μ2:Mu}(a:Sub μ μ1)(b:Sub μ1 μ2):Sub μ μ2:=λc o h=>b c o (a c o h)
theorem bE.sub {K:Wq}{H:Hp}{μ μ':Mu}(h:bE K H μ')(s:Sub μ μ'):bE K H μ:=λa o e=>h a o (s a o e)
structure Rl (K:Wq) (σ:L2.St) (H:Hp) (ρ:ST) (μ:Mu):Prop where
 len:ρ.length=σ.length
 loc:∀ i d,lk ρ i=some d->∃ v,σ[i]? = some (some v)/\Dp K H v d
 mu:bE K H μ
theorem Rl.go {K:Wq}{σ:L2.St}{H H':Hp}{ρ:ST}{μ μ':Mu}(r:Rl K σ H ρ μ)(t:Tk H H')(m:bE K H' μ'):Rl K σ H' ρ μ':=
 ⟨r.len,λi d e=>let ⟨v,h1,h2⟩:=r.loc i d e;⟨v,h1,h2.mono t⟩,m⟩
theorem Kg:∀ (ρ:ST) (i j:Nat) (d:D),lk (ρ.set i (some d)) j=if i=j/\i < ρ.length then some d else lk ρ j
 | [],i,j,d=>by simp[lk]
 | o::r,0,0,d=>by simp[lk]
 | o::r,0,j+1,d=>by simp[lk]
 | o::r,i+1,0,d=>by simp[lk]
 | o::r,i+1,j+1,d=>by
  show lk (r.set i (some d)) j=_
  rw[Kg r i j d]
  simp[lk]
theorem Rl.set {K:Wq}{σ:L2.St}{H:Hp}{ρ:ST}{μ:Mu}(r:Rl K σ H ρ μ){v:V}{d:D}(h:Dp K H v d)(i:Nat):Rl K (σ.set i (some v)) H (ρ.set i (some d)) μ:=by
 refine ⟨by simp[r.len],λj e q=>?_,r.mu⟩
 rw[Kg] at q
 split at q
 ·rename_i hc
  obtain ⟨rfl,hlt⟩:=hc
  cases q
  exact ⟨v,by rw[ZS (by rw[← r.len];exact hlt)],h⟩
 ·rename_i hc
  obtain ⟨u,h1,h2⟩:=r.loc j e q
  by_cases hij:i=j
  ·subst hij
   have:¬ i < ρ.length:=λz=>hc ⟨rfl,z⟩
   have hn:σ[i]? = none:=Zr.mpr (by rw[← r.len];omega)
   rw[hn] at h1;cases h1
  ·exact ⟨u,by rw[YC hij];exact h1,h2⟩
abbrev jX (K:Wq)(H:Hp)(Q:DK)(Q':VK):Prop:=∀ v H' d μ',Tk H H'->bE K H' μ'->Dp K H' v d->Q d μ'->Q' v H'
def Sim (K:Wq)(t:TE)(T:ETr):Prop:=∀ σ H ρ μ (Q:DK) (Q':VK),Rl K σ H ρ μ->T ρ μ Q->jX K H Q Q'->t σ H Q'
def Mh (K:Wq)(t:TT)(T:TTr):Prop:=∀ σ H ρ μ (Q:Bool->Mu->Prop) (Q':Bool->Hp->Prop),Rl K σ H ρ μ->T ρ μ Q->(∀ b H' μ',Tk H H'->bE K H' μ'->Q b μ'->Q' b H')->t σ H Q'
def TX (K:Wq)(t:TA)(T:ATr):Prop:=∀ σ H ρ μ (Q:List D->Mu->Prop) (Q':List V->Hp->Prop),Rl K σ H ρ μ->T ρ μ Q->(∀ vs H' ds μ',Tk H H'->bE K H' μ'->DpL K H' vs ds->Q ds μ'->Q' vs H')->t σ H Q'
abbrev xQ (K:Wq)(H:Hp)(N:ST->Mu->Prop)(N':L2.St->Hp->Prop):Prop:=∀ σ' H' ρ' μ',Tk H H'->Rl K σ' H' ρ' μ'->N ρ' μ'->N' σ' H'
structure FL (K:Wq) (H:Hp) (E:En) (E':Ends):Prop where
 nx:xQ K H E.nx E'.nx
 rt:jX K H E.rt E'.rt
 bk:xQ K H E.bk E'.bk
 ct:xQ K H E.ct E'.ct
theorem FL.go {K:Wq}{H H1:Hp}{E:En}{E':Ends}(e:FL K H E E')(t:Tk H H1):FL K H1 E E':=
 ⟨λ_ _ _ _ t'=>e.nx _ _ _ _ (t.trans t'),λ_ _ _ _ t'=>e.rt _ _ _ _ (t.trans t'),λ_ _ _ _ t'=>e.bk _ _ _ _ (t.trans t'),λ_ _ _ _ t'=>e.ct _ _ _ _ (t.trans t')⟩
def Iy (K:Wq)(t:TS)(T:STr):Prop:=∀ σ H ρ μ (E:En) (E':Ends),Rl K σ H ρ μ->T E ρ μ->FL K H E E'->t E' σ H
def Q9 (K:Wq)(g:TG)(G:GTr):Prop:=∀ σ H ρ μ v d (k:ST->Mu->Prop) (k':L2.St->Hp->Prop),Rl K σ H ρ μ->Dp K H v d->G d ρ μ k->xQ K H k k'->g v σ H k'
structure LE (X:Cx) (e:W4) (T:ETr):Prop where
 ex:∃ t,PE X e t/\Sim X.K t T
structure LT (X:Cx) (e:W4) (T:TTr):Prop where
 ex:∃ t,PT X e t/\Mh X.K t T
structure LW (X:Cx) (e:W4) (T:TTr):Prop where
 ex:∃ t,PW X e t/\Mh X.K t T
structure LA (X:Cx) (es:List W4) (T:ATr):Prop where
 ex:∃ t,PA X es t/\TX X.K t T
structure LS (X:Cx) (st:Stmt) (T:STr):Prop where
 ex:∃ t,PS X st t/\Iy X.K t T
structure LSs (X:Cx) (sts:List Stmt) (T:STr):Prop where
 ex:∃ t,PSs X sts t/\Iy X.K t T
structure LG (X:Cx) (tg:W4) (G:GTr):Prop where
 ex:∃ g,PG X tg g/\Q9 X.K g G
section
variable {X:Cx} {a b c e:W4} {Ta Tb Tc:ETr} {pos:Pos}
theorem ae (i:Nat){x:Str}(hN:X.N[i]? = some x:=by rfl)(hv:Vis X.env.scope x:=by first | exact ZX rfl | exact ZY (ZX rfl) | exact ZY (ZY rfl))(hd:(x == ("__debug__" : Str))=false:=by decide)
  (hcd:(x == ("__classdict__" : Str))=false:=by decide):LE X (.Name x pos) (ah i):=
 ⟨_,JQ hN hv hd hcd,λσ H ρ μ Q Q' r h k=>by
  have h:kO (lk ρ i) λd=>Q d μ:=h
  cases q:lk ρ i with
  | none=>rw[q] at h;exact WA h
  | some d=>
   rw[q] at h
   have h:Q d μ:=h
   obtain ⟨v,e1,p⟩:=r.loc i d q
   exact ⟨v,e1,k v H d μ (.refl H) r.mu p h⟩⟩
theorem le_int {i:Int}{j}:LE X (.Constant (.int i) j pos) (TC (.int i)):=⟨_,Qj,λσ H ρ μ Q Q' r h k=>k _ H _ μ (.refl H) r.mu (.int i) h⟩
theorem uK {b:Bool}{j}:LE X (.Constant (.bool b) j pos) (TC (.bl b)):=⟨_,Tv,λσ H ρ μ Q Q' r h k=>k _ H _ μ (.refl H) r.mu (.bl b) h⟩
theorem da {j}:LE X (.Constant .none j pos) (TC .non):=⟨_,QN,λσ H ρ μ Q Q' r h k=>k _ H _ μ (.refl H) r.mu .non h⟩
theorem le_str {x:Str}{j}:LE X (.Constant (.str x) j pos) (TC (.str x)):=⟨_,Fy,λσ H ρ μ Q Q' r h k=>k _ H _ μ (.refl H) r.mu (.str x) h⟩
def fm (K:Wq)(r:R2)(R:DR2):Prop:=∀ H μ x y dx dy (Q:DK) (Q':VK),bE K H μ->Dp K H x dx->Dp K H y dy->R dx dy μ Q->jX K H Q Q'->r x y H Q'
def Sk (K:Wq)(r:V->Hp->VK->Prop)(R:DR):Prop:=∀ H μ x dx (Q:DK) (Q':VK),bE K H μ->Dp K H x dx->R dx μ Q->jX K H Q Q'->r x H Q'
theorem jX.go {K:Wq}{H H1:Hp}{Q:DK}{Q':VK}(k:jX K H Q Q')(t:Tk H H1):jX K H1 Q Q':=λv H' d μ' t'=>k v H' d μ' (t.trans t')
theorem pJ {K:Wq}{r:R2}{R:DR2}{ta tb:TE}(hr:fm K r R)(ha:Sim K ta Ta)(hb:Sim K tb Tb):Sim K (tOp r ta tb) (aj R Ta Tb):=λσ H ρ μ Q Q' rl h k=>
 ha σ H ρ μ _ _ rl h λx H1 dx μ1 t1 m1 p1 h1=>hb σ H1 ρ μ1 _ _ (rl.go t1 m1) h1 λy H2 dy μ2 t2 m2 p2 h2=>hr H2 μ2 x y dx dy Q Q' m2 (p1.mono t2) p2 h2 (k.go (t1.trans t2))
theorem sF {op:zb0}{r:R2}{R:DR2}(ho:OpR X (YN op) r)(hr:fm X.K r R)(ha:LE X a Ta)(hb:LE X b Tb):LE X (.BinOp a op b pos) (aj R Ta Tb):=by
 obtain ⟨ta,pa,sa⟩:=ha.ex
 obtain ⟨tb,pb,sb⟩:=hb.ex
 exact ⟨_,Oc ho pa pb,pJ hr sa sb⟩
theorem pN {op:zdX}{r:R2}{R:DR2}(ho:OpR X (X9 op) r)(hr:fm X.K r R)(ha:LE X a Ta)(hb:LE X b Tb)(hm:Y3 op b=false):LE X (.Compare a [op] [b] pos) (aj R Ta Tb):=by
 obtain ⟨ta,pa,sa⟩:=ha.ex
 obtain ⟨tb,pb,sb⟩:=hb.ex
 exact ⟨_,KH ho pa pb hm,pJ hr sa sb⟩
theorem HG {K:Wq}{t:TE}{T:ETr}(h:Sim K t T):Mh K (FE t) (TB T):=λσ H ρ μ Q Q' rl hh k=>
 h σ H ρ μ _ _ rl hh λv H' d μ' t' m' p' h'=>by
  cases p' with
  | bl c=>exact ⟨c,rfl,k c H' μ' t' m' h'⟩
  | _=>exact WA h'
theorem RH {K:Wq}{t:TE}{T:ETr}(h:Sim K t T):Mh K (tB t) (TB T):=λσ H ρ μ Q Q' rl hh k=>
 h σ H ρ μ _ _ rl hh λv H' d μ' t' m' p' h'=>by
  cases p' with
  | bl c=>exact ⟨c,rfl,k c H' μ' t' m' h'⟩
  | _=>exact WA h'
theorem gK {op:zdX}{r:R2}{R:DR2}(ho:OpR X (X9 op) r)(hr:fm X.K r R)(ha:LE X a Ta)(hb:LE X b Tb)(hm:Y3 op b=false):LT X (.Compare a [op] [b] pos) (TB (aj R Ta Tb)):=by
 obtain ⟨ta,pa,sa⟩:=ha.ex
 obtain ⟨tb,pb,sb⟩:=hb.ex
 exact ⟨_,NT ho pa pb hm,HG (pJ hr sa sb)⟩
theorem vw {K:Wq}{C:Int->Int->Prop}{g:Int->Int->V}{R:DR2}(f:Int->Int->D)(hg:∀ H i j,Dp K H (g i j) (f i j))(hR:∀ i j μ Q,R (.int i) (.int j) μ Q->C i j/\Q (f i j) μ)
  (hn:∀ dx dy μ Q,R dx dy μ Q->(∃ i,dx=.int i)/\∃ j,dy=.int j):fm K (rI C g) R:=λH μ x y dx dy Q Q' m px py h k=>by
 obtain ⟨⟨i,rfl⟩,j,rfl⟩:=hn _ _ _ _ h
 cases px;cases py
 obtain ⟨h1,h2⟩:=hR _ _ _ _ h
 exact ⟨i,j,rfl,rfl,h1,k _ H _ μ (.refl H) m (hg H i j) h2⟩
theorem C9 {K:Wq}{g:Int->Int->V}{R:DR2}(f:Int->Int->D)(hg:∀ H i j,Dp K H (g i j) (f i j))(hR:∀ i j μ Q,R (.int i) (.int j) μ Q->Q (f i j) μ)
  (hn:∀ dx dy μ Q,R dx dy μ Q->(∃ i,dx=.int i)/\∃ j,dy=.int j):fm K (rI0 g) R:=λH μ x y dx dy Q Q' m px py h k=>by
 obtain ⟨⟨i,rfl⟩,j,rfl⟩:=hn _ _ _ _ h
 cases px;cases py
 exact ⟨i,j,rfl,rfl,k _ H _ μ (.refl H) m (hg H i j) (hR _ _ _ _ h)⟩
theorem eQ (ha:LE X a Ta)(hb:LE X b Tb):LE X (.BinOp a .Sub b pos) (aj je Ta Tb):=sF QM (C9 (λi j=>.int (i - j)) (λ_ _ _=>.int _) (λ_ _ _ _ h=>h) (λdx dy μ Q h=>by cases dx<;>cases dy<;>first | exact ⟨⟨_,rfl⟩,_,rfl⟩ | exact WA h)) ha hb
theorem gc.abs {j:Int}(h:gc j):j.natAbs < 2 ^ 256:=by
 have e:(2:Nat) ^ 256=115792089237316195423570985008687907853269984665640564039457584007913129639936:=by decide +kernel
 rw[e]
 obtain ⟨h1,h2⟩:=h
 omega
theorem MulOk.ok {i j:Int}(h:MulOk i j):IntMulOk i j:=by
 rcases h with (⟨h1,h2⟩ | ⟨h1,h2⟩) | ⟨h1,h2⟩
 ·exact .of_left (zba h1 h2)
 ·exact .of_right (zba h1 h2)
 ·exact .of_le (zbl h1.abs) (zbl h2.abs) (by decide)
theorem MS:OpR X (YN .Mult) (rI MulOk λi j=>.int (i*j)):=opI λ_ _ _ _ _ _ _ hc q=>mul_int q hc.ok
theorem jE.np {i j:Int}(h:jE j):Builtin.divisionGoesByPylong i j=false:=by
 refine PyProof.noPylong_of_log2 ?_
 have h0:j.natAbs≠0:=by have:=h.1;omega
 have:=(Nat.log2_lt h0).mpr h.2.abs
 omega
theorem Nv:OpR X (YN .FloorDiv) (rI (λ_ j=>jE j) λi j=>.int (i.fdiv j)):=opI λ_ _ _ _ _ _ _ hc q=>floordiv_int hc.1 q (.inl hc.np)
theorem jt (ha:LE X a Ta)(hb:LE X b Tb):LE X (.BinOp a .FloorDiv b pos) (aj nJ Ta Tb):=sF Nv (vw (λi j=>.int (i.fdiv j)) (λ_ _ _=>.int _) (λ_ _ _ _ h=>⟨h.1,h.2⟩) (λdx dy μ Q h=>by cases dx<;>cases dy<;>first | exact ⟨⟨_,rfl⟩,_,rfl⟩ | exact WA h)) ha hb
theorem le_mul (ha:LE X a Ta)(hb:LE X b Tb):LE X (.BinOp a .Mult b pos) (aj eJ Ta Tb):=sF MS (vw (λi j=>.int (i*j)) (λ_ _ _=>.int _) (λ_ _ _ _ h=>⟨h.1,h.2⟩) (λdx dy μ Q h=>by cases dx<;>cases dy<;>first | exact ⟨⟨_,rfl⟩,_,rfl⟩ | exact WA h)) ha hb
theorem iS (ha:LE X a Ta)(hb:LE X b Tb):LE X (.BinOp a .Mod b pos) (aj mP Ta Tb):=sF Lk (vw (λi j=>.int (i.fmod j)) (λ_ _ _=>.int _) (λ_ _ _ _ h=>⟨h.1,h.2⟩) (λdx dy μ Q h=>by cases dx<;>cases dy<;>first | exact ⟨⟨_,rfl⟩,_,rfl⟩ | exact WA h)) ha hb
theorem le_pow (ha:LE X a Ta)(hb:LE X b Tb):LE X (.BinOp a .Pow b pos) (aj IA Ta Tb):=sF Qc (vw (λi j=>.int (i ^ j.toNat)) (λ_ _ _=>.int _) (λ_ _ _ _ h=>⟨h.1,h.2⟩) (λdx dy μ Q h=>by cases dx<;>cases dy<;>first | exact ⟨⟨_,rfl⟩,_,rfl⟩ | exact WA h)) ha hb
theorem iQ {K:Wq}(p:Int->Int->Bool):fm K (rI0 λi j=>.bl (p i j)) (Fz p):=C9 (λi j=>.bl (p i j)) (λ_ _ _=>.bl _) (λ_ _ _ _ h=>h) (λdx dy μ Q h=>by cases dx<;>cases dy<;>first | exact ⟨⟨_,rfl⟩,_,rfl⟩ | exact WA h)
theorem Ub (ha:LE X a Ta)(hb:LE X b Tb):LE X (.Compare a [.Lt] [b] pos) (aj rLt Ta Tb):=pN OG (iQ _) ha hb (fZ _)
theorem S6 (ha:LE X a Ta)(hb:LE X b Tb):LE X (.Compare a [.GtE] [b] pos) (aj rGe Ta Tb):=pN Oo (iQ _) ha hb (fZ _)
theorem mH (ha:LE X a Ta)(hb:LE X b Tb):LT X (.Compare a [.Lt] [b] pos) (TB (aj rLt Ta Tb)):=gK OG (iQ _) ha hb (fZ _)
theorem oh (ha:LE X a Ta)(hb:LE X b Tb):LT X (.Compare a [.Gt] [b] pos) (TB (aj rGt Ta Tb)):=gK UA (iQ _) ha hb (fZ _)
theorem Uz (ha:LE X a Ta)(hb:LE X b Tb):LT X (.Compare a [.GtE] [b] pos) (TB (aj rGe Ta Tb)):=gK Oo (iQ _) ha hb (fZ _)
theorem S2 {op:UnaryOp}{r:V->Hp->VK->Prop}{R:DR}(ho:UnR X (unaryOp op) r)(hr:Sk X.K r R)(ha:LE X a Ta):LE X (.UnaryOp op a pos) (TUn R Ta):=by
 obtain ⟨ta,pa,sa⟩:=ha.ex
 exact ⟨_,Uj ho pa,λσ H ρ μ Q Q' rl h k=>sa σ H ρ μ _ _ rl h λx H1 dx μ1 t1 m1 p1 h1=>hr H1 μ1 x dx Q Q' m1 p1 h1 (k.go t1)⟩
theorem jL (ha:LE X a Ta)(he:∀ whole,isTrue a X.env whole=(do let v ← whole;standAt a.pos;zbw [v] (truthy v)):=by intro _;rfl):LT X a (TB Ta):=by
 obtain ⟨ta,pa,sa⟩:=ha.ex
 exact ⟨_,Pz pa he,RH sa⟩
variable {tA tB' tC':TTr} {rest:List W4}
theorem vf (ha:LT X a tA):LT X (.UnaryOp .Not a pos) (uY tA):=by
 obtain ⟨ta,pa,sa⟩:=ha.ex
 exact ⟨_,Qk pa,λσ H ρ μ Q Q' rl h k=>sa σ H ρ μ _ _ rl h λc H1 μ1 t1 m1 h1=>k (!c) H1 μ1 t1 m1 h1⟩
theorem LW.lt (h:LW X a tA):LT X a tA:=by
 obtain ⟨ta,pa,sa⟩:=h.ex
 exact ⟨_,pa.pt,sa⟩
theorem vk (ha:LT X a tA):LW X (.BoolOp .And [a] pos) tA:=by
 obtain ⟨ta,pa,sa⟩:=ha.ex
 exact ⟨_,pw_and1 pa,sa⟩
theorem sP (ha:LT X a tA):LW X (.BoolOp .Or [a] pos) tA:=by
 obtain ⟨ta,pa,sa⟩:=ha.ex
 exact ⟨_,pw_or1 pa,sa⟩
theorem BH (ha:LT X a tA)(hb:LW X (.BoolOp .And (b::rest) pos) tB'):LW X (.BoolOp .And (a::b::rest) pos) (tL tA tB'):=by
 obtain ⟨ta,pa,sa⟩:=ha.ex
 obtain ⟨tb,pb,sb⟩:=hb.ex
 refine ⟨_,pw_and pa pb,λσ H ρ μ Q Q' rl h k=>sa σ H ρ μ _ _ rl h λc H1 μ1 t1 m1 h1=>?_⟩
 cases c with
 | true=>exact pk (sb σ H1 ρ μ1 Q Q' (rl.go t1 m1) h1 λb H2 μ2 t2=>k b H2 μ2 (t1.trans t2))
 | false=>exact pw (k false H1 μ1 t1 m1 h1)
theorem z9 (ha:LT X a tA)(hb:LW X (.BoolOp .Or (b::rest) pos) tB'):LW X (.BoolOp .Or (a::b::rest) pos) (TOr tA tB'):=by
 obtain ⟨ta,pa,sa⟩:=ha.ex
 obtain ⟨tb,pb,sb⟩:=hb.ex
 refine ⟨_,pw_or pa pb,λσ H ρ μ Q Q' rl h k=>sa σ H ρ μ _ _ rl h λc H1 μ1 t1 m1 h1=>?_⟩
 cases c with
 | true=>exact pk (k true H1 μ1 t1 m1 h1)
 | false=>exact pw (sb σ H1 ρ μ1 Q Q' (rl.go t1 m1) h1 λb H2 μ2 t2=>k b H2 μ2 (t1.trans t2))
theorem u6 {op}(h:LE X a Ta):LE X (.BoolOp op [a] pos) Ta:=by
 obtain ⟨ta,pa,sa⟩:=h.ex
 exact ⟨_,Rp pa,sa⟩
theorem vi (ha:LE X a Ta)(hb:LE X (.BoolOp .And (b::rest) pos) Tb):LE X (.BoolOp .And (a::b::rest) pos) (iz Ta Tb):=by
 obtain ⟨ta,pa,sa⟩:=ha.ex
 obtain ⟨tb,pb,sb⟩:=hb.ex
 refine ⟨_,OQ pa pb,λσ H ρ μ Q Q' rl h k=>sa σ H ρ μ _ _ rl h λx H1 dx μ1 t1 m1 p1 h1=>?_⟩
 cases p1 with
 | bl c=>
  refine ⟨c,rfl,?_⟩
  cases c with
  | true=>exact pk (sb σ H1 ρ μ1 Q Q' (rl.go t1 m1) h1 (k.go t1))
  | false=>exact pw (k _ H1 _ μ1 t1 m1 (.bl _) h1)
 | _=>exact WA h1
theorem Uh (ha:LE X a Ta)(hb:LE X (.BoolOp .Or (b::rest) pos) Tb):LE X (.BoolOp .Or (a::b::rest) pos) (IL Ta Tb):=by
 obtain ⟨ta,pa,sa⟩:=ha.ex
 obtain ⟨tb,pb,sb⟩:=hb.ex
 refine ⟨_,T7 pa pb,λσ H ρ μ Q Q' rl h k=>sa σ H ρ μ _ _ rl h λx H1 dx μ1 t1 m1 p1 h1=>?_⟩
 cases p1 with
 | bl c=>
  refine ⟨c,rfl,?_⟩
  cases c with
  | true=>exact pk (k _ H1 _ μ1 t1 m1 (.bl _) h1)
  | false=>exact pw (sb σ H1 ρ μ1 Q Q' (rl.go t1 m1) h1 (k.go t1))
 | _=>exact WA h1
theorem O7 (ha:LE X a Ta):LE X (.UnaryOp .Not a pos) (sR Ta):=by
 obtain ⟨ta,pa,sa⟩:=ha.ex
 refine ⟨_,OK pa,λσ H ρ μ Q Q' rl h k=>sa σ H ρ μ _ _ rl h λx H1 dx μ1 t1 m1 p1 h1=>?_⟩
 cases p1 with
 | bl c=>exact ⟨c,rfl,k _ H1 _ μ1 t1 m1 (.bl _) h1⟩
 | _=>exact WA h1
theorem hX (hc:LT X c tC')(ha:LE X a Ta)(hb:LE X b Tb):LE X (.IfExp c a b pos) (lC tC' Ta Tb):=by
 obtain ⟨tc,pc,sc⟩:=hc.ex
 obtain ⟨ta,pa,sa⟩:=ha.ex
 obtain ⟨tb,pb,sb⟩:=hb.ex
 refine ⟨_,Ks pc pa pb,λσ H ρ μ Q Q' rl h k=>sc σ H ρ μ _ _ rl h λq H1 μ1 t1 m1 h1=>?_⟩
 cases q with
 | true=>exact pk (sa σ H1 ρ μ1 Q Q' (rl.go t1 m1) h1 (k.go t1))
 | false=>exact pw (sb σ H1 ρ μ1 Q Q' (rl.go t1 m1) h1 (k.go t1))
variable {es:List W4} {At:ATr}
theorem ai:LA X [] ar:=⟨_,gX,λσ H ρ μ Q Q' rl h k=>k [] H [] μ (.refl H) rl.mu .nil h⟩
theorem aa (ha:LE X e Ta)(hr:LA X es At)(hs:WI (e::es) X.env=(false,XG e X.env)::WI es X.env:=by rfl):LA X (e::es) (af Ta At):=by
 obtain ⟨ta,pa,sa⟩:=ha.ex
 obtain ⟨tr,pr,sr⟩:=hr.ex
 exact ⟨_,dU pa pr hs,λσ H ρ μ Q Q' rl h k=>sa σ H ρ μ _ _ rl h λx H1 dx μ1 t1 m1 p1 h1=>sr σ H1 ρ μ1 _ _ (rl.go t1 m1) h1 λxs H2 ds μ2 t2 m2 p2 h2=>k _ H2 _ μ2 (t1.trans t2) m2 (.cons (p1.mono t2) p2) h2⟩
theorem bV {K:Wq}{H:Hp}{μ:Mu}{p:Addr}{o:HO}(m:bE K H μ)(hp:H p=none):bE K (L2.upd H p o) μ:=m.keep (.new hp) λa' xs' _ e=>by rw[aJ (aZ e hp)];exact e
theorem big {n:Nat}(h:n<=1000000):n<=sizeLine:=Xu h (by decide)
theorem aQ {x1}(h:LA X es At):LE X (.Tuple es x1 pos) (bh At):=by
 obtain ⟨ta,pa,sa⟩:=h.ex
 refine ⟨_,BJ pa,λσ H ρ μ Q Q' rl h k=>sa σ H ρ μ _ _ rl h λxs H1 ds μ1 t1 m1 p1 h1=>⟨by rw[p1.length];exact big h1.1,λp hp=>?_⟩⟩
 exact k _ _ _ μ1 (t1.trans (.new hp)) (bV m1 hp) (.tup (SqT.of aK) (p1.mono (.new hp))) h1.2
theorem h9 (h:LA X es At):LE X (.List es pos) (lF At):=by
 obtain ⟨ta,pa,sa⟩:=h.ex
 refine ⟨_,Gh pa,λσ H ρ μ Q Q' rl h k=>sa σ H ρ μ _ _ rl h λxs H1 ds μ1 t1 m1 p1 h1=>⟨by rw[p1.length];exact big h1.1,λp hp=>?_⟩⟩
 refine k _ _ _ (up μ1 p (.lst ds)) (t1.trans (.new hp)) (λa o e=>?_) (.obj p) (h1.2 p (m1.free hp))
 by_cases ha:a=p
 ·subst ha
  rw[aF] at e;cases e
  exact ⟨xs,aK,p1.mono (.new hp)⟩
 ·rw[aS ha] at e
  exact bV m1 hp a o e
def Ea (t:TE):TE:=λσ H Q=>t σ H λv H1=>∃ a xs,v=.ref a/\H1 a=some (.lst xs)/\∀ o,Q v (L2.upd H1 a (.frz o (.lst xs)))
theorem jk {t:TE}(h:PE X e t):PE X e (Ea t):=by
 intro pins s σ H Q I hh
 refine thn (h pins s σ H _ I hh) λu s1 ⟨v,H1,I1,r,a,xs,ev,ea,q⟩=>?_
 obtain ⟨z,its,n,rv,hg⟩:=(show cZ X.prog X.w H1 s1.heap a (.lst xs) from I1.hok a _ ea)
 have nl:∀ b o,H1 b=some o->(∀ ys,o≠.lst ys)->b≠a:=λb o e1 e2 z=>by subst z;rw[ea] at e1;cases e1;exact e2 _ rfl
 refine ⟨v,_,I1.un (h':=s1.heap) (t':=s1.toks) (H':=L2.upd H1 a (.frz { cls:=.type "list", data:=.seq its.toArray n } (.lst xs))) ⟨λb o e _ _ _=>e,λb o e _ _ _=>⟨o.slots,e⟩,λb o e n _=>?_,λb o e _=>⟨o,e⟩,λb ys e=>?_,λb o u e=>?_,λb ps e=>⟨#[],?_⟩⟩ (λb u e=>?_),r,q _⟩
 ·rw[aJ (λz=>by subst z;rw[ea] at n;cases n)];exact n
 ·rw[aJ (nl b _ e (λ_=>nofun))];exact e
 ·rw[aJ (nl b _ e (λ_=>nofun))];exact e
 ·rw[aJ (nl b _ e (λ_=>nofun)),e];simp
 ·by_cases hb:b=a
  ·subst hb
   rw[aK] at e;cases e
   exact ⟨hg,z,its,n,rv,hg⟩
  ·rw[aJ hb] at e
   refine (I1.hok b u e).lK (λc w _ q=>q) (λc q=>?_) λc ys q=>?_
   ·rw[aJ (nl c _ q (λ_=>nofun))];exact q
   ·rw[aJ (nl c _ q (λ_=>nofun))];exact q
theorem d9 (h:LA X es At):LE X (.List es pos) (fM At):=by
 obtain ⟨ta,pa,sa⟩:=h.ex
 refine ⟨_,jk (Gh pa),λσ H ρ μ Q Q' rl h k=>sa σ H ρ μ _ _ rl h λxs H1 ds μ1 t1 m1 p1 h1=>⟨by rw[p1.length];exact big h1.1,λp hp=>⟨p,xs,rfl,aK,λo=>?_⟩⟩⟩
 have e:L2.upd (L2.upd H1 p (.lst xs)) p (.frz o (.lst xs))=L2.upd H1 p (.frz o (.lst xs)):=vG
 rw[e]
 exact k _ _ _ μ1 (t1.trans (.new hp)) (bV m1 hp) (.ls (.inl ⟨o,aK⟩) (p1.mono (.new hp))) h1.2
end
end
section
open PySem PySem.Spec PyProof.Rows L2
mutual
def toP:D->PyData
 | .non=>.none
 | .bl b=>.bool b
 | .int i=>.int i
 | .str x=>.str x
 | .tup ds=>.tuple (ml ds)
 | .ls ds=>.list (ml ds)
 | .ty _=>.none
 | .obj _=>.none
def ml:List D->List PyData
 | []=>[]
 | d::r=>toP d::ml r
end
mutual
theorem gD:∀ (n:Nat) (d:D),okD n d=true->(toP d).canLay0=true/\(toP d).depth<=n
 | n,.non,_=>⟨rfl,Ya _⟩
 | n,.bl b,_=>⟨rfl,Ya _⟩
 | n,.int i,_=>⟨rfl,Ya _⟩
 | n,.str x,h=>⟨by cases n<;>exact h,Ya _⟩
 | n+1,.tup ds,h=>by
  obtain ⟨h1,h2⟩:=pX n ds h
  exact ⟨h1,zbj h2⟩
 | n+1,.ls ds,h=>by
  obtain ⟨h1,h2⟩:=pX n ds h
  exact ⟨h1,zbj h2⟩
 | 0,.tup ds,h=>by cases h
 | 0,.ls ds,h=>by cases h
 | n,.ty _,h=>by cases n<;>cases h
 | n,.obj _,h=>by cases n<;>cases h
theorem pX:∀ (n:Nat) (ds:List D),b7 n ds=true->zc2 (ml ds)=true/\zdN (ml ds)<=n
 | n,[],_=>⟨rfl,Ya _⟩
 | n,d::r,h=>by
  have h':okD n d=true/\b7 n r=true:=by simpa[b7] using h
  obtain ⟨a1,a2⟩:=gD n d h'.1
  obtain ⟨b1,b2⟩:=pX n r h'.2
  refine ⟨?_,?_⟩
  ·show (zd4 (toP d)&&zc2 (ml r))=true
   rw[a1,b1];rfl
  ·show max (PyData.depth (toP d)) (zdN (ml r))<=n
   exact Nat.max_le.mpr ⟨a2,b2⟩
end
theorem str_beq (a b:Str):(a == b)=decide (a=b):=by
 by_cases h:a=b
 ·subst h;simp
 ·rw[decide_eq_false h];exact beq_eq_false_iff_ne.mpr h
mutual
theorem mF:∀ (n m:Nat) (a b:D),okD n a=true->okD m b=true->YH (toP a) (toP b)=eqD a b
 | n,m,.non,b,_,hb=>by cases b<;>first | rfl | (cases m<;>cases hb)
 | n,m,.bl x,b,_,hb=>by
  cases b with
  | int y=>simp only[toP,YH,eqD];rw[Z6]
  | ty _=>cases m<;>cases hb
  | obj _=>cases m<;>cases hb
  | _=>rfl
 | n,m,.int x,b,_,hb=>by
  cases b with
  | int y=>simp only[toP,YH,eqD];rw[Z6]
  | bl y=>simp only[toP,YH,eqD];rw[Z6]
  | ty _=>cases m<;>cases hb
  | obj _=>cases m<;>cases hb
  | _=>rfl
 | n,m,.str x,b,_,hb=>by
  cases b with
  | str y=>simp only[toP,YH,eqD];exact str_beq x y
  | ty _=>cases m<;>cases hb
  | obj _=>cases m<;>cases hb
  | _=>rfl
 | n+1,m,.tup xs,b,ha,hb=>by
  cases b with
  | tup ys=>
   cases m with
   | zero=>cases hb
   | succ m=>simp only[toP,YH,eqD];exact rg n m xs ys ha hb
  | ty _=>cases m<;>cases hb
  | obj _=>cases m<;>cases hb
  | _=>rfl
 | n+1,m,.ls xs,b,ha,hb=>by
  cases b with
  | ls ys=>
   cases m with
   | zero=>cases hb
   | succ m=>simp only[toP,YH,eqD];exact rg n m xs ys ha hb
  | ty _=>cases m<;>cases hb
  | obj _=>cases m<;>cases hb
  | _=>rfl
 | 0,_,.tup ds,_,h,_=>by cases h
 | 0,_,.ls ds,_,h,_=>by cases h
 | n,_,.ty _,_,h,_=>by cases n<;>cases h
 | n,_,.obj _,_,h,_=>by cases n<;>cases h
theorem rg:∀ (n m:Nat) (a b:List D),b7 n a=true->b7 m b=true->zbc (ml a) (ml b)=jZ a b
 | _,_,[],[],_,_=>rfl
 | _,_,[],_::_,_,_=>by simp[ml,zbc,jZ]
 | _,_,_::_,[],_,_=>by simp[ml,zbc,jZ]
 | n,m,a::r,b::s,ha,hb=>by
  have ha':okD n a=true/\b7 n r=true:=by simpa[b7] using ha
  have hb':okD m b=true/\b7 m s=true:=by simpa[b7] using hb
  show (YH (toP a) (toP b)&&zbc (ml r) (ml s))=(eqD a b&&jZ r s)
  rw[mF n m a b ha'.1 hb'.1,rg n m r s ha'.2 hb'.2]
end
section
variable {X:Cx} {pins:List (Addr×Obj)} {σ:L2.St} {H:Hp} {s:Wz}
mutual
theorem dI (I:Inv X pins σ H s):∀ {n:Nat} {v:V} {d:D} {u:Wv},Dp X.K H v d->okD n d=true->RelV v u->∃ as,Reads s.heap u (toP d) as
 | n,_,_,u,.non,_,r=>by cases (show u=Yj from r);exact ⟨_,.none⟩
 | n,_,_,u,.bl b,_,r=>by cases (show u=zaI b from r);exact ⟨_,.bool b⟩
 | n,_,_,u,.int i,_,r=>by obtain ⟨t,e⟩:=(show ∃ t,u=ZI i t from r);subst e;exact ⟨_,.int i t⟩
 | n,_,_,u,.str x,_,r=>by obtain ⟨t,e⟩:=(show ∃ t,u=zaH x t from r);subst e;exact ⟨_,.str x t⟩
 | n,_,_,u,.ty _,h,_=>by cases n<;>cases h
 | n+1,_,_,u,@Dp.tup _ _ a xs ds q l,h,r=>by
  cases (show u=Xa a from r)
  obtain ⟨its,rv,⟨o,e1,e2,k,e3⟩,_⟩:=I.tuple q
  obtain ⟨as,ra⟩:=jM I (n:=n) l h rv
  exact ⟨_,.tuple e1 e2 e3 (by simpa using ra)⟩
 | n+1,_,_,u,@Dp.ls _ _ a xs ds q l,h,r=>by
  cases (show u=Xa a from r)
  obtain ⟨its,rv,⟨o,k,e1,e2,_,e3⟩,_⟩:=I.list q.sq
  obtain ⟨as,ra⟩:=jM I (n:=n) l h rv
  exact ⟨_,.list e1 e2 e3 (by simpa using ra)⟩
 | 0,_,_,u,@Dp.tup _ _ a xs ds q l,h,r=>by cases h
 | 0,_,_,u,@Dp.ls _ _ a xs ds q l,h,r=>by cases h
 | n,_,_,u,.obj _,h,_=>by cases n<;>cases h
theorem jM (I:Inv X pins σ H s):∀ {n:Nat} {vs:List V} {ds:List D} {us:List Wv},DpL X.K H vs ds->b7 n ds=true->Vals vs us->∃ as,ReadsAll s.heap us (ml ds) as
 | n,_,_,_,.nil,_,.nil=>⟨_,.nil⟩
 | n,_,_,_,@DpL.cons _ _ v d vs ds h l,ho,.cons r rs=>by
  have ho':okD n d=true/\b7 n ds=true:=by simpa[b7] using ho
  obtain ⟨as,ra⟩:=dI I h ho'.1 r
  obtain ⟨bs,rb⟩:=jM I l ho'.2 rs
  exact ⟨_,.cons ra rb⟩
end
end
def LP (K:Wq)(f:Bool->Bool):R2:=λx y H Q=>∃ dx dy,Dp K H x dx/\Dp K H y dy/\okD 40 dx=true/\okD 40 dy=true/\Q (.bl (f (eqD dx dy))) H
section
variable {X:Cx} {a b c e:W4} {Ta Tb Tc:ETr} {pos:Pos}
theorem Fw (hu:X.A.units+64 < cLine):OpR X (X9 .Eq) (LP X.K id):=λpins s σ H x y v u Q I rx ry ⟨dx,dy,px,py,ox,oy,q⟩=>by
 obtain ⟨as,ra⟩:=dI I px ox rx
 obtain ⟨bs,rb⟩:=dI I py oy ry
 obtain ⟨l1,d1⟩:=gD 40 dx ox
 obtain ⟨l2,d2⟩:=gD 40 dy oy
 exact SeqAt.compareEq_reads ra rb l1 l2 (by have:=zbL (toP dx).depth (toP dy).depth;omega) ⟨.bl _,H,I,rfl,by rw[mF 40 40 dx dy ox oy];exact q⟩
theorem Ro (hu:X.A.units+64 < cLine):OpR X (X9 .NotEq) (LP X.K not):=λpins s σ H x y v u Q I rx ry ⟨dx,dy,px,py,ox,oy,q⟩=>by
 obtain ⟨as,ra⟩:=dI I px ox rx
 obtain ⟨bs,rb⟩:=dI I py oy ry
 obtain ⟨l1,d1⟩:=gD 40 dx ox
 obtain ⟨l2,d2⟩:=gD 40 dy oy
 exact SeqAt.compareNe_reads ra rb l1 l2 (by have:=zbL (toP dx).depth (toP dy).depth;omega) ⟨.bl _,H,I,rfl,by rw[mF 40 40 dx dy ox oy];exact q⟩
theorem JV {K:Wq}:fm K (LP K id) rEq:=λH μ x y dx dy Q Q' m px py h k=>⟨dx,dy,px,py,h.1.1,h.1.2,k _ H _ μ (.refl H) m (.bl _) h.2⟩
theorem Qb {K:Wq}:fm K (LP K not) rNe:=λH μ x y dx dy Q Q' m px py h k=>⟨dx,dy,px,py,h.1.1,h.1.2,k _ H _ μ (.refl H) m (.bl _) h.2⟩
theorem le_eq (hu:X.A.units+64 < cLine)(ha:LE X a Ta)(hb:LE X b Tb):LE X (.Compare a [.Eq] [b] pos) (aj rEq Ta Tb):=pN (Fw hu) JV ha hb (fZ _)
theorem lt_eq (hu:X.A.units+64 < cLine)(ha:LE X a Ta)(hb:LE X b Tb):LT X (.Compare a [.Eq] [b] pos) (TB (aj rEq Ta Tb)):=gK (Fw hu) JV ha hb (fZ _)
theorem qy (hu:X.A.units+64 < cLine)(ha:LE X a Ta)(hb:LE X b Tb):LT X (.Compare a [.NotEq] [b] pos) (TB (aj rNe Ta Tb)):=gK (Ro hu) Qb ha hb (fZ _)
theorem Gf {K:Wq}:fm K (λx y H Q=>y=.non/\Q (.bl (decide (x=.non))) H) rIs:=λH μ x y dx dy Q Q' m px py h k=>by
 cases py with
 | non=>
  refine ⟨rfl,?_⟩
  cases px with
  | non=>exact k _ H _ μ (.refl H) m (.bl _) h
  | _=>exact k _ H _ μ (.refl H) m (.bl _) h
 | _=>exact WA h
theorem Tf (ha:LE X a Ta)(hb:LE X b Tb):LE X (.Compare a [.Is] [b] pos) (aj rIs Ta Tb):=pN FG Gf ha hb (fZ _)
theorem oD (ha:LE X a Ta)(hb:LE X b Tb):LT X (.Compare a [.Is] [b] pos) (TB (aj rIs Ta Tb)):=gK FG Gf ha hb (fZ _)
theorem ES {K:Wq}{r r':R2}{R R':DR2}{ta tb tc:TE}(hr:fm K r R)(hr':fm K r' R')(ha:Sim K ta Ta)(hb:Sim K tb Tb)(hc:Sim K tc Tc):Sim K (GI r r' ta tb tc) (lr R R' Ta Tb Tc):=λσ H ρ μ Q Q' rl h k=>
 ha σ H ρ μ _ _ rl h λx H1 dx μ1 t1 m1 p1 h1=>hb σ H1 ρ μ1 _ _ (rl.go t1 m1) h1 λy H2 dy μ2 t2 m2 p2 h2=>hr H2 μ2 x y dx dy _ _ m2 (p1.mono t2) p2 h2 λz H3 dz μ3 t3 m3 p3 h3=>by
  cases p3 with
  | bl q=>
   refine ⟨q,rfl,?_⟩
   have t13:=t1.trans (t2.trans t3)
   cases q with
   | true=>exact pk (hc σ H3 ρ μ3 _ _ (rl.go t13 m3) h3 λw H4 dw μ4 t4 m4 p4 h4=>hr' H4 μ4 y w dy dw Q Q' m4 (p2.mono (t3.trans t4)) p4 h4 (k.go (t13.trans t4)))
   | false=>exact pw (k _ H3 _ μ3 t13 m3 (.bl _) h3)
  | _=>exact WA h3
theorem MI {K:Wq}:Sk K (rU λi=>.int (-i)) Ny:=λH μ x dx Q Q' m px h k=>by
 cases px with
 | int i=>exact ⟨i,rfl,k _ H _ μ (.refl H) m (.int _) h⟩
 | _=>exact WA h
theorem le_neg (ha:LE X a Ta):LE X (.UnaryOp .USub a pos) (TUn Ny Ta):=S2 QX MI ha
theorem kX {o:Option D}{f:D->Prop}(h:kO o f):∃ d,o=some d/\f d:=by
 cases o with
 | none=>exact WA h
 | some d=>exact ⟨d,rfl,h⟩
theorem bN {μ:Mu}{a:Addr}{f:List D->Prop}(h:kL μ a f):∃ ds,μ a=some (.lst ds)/\f ds:=by
 unfold kL at h
 cases e:μ a with
 | none=>rw[e] at h;exact WA h
 | some o=>cases o with
  | lst ds=>rw[e] at h;exact ⟨ds,rfl,h⟩
  | _=>rw[e] at h;exact WA h
theorem qU {μ:Mu}{a:Addr}{f:List (Key×D)->Prop}(h:kD μ a f):∃ ds,μ a=some (.dct ds)/\f ds:=by
 unfold kD at h
 cases e:μ a with
 | none=>rw[e] at h;exact WA h
 | some o=>cases o with
  | dct ds=>rw[e] at h;exact ⟨ds,rfl,h⟩
  | _=>rw[e] at h;exact WA h
theorem JM {o:Option Nat}{f:Nat->Prop}(h:kN o f):∃ d,o=some d/\f d:=by
 cases o with
 | none=>exact WA h
 | some d=>exact ⟨d,rfl,h⟩
theorem RR {K:Wq}:fm K (L2.rIx K) L3.rIx:=λH μ x y dx dy Q Q' m px py h k=>by
 cases px with
 | @tup a xs ds q l=>
  cases py with
  | int i=>
   obtain ⟨d,e,h'⟩:=kX h
   obtain ⟨v,e1,p⟩:=l.at e
   exact .inr (.inl ⟨a,xs,i,v,rfl,rfl,q,e1,k _ H _ μ (.refl H) m p h'⟩)
  | _=>exact WA h
 | @ls a xs ds q l=>
  cases py with
  | int i=>
   obtain ⟨d,e,h'⟩:=kX h
   obtain ⟨v,e1,p⟩:=l.at e
   exact .inl ⟨a,xs,i,v,rfl,rfl,q.sq,e1,k _ H _ μ (.refl H) m p h'⟩
  | _=>exact WA h
 | obj a=>
  cases py with
  | int i=>
   obtain ⟨ds,e0,h1⟩:=bN h
   obtain ⟨d,e,h'⟩:=kX h1
   obtain ⟨xs,ex,l⟩:=m a _ e0
   obtain ⟨v,e1,p⟩:=l.at e
   exact .inl ⟨a,xs,i,v,rfl,rfl,SqL.of ex,e1,k _ H _ μ (.refl H) m p h'⟩
  | _=>exact WA h
 | _=>cases py<;>exact WA h
theorem au (ha:LE X a Ta)(hb:LE X b Tb)(hs:Dq b:=by intro _ _;rfl):LE X (.Subscript a b pos) (aj L3.rIx Ta Tb):=by
 obtain ⟨ta,pa,sa⟩:=ha.ex
 obtain ⟨tb,pb,sb⟩:=hb.ex
 exact ⟨_,UI QK pa pb hs,pJ RR sa sb⟩
variable {es:List W4} {At:ATr} {x:Str} {p:Pos} {id T:String}
def lq (K:Wq)(r:List V->Hp->VK->Prop)(R:FSp):Prop:=∀ H μ xs ds (Q:DK) (Q':VK),bE K H μ->DpL K H xs ds->R ds μ Q->jX K H Q Q'->r xs H Q'
theorem tX {K:Wq}{r:List V->Hp->VK->Prop}{R:FSp}{ta:TA}(hr:lq K r R)(ha:TX K ta At):Sim K (tCB r ta) (aq R At):=λσ H ρ μ Q Q' rl h k=>
 ha σ H ρ μ _ _ rl h λxs H1 ds μ1 t1 m1 p1 h1=>hr H1 μ1 xs ds Q Q' m1 p1 h1 (k.go t1)
theorem aU {r:List V->Hp->VK->Prop}{R:FSp}(hc:bU X (.builtin id) r)(hr:lq X.K r R)(hg:Gl X x)(hm:X.mg x=none)(hv:XR x=some (.builtin id))(ha:LA X (e::es) At)(hn:x ≠ "__name__" := by decide)(hdb:(x == ("__debug__" : Str))=false:=by decide)
  (h1:WI (e::es) X.env=(false,XG e X.env)::WI es X.env:=by rfl) (h2:(XM pos (WI es X.env)).any (·.1)=false:=by rfl):LE X (.Call (.Name x p) (e::es) [] pos) (aq R At):=by
 obtain ⟨ta,pa,sa⟩:=ha.ex
 exact ⟨_,lT hc hg hm hv pa hn hdb h1 h2,tX hr sa⟩
theorem aX {r:List V->Hp->VK->Prop}{R:FSp}(hc:bU X (.type T) r)(hr:lq X.K r R)(hg:Gl X x)(hm:X.mg x=none)(hv:XR x=some (.type T))(ha:LA X (e::es) At)(hn:x ≠ "__name__" := by decide)(hdb:(x == ("__debug__" : Str))=false:=by decide)
  (h1:WI (e::es) X.env=(false,XG e X.env)::WI es X.env:=by rfl) (h2:(XM pos (WI es X.env)).any (·.1)=false:=by rfl):LE X (.Call (.Name x p) (e::es) [] pos) (aq R At):=by
 obtain ⟨ta,pa,sa⟩:=ha.ex
 exact ⟨_,uu hc hg hm hv pa hn hdb h1 h2,tX hr sa⟩
theorem Ou {n:String}(hg:Gl X x)(hm:X.mg x=none)(hv:XR x=some (.type n))(hn:x ≠ "__name__" := by decide)(hd:(x == ("__debug__" : Str))=false:=by decide):LE X (.Name x pos) (TC (.ty n)):=
 ⟨_,CQ hg hm hv (v:=.ty n) rfl hn hd,λσ H ρ μ Q Q' r h k=>k _ H _ μ (.refl H) r.mu (.ty n) h⟩
theorem wL {K:Wq}:lq K (λxs H Q=>∃ i,xs=[.int i]/\Q (.int (if i < 0 then -i else i)) H) zE:=λH μ xs ds Q Q' m p h k=>by
 unfold zE at h
 split at h
 ·cases p with | cons p1 p2=>cases p2;cases p1;exact ⟨_,rfl,k _ H _ μ (.refl H) m (.int _) h⟩
 ·exact WA h
theorem y6 {K:Wq}:lq K (λxs H Q=>∃ i j,xs=[.int i,.int j]/\Q (.int (if j > i then j else i)) H) ua:=λH μ xs ds Q Q' m p h k=>by
 unfold ua at h
 split at h
 ·cases p with | cons p1 p2=>cases p2 with | cons p2 p3=>cases p3;cases p1;cases p2;exact ⟨_,_,rfl,k _ H _ μ (.refl H) m (.int _) h⟩
 ·exact WA h
theorem Kb {K:Wq}:lq K (λxs H Q=>∃ i j,xs=[.int i,.int j]/\Q (.int (if j < i then j else i)) H) uv:=λH μ xs ds Q Q' m p h k=>by
 unfold uv at h
 split at h
 ·cases p with | cons p1 p2=>cases p2 with | cons p2 p3=>cases p3;cases p1;cases p2;exact ⟨_,_,rfl,k _ H _ μ (.refl H) m (.int _) h⟩
 ·exact WA h
theorem Mz {K:Wq}:lq K (λxs H Q=>(∃ i,xs=[.int i]/\Q (.int i) H)∨∃ k,xs=[.bl k]/\Q (.int (if k then 1 else 0)) H) AL:=λH μ xs ds Q Q' m p h k=>by
 unfold AL at h
 split at h
 ·cases p with | cons p1 p2=>cases p2;cases p1;exact .inl ⟨_,rfl,k _ H _ μ (.refl H) m (.int _) h⟩
 ·cases p with | cons p1 p2=>cases p2;cases p1;exact .inr ⟨_,rfl,k _ H _ μ (.refl H) m (.int _) h⟩
 ·exact WA h
theorem bU.or {f:Wv}{r r':List V->Hp->VK->Prop}(h:bU X f r)(h':bU X f r'):bU X f (λxs H Q=>r xs H Q∨r' xs H Q):=λpins s σ H xs us Q I rx q=>by
 rcases q with q | q
 ·exact h pins s σ H xs us Q I rx q
 ·exact h' pins s σ H xs us Q I rx q
theorem bx {K:Wq}:lq K (λxs H Q=>(∃ p ys,xs=[.ref p]/\(SqL K H p ys∨SqT K H p ys)/\Q (.int ys.length) H)∨∃ z,xs=[.str z]/\z.length<=sizeLine/\Q (.int z.length) H) cQ:=λH μ xs ds Q Q' m p h k=>by
 unfold cQ at h
 split at h
 ·cases p with | cons p1 p2=>cases p2;cases p1 with | tup q l=>exact .inl ⟨_,_,rfl,.inr q,k _ H _ μ (.refl H) m (by rw[l.length];exact .int _) h⟩
 ·cases p with | cons p1 p2=>cases p2;cases p1 with | ls q l=>exact .inl ⟨_,_,rfl,.inl q.sq,k _ H _ μ (.refl H) m (by rw[l.length];exact .int _) h⟩
 ·cases p with | cons p1 p2=>cases p2;cases p1;exact .inr ⟨_,rfl,big h.1,k _ H _ μ (.refl H) m (.int _) h.2⟩
 ·rename_i a
  cases p with | cons p1 p2=>
  cases p2;cases p1
  obtain ⟨ys,e0,h⟩:=bN h
  obtain ⟨xs,ex,l⟩:=m a _ e0
  exact .inl ⟨_,_,rfl,.inl (SqL.of ex),k _ H _ μ (.refl H) m (by rw[l.length];exact .int _) h⟩
 ·exact WA h
theorem a7:bU X (.builtin "len") (λxs H Q=>(∃ p ys,xs=[.ref p]/\(SqL X.K H p ys∨SqT X.K H p ys)/\Q (.int ys.length) H)∨∃ z,xs=[.str z]/\z.length<=sizeLine/\Q (.int z.length) H):=bU.or vX va
end
end
section
open PySem PySem.Spec PyProof.Rows L2
def tys:List String:=["NoneType", "bool", "int", "str", "tuple", "list"]
def xc:List String:=["bool", "int", "str", "tuple", "list", "dict"]
theorem C4 (K:Wq):∀ t∈tys,∀ c∈xc,PySem.W.kitOne K (.type t) (.type c)=some (eP t c):=by
 intro t ht c hc
 simp only[tys,WK,WY,or_false] at ht
 simp only[xc,WK,WY,or_false] at hc
 rcases ht with rfl | rfl | rfl | rfl | rfl | rfl<;>rcases hc with rfl | rfl | rfl | rfl | rfl | rfl<;>with_unfolding_all rfl
theorem Ir {d:D}{t:String}(h:tyD d=some t):t∈tys:=by
 cases d<;>simp[tyD] at h<;>subst h<;>decide
def Tu (K:Wq):List V->Hp->VK->Prop:=λxs H Q=>∃ x d t c,xs=[x,.ty c]/\Dp K H x d/\tyD d=some t/\c∈xc/\Q (.bl (eP t c)) H
theorem Fo {X:Cx}:bU X (.builtin "isinstance") (Tu X.K):=λpins s σ H xs us Q I rx ⟨x,d,t,c,ex,px,et,hc,q⟩=>by
 subst ex
 cases rx with | @cons _ u _ _ r1 r2=>cases r2 with | cons r2 r3=>
 cases r3
 cases (show _=zbv c from r2)
 have e:=C4 X.K t (Ir et) c hc
 have fin:∀ tk,EP X pins σ Q (.bool (eP t c)) { s with toks:=tk }:=λtk=>⟨.bl _,H,I.tok tk,rfl,q⟩
 cases px with
 | non=>cases et;cases (show u=Yj from r1);exact YX zc3 I.kIn Yc e (λz=>nomatch z) fin
 | bl y=>cases et;cases (show u=zaI y from r1);exact YX zc4 I.kIn Yc e (λz=>nomatch z) fin
 | int i=>cases et;obtain ⟨t,z⟩:=(show ∃ t,u=ZI i t from r1);cases z;exact YX zdv I.kIn Yc e (λz=>nomatch z) fin
 | str y=>cases et;obtain ⟨t,z⟩:=(show ∃ t,u=zaH y t from r1);cases z;exact YX zdw I.kIn Yc e (λz=>nomatch z) fin
 | ty _=>cases et
 | obj _=>cases et
 | @tup a xs ds sq l=>
  cases et
  cases (show u=Xa a from r1)
  obtain ⟨its,_,⟨o,h1,h2,_⟩,_⟩:=I.tuple sq
  exact YX zcM I.kIn ⟨o,h1,h2⟩ e (λz=>nomatch z) fin
 | @ls a xs ds sq l=>
  cases et
  cases (show u=Xa a from r1)
  obtain ⟨its,_,⟨o,n,h1,h2,_⟩,_⟩:=I.list sq.sq
  exact YX zc5 I.kIn ⟨o,h1,h2⟩ e (λz=>nomatch z) fin
theorem jI {X:Cx}{x y:Str}{p p2 pos:Pos}{c:String}{e:W4}{Ta:ETr}(hg:Gl X x)(hm:X.mg x=none)(hv:XR x=some (.builtin "isinstance"))(ha:LE X e Ta)(hg2:Gl X y)(hm2:X.mg y=none)(hv2:XR y=some (.type c))(hc:c∈xc:=by decide)
  (hn:x ≠ "__name__" := by decide) (hdb:(x == ("__debug__" : Str))=false:=by decide) (hn2:y ≠ "__name__" := by decide) (hdb2:(y == ("__debug__" : Str))=false:=by decide)
  (h0:WI [.Name y p2] X.env=[(false,XG (.Name y p2) X.env)]:=by rfl) (h1:WI (e::[.Name y p2]) X.env=(false,XG e X.env)::WI [.Name y p2] X.env:=by rfl) (h2:(XM pos (WI [.Name y p2] X.env)).any (·.1)=false:=by rfl) :
  LE X (.Call (.Name x p) [e,.Name y p2] [] pos) (TUn (eS c) Ta):=by
 obtain ⟨ta,pa,sa⟩:=ha.ex
 refine ⟨_,lT Fo hg hm hv (dU pa (dU (CQ hg2 hm2 hv2 (v:=.ty c) rfl hn2 hdb2) gX h0) h1) hn hdb h1 h2,λσ H ρ μ Q Q' rl h k=>sa σ H ρ μ _ _ rl h λv H1 d μ1 t1 m1 p1 h1=>?_⟩
 have h1':(match tyD d with | some t=>Q (.bl (eP t c)) μ1 | none=>False):=h1
 cases et:tyD d with
 | none=>rw[et] at h1';exact WA h1'
 | some t=>rw[et] at h1';exact ⟨v,d,t,c,rfl,p1,et,hc,k _ H1 _ μ1 t1 m1 (.bl _) h1'⟩
section
variable {X:Cx} {a b c e tg o:W4} {Ta Tb Tc:ETr} {pos:Pos} {es:List W4} {At:ATr} {x:Str} {p:Pos} {id T:String} {st:Stmt} {rest:List Stmt} {T1 T2:STr} {tA:TTr}
theorem a6:LSs X [] a9:=⟨_,ND,λσ H ρ μ E E' rl h k=>k.nx _ _ _ _ (.refl H) rl h⟩
theorem ak (h1:LS X st T1)(h2:LSs X rest T2):LSs X (st::rest) (ay T1 T2):=by
 obtain ⟨t1,p1,s1⟩:=h1.ex
 obtain ⟨t2,p2,s2⟩:=h2.ex
 exact ⟨_,HN p1 p2,λσ H ρ μ E E' rl h k=>s1 σ H ρ μ _ _ rl h ⟨λσ' H' ρ' μ' t' r' q=>s2 σ' H' ρ' μ' E E' r' q (k.go t'),k.rt,k.bk,k.ct⟩⟩
theorem ax (h1:LS X st T1):LSs X [st] T1:=by
 obtain ⟨t1,p1,s1⟩:=h1.ex
 exact ⟨_,Lv p1,s1⟩
theorem dj (he:LE X e Ta)(hs:Yz e none pos.line X.env=pure false:=by rfl):LS X (.Expr e pos) (eU Ta):=by
 obtain ⟨ta,pa,sa⟩:=he.ex
 exact ⟨_,K8 pa hs,λσ H ρ μ E E' rl h k=>sa σ H ρ μ _ _ rl h λv H' d μ' t' m' p' h'=>k.nx _ _ _ _ t' (rl.go t' m') h'⟩
theorem aD (he:LE X e Ta):LS X (.Return (some e) pos) (aT Ta):=by
 obtain ⟨ta,pa,sa⟩:=he.ex
 exact ⟨_,Qf pa,λσ H ρ μ E E' rl h k=>sa σ H ρ μ _ _ rl h k.rt⟩
theorem bF {sa sb:List Stmt}(hc:LT X c tA)(ha:LSs X sa T1)(hb:LSs X sb T2):LS X (.If c sa sb pos) (bI tA T1 T2):=by
 obtain ⟨tc,pc,sc⟩:=hc.ex
 obtain ⟨t1,p1,s1⟩:=ha.ex
 obtain ⟨t2,p2,s2⟩:=hb.ex
 refine ⟨_,T6 pc p1 p2,λσ H ρ μ E E' rl h k=>sc σ H ρ μ _ _ rl h λq H1 μ1 t1' m1 h1=>?_⟩
 cases q with
 | true=>exact pk (s1 σ H1 ρ μ1 E E' (rl.go t1' m1) h1 (k.go t1'))
 | false=>exact pw (s2 σ H1 ρ μ1 E E' (rl.go t1' m1) h1 (k.go t1'))
theorem ir {K:Wq}(i:Nat):Q9 K (lI i) (aw i):=λσ H ρ μ v d k k' rl p h q=>q _ _ _ _ (.refl H) (rl.set p i) h
theorem gv (i:Nat)(hN:X.N.Nodup)(hi:X.N[i]? = some x:=by rfl)(hx:Loc X.env.scope x:=by first | exact ZX rfl | exact ZY rfl)(hf:X.fn x=true∨X.env.scope.names.lookup x=some .local:=by first | exact .inl rfl | exact .inr rfl | assumption):LG X (.Name x pos) (aw i):=
 ⟨_,iE hN hi hx hf,ir i⟩
theorem aB (i:Nat){pos':Pos}(hN:X.N.Nodup)(he:LE X e Ta)(hi:X.N[i]? = some x:=by rfl)(hx:Loc X.env.scope x:=by first | exact ZX rfl | exact ZY rfl)(hs:Yz e (some (.Name x pos')) pos.line X.env=pure false:=by rfl)
  (hf:X.fn x=true∨X.env.scope.names.lookup x=some .local:=by first | exact .inl rfl | exact .inr rfl | assumption):LS X (.Assign [.Name x pos'] e pos) (aN Ta (aw i)):=by
 obtain ⟨ta,pa,sa⟩:=he.ex
 exact ⟨_,Ra hN hi hx pa hs hf,λσ H ρ μ E E' rl h k=>sa σ H ρ μ _ _ rl h λv H' d μ' t' m' p' h'=>ir i σ H' ρ μ' v d _ _ (rl.go t' m') p' h' (k.go t').nx⟩
theorem sJ (i j:Nat){y:Str}{px py pt:Pos}{kt k2 pt2}(hc:X.calm=true)(hN:X.N.Nodup)(ha:LA X [a,b] At)(hi:X.N[i]? = some x:=by rfl)(hj:X.N[j]? = some y:=by rfl)(hij:i≠j:=by decide)
  (hx:X.env.scope.names.lookup x=some .local:=by rfl) (hy:X.env.scope.names.lookup y=some .local:=by rfl)
  (hw:za8 [.Tuple [.Name x px,.Name y py] kt pt] (.Tuple [a,b] k2 pt2) X.env=pure (some [x,y]):=by rfl)
  (hs:za7 [.Tuple [.Name x px,.Name y py] kt pt] (.Tuple [a,b] k2 pt2) pos.line X.env=pure false:=by rfl) :
  LS X (.Assign [.Tuple [.Name x px,.Name y py] kt pt] (.Tuple [a,b] k2 pt2) pos) (pz i j At):=by
 obtain ⟨ta,pa,sa⟩:=ha.ex
 refine ⟨_,OW hc hN hi hj hij hx hy pa hw hs,λσ H ρ μ E E' rl h k=>sa σ H ρ μ _ _ rl h λvs H' ds μ' t' m' p' h'=>?_⟩
 unfold L3.k2 at h'
 split at h'
 ·rename_i dv dw
  cases p' with | cons p1 p2=>cases p2 with | cons p2 p3=>
  cases p3
  exact ⟨_,_,rfl,k.nx _ _ _ _ t' (((rl.go t' m').set p1 i).set p2 j) h'⟩
 ·exact WA h'
theorem rR {body:List Stmt}(hp:zdq (W2 X.prog X.w) X.A X.env X.xe)(hc:LT X c tA)(hb:LSs X body T1):LS X (.While c body [] pos) (wQ tA T1):=by
 obtain ⟨tc,pc,sc⟩:=hc.ex
 obtain ⟨t1,p1,s1⟩:=hb.ex
 refine ⟨_,Kd hp pc p1,λσ H ρ μ E E' rl h k=>?_⟩
 obtain ⟨P,m,h0,hs⟩:=h
 refine ⟨λn σ' H'=>∃ ρ' μ',Tk H H'/\Rl X.K σ' H' ρ' μ'/\P ρ' μ'/\n=m ρ' μ',⟨_,ρ,μ,.refl H,rl,h0,rfl⟩,?_⟩
 rintro n σ1 H1 ⟨ρ1,μ1,t1',rl1,hP,rfl⟩
 refine sc σ1 H1 ρ1 μ1 _ _ rl1 (hs ρ1 μ1 hP) λq H2 μ2 t2 m2 h2=>?_
 have t12:=t1'.trans t2
 cases q with
 | true=>
  refine pk ⟨λσ' H'=>∃ ρ' μ',Tk H H'/\Rl X.K σ' H' ρ' μ'/\P ρ' μ'/\m ρ' μ' < m ρ1 μ1,λσ' H' ⟨ρ',μ',a1,a2,a3,a4⟩=>⟨_,a4,ρ',μ',a1,a2,a3,rfl⟩,?_⟩
  have h2':=h2
  refine s1 σ1 H2 ρ1 μ2 _ _ (rl1.go t2 m2) h2' ⟨λσ' H' ρ' μ' t' r' q=>⟨ρ',μ',t12.trans t',r',q.1,q.2⟩,(k.go t12).rt,(k.go t12).nx,λσ' H' ρ' μ' t' r' q=>⟨ρ',μ',t12.trans t',r',q.1,q.2⟩⟩
 | false=>exact pw (k.nx _ _ _ _ t12 (rl1.go t2 m2) h2)
theorem oa (lo:Int)(n:Nat):ck lo (n+1)=.int lo::ck (lo+1) n:=by
 unfold ck
 rw[List.range_succ_eq_map]
 rw[WN,WQ]
 congr 1
 ·simp
 ·refine Xn λi _=>?_
  show D.int _=D.int _
  congr 1
  show lo+((i+1:Nat):Int)=lo+1+(i:Int)
  omega
end
def lift (K:Wq)(sp:FSp):Sp:=λvs H Q _=>∃ ds μ QQ,DpL K H vs ds/\bE K H μ/\sp ds μ QQ/\jX K H QQ Q
def RT (Q:DK):DK:=λd μ'=>∃ μ,Sub μ μ'/\Q d μ
def ini (n:Nat)(ds:List D):ST:=ds.map some++X6 (n - ds.length) none
theorem RQ:∀ (ds:List D) (n i:Nat) (d:D),lk (ini n ds) i=some d->ds[i]? = some d:=by
 intro ds
 have rep:∀ m i (d:D),lk (X6 m none) i=some d->False:=by
  intro m
  induction m with
  | zero=>intro i d h;cases i<;>cases h
  | succ m ih=>intro i d h;cases i with
   | zero=>cases h
   | succ i=>exact ih i d h
 have gen:∀ (ds:List D) m i d,lk (ds.map some++X6 m none) i=some d->ds[i]? = some d:=by
  intro ds
  induction ds with
  | nil=>intro m i d h;exact (rep m i d h).elim
  | cons x r ih=>intro m i d h;cases i with
   | zero=>simpa[lk] using h
   | succ i=>simpa using ih m i d h
 exact λn i d h=>gen ds _ i d h
section
variable {P:W9} {w:Xm} {K:Wq} {mg:Str->Option Wv} {base:Heap}
theorem Hw {x qual:Str}{st:Stmt}{f:Addr}{fd:WT}{N ps:List Str}{k:Nat}{sp:FSp}{T:STr}(F:Fun K x qual st f fd)(S:aG N ps (av st))(len:∀ ds μ Q,sp ds μ Q->ds.length=ps.length)
  (hb:∀ (cdv:Wv) (A:XC) (outer:List Env) (s:Wz) (H:Hp) (E:XK),gm k (A.deeper (zaM qual (av st) s.heap.objs.size f cdv))->
   LSs (yS CX0 P w K mg base N qual (av st) f cdv A outer s H E).nox (gn st) T)
  (hr:∀ ds μ Q,sp ds μ Q->T { nx:=λ_ μ'=>RT Q .non μ',rt:=RT Q } (ini N.length ds) μ):jf P w K mg base CX0 (k+1) f fd ps (lift K sp):=by
 refine F.ok S (λvs H Q E h=>?_) (λcdv A outer s H vs Q E hroom h=>?_)
 ·obtain ⟨ds,μ,QQ,l,m,h1,k⟩:=h
  rw[l.length];exact len ds μ QQ h1
 ·obtain ⟨ds,μ,QQ,l,m,h1,k⟩:=h
  obtain ⟨t,pt,stt⟩:=(hb cdv A outer s H E hroom).ex
  have hl:vs.length=ds.length:=l.length
  refine ⟨t,pt,stt (L2.start N vs) H (ini N.length ds) μ _ _ ⟨?_,λi d e=>?_,m⟩ (hr ds μ QQ h1) ⟨λσ' H' ρ' μ' t' r' q=>?_,λv H' d μ' t' m' p' q=>?_,λ_ _ _ _ _ _ q=>q,λ_ _ _ _ _ _ q=>q⟩⟩
  ·unfold ini L2.start;simp[hl]
  ·have e':=RQ ds _ i d e
   obtain ⟨v,e1,p⟩:=l.get e'
   refine ⟨v,?_,p⟩
   unfold L2.start
   have hi:i < vs.length:=(Xc.mp e1).1
   rw[Zo (by simpa using hi),XW,e1]
   rfl
  ·obtain ⟨μ2,s2,q2⟩:=q
   exact k _ _ _ μ2 t' (r'.mu.sub s2) .non q2
  ·obtain ⟨μ2,s2,q2⟩:=q
   exact k _ _ _ μ2 t' (m'.sub s2) p' q2
end
section
variable {X:Cx} {k:Nat} {f:Addr} {fd:WT} {ps:List Str} {sp:FSp} {x:Str} {p pos:Pos} {e:W4} {es:List W4} {At:ATr}
theorem CA (F:jf X.prog X.w X.K X.mg X.base CX0 k f fd ps (lift X.K sp))(hr:gm k X.A)(hg:Gl X x)(hm:X.mg x=some (.ref f))(hk:ZU X.K (.ref f)=true)(hb:Binds X.K fd ps [])
  (ha:LA X (e::es) At) (hdb:(x == ("__debug__" : Str))=false:=by decide) (he:WI (e::es) X.env=(false,XG e X.env)::WI es X.env:=by rfl) (hpl:(XM pos (WI es X.env)).any (·.1)=false:=by rfl) :
  LE X (.Call (.Name x p) (e::es) [] pos) (aq sp At):=by
 obtain ⟨ta,pa,sa⟩:=ha.ex
 refine ⟨_,NY F hr hg hm hk hb .nil Ux pa hdb he hpl,λσ H ρ μ Q Q' rl h k=>sa σ H ρ μ _ _ rl h λxs H1 ds μ1 t1 m1 p1 h1=>?_⟩
 rw[Xi]
 exact ⟨ds,μ1,Q,p1,m1,h1,k.go t1⟩
end
end
section
open PySem PySem.Spec PyProof.Rows L2
theorem DpL.ints {K:Wq}{H:Hp}:∀ ns:List Int,DpL K H (ns.map V.int) (ns.map D.int)
 | []=>.nil
 | n::r=>.cons (.int n) (DpL.ints r)
theorem SqF.only {K:Wq}{H:Hp}{a:Addr}{xs:List V}(hO:Ms H)(h:SqL K H a xs):SqF K H a xs:=by
 rcases h with (h | h) | h
 ·rcases hO a with z | ⟨o,ys,z⟩
  ·rw[h] at z;cases z
  ·rw[h] at z;cases z
 ·exact .inl h
 ·exact .inr h
theorem Si {l:zbK}{k:Nat}{q:W9}{loose:List Str}{XP:(Str->Option Wv)->Heap->Prop}{YP:Xm->Heap->Prop}{d:DefRec}{K:zd2->Wq}{sp:FSp}{x:Str}
  (hn:l.most=some 63) (hdf:d.params.defaults=[]) (hr:gm k zbC) (hY:∀ (w:Xm) (h:Heap),YP w h->(K w.params).In h)
  (hl:∀ ns:List Int,ns.length<=63->∀ μ,sp [.ls (ns.map .int)] μ (λd _=>d=.bl true))
  (F:∀ (w:Xm) (mg:Str->Option Wv) (fa:Addr) (h:Heap),(K w.params).In h->h.Ns X2 mg->mg d.name=some (.ref fa)->
   ∃ fd:WT,(∀ (s:Wz) (u:Wv),zcX s fd ⟨[u],[]⟩ [(x,u)])/\∀ base:Heap,(K w.params).In base->base.Ns X2 mg->jf l.prog w (K w.params) mg base CX0 k fa fd [x] (lift (K w.params) sp)) :
  zeh q loose XP YP l.row.toRowW d [] (λf vs=>zd3 f vs):=
 L2.NV (n:=63) (k:=k) (x:=x) (CX:=λ_=>CX0) (sp:=λw=>lift (K w.params) sp) hn (by decide) hdf hr hY F
  (λw H a ns hl' hO hS=>⟨[.ls (ns.map .int)],λ_=>none,_,.cons (.ls (.only hO hS) (.ints ns)) .nil,(λa o e=>by cases e),hl ns hl' _,λv H' d μ' _ _ p e=>by
   have e':d=.bl true:=e
   subst e'
   cases p;rfl⟩) λ_ _ _ _ _ z=>z
end
section
open PySem PySem.Spec PyProof.Rows L2
def scB (N P:List Str)(sc:Scope):Bool:=decide N.Nodup&&decide (∀ x∈P,sc.names.lookup x=some .local∨sc.names.lookup x=some .cell)&&decide (∀ y∈sc.names,y.2≠.free)
theorem S8 {N P:List Str}{sc:Scope}(h1:sc.kind=.function)(h2:sc.isCoroutine=false)(h3:sc.isGenerator=false)(h4:N.take P.length=P)(h:scB N P sc=true):aG N P sc:=by
 unfold scB at h
 rw[Xd,Xd] at h
 exact ⟨h1,h2,h3,of_decide_eq_true h.1.1,h4,of_decide_eq_true h.1.2,of_decide_eq_true h.2⟩
structure aP (P:W9) (w:Xm) (K:Wq) (mg:Str->Option Wv) (base:Heap) (k:Nat) (x:Str) (ps:List Str) (sp:FSp):Prop where
 ex:∃ f fd,jf P w K mg base CX0 k f fd ps (lift K sp)/\mg x=some (.ref f)/\ZU K (.ref f)=true/\Binds K fd ps []
section
variable {P:W9} {w:Xm} {K:Wq} {mg:Str->Option Wv} {base:Heap}
theorem aL {x qual:Str}{st:Stmt}{f:Addr}{fd:WT}{N ps:List Str}{k:Nat}{sp:FSp}{T:STr}(m:mg x=some (.ref f))(F:Fun K x qual st f fd)(S:aG N ps (av st))(len:∀ ds μ Q,sp ds μ Q->ds.length=ps.length)
  (hr:∀ ds μ Q,sp ds μ Q->T { nx:=λ_ μ'=>RT Q .non μ',rt:=RT Q } (ini N.length ds) μ)
  (b:∀ (kV doc pm:Wv) (an:Option Addr) (cdv ct:Wv) (us:List Wv),us.length=ps.length->bindArgs (Zl x qual (mi st) (gn st) (av st) .none kV doc pm an cdv ct) ⟨us,[]⟩=pure (ps.zip us))
  (hb:∀ (cdv:Wv) (A:XC) (outer:List Env) (s:Wz) (H:Hp) (E:XK),gm k (A.deeper (zaM qual (av st) s.heap.objs.size f cdv))->(A.deeper (zaM qual (av st) s.heap.objs.size f cdv)).units+64 < cLine->
   LSs (yS CX0 P w K mg base N qual (av st) f cdv A outer s H E).nox (gn st) T):aP P w K mg base (k+1) x ps sp:=
 ⟨f,fd,Hw F S len (λcdv A outer s H E h=>hb cdv A outer s H E h h.units) hr,m,F.kp,F.binds b⟩
end
theorem ao {X:Cx}{k n:Nat}{x:Str}{ps:List Str}{sp:FSp}{e:W4}{es:List W4}{At:ATr}{p pos:Pos}(C:aP X.prog X.w X.K X.mg X.base k x ps sp)(hr:gm n X.A)(hg:Gl X x)
  (ha:LA X (e::es) At) (hle:k<=n:=by decide) (hdb:(x == ("__debug__" : Str))=false:=by decide) (he:WI (e::es) X.env=(false,XG e X.env)::WI es X.env:=by rfl) (hpl:(XM pos (WI es X.env)).any (·.1)=false:=by rfl) :
  LE X (.Call (.Name x p) (e::es) [] pos) (aq sp At):=by
 obtain ⟨f,fd,F,m,kp,b⟩:=C.ex
 exact CA F (hr.mono hle) hg m kp b ha hdb he hpl
end
section
open PySem PySem.Spec PyProof.Rows L2
def ba (X:Cx)(scope:Scope)(Nc:List Str)(cl:List (Str×Addr))(C:Addr)(s₀:Wz)(H₀:Hp)(ex:List Addr):Cx:=
 { X with env:=zd5 scope cl C X.env,N:=Nc,s₀:=s₀,H₀:=H₀,outer:=X.stack,ex:=ex,fn:=λ_=>false,pn:=[] }
theorem Bg {scope:Scope}{env:Env}(h:∀ y∈scope.names,y.2=.free->∃ c,env.cells.lookup y.1=some c) :
  ∃ cl,closureFor scope env=pure cl/\(∀ x c,cl.lookup x=some c->env.cells.lookup x=some c)/\∀ y∈scope.names,y.2=.free->∃ c,cl.lookup y.1=some c:=by
 have gen:∀ (ns:List (Str×zak)) (cs:List (Str×Addr)),(∀ y∈ns,y.2=.free->∃ c,env.cells.lookup y.1=some c)->(∀ x c,cs.lookup x=some c->env.cells.lookup x=some c)->
   ∃ cl,(forIn ns cs λx r=>if (x.2 == Yg)=true then do let c ← cellOf env x.1;pure (Yk ((x.1,c)::r)) else pure (Yk r):Sem _)=pure cl/\(∀ x c,cl.lookup x=some c->env.cells.lookup x=some c)/\
    (∀ x,(cs.lookup x).isSome=true->(cl.lookup x).isSome=true)/\∀ y∈ns,y.2=.free->∃ c,cl.lookup y.1=some c:=by
  intro ns
  induction ns with
  | nil=>intro cs _ h2;exact ⟨cs,rfl,h2,λ_ z=>z,λ_ z=>nomatch z⟩
  | cons y r ih=>
   intro cs h1 h2
   obtain ⟨n,k⟩:=y
   by_cases hk:k=.free
   ·subst hk
    obtain ⟨c,hc⟩:=h1 (n,.free) WS rfl
    have h2':∀ x c',((n,c)::cs).lookup x=some c'->env.cells.lookup x=some c':=λx c' e=>by
     rw[Yd] at e
     split at e
     ·rename_i hx
      cases e
      have:x=n:=by simpa using hx
      subst this;exact hc
     ·exact h2 x c' e
    obtain ⟨cl,e1,e2,e3,e4⟩:=ih ((n,c)::cs) (λy hy=>h1 y (W5 _ hy)) h2'
    refine ⟨cl,?_,e2,λx hx=>e3 x ?_,λy hy hf=>?_⟩
    ·rw[YY]
     have:cellOf env n=pure c:=by unfold cellOf;rw[hc]
     simp only[beq_self_eq_true,if_true,this,pure_bind]
     exact e1
    ·rw[Yd];split
     ·rfl
     ·exact hx
    ·obtain rfl | hy:=WK.mp hy
     ·have:(cl.lookup n).isSome=true:=e3 n (by simp[Yd])
      exact zbb.mp this
     ·exact e4 y hy hf
   ·obtain ⟨cl,e1,e2,e3,e4⟩:=ih cs (λy hy=>h1 y (W5 _ hy)) h2
    refine ⟨cl,?_,e2,e3,λy hy hf=>?_⟩
    ·rw[YY]
     have:(k == Yg)=false:=by simpa using hk
     simp only[this,ZE,if_false,pure_bind]
     exact e1
    ·obtain rfl | hy:=WK.mp hy
     ·exact absurd hf hk
     ·exact e4 y hy hf
 obtain ⟨cl,e1,e2,_,e4⟩:=gen scope.names [] h λx c e=>by cases e
 refine ⟨cl,?_,e2,e4⟩
 show ((forIn scope.names ([]:List (Str×Addr)) λx r=>if (x.2 == Yg)=true then do let c ← cellOf env x.1;pure (Yk ((x.1,c)::r)) else pure (Yk r):Sem _) >>= λs=>pure s)=pure cl
 rw[e1]
 rfl
def xi (Y:Cx)(ifs:List W4)(t:TT):Prop:=
 ∀ (pins:List (Addr×Obj)) (s:Wz) (σ:L2.St) (H:Hp) (Q:Bool->Hp->Prop),Inv Y pins σ H s->t σ H Q->
  WW (W2 Y.prog Y.w) Y.A (forIn ifs true λc r=>if r=true then do let ok ← isTrue c Y.env (XG c Y.env);pure (Yk ok) else pure (Yk r)) (TP Y pins σ Q) Y.xe s
def Wa:TT:=λ_ H Q=>Q true H
theorem Nj {Y:Cx}:xi Y [] Wa:=λpins s σ H Q I h=>wpAny_tests_nil ⟨H,I,h⟩
theorem LU {Y:Cx}{c:W4}{t:TT}(h:PT Y c t):xi Y [c] t:=λpins s σ H Q I hh=>wpAny_tests_one (h pins s σ H Q I hh)
def kA (σ:L2.St)(n:Nat)(caps:List Nat):L2.St:=X6 n none++caps.map λi=>(σ[i]?).join
def Wk (σ' σ:L2.St):Prop:=σ'.length=σ.length/\∀ (i:Nat) v,σ'[i]? = some (some v)->σ[i]? = some (some v)
def kT (wi:TI)(g:TG)(tt:TT)(te:TE)(n:Nat)(caps:List Nat):TE:=λσ H Q=>wi σ H λJ H1=>∀ D,H1 D=none->
 ∃ W:Nat->Nat->List V->Hp->Prop,(∃ m,W 0 m [] (L2.upd H1 D (.lst [])))/\∀ i m ys H2,W i m ys H2->
  (J.stop i H2/\Q (.ref D) H2)∨(J.go i H2/\∃ N:List V->Hp->Prop,(∀ ys' H',N ys' H'->∃ m',m' < m/\W (i+1) m' ys' H')/\
   ∀ x H3,J.yld i H2 x H3->g x (kA σ n caps) H3 λσ4 H4=>Wk (kA σ n caps) σ4/\tt σ4 H4 λb H5=>if b=true then te σ4 H5 λy H6=>∃ zs,H6 D=some (.lst zs)/\zs.length < sizeLine/\N (zs++[y]) (L2.upd H6 D (.lst (zs++[y]))) else N ys H5)
theorem Ff {prog:W9}{w:Xm}{A:XC}{R:zds->Wz->Prop}{s:Wz}{elt target iter:W4}{ifs:List W4}{scope:Scope}{pos:Pos}{it acc:Wv}{env:Env}(J:Nat->Wz->Prop)
  (turn:∀ n s,J n s->WW (W2 prog w) A (YV it) (λo t₁=>match o with
   | none=>R (.ok .next) t₁
   | some v=>WW (W2 prog w) A (zav target it v) (λ_ t₁=>WW (W2 prog w) A (zbZ target env v) (λ_ t₂=>
     WW (W2 prog w) A (forIn ifs true λc r=>
      if r=true then do let ok ← isTrue c env (XG c env);pure (Yk ok) else pure (Yk r)) (λok t₃=>
      if ok=true then WW (W2 prog w) A (XG elt env) (λx t₄=>
       WW (W2 prog w) A (zbT (.builtin "list.append") [acc,x]) (λ_ t₅=>∃ m,m < n/\J m t₅) (λ_ _=>False) t₄) (λ_ _=>False) t₃
      else ∃ m,m < n/\J m t₃) (λ_ _=>False) t₂) (λ_ _=>False) t₁) (λ_ _=>False) t₁) (λ_ _=>False) s)
  (n:Nat) (h:J n s):Za (W2 prog w) A (.compLoop (.ListComp elt [⟨target,iter,ifs,0⟩] scope pos) 0 it acc env) R s:=by
 refine codeAny_loop rfl J (λn s hJ=>?_) n h
 show WW _ A ((compTurn (.ListComp elt [⟨target,iter,ifs,0⟩] scope pos) 0 it acc env).onRaise
  (λx=>do noteFrame x env;theTreesLotGoes x)) _ _ s
 refine wpAny_noted ?_
 rw[compTurn_list]
 refine Wr (za9 (Wr (XO (turn n s hJ) (λr t₁ g₁=>?_) λ_ _ h'=>h'.elim)))
 cases r with
 | none=>exact WC g₁
 | some v=>
  refine Wr (XO g₁ (λ_ t₁' g₁'=>?_) λ_ _ h'=>h'.elim)
  refine Wr (XO g₁' (λ_ t₂ g₂=>Wr (XO g₂ (λok t₃ g₃=>?_) λ_ _ h'=>h'.elim)) λ_ _ h'=>h'.elim)
  cases ok with
  | false=>exact WC ⟨rfl,g₃⟩
  | true=>
   exact Wr (Wr (XO g₃ (λx t₄ g₄=>Wr (XO g₄ (λ_ t₅ g₅=>WC (WC ⟨rfl,g₅⟩)) λ_ _ h'=>h'.elim)) λ_ _ h'=>h'.elim))
theorem jF {σ:L2.St}{n:Nat}{caps:List Nat}{i:Nat}{v:V}(h:(kA σ n caps)[i]? = some (some v)):∃ j k,i=n+j/\caps[j]? = some k/\σ[k]? = some (some v):=by
 unfold kA at h
 by_cases hi:i < n
 ·rw[Zo (by simpa using hi),zbh,if_pos hi] at h
  cases h
 ·rw[Zd (by simpa using hi)] at h
  rw[Z4,XW] at h
  cases e:caps[i - n]? with
  | none=>rw[e] at h;cases h
  | some k=>
   rw[e] at h
   have h':(σ[k]?).join=some v:=Xq h
   cases e2:σ[k]? with
   | none=>rw[e2] at h';cases h'
   | some o=>
    rw[e2] at h'
    have h'':o=some v:=h'
    subst h''
    exact ⟨i - n,k,by omega,e,e2⟩
theorem fE {env:Env}(hk:env.scope.kind=.function):∀ {names:List (Str×zak)} {x:Str},env.kindOf x=some .cell->names.lookup x=some .free->
  (names.map λ(n,k)=>if (k == Yg&&env.scope.kind == .function&&env.kindOf n == some .cell) then (n,zcx) else (n,k)).lookup x=some .cell
 | [],_,_,h=>by simp at h
 | (n,k)::r,x,hc,h=>by
  have ih:=@fE env hk r x hc
  show List.lookup x ((if (k == Yg&&env.scope.kind == .function&&env.kindOf n == some .cell)=true
   then (n,zcx) else (n,k))::_)=_
  cases hx:x == n with
  | true=>
   simp only[hx,Yd] at h
   cases h
   have e:x=n:=by simpa using hx
   subst e
   simp[Yd,hk,hc]
  | false=>
   simp only[hx,Yd] at h
   by_cases hcc:(k == Yg&&env.scope.kind == .function&&env.kindOf n == some .cell)=true
   ·rw[if_pos hcc];simp only[Yd,hx];exact ih h
   ·rw[if_neg hcc];simp only[Yd,hx];exact ih h
theorem oJ {env:Env}:∀ {names:List (Str×zak)} {x:Str} {k':zak},(∀ y∈names,y.2≠.cell)->(k'=.cell∨k'=.free)->
  (x,k')∈(names.map λ(n,k)=>if (k == Yg&&env.scope.kind == .function&&env.kindOf n == some .cell) then (n,zcx) else (n,k))->(x,Yg)∈names:=by
 intro names x k' hn hk h
 obtain ⟨⟨n,k⟩,hm,e⟩:=WE.mp h
 dsimp only at e
 split at e
 ·rename_i hc
  cases e
  have:k=.free:=by simp at hc;exact hc.1.1
  subst this;exact hm
 ·cases e
  rcases hk with rfl | rfl
  ·exact absurd rfl (hn _ hm)
  ·exact hm
theorem Jp {X:Cx}{pins:List (Addr×Obj)}{σ:L2.St}{H H5:Hp}{s:Wz}{C:Addr}{h':Heap}(I:Inv X pins σ H s)(f0:H C=none)(fC:pU X pins H5 C)(hs:YT C s.heap h'):Inv X pins σ H { s with heap:=h' }:=by
 have keep:∀ b o',b≠C->s.heap.get? b=some o'->h'.get? b=some o':=λb o' hb e'=>(hs.2 b hb).trans e'
 refine I.Og (ch:=[C]) (s':={ s with heap:=h' }) rfl ⟨λb o' e' _ _ nx=>keep b o' (λz=>nx (by rw[z];exact WS)) e',λb o' e' _ _ nx=>⟨o'.slots,keep b o' (λz=>nx (by rw[z];exact WS)) e'⟩,λb o' _ w _=>w,λb o' e' nx=>⟨o',keep b o' (λz=>nx (by rw[z];exact WS)) e'⟩,λb ys e'=>e',λb o' u e'=>e',λb ps e'=>⟨#[],by simpa using e'⟩⟩ (λb u e'=>?_) I.bare λb hb=>?_
 ·refine (I.hok b u e').lK (λc w' hc q=>keep c w' ?_ q) (λ_ q=>q) λ_ _ q=>q
  rintro rfl
  rcases hc with z | z
  ·rw[← z,f0] at e';cases e'
  ·rw[f0] at z;cases z
 ·cases Yu.mp hb
  exact ⟨fC.2.2.2.1,fC.2.1,fC.2.2.2.2.1,fC.2.2.2.2.2⟩
theorem yo {X:Cx}{tg iter elt:W4}{ifs:List W4}{scope:Scope}{pos:Pos}{wi:TI}{g:TG}{tt:TT}{te:TE}{Nc:List Str}{n:Nat}{caps:List Nat}
  (hxe:X.xe=λ_ _=>False) (hcalm:X.calm=true) (hi:PI X tg iter wi)
  (hbody:∀ (cl:List (Str×Addr)) (C:Addr) (s₀:Wz) (H₀:Hp) (ex:List Addr),PG (ba X scope Nc cl C s₀ H₀ ex) tg g/\xi (ba X scope Nc cl C s₀ H₀ ex) ifs tt/\PE (ba X scope Nc cl C s₀ H₀ ex) elt te)
  (hfree:∀ y∈scope.names,y.2=.free->X.env.kindOf y.1=some .cell) (hcell:∀ y∈scope.names,y.2≠.cell) (gk:scope.kind=.function)
  (hnames:∀ y∈scope.names,y.2=.local->scope.names.lookup y.1=some .local) (hlen:Nc.length=n+caps.length)
  (hcap:∀ (j k:Nat),caps[j]? = some k->∃ x,Nc[n+j]? = some x/\X.N[k]? = some x/\scope.names.lookup x=some .free)
  {use:Option (Wv->Sem Unit)} {Qv:Wv->Wz->Prop} {pins:List (Addr×Obj)} {s:Wz} {σ:L2.St} {H:Hp} {Q:VK} {ps:Pos} (I:Inv X pins σ H s) (h:kT wi g tt te n caps σ H Q)
  (hfin:∀ (D C:Addr) (s5:Wz) (H5:Hp) (m:Str->Option Wv),Inv X pins σ H5 s5->pU X pins H5 C->s5.heap.Ns C m->Q (.ref D) H5->zd6 (W2 X.prog X.w) X.A (λ_ _=>False) use Qv (.ref D) C (.ok .next) s5)
  (hs:∀ x,Xs iter X.env x=pure x:=by intro _;rfl) :
  WW (W2 X.prog X.w) X.A (comprehension (.ListComp elt [⟨tg,iter,ifs,0⟩] scope pos) scope X.env ps (newList []) false (XG iter X.env) use) Qv (λ_ _=>False) s:=by
 obtain ⟨cl,hclos,clin,clfree⟩:=Bg (scope:=scope) (env:=X.env) λy hy hf=>I.ok.has y.1 (.inl (hfree y hy hf))
 refine wpAny_comprehension_free (use:=use) rfl hs hclos gk hnames ?_
 have hi':=hi pins s σ H _ I h
 rw[hxe] at hi'
 refine XO hi' (λxv s1 h1=>XO h1 (λitv s2 h2=>?_) λ_ _ z=>z) λ_ _ z=>z
 obtain ⟨it,fp,tn,J,H1,rfl,I2,T,st2,f2,hh⟩:=h2
 -- the new list
 refine XD ?_
 have hD:H1 s2.heap.objs.size=none:=I2.hok.fresh (WL _)
 obtain ⟨W,⟨m0,w0⟩,turn⟩:=hh _ hD
 have I3:Inv X pins σ (L2.upd H1 s2.heap.objs.size (.lst [])) { s2 with heap:=s2.heap.push { cls:=.type "list", dict:=none,data:=.seq ([]:List Wv).toArray } }:=
  I2.laid (t':=s2.toks) (λb u e=>Wu _ e) (WL _) ⟨Ya _,[],0,.nil,WJ _ rfl⟩
 have k3:∀ b u,s2.heap.get? b=some u->(s2.heap.push { cls:=.type "list", dict:=none,data:=.seq ([]:List Wv).toArray }).get? b=some u:=λb u e=>Wu _ e
 have fne:∀ b∈fp,b≠s2.heap.objs.size:=λb hb=>by
  obtain ⟨o,ho,_⟩:=T.obj 0 _ st2 b hb
  exact WZ (WH ho)
 generalize eD:s2.heap.objs.size=D at *
 generalize eh3:s2.heap.push { cls:=.type "list", dict:=none,data:=.seq ([]:List Wv).toArray }=h3 at *
 generalize eH3:L2.upd H1 D (.lst [])=H3 at *
 have st3:tn 0 h3:=T.keep 0 _ _ st2 λb hb o e=>k3 b o e
 have f3:∀ b∈fp,pU X pins H3 b:=λb hb=>⟨by rw[← eH3,aJ (fne b hb)];exact (f2 b hb).1,(f2 b hb).2⟩
 have lt3:∀ b∈fp,b < h3.objs.size:=λb hb=>by
  obtain ⟨o,ho,_⟩:=T.obj 0 _ st3 b hb
  exact WH ho
 generalize es3:({ s2 with heap:=h3 }:Wz)=s3 at *
 have hs3:s3.heap=h3:=by rw[← es3]
 refine wpAny_newFunctionEnv hcell (λy hy=>(by cases hy)) (λh4 hns hsb=>?_) gk
 show Za _ _ (.compStart _ 0 (.ref it) (.ref D) (zd5 scope cl s3.heap.objs.size X.env)) (zd6 _ _ _ _ _ (.ref D) s3.heap.objs.size) _
 have k4:∀ b u,s3.heap.get? b=some u->h4.get? b=some u:=λb u e=>hsb.extBut b u (WZ (WH e)) (Wu _ e)
 have okY:(ba X scope Nc cl s3.heap.objs.size s3 H3 fp).Ok:=by
  refine ⟨I3.ok.mod,gk,I3.ok.glob,I3.ok.blt,WL _,λx y c e1 e2=>I3.ok.inj x y c (clin _ _ e1) (clin _ _ e2),λx hx=>?_,λx c hf=>(by cases hf),I3.ok.hd,I3.ok.frames,.inl rfl,λb hb=>⟨?_,λx c e z=>?_⟩,I3.bs,Xu I3.ok.bsz I3.sz,λb o e hb=>?_,λb hb hz=>?_,I3.stack,I3.C2⟩
  ·have hx':(relabel scope X.env).names.lookup x=some .cell∨(relabel scope X.env).names.lookup x=some .free:=hx
   have hm:(x,Yg)∈scope.names:=by
    rcases hx' with q | q
    ·exact oJ hcell (.inl rfl) (XS q)
    ·exact oJ hcell (.inr rfl) (XS q)
   exact clfree _ hm rfl
  ·show b≠s3.heap.objs.size
   rw[hs3];exact WZ (lt3 b hb)
  ·exact (f3 b hb).2.2.2.2.1 x c (clin _ _ e) z
  ·rcases (f3 b hb).2.2.2.1 with z | z
   ·exact I3.ok.Gg b o e z
   ·exact absurd (WV (WH e) (Xu I3.ok.bsz z)) (YF _)
  ·rcases WK.mp (I3.BE b hz) with z | z
   ·exact (f3 b hb).2.1 z
   ·exact (f3 b hb).2.2.1 z
 have Tp:∀ c v,s3.heap.IsCell c v->h4.IsCell c v:=λc v ⟨o,ho,hd⟩=>⟨o,k4 c o ho,hd⟩
 have J0:Inv (ba X scope Nc cl s3.heap.objs.size s3 H3 fp) [] (kA σ n caps) H3 { s3 with heap:=h4,toks:=s3.toks+([]:List (Str×Wv)).length }:=by
  refine ⟨okY,rfl,I3.bare,Un.kept k4,⟨_,hns,λi x v e1 e2 e3=>?_⟩,λx c e=>?_,I3.hok.fresh (WL _),λx c e=>I3.jS x c (clin _ _ e),(λp hp=>(by cases hp)),I3.hok.kept k4,?_⟩
  ·obtain ⟨j,k,rfl,ej,ek⟩:=jF e2
   obtain ⟨x',n1,n2,n3⟩:=hcap j k ej
   have e1':Nc[n+j]? = some x:=e1
   rw[n1] at e1';cases e1'
   have hmem:(x,Yg)∈scope.names:=XS n3
   have hcellx:X.env.kindOf x=some .cell:=hfree _ hmem rfl
   obtain ⟨m,hn,hl⟩:=I3.loc
   obtain ⟨u,ru,lk⟩:=hl k x v n2 ek (.inr (.inl hcellx))
   refine ⟨u,ru,.inr ⟨.inl (fE I3.ok.kind hcellx n3),?_⟩⟩
   rcases lk with ⟨q,_⟩ | ⟨_,c,ec,ic⟩
   ·rw[hcellx] at q;cases q
   ·obtain ⟨c',ec'⟩:=clfree _ hmem rfl
    have:=clin _ _ ec'
    rw[ec] at this;cases this
    exact ⟨c,ec',Tp _ _ ic⟩
  ·obtain ⟨v,q⟩:=I3.cell x c (clin _ _ e)
   exact ⟨v,Tp _ _ q⟩
  ·unfold kA
   show _=Nc.length
   rw[WG,Z4,Ww,hlen]
 obtain ⟨pg,pifs,pelt⟩:=hbody cl s3.heap.objs.size s3 H3 fp
 generalize eY:ba X scope Nc cl s3.heap.objs.size s3 H3 fp=Y at *
 have yP:Y.prog=X.prog:=by rw[← eY];rfl
 have yw:Y.w=X.w:=by rw[← eY];rfl
 have yK:Y.K=X.K:=by rw[← eY];rfl
 have yA:Y.A=X.A:=by rw[← eY];rfl
 have yx:Y.xe=λ_ _=>False:=by rw[← eY];exact hxe
 have yc:Y.calm=true:=by rw[← eY];exact hcalm
 have ye:Y.env=zd5 scope cl s3.heap.objs.size X.env:=by rw[← eY];rfl
 have yfs:Y.fs=frs X.stack:=by rw[← eY];rfl
 have yex:Y.ex=fp:=by rw[← eY];rfl
 have ys0:Y.s₀=s3:=by rw[← eY];rfl
 have yH0:Y.H₀=H3:=by rw[← eY];rfl
 have ypn:Y.pn=[]:=by rw[← eY];rfl
 have BL:∀ {H':Hp},(∀ b∈fp,H' b=none)->∀ b∈fp,pU Y [] H' b:=λhn b hb=>⟨hn b hb,by rw[ye];show b≠s3.heap.objs.size;rw[hs3];exact WZ (lt3 b hb),okY.F4 b (by rw[yex];exact hb),.inl (by rw[yex];exact hb),
  λx c e=>by rw[ye] at e;exact (f3 b hb).2.2.2.2.1 x c (clin _ _ e),λp hp=>by rw[ypn] at hp;exact nomatch hp⟩
 have tn4:∀ t,tn 0 ({ s3 with heap:=h4,toks:=t }:Wz).heap:=λt=>T.keep 0 _ _ st3 λb hb o e=>k4 b o (by rw[hs3];exact e)
 -- the end
 have fin:∀ (s5:Wz) (H5:Hp),Inv Y [] (kA σ n caps) H5 s5->Q (.ref D) H5->zd6 (W2 X.prog X.w) X.A (λ_ _=>False) use Qv (.ref D) s3.heap.objs.size (.ok .next) s5:=λs5 H5 I5 q5=>by
  obtain ⟨m,hn,_⟩:=I5.loc
  rw[ye] at hn
  have un:=I5.base
  rw[yfs,yex,yH0,ys0] at un
  have hfreeC0:=I5.free
  rw[ye] at hfreeC0
  have hfreeC:H5 s3.heap.objs.size=none:=hfreeC0
  have hok5:=I5.hok
  rw[yP,yw] at hok5
  have I5X:Inv X pins σ H5 s5:=I3.Og (ch:=fp) (s':=s5) (by have:=I5.os;rw[ys0] at this;exact this) un hok5 I5.bare λb hb=>⟨(f3 b hb).2.2.2.1,(f3 b hb).2.1,(f3 b hb).2.2.2.2.1,(f3 b hb).2.2.2.2.2⟩
  exact hfin _ _ s5 H5 m I5X (I3.AB (WL _) hfreeC) hn q5
 have loop:Za (W2 X.prog X.w) X.A (.compLoop (.ListComp elt [⟨tg,iter,ifs,0⟩] scope pos) 0 (.ref it) (.ref D) (zd5 scope cl s3.heap.objs.size X.env)) (zd6 (W2 X.prog X.w) X.A (λ_ _=>False) use Qv (.ref D) s3.heap.objs.size)
   { s3 with heap:=h4,toks:=s3.toks+([]:List (Str×Wv)).length }:=by
  refine Ff (λk s'=>∃ i ys H',Inv Y [] (kA σ n caps) H' s'/\tn i s'.heap/\(∀ b∈fp,H' b=none)/\W i k ys H') ?_ m0 ⟨0,[],H3,J0,tn4 _,λb hb=>(f3 b hb).1,w0⟩
  rintro k s5 ⟨i,ys,H5,I5,st5,fr5,w5⟩
  rcases turn i k ys H5 w5 with ⟨stop,q⟩ | ⟨go,N,hN,step⟩
  ·have d:=T.done Y yP yw yK yc i [] s5 _ H5 (λ_ _=>False) I5 (BL fr5) st5 stop
   rw[yA] at d
   refine thn d λr s6 ⟨hr,I6⟩=>?_
   subst hr
   exact fin s6 H5 I6 q
  ·have d:=T.item Y yP yw yK yc i [] s5 _ H5 (λ_ _=>False) I5 (BL fr5) st5 go
   rw[yA] at d
   refine thn d λr s6 ⟨u,hr,h6⟩=>?_
   subst hr
   refine thn h6 λ_ s7 ⟨x,H7,I7,r7,y7,st7,fr7⟩=>?_
   have I7':=I7.pinned (BL fr7) (T.obj _ _ st7)
   have a:=pg _ s7 _ H7 x u _ I7' r7 (step x H7 y7)
   rw[yP,yw,yA,yx,ye] at a
   refine thn a λ_ s8 ⟨σ8,H8,I8,wk,q8⟩=>?_
   have b:=pifs _ s8 σ8 H8 _ I8 q8
   rw[yP,yw,yA,yx,ye] at b
   have again:∀ {s9:Wz} {ys9:List V} {H9:Hp},Inv Y ([]++qm fp s7.heap) σ8 H9 s9->N ys9 H9->∃ m,m < k/\∃ i ys H',Inv Y [] (kA σ n caps) H' s9/\tn i s9.heap/\(∀ b∈fp,H' b=none)/\W i m ys H':=λ{s9 ys9 H9} I9 n9=>by
    obtain ⟨m',hm,w9⟩:=hN ys9 H9 n9
    have hp:∀ b∈fp,∀ o,s7.heap.get? b=some o->s9.heap.get? b=some o/\H9 b=none:=λb hb o e=>
     ⟨(I9.pin (b,o) (Xb _ (Xb _ (gf hb e)))).1,(I9.pin (b,o) (Xb _ (Xb _ (gf hb e)))).2.1⟩
    refine ⟨m',hm,i+1,ys9,H9,I9.jP.weak wk.1 wk.2,T.keep _ _ _ st7 λb hb o e=>(hp b hb o e).1,λb hb=>?_,w9⟩
    obtain ⟨o,e,_⟩:=T.obj _ _ st7 b hb
    exact (hp b hb o e).2
   refine thn b λok s9 ⟨H9,I9,q9⟩=>?_
   cases ok with
   | false=>
    rw[if_neg YU] at q9 ⊢
    exact again I9 q9
   | true=>
    rw[if_pos rfl] at q9 ⊢
    have c:=pelt _ s9 σ8 H9 _ I9 q9
    rw[yP,yw,yA,yx,ye] at c
    refine thn c λv s10 ⟨y,H10,I10,r10,zs,ez,lz,n10⟩=>?_
    have d:=uH (X:=Y) _ s10 σ8 H10 (.ref D) [y] (.ref D) [v] (λ_ H'=>N (zs++[y]) H') I10 rfl (.cons r10 .nil) ⟨D,zs,y,rfl,rfl,ez,lz,n10⟩
    rw[yP,yw,yA,yx] at d
    exact thn d λ_ s11 ⟨_,H11,I11,_,q11⟩=>again I11 q11
 refine codeAny_compStart_list loop ?_
 exact T.self X.A 0 _ _ _ (tn4 _) loop
theorem C1 {X:Cx}{tg iter elt:W4}{ifs:List W4}{scope:Scope}{pos:Pos}{wi:TI}{g:TG}{tt:TT}{te:TE}{Nc:List Str}{n:Nat}{caps:List Nat}
  (hxe:X.xe=λ_ _=>False) (hcalm:X.calm=true) (hi:PI X tg iter wi)
  (hbody:∀ (cl:List (Str×Addr)) (C:Addr) (s₀:Wz) (H₀:Hp) (ex:List Addr),PG (ba X scope Nc cl C s₀ H₀ ex) tg g/\xi (ba X scope Nc cl C s₀ H₀ ex) ifs tt/\PE (ba X scope Nc cl C s₀ H₀ ex) elt te)
  (hfree:∀ y∈scope.names,y.2=.free->X.env.kindOf y.1=some .cell) (hcell:∀ y∈scope.names,y.2≠.cell) (gk:scope.kind=.function)
  (hnames:∀ y∈scope.names,y.2=.local->scope.names.lookup y.1=some .local) (hlen:Nc.length=n+caps.length)
  (hcap:∀ (j k:Nat),caps[j]? = some k->∃ x,Nc[n+j]? = some x/\X.N[k]? = some x/\scope.names.lookup x=some .free)
  (hs:∀ x,Xs iter X.env x=pure x:=by intro _;rfl) :
  PE X (.ListComp elt [⟨tg,iter,ifs,0⟩] scope pos) (kT wi g tt te n caps):=by
 intro pins s σ H Q I h
 rw[hxe,eval_ListComp]
 exact yo hxe hcalm hi hbody hfree hcell gk hnames hlen hcap (use:=none) I h (λD C s5 H5 m I5 fC hn q=>⟨m,hn,λh6 hs6=>⟨.ref D,H5,Jp I5 fC.1 fC hs6,rfl,q⟩⟩) hs
theorem yW {X:Cx}{tg iter elt:W4}{ifs:List W4}{scope:Scope}{pos spos py:Pos}{y:Str}{iy:Nat}{wi:TI}{g:TG}{tt:TT}{te:TE}{Nc:List Str}{n:Nat}{caps:List Nat}{Z:TE->TE}
  (hxe:X.xe=λ_ _=>False) (hcalm:X.calm=true) (hi:PI X tg iter wi)
  (hbody:∀ (cl:List (Str×Addr)) (C:Addr) (s₀:Wz) (H₀:Hp) (ex:List Addr),PG (ba X scope Nc cl C s₀ H₀ ex) tg g/\xi (ba X scope Nc cl C s₀ H₀ ex) ifs tt/\PE (ba X scope Nc cl C s₀ H₀ ex) elt te)
  (hfree:∀ y∈scope.names,y.2=.free->X.env.kindOf y.1=some .cell) (hcell:∀ y∈scope.names,y.2≠.cell) (gk:scope.kind=.function)
  (hnames:∀ y∈scope.names,y.2=.local->scope.names.lookup y.1=some .local) (hlen:Nc.length=n+caps.length)
  (hcap:∀ (j k:Nat),caps[j]? = some k->∃ x,Nc[n+j]? = some x/\X.N[k]? = some x/\scope.names.lookup x=some .free)
  (pgy:PG X (.Name y py) (lI iy))
  (hsw:Yz (.ListComp elt [⟨tg,iter,ifs,0⟩] scope pos) (some (.Name y py)) spos.line X.env=pure true)
  (hz:∀ (σ:L2.St) (H:Hp) (Q:VK),Z (kT wi g tt te n caps) σ H Q->∃ Q',kT wi g tt te n caps σ H Q'/\∀ pins D H5 s5,Inv X pins σ H5 s5->Q' (.ref D) H5->∃ H6,(∀ b,H5 b=none->H6 b=none)/\Inv X pins σ H6 s5/\Q (.ref D) H6)
  (hs:∀ x,Xs iter X.env x=pure x:=by intro _;rfl) :
  PS X (.Assign [.Name y py] (.ListComp elt [⟨tg,iter,ifs,0⟩] scope pos) spos) (Hk (Z (kT wi g tt te n caps)) (lI iy)):=by
 intro pins s σ H E' I h
 rw[hxe]
 rewrite [exec_Assign_Name_used _ _ _ _ hsw]
 refine Wr (za9 ?_)
 refine Wr ?_
 refine (show WW _ X.A (do let _ ← comprehension (.ListComp elt [⟨tg,iter,ifs,0⟩] scope pos) scope X.env _ (newList []) false (XG iter X.env) (some (zbZ (.Name y py) X.env))) _ _ s from ?_)
 obtain ⟨Q',h',hq⟩:=hz σ H _ h
 refine Wr (XO (yo hxe hcalm hi hbody hfree hcell gk hnames hlen hcap (use:=some (zbZ (.Name y py) X.env)) (Qv:=λ_ s'=>SP X pins E' .next s') I h' (λD C s5 H5 m I5 fC hn q=>?_) hs) (λ_ s' hq=>WC (WC hq)) λ_ _ e=>e)
 obtain ⟨H6,fr,I6,q6⟩:=hq pins D H5 s5 I5 q
 have f0:=fr C fC.1
 have fC6:pU X pins H6 C:=⟨f0,fC.2⟩
 obtain ⟨oC,gC,dC⟩:∃ oC,s5.heap.get? C=some oC/\∀ v,oC.data≠.cell v:=by
  obtain ⟨oC,es,ep,ho,hd,_⟩:=hn
  exact ⟨oC,ho,λv z=>by rw[hd] at z;cases z⟩
 have I5P:=I6.pinned (fp:=[C]) (λb hb=>by cases Yu.mp hb;exact fC6) (λb hb=>by cases Yu.mp hb;exact ⟨oC,gC,dC⟩)
 have as:=pgy _ s5 σ _ (.ref D) (.ref D) E'.nx I5P rfl q6
 rw[hxe] at as
 refine thn as λ_ s6 ⟨σ6,H7,I7,n7⟩=>?_
 obtain ⟨g7,f7,_⟩:=I7.pin (C,oC) (Xb _ (Xb _ (gf WS gC)))
 exact ⟨m,hn.at' (λo' e'=>by have e'':s5.heap.get? C=some o':=e';rw[gC] at e'';cases e'';exact g7),λh8 hs8=>⟨σ6,H7,Jp I7.jP f7 fC6 hs8,n7⟩⟩
end
section
open PySem PySem.Spec PyProof.Rows L2
structure FP (K:Wq) (J:It) (H1:Hp) (ds:List D):Prop where
 go:∀ i H',Tk H1 H'->i < ds.length->J.go i H'
 yld:∀ i H' x H'',Tk H1 H'->i < ds.length->J.yld i H' x H''->Tk H' H''/\(∃ d,ds[i]? = some d/\Dp K H'' x d)/\∀ μ,bE K H' μ->bE K H'' μ
 stop:∀ i H',Tk H1 H'->ds.length<=i->J.stop i H'
def OR (K:Wq)(wi:TI)(It':ATr):Prop:=∀ σ H ρ μ (Q:List D->Mu->Prop) (R:It->Hp->Prop),Rl K σ H ρ μ->It' ρ μ Q->(∀ J H1 ds μ1,Tk H H1->bE K H1 μ1->FP K J H1 ds->Q ds μ1->R J H1)->wi σ H R
structure LI (X:Cx) (tg iter:W4) (It':ATr):Prop where
 ex:∃ wi,PI X tg iter wi/\OR X.K wi It'
section
variable {X:Cx} {tg a b c e elt iter:W4} {Ta Tb Te:ETr} {Tt:TTr} {pos:Pos} {It':ATr} {G:GTr}
theorem Gj {K:Wq}{H:Hp}{p:Addr}{xs:List V}{ds:List D}(q:SqT K H p xs)(l:DpL K H xs ds):FP K (Itt K p) H ds where
 go:=λi H' t hi=>by
  have hl:=l.length
  exact ⟨xs,xs[i],t.sqT q,by simp[show i < xs.length by omega]⟩
 yld:=λi H' x H'' t hi ⟨e,y⟩=>by
  subst e
  have ex:=y xs (t.sqT q)
  obtain ⟨d,ed,p⟩:=l.get' ex
  exact ⟨.refl _,⟨d,ed,p.mono t⟩,λ_ m=>m⟩
 stop:=λi H' t hi=>⟨xs,t.sqT q,by rw[l.length];exact hi⟩
theorem M7 {K:Wq}{H:Hp}{p:Addr}{xs:List V}{ds:List D}(q:SqF K H p xs)(l:DpL K H xs ds):FP K (Itl K p) H ds where
 go:=λi H' t hi=>by
  have hl:=l.length
  exact ⟨xs,xs[i],(t.sqF q).sq,by simp[show i < xs.length by omega]⟩
 yld:=λi H' x H'' t hi ⟨e,y⟩=>by
  subst e
  have ex:=y xs (t.sqF q).sq
  obtain ⟨d,ed,p⟩:=l.get' ex
  exact ⟨.refl _,⟨d,ed,p.mono t⟩,λ_ m=>m⟩
 stop:=λi H' t hi=>⟨xs,(t.sqF q).sq,by rw[l.length];exact hi⟩
theorem cX (lo:Int)(n:Nat):(ck lo n).length=n:=by unfold ck;simp
theorem JO {K:Wq}{H:Hp}(lo:Int)(n:Nat):FP K (Itr lo n) H (ck lo n) where
 go:=λi H' t hi=>by rw[cX] at hi;exact hi
 yld:=λi H' x H'' t hi ⟨e,y⟩=>by
  rw[cX] at hi
  subst e y
  exact ⟨.refl _,⟨.int (lo+i),by unfold ck;simp[hi],.int _⟩,λ_ m=>m⟩
 stop:=λi H' t hi=>by rw[cX] at hi;exact hi
def S4 (a:ETr):ATr:=λρ μ Q=>a ρ μ λx μ1=>match x with
 | .tup ds=>Q ds μ1
 | _=>False
def ILs (a:ETr):ATr:=λρ μ Q=>a ρ μ λx μ1=>match x with
 | .ls ds=>Q ds μ1
 | _=>False
theorem iC {rp rpos:Pos}(hg:Gl X "range")(hm:X.mg "range" = none)(ha:LE X a Ta)(hs:WI [a] X.env=[(false,XG a X.env)]:=by rfl):LI X tg (.Call (.Name "range" rp) [a] [] rpos) (fi Ta):=by
 obtain ⟨ta,pa,sa⟩:=ha.ex
 refine ⟨_,D0 hg hm (dU pa gX hs) hs,λσ H ρ μ Q R rl h k=>sa σ H ρ μ _ _ rl h λx H1 d μ1 t1 m1 p1 h1=>?_⟩
 cases p1 with
 | int j=>
  obtain ⟨⟨h2,h3⟩,h4⟩:=h1
  exact ⟨j,rfl,by simpa using h2,by simpa using h3,k _ H1 _ μ1 t1 m1 (JO 0 _) h4⟩
 | _=>exact WA h1
theorem S5 {t1:TS}{T1:STr}{g:TG}{E:En}{E':Ends}{K:Wq}{H0 H1:Hp}{J:It}{ds:List D}(sg:Q9 K g G)(s1:Iy K t1 T1)(k:FL K H0 E E')(Y:FP K J H1 ds){σ:L2.St}{ρ:ST}{μ:Mu}(t0:Tk H0 H1)(rl:Rl K σ H1 ρ μ)(h:forR G T1 E ds ρ μ) :
  ∃ W:Nat->Nat->L2.St->Hp->Prop,(∃ m,W 0 m σ H1)/\∀ i m σ H,W i m σ H->
   (J.stop i H/\E'.nx σ H)∨(J.go i H/\∃ N:L2.St->Hp->Prop,(∀ σ' H',N σ' H'->∃ m',m' < m/\W (i+1) m' σ' H')/\∀ x H',J.yld i H x H'->g x σ H' λσ2 H2=>t1 { E' with nx:=N,ct:=N,bk:=E'.nx } σ2 H2):=by
 refine ⟨λi m σ' H'=>m=ds.length - i/\i<=ds.length/\Tk H1 H'/\∃ ρ' μ',Rl K σ' H' ρ' μ'/\forR G T1 E (ds.drop i) ρ' μ',⟨ds.length,by simp,Ya _,.refl _,ρ,μ,rl,by simpa using h⟩,?_⟩
 rintro i m σ1 H2 ⟨rfl,hi,t12,ρ1,μ1,r1,h1⟩
 by_cases hlt:i < ds.length
 ·refine .inr ⟨Y.go i H2 t12 hlt,λσ' H'=>Tk H1 H'/\∃ ρ' μ',Rl K σ' H' ρ' μ'/\forR G T1 E (ds.drop (i+1)) ρ' μ',λσ' H' ⟨t',ρ',μ',r',h'⟩=>⟨ds.length - (i+1),by omega,rfl,hlt,t',ρ',μ',r',h'⟩,λx H3 y=>?_⟩
  obtain ⟨t23,⟨d,ed,pd⟩,mk⟩:=Y.yld i H2 x H3 t12 hlt y
  have e:ds.drop i=d::ds.drop (i+1):=by
   refine (Yb hlt).trans ?_
   congr 1
   rw[WO hlt] at ed
   exact Xq ed
  rw[e] at h1
  have t13:=t12.trans t23
  refine sg σ1 H3 ρ1 μ1 _ _ _ _ (r1.go t23 (mk _ r1.mu)) pd h1 λσ4 H4 ρ4 μ4 t4 r4 h4=>?_
  have t14:=t13.trans t4
  have t04:=t0.trans t14
  exact s1 σ4 H4 ρ4 μ4 _ _ r4 h4 ⟨λσ' H' ρ' μ' t' r' q=>⟨t14.trans t',ρ',μ',r',q⟩,(k.go t04).rt,(k.go t04).nx,λσ' H' ρ' μ' t' r' q=>⟨t14.trans t',ρ',μ',r',q⟩⟩
 ·have e:i=ds.length:=by omega
  subst e
  rw[YO] at h1
  exact .inl ⟨Y.stop _ H2 t12 (WL _),k.nx _ _ _ _ (t0.trans t12) r1 h1⟩
theorem eO {body:List Stmt}{T1:STr}(hp:zdq (W2 X.prog X.w) X.A X.env X.xe)(hc:X.calm=true)(hi:LI X tg iter It')(hG:LG X tg G)(hb:LSs X body T1)(hf:∀ x,Xs iter X.env x=pure x:=by intro _;rfl) :
  LS X (.For tg iter body [] pos) (iR It' G T1):=by
 obtain ⟨wi,pi,si⟩:=hi.ex
 obtain ⟨g,pg,sg⟩:=hG.ex
 obtain ⟨t1,p1,s1⟩:=hb.ex
 exact ⟨_,QB hp hc pi pg p1 hf,λσ H ρ μ E E' rl h k=>si σ H ρ μ _ _ rl h λJ H1 ds μ1 t1' m1 Y h1=>S5 sg s1 k Y t1' (rl.go t1' m1) h1⟩
def lO (K:Wq)(T:ETr):TE:=λσ H Q'=>∃ ρ μ Q,Rl K σ H ρ μ/\T ρ μ Q/\jX K H Q Q'
def liftT (K:Wq)(T:TTr):TT:=λσ H Q'=>∃ ρ μ Q,Rl K σ H ρ μ/\T ρ μ Q/\∀ b H' μ',Tk H H'->bE K H' μ'->Q b μ'->Q' b H'
abbrev N8 (K:Wq)(n:Nat)(σ:L2.St)(H:Hp)(k:ST->Mu->Prop)(k':L2.St->Hp->Prop):Prop:=∀ σ' H' ρ' μ',Tk H H'->Rl K σ' H' ρ' μ'->(σ'.length=σ.length/\∀ j,n<=j->σ'[j]? = σ[j]?)->k ρ' μ'->k' σ' H'
def mL (K:Wq)(n:Nat)(G:GTr):TG:=λv σ H k'=>∃ ρ μ d k,Rl K σ H ρ μ/\Dp K H v d/\G d ρ μ k/\N8 K n σ H k k'
theorem LE.pe (h:LE X e Te):PE X e (lO X.K Te):=by
 obtain ⟨t,p,s⟩:=h.ex
 exact λpins st σ H Q I ⟨ρ,μ,Q0,rl,hT,k⟩=>p pins st σ H Q I (s σ H ρ μ Q0 Q rl hT k)
structure xg (X:Cx) (ifs:List W4) (Tt:TTr):Prop where
 pe:xi X ifs (liftT X.K Tt)
theorem bC:xg X [] dA:=⟨λpins s σ H Q I ⟨ρ,μ,Q0,rl,hT,k⟩=>Nj pins s σ H Q I (k true H μ (.refl H) rl.mu hT)⟩
theorem fh (h:LT X c Tt):xg X [c] Tt:=by
 obtain ⟨t,p,s⟩:=h.ex
 exact ⟨λpins st σ H Q I ⟨ρ,μ,Q0,rl,hT,k⟩=>LU p pins st σ H Q I (s σ H ρ μ Q0 Q rl hT k)⟩
structure LGc (X:Cx) (n:Nat) (tg:W4) (G:GTr):Prop where
 pe:PG X tg (mL X.K n G)
theorem bc {x:Str}{n:Nat}(i:Nat)(hN:X.N.Nodup)(hin:i < n:=by decide)(hi:X.N[i]? = some x:=by rfl)(hx:Loc X.env.scope x:=by first | exact ZX rfl | exact ZY rfl)(hf:X.fn x=true∨X.env.scope.names.lookup x=some .local:=by first | exact .inr rfl | exact .inl rfl | assumption):LGc X n (.Name x pos) (aw i):=
 ⟨λpins s σ H v u k' I r ⟨ρ,μ,d,k,rl,p,h,post⟩=>iE hN hi hx hf pins s σ H v u k' I r (post _ H _ μ (.refl H) (rl.set p i) ⟨by simp,λj hj=>by rw[YC (by omega)]⟩ h)⟩
theorem pM {K:Wq}{σ:L2.St}{H:Hp}{ρ:ST}{μ:Mu}(rl:Rl K σ H ρ μ)(n:Nat)(caps:List Nat):Rl K (kA σ n caps) H (fc ρ n caps) μ:=by
 refine ⟨by unfold kA fc;simp,λi d e=>?_,rl.mu⟩
 have gen:∀ (n i:Nat),lk (X6 n none++caps.map (lk ρ)) i=some d->∃ j,i=n+j/\∃ k,caps[j]? = some k/\lk ρ k=some d:=by
  intro n
  induction n with
  | zero=>
   intro i h
   have h':lk (caps.map (lk ρ)) i=some d:=by simpa using h
   have g2:∀ (cs:List Nat) (i:Nat),lk (cs.map (lk ρ)) i=some d->∃ k,cs[i]? = some k/\lk ρ k=some d:=by
    intro cs
    induction cs with
    | nil=>intro i h;cases i<;>cases h
    | cons c r ih=>intro i h;cases i with
     | zero=>exact ⟨c,rfl,h⟩
     | succ i=>simpa using ih i h
   exact ⟨i,by omega,g2 caps i h'⟩
  | succ n ih=>
   intro i h
   cases i with
   | zero=>cases h
   | succ i=>
    obtain ⟨j,rfl,k,h1,h2⟩:=ih i h
    exact ⟨j,by omega,k,h1,h2⟩
 obtain ⟨j,rfl,k,h1,h2⟩:=gen n i e
 obtain ⟨v,h3,h4⟩:=rl.loc k d h2
 refine ⟨v,?_,h4⟩
 unfold kA
 rw[Zd (by simp)]
 simp[h1,h3]
theorem Lb {ifs:List W4}{scope:Scope}{Nc:List Str}{n:Nat}{caps:List Nat}(hxe:X.xe=λ_ _=>False)(hcalm:X.calm=true)(hi:LI X tg iter It')
  (hbody:∀ (cl:List (Str×Addr)) (C:Addr) (s₀:Wz) (H₀:Hp) (ex:List Addr),LGc (ba X scope Nc cl C s₀ H₀ ex) n tg G/\xg (ba X scope Nc cl C s₀ H₀ ex) ifs Tt/\LE (ba X scope Nc cl C s₀ H₀ ex) elt Te)
  (hfree:∀ y∈scope.names,y.2=.free->X.env.kindOf y.1=some .cell) (hcell:∀ y∈scope.names,y.2≠.cell) (gk:scope.kind=.function)
  (hnames:∀ y∈scope.names,y.2=.local->scope.names.lookup y.1=some .local) (hlen:Nc.length=n+caps.length)
  (hcap:∀ (j k:Nat),caps[j]? = some k->∃ x,Nc[n+j]? = some x/\X.N[k]? = some x/\scope.names.lookup x=some .free)
  (hs:∀ x,Xs iter X.env x=pure x:=by intro _;rfl) :
  LE X (.ListComp elt [⟨tg,iter,ifs,0⟩] scope pos) (bG It' G Tt Te n caps):=by
 obtain ⟨wi,pi,si⟩:=hi.ex
 refine ⟨_,jk (C1 (g:=mL X.K n G) (tt:=liftT X.K Tt) (te:=lO X.K Te) hxe hcalm pi (λcl C s₀ H₀ ex=>let ⟨h1,h2,h3⟩:=hbody cl C s₀ H₀ ex;⟨h1.pe,h2.pe,h3.pe⟩) hfree hcell gk hnames hlen hcap hs),?_⟩
 intro σ H ρ μ Q Q' rl h k
 refine si σ H ρ μ _ _ rl h λJ H1 ds μ1 t1 m1 Y h1 D hD=>?_
 have hp:=h1 D (m1.free hD)
 have tD:Tk H1 (L2.upd H1 D (.lst [])):=.new hD
 have mD:bE X.K (L2.upd H1 D (.lst [])) (up μ1 D (.lst [])):=λa o e=>by
  by_cases ha:a=D
  ·subst ha
   rw[aF] at e;cases e
   exact ⟨[],aK,.nil⟩
  ·rw[aS ha] at e
   exact bV m1 hD a o e
 refine ⟨λi m ys H2=>m=ds.length - i/\i<=ds.length/\Tk H1 H2/\∃ μ2,bE X.K H2 μ2/\fF D G Tt Te (fc ρ n caps) (λμ'=>kL μ' D λzs=>Q (.ls zs) (dn μ' D)) (ds.drop i) μ2,
  ⟨ds.length,by simp,Ya _,tD,_,mD,by simpa using hp⟩,?_⟩
 rintro i m ys H2 ⟨rfl,hi,t12,μ2,m2,h2⟩
 by_cases hlt:i < ds.length
 ·refine .inr ⟨Y.go i H2 t12 hlt,λys' H'=>Tk H1 H'/\∃ μ',bE X.K H' μ'/\fF D G Tt Te (fc ρ n caps) (λμ'=>kL μ' D λzs=>Q (.ls zs) (dn μ' D)) (ds.drop (i+1)) μ',λys' H' ⟨t',μ',m',h'⟩=>⟨ds.length - (i+1),by omega,rfl,hlt,t',μ',m',h'⟩,λx H3 y=>?_⟩
  obtain ⟨t23,⟨d,ed,pd⟩,mk⟩:=Y.yld i H2 x H3 t12 hlt y
  have e:ds.drop i=d::ds.drop (i+1):=by
   refine (Yb hlt).trans ?_
   congr 1
   rw[WO hlt] at ed
   exact Xq ed
  rw[e] at h2
  have t13:=t12.trans t23
  have r3:Rl X.K (kA σ n caps) H3 (fc ρ n caps) μ2:=pM (rl.go (t1.trans t13) (mk _ m2)) n caps
  refine ⟨_,_,d,_,r3,pd,h2,λσ4 H4 ρ4 μ4 t4 r4 kp h4=>⟨⟨kp.1.symm,λj v ej=>?_⟩,_,_,_,r4,h4,λb H5 μ5 t5 m5 h5=>?_⟩⟩
  ·by_cases hj:n<=j
   ·rw[kp.2 j hj];exact ej
   ·obtain ⟨j',k',e1,_⟩:=jF ej
    omega
  ·have t15:=t13.trans (t4.trans t5)
   cases b with
   | false=>exact pw ⟨t15,μ5,m5,h5⟩
   | true=>
    refine pk ⟨_,_,_,r4.go t5 m5,h5,λv H6 d6 μ6 t6 m6 p6 h6=>?_⟩
    obtain ⟨zs,ez,lz,h7⟩:=bN h6
    obtain ⟨xs,ex,lx⟩:=m6 D _ ez
    have t67:Tk H6 (L2.upd H6 D (.lst (xs++[v]))):=.upd (λys z=>by rw[ex] at z;cases z) λo' u z=>by rw[ex] at z;cases z
    refine ⟨xs,ex,by rw[lx.length];exact WV lz (by decide),(t15.trans t6).trans t67,up μ6 D (.lst (zs++[d6])),λa o ea=>?_,h7⟩
    by_cases ha:a=D
    ·subst ha
     rw[aF] at ea;cases ea
     exact ⟨_,aK,(lx.append (.cons p6 .nil)).mono t67⟩
    ·rw[aS ha] at ea
     exact (m6 a _ ea).ne t67 ha
 ·have e:i=ds.length:=by omega
  subst e
  rw[YO] at h2
  obtain ⟨zs,ez,hq⟩:=bN (show kL μ2 D λzs=>Q (.ls zs) (dn μ2 D) from h2)
  obtain ⟨xs,ex,lx⟩:=m2 D _ ez
  refine .inl ⟨Y.stop _ H2 t12 (WL _),D,xs,rfl,ex,λo=>?_⟩
  have t2f:Tk H2 (L2.upd H2 D (.frz o (.lst xs))):=.upd (λys z=>by rw[ex] at z;cases z) λo' u z=>by rw[ex] at z;cases z
  refine k _ _ _ (dn μ2 D) ((t1.trans t12).trans t2f) (λa o' ea=>?_) (.ls (.inl ⟨o,aK⟩) (lx.mono t2f)) hq
  have ha:a≠D:=λz=>by subst z;unfold dn at ea;rw[if_pos rfl] at ea;cases ea
  have ea':μ2 a=some o':=by unfold dn at ea;rw[if_neg ha] at ea;exact ea
  exact (m2 a _ ea').ne t2f ha
end
end
section
open PySem PySem.Spec PyProof.Rows L2
def hE (fn:List (Str×zak))(XN:List Str)(sc:Scope)(Nc:List Str)(n:Nat)(caps:List Nat):Bool:=
 sc.names.all (λy=>(y.2 != .free || fn.lookup y.1 == some .cell)&&y.2 != .cell&&(y.2 != .local || sc.names.lookup y.1 == some .local))&&sc.kind == .function&&Nc.length == n+caps.length &&
 (Xh caps.length).all λj=>match caps[j]? with
  | some k=>(match XN[k]? with
   | some x=>Nc[n+j]? == some x&&sc.names.lookup x == some .free
   | none=>false)
  | none=>false
section
variable {X:Cx} {tg a b c e elt iter:W4} {Ta Tb Te:ETr} {Tt:TTr} {pos:Pos} {It':ATr} {G:GTr}
theorem bA {ifs:List W4}{scope fsc:Scope}(XN Nc:List Str)(n:Nat)(caps:List Nat)(hxe:X.xe=λ_ _=>False)(hcalm:X.calm=true)(hi:LI X tg iter It')
  (hbody:∀ (cl:List (Str×Addr)) (C:Addr) (s₀:Wz) (H₀:Hp) (ex:List Addr),LGc (ba X scope Nc cl C s₀ H₀ ex) n tg G/\xg (ba X scope Nc cl C s₀ H₀ ex) ifs Tt/\LE (ba X scope Nc cl C s₀ H₀ ex) elt Te)
  (hsc:X.env.scope=fsc) (hXN:X.N=XN) (hok:hE fsc.names XN scope Nc n caps=true)
  (hs:∀ x,Xs iter X.env x=pure x:=by intro _;rfl) :
  LE X (.ListComp elt [⟨tg,iter,ifs,0⟩] scope pos) (bG It' G Tt Te n caps):=by
 unfold hE at hok
 simp only[Xd,Zm] at hok
 obtain ⟨⟨⟨h1,h2⟩,h3⟩,h4⟩:=hok
 refine Lb hxe hcalm hi hbody (λy hy hf=>?_) (λy hy hf=>?_) (by simpa using h2) (λy hy hf=>?_) (by simpa using h3) (λj k hj=>?_) hs
 ·have:=(h1 y hy).1.1
  show X.env.scope.names.lookup y.1=_
  rw[hsc]
  simpa[hf] using this
 ·have:=(h1 y hy).1.2
  simp[hf] at this
 ·have:=(h1 y hy).2
  simpa[hf] using this
 ·have hl:j < caps.length:=(Xc.mp hj).1
  have:=h4 j (YM.mpr hl)
  rw[hj] at this
  dsimp only at this
  rw[hXN]
  cases e:XN[k]? with
  | none=>rw[e] at this;cases this
  | some x=>
   rw[e] at this
   dsimp only at this
   rw[Xd] at this
   exact ⟨x,by simpa using this.1,rfl,by simpa using this.2⟩
end
theorem oi:∀ {bs:List Bool} {us:List Wv},Vals (bs.map V.bl) us->LSm.BoolsAre us bs
 | [],_,.nil=>.nil
 | b::r,_,.cons h t=>by
  cases (show _=zaI b from h)
  exact .cons b (oi t)
theorem D5 {X:Cx}(hc:X.calm=true):bU X (.builtin "all") (λxs H Q=>∃ (p:Addr) (ys:List V) (bs:List Bool),xs=[.ref p]/\SqL X.K H p ys/\ys=bs.map V.bl/\Q (.bl (bs.all id)) H):=λpins s σ H xs us Q I rx ⟨p,ys,bs,e1,sq,e2,q⟩=>by
 subst e1 e2
 cases rx with | cons r1 r2=>
 cases r2
 cases (show _=Xa p from r1)
 obtain ⟨its,rv,pl,_⟩:=I.list sq
 have ils:s.heap.IsList p its.toArray:=by
  obtain ⟨o,n,h1,h2,_,h3⟩:=pl
  exact ⟨o,h1,h2,n,h3⟩
 have bls:=oi rv
 have hlt:p < s.heap.objs.size:=by obtain ⟨_,e,_⟩:=ils;exact WH e
 refine call_all_walk (Y9 ils ?_)
 refine ⟨s.heap.objs.size,[s.heap.objs.size,p],[s.heap.objs.size],its.toArray.size,_,_,λi=>(bs[i]?).getD true,rfl,zeH (A:=X.A.in1) (I.ok.hd hc) _ p (WZ hlt) its.toArray,
  ⟨⟨_,WJ _ rfl,rfl,rfl⟩,ils.push _⟩,λi v s' Q' E' gP gQ=>?_,λh' tk hk=>?_⟩
 ·obtain ⟨b,e,rfl⟩:=bls.get i v (by simpa using gP)
  simp only[e,zad] at gQ
  exact XU gQ
 ·have e:((Xh its.toArray.size).all λi=>(bs[i]?).getD true)=bs.all id:=by
   rw[WR,bls.length];exact LSm.range_all bs
  rw[e]
  exact ⟨.bl _,H,I.kept (LSm.kept_iter hk),rfl,q⟩
theorem DpL.bools {K:Wq}{H:Hp}:∀ {xs:List V} {bs:List Bool},DpL K H xs (bs.map .bl)->xs=bs.map V.bl
 | _,[],.nil=>rfl
 | _,b::r,.cons h l=>by cases h;rw[DpL.bools l];rfl
theorem MJ {K:Wq}:lq K (λxs H Q=>∃ (p:Addr) (ys:List V) (bs:List Bool),xs=[.ref p]/\SqL K H p ys/\ys=bs.map V.bl/\Q (.bl (bs.all id)) H) G6:=λH μ xs ds Q Q' m p h k=>by
 unfold G6 at h
 split at h
 ·obtain ⟨bs,rfl,h⟩:=h
  cases p with | cons p1 p2=>cases p2;cases p1 with | ls q l=>exact ⟨_,_,bs,rfl,q.sq,l.bools,k _ H _ μ (.refl H) m (.bl _) h⟩
 ·exact h.elim
end
section
open PySem PySem.Spec PyProof.Rows L2
def GV (K:Wq)(mg:Str->Option Wv)(x:Str)(d:D):Prop:=∃ u v,mg x=some u/\RelV v u/\∀ H,Dp K H v d
theorem aE {X:Cx}{x:Str}{pos:Pos}{d:D}(hg:Gl X x)(h:GV X.K X.mg x d)(hd:(x == ("__debug__" : Str))=false:=by decide):LE X (.Name x pos) (TC d):=by
 obtain ⟨u,v,hm,r,p⟩:=h
 exact ⟨_,KP hg hm r hd,λσ H ρ μ Q Q' rl h k=>k v H d μ (.refl H) rl.mu (p H) h⟩
section
variable {K:Wq} {h:Heap} {mg:Str->Option Wv} {x:Str}
theorem bo {i:Int}{t:Tok}(X:K.In h)(G:h.Ns X2 mg)(a:zes K X2 x=some (some (.int i t))):GV K mg x (.int i):=⟨_,.int i,zei X G a,⟨t,rfl⟩,λ_=>.int i⟩
theorem Co {p:Addr}{o:Obj}{its:Array Wv}{n:Nat}{xs:List V}{ds:List D}(X:K.In h)(G:h.Ns X2 mg)(a:zes K X2 x=some (some (.ref p)))(l:K.lookup p=some o)(c:o.cls=.type "tuple")(dn:o.dict=none)(d:o.data=.seq its n)
  (z:its.size<=sizeLine) (r:Vals xs its.toList) (q:∀ H,DpL K H xs ds):GV K mg x (.tup ds):=⟨_,.ref p,zei X G a,rfl,λH=>.tup (.inr ⟨o,its,n,l,c,dn,d,z,r⟩) (q H)⟩
end
def jG:ST->List Nat->List D->ST
 | ρ,i::is,d::ds=>jG (ρ.set i (some d)) is ds
 | ρ,_,_=>ρ
def dh (is:List Nat):GTr:=λd ρ μ k=>match d with
 | .tup ds=>ds.length=is.length/\k (jG ρ is ds) μ
 | _=>False
def Sz (K:Wq)(t:TGs)(is:List Nat):Prop:=∀ σ H ρ μ vs ds (k:ST->Mu->Prop) (k':L2.St->Hp->Prop),Rl K σ H ρ μ->DpL K H vs ds->ds.length=is.length->k (jG ρ is ds) μ->xQ K H k k'->t vs σ H k'
structure LGs (X:Cx) (es:List W4) (is:List Nat):Prop where
 ex:∃ t,PGs X es t/\Sz X.K t is
section
variable {X:Cx} {e tg:W4} {es:List W4} {is:List Nat} {pos:Pos} {x:Str} {Ta:ETr} {G:GTr}
theorem fe:LGs X [] []:=⟨_,Dc,λσ H ρ μ vs ds k k' rl l hl h q=>by
 cases ds with
 | nil=>cases l;exact ⟨rfl,q _ _ _ _ (.refl H) rl h⟩
 | cons=>cases hl⟩
theorem bf (i:Nat)(hN:X.N.Nodup)(h2:LGs X es is)(hi:X.N[i]? = some x:=by rfl)(hx:Loc X.env.scope x:=by first | exact ZX rfl | exact ZY rfl)(hf:X.fn x=true∨X.env.scope.names.lookup x=some .local:=by first | exact .inl rfl | exact .inr rfl | assumption)
  (hs:(X5 (.Name x pos::es) X.env).map (·.2)=zbZ (.Name x pos) X.env::(X5 es X.env).map (·.2):=by rfl):LGs X (.Name x pos::es) (i::is):=by
 obtain ⟨t,pt,st⟩:=h2.ex
 refine ⟨_,zI (iE hN hi hx hf) pt hs,λσ H ρ μ vs ds k k' rl l hl h q=>?_⟩
 cases l with
 | nil=>cases hl
 | @cons v d vs ds p l=>exact ⟨v,vs,rfl,st _ H _ μ vs ds k k' (rl.set p i) l (by simpa using hl) h q⟩
theorem ie {k:Nat}(hc:X.calm=true)(h:LGs X es is)(hn:(X5 es X.env).length=is.length:=by rfl)(hst:(X5 es X.env).findIdx? (·.1)=none:=by rfl):LG X (.Tuple es k pos) (dh is):=by
 obtain ⟨t,pt,st⟩:=h.ex
 refine ⟨_,JY hc pt hn hst,λσ H ρ μ v d k k' rl p h q=>?_⟩
 cases p with
 | @tup a xs ds sq l=>exact ⟨a,xs,rfl,sq,by rw[l.length];exact h.1,st σ H ρ μ xs ds k k' rl l h.1 h.2 q⟩
 | _=>exact WA h
theorem vD (he:LE X e Ta)(hG:LG X tg G)(hs:za7 [tg] e pos.line X.env=pure false:=by rfl)(hw:za8 [tg] e X.env=pure none:=by rfl)
  (h1:(X5 [tg] X.env).map (·.2)=[zbZ tg X.env]:=by rfl):LS X (.Assign [tg] e pos) (aN Ta G):=by
 obtain ⟨ta,pa,sa⟩:=he.ex
 obtain ⟨g,pg,sg⟩:=hG.ex
 exact ⟨_,Px pa pg hs hw h1,λσ H ρ μ E E' rl h k=>sa σ H ρ μ _ _ rl h λv H' d μ' t' m' p' h'=>sg σ H' ρ μ' v d _ _ (rl.go t' m') p' h' (k.go t').nx⟩
theorem lt_chain {a b c:W4}{Ta Tb Tc:ETr}{op op':zdX}{r r':L2.R2}{R R':DR2}(ho:OpR X (X9 op) r)(ho':OpR X (X9 op') r')(hr:fm X.K r R)(hr':fm X.K r' R')(ha:LE X a Ta)(hb:LE X b Tb)(hc:LE X c Tc)
  (hm:lastMarks [op,op'] [b,c]=false:=by with_unfolding_all rfl):LT X (.Compare a [op,op'] [b,c] pos) (TB (lr R R' Ta Tb Tc)):=by
 obtain ⟨ta,pa,sa⟩:=ha.ex
 obtain ⟨tb,pb,sb⟩:=hb.ex
 obtain ⟨tc,pc,sc⟩:=hc.ex
 exact ⟨_,I0 ho ho' pa pb pc hm,HG (ES hr hr' sa sb sc)⟩
end
end
section
open PySem PySem.Spec PyProof.Rows L2
def eA (tp:Bool)(h:Heap)(it a:Addr)(i:Nat):Prop:=match tp with
 | true=>h.IsTupleIter it a i
 | false=>h.IsListIter it a i
def cE (tp:Bool)(h:Heap)(a:Addr)(xs:Array Wv):Prop:=match tp with
 | true=>h.IsTuple a xs
 | false=>h.IsList a xs
theorem eA.at {tp:Bool}{h g:Heap}{it a:Addr}{i:Nat}(x:eA tp h it a i)(k:∀ o,h.get? it=some o->g.get? it=some o):eA tp g it a i:=by
 cases tp with
 | true=>obtain ⟨o,e,r⟩:=x;exact ⟨o,k o e,r⟩
 | false=>obtain ⟨o,e,r⟩:=x;exact ⟨o,k o e,r⟩
theorem cE.at {tp:Bool}{h g:Heap}{a:Addr}{xs:Array Wv}(x:cE tp h a xs)(k:∀ o,h.get? a=some o->g.get? a=some o):cE tp g a xs:=by
 cases tp with
 | true=>obtain ⟨o,e,r⟩:=x;exact ⟨o,k o e,r⟩
 | false=>obtain ⟨o,e,r⟩:=x;exact ⟨o,k o e,r⟩
theorem eA.ex {tp:Bool}{h:Heap}{it a:Addr}{i:Nat}(x:eA tp h it a i):∃ o,h.get? it=some o/\∃ vs,o.data=.fields vs:=by
 cases tp with
 | true=>obtain ⟨o,e,_,d⟩:=x;exact ⟨o,e,_,d⟩
 | false=>obtain ⟨o,e,_,d⟩:=x;exact ⟨o,e,_,d⟩
section
variable {prog:W9} {w:Xm} {A:XC} {E:Wv->Wz->Prop} {s:Wz}
theorem F8 {it t:Addr}{i:Nat}{xs:Array Wv}{x:Wv}{Q:Wv->Wz->Prop}(hi:s.heap.IsTupleIter it t i)(ht:s.heap.IsTuple t xs)(hx:xs[i]? = some x)
  (k:∀ g,g.IsTupleIter it t (i+1)->YT it s.heap g->Q x { s with heap:=g }):WW (W2 prog w) A (W3 (.ref it)) Q E s:=by
 obtain ⟨ob,gb,cb,db⟩:=id hi
 obtain ⟨ot,gt,_,nt,dt⟩:=ht
 delta W3
 refine Wr (Xl (name:=OF "__next__") hi.typeIs Yv (XH Yv hi.typeIs zaF ?_ (zax _)))
 refine Wr (m:=zaR (.ref it) 0) (Xe gb db (x:=.ref t) rfl ?_)
 refine (show WW _ _ (if (Xa t == Yj)=true then _ else _) _ _ s from ?_)
 rw[if_neg (show ¬ ((Xa t == Yj)=true) by intro z;cases z)]
 refine Wr (m:=zaR (.ref it) 1) (Xe gb db (x:=.int i 0) rfl ?_)
 refine Wr (m:=zcm (.ref t)) (Xk gt dt ?_)
 simp only[hx,Zb]
 refine Wr (wpAny_setField gb db (by simp) (WC ⟨x,rfl,WC (k _ ⟨_,Y6 _ gb (Obj.isFreed_of_fields (zcN db _)),(Obj.cls_mapFields ..).trans cb,?_⟩ (zaD ..))⟩))
 rw[zcN db];simp[ZT]
theorem iO {tp:Bool}{it a:Addr}{i:Nat}{xs:Array Wv}{x:Wv}{Q:Wv->Wz->Prop}(hi:eA tp s.heap it a i)(hs:cE tp s.heap a xs)(hx:xs[i]? = some x)
  (k:∀ g,eA tp g it a (i+1)->YT it s.heap g->Q x { s with heap:=g }):WW (W2 prog w) A (W3 (.ref it)) Q E s:=by
 cases tp with
 | true=>exact F8 hi hs hx k
 | false=>exact wpAny_nextOf_list_item hi hs hx k
theorem L0 {it t:Addr}{i:Nat}{xs:Array Wv}{Q:Wv->Wz->Prop}(hh:A.handled=none)(hi:s.heap.IsTupleIter it t i)(ht:s.heap.IsTuple t xs)(hx:xs[i]? = none)
  (k:∀ g e,zdF it s.heap g->(∃ o,g.get? e=some o/\o.cls=.type "StopIteration")->E (.ref e) { s with heap:=g }):WW (W2 prog w) A (W3 (.ref it)) Q E s:=by
 obtain ⟨ob,gb,cb,db⟩:=id hi
 obtain ⟨ot,gt,_,nt,dt⟩:=ht
 delta W3
 refine Wr (Xl (name:=OF "__next__") hi.typeIs Yv (XH Yv hi.typeIs zaF ?_ (zax _)))
 refine Wr (m:=zaR (.ref it) 0) (Xe gb db (x:=.ref t) rfl ?_)
 refine (show WW _ _ (if (Xa t == Yj)=true then _ else _) _ _ s from ?_)
 rw[if_neg (show ¬ ((Xa t == Yj)=true) by intro z;cases z)]
 refine Wr (m:=zaR (.ref it) 1) (Xe gb db (x:=.int i 0) rfl ?_)
 refine Wr (m:=zcm (.ref t)) (Xk gt dt ?_)
 simp only[hx,Zb]
 refine Wr (Yt (Wr (wpAny_setField gb db (by simp) (Wr (m:=newExc (.type "StopIteration") []) ?_))))
 simp only[newExc,newTuple]
 refine Wr (XD (Wr (m:=firstArgMember _ _) (zdG (a:=Yj) (by first | rfl | (simp only[firstArgMember];rfl)) (XD ?_ (by size_fits)))) (by size_fits))
 simp only[raiseNew]
 refine Wr <| wpAny_handled ?_
 rw[(show A.in1.handled=none from hh)]
 exact Wr (WC (wpAny_throw (k _ _ (((zaD ..).extBut.push _).push _) ⟨_,WJ _ rfl,rfl⟩)))
theorem vV {tp:Bool}{it a:Addr}{i:Nat}{xs:Array Wv}{Q:Wv->Wz->Prop}(hh:A.handled=none)(hi:eA tp s.heap it a i)(hs:cE tp s.heap a xs)(hx:xs[i]? = none)
  (k:∀ g e,zdF it s.heap g->(∃ o,g.get? e=some o/\o.cls=.type "StopIteration")->E (.ref e) { s with heap:=g }):WW (W2 prog w) A (W3 (.ref it)) Q E s:=by
 cases tp with
 | true=>exact L0 hh hi hs hx k
 | false=>exact wpAny_nextOf_list_end hh hi hs hx k
structure Zp (z ti to i j a b:Addr):Prop where
 nd:[z,ti,to,i,j].Nodup
 na:a ∉ [z,to,i,j]
 nb:b ∉ [z,to,i,j]
structure ZAt (ta tb:Bool) (h:Heap) (z ti to i j a b:Addr) (k:Nat):Prop where
 zz:Xy h z ti to .none
 zt:X7 h ti (.ref i) (.ref j)
 zo:∃ u v,X7 h to u v
 zi:eA ta h i a k
 zj:eA tb h j b k
theorem DQ {ta tb:Bool}{z ti to i j a b:Addr}{k:Nat}{xs ys:Array Wv}{x y:Wv}{Q:Option Wv->Wz->Prop}(Z:Zp z ti to i j a b)(S:ZAt ta tb s.heap z ti to i j a b k)(ha:cE ta s.heap a xs)(hb:cE tb s.heap b ys)(hx:xs[k]? = some x)(hy:ys[k]? = some y)
  (q:∀ g,Xy g z ti to (ZT s.heap.objs.size)->X7 g ti (.ref i) (.ref j)->X7 g to x y->eA ta g i a (k+1)->eA tb g j b (k+1)->X7 g s.heap.objs.size x y->
   (∀ c o,c≠z->c≠to->c≠i->c≠j->s.heap.get? c=some o->g.get? c=some o)->Q (some (.ref s.heap.objs.size)) { s with heap:=g }):WW (W2 prog w) A (YV (.ref z)) Q E s:=by
 obtain ⟨zz,zt,⟨u,v,zo⟩,zi,zj⟩:=S
 obtain ⟨nd,na,nb⟩:=Z
 simp only[Xt,WK,WY,or_false,not_or] at nd na nb
 obtain ⟨⟨n1,n2,n3,n4⟩,⟨n5,n6,n7⟩,⟨n8,n9⟩,n10,_⟩:=nd
 obtain ⟨a1,a2,a3,a4⟩:=na
 obtain ⟨b1,b2,b3,b4⟩:=nb
 have hT:s.TypeIs (.ref z) "zip" := ⟨_,zz,rfl⟩
 unfold YV
 refine Wr (Zw (Xl (name:=OF "__next__") hT Yl (XH Yl hT zae ?_ (ZZ _))))
 refine Wr (m:=zaR (.ref z) 2) (Xe zz rfl (x:=.bool false) rfl ?_)
 refine Wr (m:=zaR (.ref z) 3) (Xe zz rfl (x:=.ref ti) rfl (Wr (Xk zt rfl (Wr (m:=W7 (.ref z)) ?_))))
 delta W7
 refine Wr (Xe zz rfl (x:=.none) rfl (WC ?_))
 simp only[if_true]
 refine Wr (Yt (Wr (Xe zz rfl (x:=.ref to) rfl (Wr (Xg zz (by simp) λg1 zz1 k1=>Wr ?_)))))
 have zz1:Xy g1 z ti to .ellipsis:=zz1
 simp only[zay,zaf,zaS,YY]
 refine Wr (Wr (YI (Wr (m:=W3 (.ref i)) (iO (s:={ s with heap:=g1 }) (zi.at λo e=>(k1.2 i (WX n3)).trans e) (ha.at λo e=>(k1.2 a a1).trans e) hx λg2 zi2 k2=>WC ?_))))
 have zo2:X7 g2 to u v:=(k2.2 to n8).trans ((k1.2 to (WX n2)).trans zo)
 refine Wr (Xk zo2 rfl (Wr (Zf zo2 λg3 zo3 k3=>Wr (Yr (WC ?_)))))
 have zo3:X7 g3 to x v:=zo3
 refine Wr (Wr (YI (Wr (m:=W3 (.ref j)) (iO (s:={ s with heap:=g3 }) (zj.at λo e=>(k3.2 j (WX n9)).trans ((k2.2 j (WX n10)).trans ((k1.2 j (WX n4)).trans e)))
  (hb.at λo e=>(k3.2 b b2).trans ((k2.2 b b3).trans ((k1.2 b b1).trans e))) hy λg4 zj4 k4=>WC ?_))))
 have zo4:X7 g4 to x v:=(k4.2 to n9).trans zo3
 refine Wr (Xk zo4 rfl (Wr (Zf zo4 λg5 zo5 k5=>Wr (Yr (WC (WC ?_))))))
 have zo5:X7 g5 to x y:=zo5
 refine Wr (Xk zo5 rfl (Wr (zb6 (Wr (m:=Xo (.ref z) (.ref g5.objs.size)) ?_))))
 have sz:g5.objs.size=s.heap.objs.size:=by rw[k5.1,k4.1,k3.1,k2.1,k1.1]
 have zz5:Xy g5 z ti to .ellipsis:=(k5.2 z n2).trans ((k4.2 z n4).trans ((k3.2 z n2).trans ((k2.2 z n3).trans zz1)))
 have zlt:z < g5.objs.size:=WH zz5
 delta Xo
 have zz6:Xy (g5.push { cls:=.type "tuple", data:=.seq #[x,y] }) z ti to .ellipsis:=Wu _ zz5
 refine Wr (Xg zz6 (by simp) λg7 zz7 k7=>?_)
 have zz7:Xy g7 z ti to (ZT g5.objs.size):=zz7
 refine Xg zz7 (by simp) λg8 zz8 k8=>WC ⟨_,rfl,WC ?_⟩
 have up5:∀ c o,c≠z->g5.get? c=some o->g8.get? c=some o:=λc o c1 e=>(k8.2 c c1).trans ((k7.2 c c1).trans (Wu _ e))
 have S7:X7 g8 g5.objs.size x y:=(k8.2 _ (Yf zlt)).trans ((k7.2 _ (Yf zlt)).trans (WJ _ rfl))
 have zz8:Xy g8 z ti to (ZT g5.objs.size):=zz8
 rw[sz] at zz8 S7
 have all:∀ c o,c≠z->c≠to->c≠i->c≠j->s.heap.get? c=some o->g8.get? c=some o:=λc o c1 c2 c3 c4 e=>up5 c o c1 ((k5.2 c c2).trans ((k4.2 c c4).trans ((k3.2 c c2).trans ((k2.2 c c3).trans ((k1.2 c c1).trans e)))))
 have fin:=q g8 zz8 (all ti _ (WX n1) n5 n6 n7 zt) (up5 to _ (WX n2) zo5) (zi2.at λo e=>up5 i o (WX n3) ((k5.2 i (WX n8)).trans ((k4.2 i n10).trans ((k3.2 i (WX n8)).trans e)))) (zj4.at λo e=>up5 j o (WX n4) ((k5.2 j (WX n9)).trans e)) S7 all
 rw[← sz] at fin
 exact fin
theorem G5 {ta tb:Bool}{z ti to i j a b:Addr}{k:Nat}{xs ys:Array Wv}{Q:Option Wv->Wz->Prop}(hh:A.handled=none)(Z:Zp z ti to i j a b)(S:ZAt ta tb s.heap z ti to i j a b k)(ha:cE ta s.heap a xs)(hb:cE tb s.heap b ys)(he:xs[k]? = none∨ys[k]? = none)
  (q:∀ g,(∀ c o,c≠z->c≠to->c≠i->c≠j->s.heap.get? c=some o->g.get? c=some o)->Q none { s with heap:=g }):WW (W2 prog w) A (YV (.ref z)) Q E s:=by
 obtain ⟨zz,zt,⟨u,v,zo⟩,zi,zj⟩:=S
 obtain ⟨nd,na,nb⟩:=Z
 simp only[Xt,WK,WY,or_false,not_or] at nd na nb
 obtain ⟨⟨n1,n2,n3,n4⟩,⟨n5,n6,n7⟩,⟨n8,n9⟩,n10,_⟩:=nd
 obtain ⟨a1,a2,a3,a4⟩:=na
 obtain ⟨b1,b2,b3,b4⟩:=nb
 have hT:s.TypeIs (.ref z) "zip" := ⟨_,zz,rfl⟩
 have stop:∀ g e,(∃ o,g.get? e=some o/\o.cls=.type "StopIteration")->(∀ c o,c≠z->c≠to->c≠i->c≠j->s.heap.get? c=some o->g.get? c=some o)->
   WW (W2 prog w) A (isInstance (.ref e) (.type "StopIteration") >>= λy=>if y=true then pure none else throw (.ref e)) Q E { s with heap:=g }:=λg e ⟨o,ho,hc⟩ al=>by
  refine Wr <| wpAny_isInstance (T := "StopIteration") (b:=true) ⟨o,ho,hc⟩ zb7 ?_
  exact WC (q g al)
 unfold YV
 refine Wr (Zw (Xl (name:=OF "__next__") hT Yl (XH Yl hT zae ?_ (ZZ _))))
 refine Wr (m:=zaR (.ref z) 2) (Xe zz rfl (x:=.bool false) rfl ?_)
 refine Wr (m:=zaR (.ref z) 3) (Xe zz rfl (x:=.ref ti) rfl (Wr (Xk zt rfl (Wr (m:=W7 (.ref z)) ?_))))
 delta W7
 refine Wr (Xe zz rfl (x:=.none) rfl (WC ?_))
 simp only[if_true]
 refine Wr (Yt (Wr (Xe zz rfl (x:=.ref to) rfl (Wr (Xg zz (by simp) λg1 zz1 k1=>Wr ?_)))))
 have zz1:Xy g1 z ti to .ellipsis:=zz1
 simp only[zay,zaf,zaS,YY]
 have zi1:eA ta g1 i a k:=zi.at λo e=>(k1.2 i (WX n3)).trans e
 have ha1:cE ta g1 a xs:=ha.at λo e=>(k1.2 a a1).trans e
 refine Wr (Wr (YI (Wr (m:=W3 (.ref i)) ?_)))
 cases hx:xs[k]? with
 | none=>
  refine vV (s:={ s with heap:=g1 }) hh zi1 ha1 hx λg2 e k2 he2=>?_
  obtain ⟨oe,ge,ce⟩:=he2
  have zz2:Xy g2 z ti to .ellipsis:=k2 z _ n3 zz1
  have ez:e≠z:=λy=>by subst y;rw[zz2] at ge;cases ge;simp at ce
  refine Xg zz2 (by simp) λg3 _ k3=>stop g3 e ⟨oe,(k3.2 e ez).trans ge,ce⟩ λc o c1 _ c3 _ y=>(k3.2 c c1).trans (k2 c o c3 ((k1.2 c c1).trans y))
 | some x=>
  have hy:ys[k]? = none:=by rcases he with h | h;rw[hx] at h;cases h;exact h
  refine iO (s:={ s with heap:=g1 }) zi1 ha1 hx λg2 zi2 k2=>WC ?_
  have zo2:X7 g2 to u v:=(k2.2 to n8).trans ((k1.2 to (WX n2)).trans zo)
  refine Wr (Xk zo2 rfl (Wr (Zf zo2 λg3 zo3 k3=>Wr (Yr (WC ?_)))))
  refine Wr (Wr (YI (Wr (m:=W3 (.ref j)) (vV (s:={ s with heap:=g3 }) hh (zj.at λo e=>(k3.2 j (WX n9)).trans ((k2.2 j (WX n10)).trans ((k1.2 j (WX n4)).trans e)))
   (hb.at λo e=>(k3.2 b b2).trans ((k2.2 b b3).trans ((k1.2 b b1).trans e))) hy λg4 e k4 he4=>?_))))
  obtain ⟨oe,ge,ce⟩:=he4
  have zz4:Xy g4 z ti to .ellipsis:=k4 z _ n4 ((k3.2 z n2).trans ((k2.2 z n3).trans zz1))
  have ez:e≠z:=λy=>by subst y;rw[zz4] at ge;cases ge;simp at ce
  refine Xg zz4 (by simp) λg5 _ k5=>stop g5 e ⟨oe,(k5.2 e ez).trans ge,ce⟩ λc o c1 c2 c3 c4 y=>(k5.2 c c1).trans (k4 c o c4 ((k3.2 c c2).trans ((k2.2 c c3).trans ((k1.2 c c1).trans y))))
abbrev itO (tp:Bool)(a:Addr):Obj:={ cls:=.type (match tp with | true => "tuple_iterator" | false => "list_iterator"),data:=.fields #[.ref a,.int 0 0] }
theorem AI {tp:Bool}{a:Addr}{xs:Array Wv}{Q:Wv->Wz->Prop}(h:cE tp s.heap a xs)(q:Q (.ref s.heap.objs.size) { s with heap:=s.heap.push (itO tp a) }):WW (W2 prog w) A (pyIter (.ref a)) Q E s:=by
 cases tp with
 | true=>exact zcO h q
 | false=>exact Y9 h q
abbrev zg1 (ta:Bool)(h:Heap)(a:Addr):Heap:=h.push (itO ta a)
abbrev zg2 (ta tb:Bool)(h:Heap)(a b:Addr):Heap:=(zg1 ta h a).push (itO tb b)
abbrev zg3 (ta tb:Bool)(h:Heap)(a b:Addr):Heap:=(zg2 ta tb h a b).push { cls:=.type "tuple", data:=.seq #[.ref h.objs.size,.ref (zg1 ta h a).objs.size] }
abbrev zg4 (ta tb:Bool)(h:Heap)(a b:Addr):Heap:=(zg3 ta tb h a b).push { cls:=.type "tuple", data:=.seq #[.none,.none] }
abbrev zg5 (ta tb:Bool)(h:Heap)(a b:Addr):Heap:=(zg4 ta tb h a b).push { cls:=.type "zip", data:=.fields #[.none,.bool false,.bool false,.ref (zg2 ta tb h a b).objs.size,.ref (zg3 ta tb h a b).objs.size] }
theorem GK (ta tb:Bool)(a b:Addr)(xs ys:Array Wv):Meets (Z0.«zip.__new__» ⟨[.type "zip", .ref a,.ref b],[]⟩) (λ_ R s=>cE ta s.heap a xs/\cE tb s.heap b ys/\R (.ok (.ret (.ref (zg4 ta tb s.heap a b).objs.size))) { s with heap:=zg5 ta tb s.heap a b }):=
 .of_wp λprog w A R s h=>by
  rcases s with ⟨hp,g,d,tk,os⟩
  obtain ⟨h1,h2,h⟩:=h
  have hs0:=zej
  have H1:cE ta (zam ⟨hp,g,d,tk,os⟩) a xs:=h1
  have H2:cE tb (zam ⟨hp.push (itO ta a),g,d,tk,os⟩) b ys:=cE.at h2 λo e=>Wu _ e
  wp_walk using AI H1,AI H2
  exact ⟨_,rfl,h⟩
theorem Et {ta tb:Bool}{a b:Addr}{xs ys:Array Wv}{Q:Wv->Wz->Prop}(h1:cE ta s.heap a xs)(h2:cE tb s.heap b ys)
  (q:∀ g,ZAt ta tb g (s.heap.objs.size+4) (s.heap.objs.size+2) (s.heap.objs.size+3) s.heap.objs.size (s.heap.objs.size+1) a b 0->(∀ c o,s.heap.get? c=some o->g.get? c=some o)->Q (.ref (s.heap.objs.size+4)) { s with heap:=g }) :
  WW (W2 prog w) A (zbT (.type "zip") [.ref a,.ref b]) Q E s:=by
 refine zc6 F.called_zip (by decide) (F.typeCall_zip_2 _ _) (F.newCall_zip_2 _ _) (λobj=>F.args_object_init_3 obj _ _) zdO (GK ta tb a b xs ys) ⟨h1,h2,?_⟩
 have s1:(zg1 ta s.heap a).objs.size=s.heap.objs.size+1:=XY ..
 have s2:(zg2 ta tb s.heap a b).objs.size=s.heap.objs.size+2:=by rw[XY,s1]
 have s3:(zg3 ta tb s.heap a b).objs.size=s.heap.objs.size+3:=by rw[XY,s2]
 have s4:(zg4 ta tb s.heap a b).objs.size=s.heap.objs.size+4:=by rw[XY,s3]
 have p5:(zg5 ta tb s.heap a b).get? (zg4 ta tb s.heap a b).objs.size=some _:=WJ _ rfl
 have p4:(zg5 ta tb s.heap a b).get? (zg3 ta tb s.heap a b).objs.size=some _:=Wu _ (WJ _ rfl)
 have p3:(zg5 ta tb s.heap a b).get? (zg2 ta tb s.heap a b).objs.size=some _:=Wu _ (Wu _ (WJ _ rfl))
 have p2:(zg5 ta tb s.heap a b).get? (zg1 ta s.heap a).objs.size=some (itO tb b):=Wu _ (Wu _ (Wu _ (WJ _ rfl)))
 have p1:(zg5 ta tb s.heap a b).get? s.heap.objs.size=some (itO ta a):=Wu _ (Wu _ (Wu _ (Wu _ (WJ _ rfl))))
 have i1:eA ta (zg5 ta tb s.heap a b) s.heap.objs.size a 0:=by cases ta<;>exact ⟨_,p1,rfl,rfl⟩
 have i2:eA tb (zg5 ta tb s.heap a b) (zg1 ta s.heap a).objs.size b 0:=by cases tb<;>exact ⟨_,p2,rfl,rfl⟩
 show _/\_
 rw[s2,s3,s4] at p5
 rw[s1,s2] at p3
 rw[s3] at p4
 rw[s1] at i2
 rw[s4]
 exact ⟨⟨_,p5,rfl⟩,q _ ⟨p5,p3,⟨_,_,p4⟩,i1,i2⟩ λc o x=>Wu _ (Wu _ (Wu _ (Wu _ (Wu _ x))))⟩
end
def Sq (tp:Bool)(K:Wq)(H:Hp)(a:Addr)(xs:List V):Prop:=match tp with
 | true=>SqT K H a xs
 | false=>SqL K H a xs
def SqX (tp:Bool)(K:Wq)(H:Hp)(a:Addr)(xs:List V):Prop:=match tp with
 | true=>SqT K H a xs
 | false=>SqF K H a xs
theorem SqX.sq {tp:Bool}{K:Wq}{H:Hp}{a:Addr}{xs:List V}(h:SqX tp K H a xs):Sq tp K H a xs:=by
 cases tp with
 | true=>exact h
 | false=>exact SqF.sq h
theorem Inv.sq {X:Cx}{pins:List (Addr×Obj)}{σ:L2.St}{H:Hp}{s:Wz}{tp:Bool}{a:Addr}{xs:List V}(I:Inv X pins σ H s)(h:Sq tp X.K H a xs):∃ its:List Wv,Vals xs its/\cE tp s.heap a its.toArray:=by
 cases tp with
 | true=>obtain ⟨its,r,p,_⟩:=I.tuple h;exact ⟨its,r,p⟩
 | false=>
  obtain ⟨its,r,⟨o,n,e1,e2,_,e3⟩,_⟩:=I.list h
  exact ⟨its,r,o,e1,e2,n,e3⟩
theorem Inv.A8 {X:Cx}{pins:List (Addr×Obj)}{σ:L2.St}{H:Hp}{s:Wz}{tp:Bool}{a:Addr}{xs ys:List V}(I:Inv X pins σ H s)(h:Sq tp X.K H a xs)(h':Sq tp X.K H a ys):xs=ys:=by
 cases tp with
 | true=>exact I.ix h h'
 | false=>exact I.Ab h h'
def Itz (ta tb:Bool)(K:Wq)(a b:Addr):It:=
 ⟨λi H=>∃ xs ys x y,Sq ta K H a xs/\Sq tb K H b ys/\xs[i]? = some x/\ys[i]? = some y,
  λi H v H'=>∃ x y p,(∀ xs,Sq ta K H a xs->xs[i]? = some x)/\(∀ ys,Sq tb K H b ys->ys[i]? = some y)/\v=.ref p/\H p=none/\H'=L2.upd H p (.tup [x,y]),
  λi H=>∃ xs ys,Sq ta K H a xs/\Sq tb K H b ys/\(xs.length<=i∨ys.length<=i)⟩
theorem IG {P:W9}{w:Xm}{K:Wq}{es:List W4}{ek:Nat}{ep:Pos}{ta tb:Bool}{z ti to i j a b:Addr}(Z:Zp z ti to i j a b) :
  Turn P w K (.Tuple es ek ep) (Itz ta tb K a b) [z,ti,to,i,j] z (λk h=>ZAt ta tb h z ti to i j a b k) where
 mem:=by simp
 obj:=λk h S c hc=>by
  obtain ⟨zz,zt,⟨u,v,zo⟩,zi,zj⟩:=S
  simp only[WK,WY,or_false] at hc
  rcases hc with rfl | rfl | rfl | rfl | rfl
  ·exact ⟨_,zz,λv y=>by cases y⟩
  ·exact ⟨_,zt,λv y=>by cases y⟩
  ·exact ⟨_,zo,λv y=>by cases y⟩
  ·obtain ⟨o,e,vs,d⟩:=zi.ex;exact ⟨o,e,λv y=>by rw[d] at y;cases y⟩
  ·obtain ⟨o,e,vs,d⟩:=zj.ex;exact ⟨o,e,λv y=>by rw[d] at y;cases y⟩
 keep:=λk h g S kp=>by
  obtain ⟨zz,zt,⟨u,v,zo⟩,zi,zj⟩:=S
  exact ⟨kp z (by simp) _ zz,kp ti (by simp) _ zt,⟨u,v,kp to (by simp) _ zo⟩,zi.at λo e=>kp i (by simp) o e,zj.at λo e=>kp j (by simp) o e⟩
 item:=by
  intro X hP hw hK hc k pins s σ H E I hf S hg
  subst hP hw hK
  obtain ⟨xs,ys,x,y,qa,qb,ex,ey⟩:=hg
  obtain ⟨ia,ra,sa⟩:=Inv.sq I qa
  obtain ⟨ib,rb,sb⟩:=Inv.sq I qb
  obtain ⟨ux,hux,rx⟩:=ra.get ex
  obtain ⟨uy,huy,ry⟩:=rb.get ey
  refine DQ Z S sa sb (x:=ux) (y:=uy) (by simpa using hux) (by simpa using huy) λg zz zt zo zi zj new al=>⟨_,rfl,zaW zz λg2 zz2 k2=>?_⟩
  have nd:=Z.nd
  simp only[Xt,WK,WY,or_false,not_or] at nd
  obtain ⟨⟨n1,n2,n3,n4⟩,_⟩:=nd
  have zlt:z < s.heap.objs.size:=WH S.zz
  have fr:H s.heap.objs.size=none:=I.hok.fresh (WL _)
  have new2:X7 g2 s.heap.objs.size ux uy:=(k2.2 _ (Yf zlt)).trans new
  have all:∀ c o,c ∉ [z,ti,to,i,j]->s.heap.get? c=some o->g2.get? c=some o:=λc o hc e=>by
   simp only[WK,WY,or_false,not_or] at hc
   exact (k2.2 c hc.1).trans (al c o hc.1 hc.2.2.1 hc.2.2.2.1 hc.2.2.2.2 e)
  have nfp:∀ c u,H c=some u->c ∉ [z,ti,to,i,j]:=λc u e hc=>by rw[(hf c hc).1] at e;cases e
  refine ⟨.ref s.heap.objs.size,L2.upd H s.heap.objs.size (.tup [x,y]),?_,rfl,⟨x,y,_,λxs' q=>by rw[Inv.A8 I q qa];exact ex,λys' q=>by rw[Inv.A8 I q qb];exact ey,rfl,fr,rfl⟩,⟨zz2,(k2.2 ti (WX n1)).trans zt,⟨_,_,(k2.2 to (WX n2)).trans zo⟩,zi.at λo e=>(k2.2 i (WX n3)).trans e,zj.at λo e=>(k2.2 j (WX n4)).trans e⟩,λc hc=>?_⟩
  ·refine L2.Inv.step (s:=s) (H:=H) (H':=L2.upd H s.heap.objs.size (.tup [x,y])) (g':=s.gens) (d':=s.drawn) (t':=s.toks) (h':=g2) (ch:=[z,ti,to,i,j]) I (λc hc=>⟨(hf c hc).2.2.2.1,(hf c hc).2.1,(hf c hc).2.2.2.2.1,(hf c hc).2.2.2.2.2⟩) (λc o _ _ hc e _=>all c o hc e) (λc o _ _ hc e _=>⟨o.slots,all c o hc e⟩) (λc o hc e n=>?_) (λc o hc e=>⟨o,all c o hc e⟩)
    (λc xs e=>?_) (λc o u e=>?_) (λc ps e=>⟨#[],?_⟩) (λm hm=>?_) (λc u e=>?_) I.bare
   ·rw[aJ (WZ (WH e))];exact n
   ·rw[aJ (aZ e fr)];exact e
   ·rw[aJ (aZ e fr)];exact e
   ·rw[aJ (aZ e fr),e];simp
   ·obtain ⟨o,es',ep',ho,r⟩:=hm
    exact ⟨o,es',ep',all _ o (λhc=>(hf _ hc).2.1 rfl) ho,r⟩
   ·by_cases hcT:c=s.heap.objs.size
    ·subst hcT
     rw[aK] at e;cases e
     exact ⟨by show 2<=sizeLine;decide,[ux,uy],.cons rx (.cons ry .nil),⟨_,new2⟩⟩
    ·rw[aJ hcT] at e
     refine (I.hok c u e).lK (λc' v hc' q=>all c' v ?_ q) (λc' q=>by rw[aJ (aZ q fr)];exact q) λc' xs q=>by rw[aJ (aZ q fr)];exact q
     rcases hc' with rfl | hc'
     ·exact nfp _ _ e
     ·exact nfp _ _ hc'
  ·have hcl:c≠s.heap.objs.size:=by
    obtain ⟨zz,zt,⟨u,v,zo⟩,zi,zj⟩:=S
    simp only[WK,WY,or_false] at hc
    rcases hc with rfl | rfl | rfl | rfl | rfl
    ·exact WZ (WH zz)
    ·exact WZ (WH zt)
    ·exact WZ (WH zo)
    ·obtain ⟨o,e,_⟩:=zi.ex;exact WZ (WH e)
    ·obtain ⟨o,e,_⟩:=zj.ex;exact WZ (WH e)
   rw[aJ hcl];exact (hf c hc).1
 done:=by
  intro X hP hw hK hc k pins s σ H E I hf S hg
  subst hP hw hK
  obtain ⟨xs,ys,qa,qb,he⟩:=hg
  obtain ⟨ia,ra,sa⟩:=Inv.sq I qa
  obtain ⟨ib,rb,sb⟩:=Inv.sq I qb
  have la:=ra.length
  have lb:=rb.length
  refine G5 (I.ok.hd hc) Z S sa sb (he.imp (λh=>by simp;omega) λh=>by simp;omega) λg al=>⟨rfl,?_⟩
  have all:∀ c o,c ∉ [z,ti,to,i,j]->s.heap.get? c=some o->g.get? c=some o:=λc o hc e=>by
   simp only[WK,WY,or_false,not_or] at hc
   exact al c o hc.1 hc.2.2.1 hc.2.2.2.1 hc.2.2.2.2 e
  have nfp:∀ c u,H c=some u->c ∉ [z,ti,to,i,j]:=λc u e hc=>by rw[(hf c hc).1] at e;cases e
  refine L2.Inv.step (s:=s) (H:=H) (H':=H) (g':=s.gens) (d':=s.drawn) (t':=s.toks) (h':=g) (ch:=[z,ti,to,i,j]) I (λc hc=>⟨(hf c hc).2.2.2.1,(hf c hc).2.1,(hf c hc).2.2.2.2.1,(hf c hc).2.2.2.2.2⟩) (λc o _ _ hc e _=>all c o hc e) (λc o _ _ hc e _=>⟨o.slots,all c o hc e⟩) (λc o hc e n=>n) (λc o hc e=>⟨o,all c o hc e⟩)
   (λc xs e=>e) (λc o u e=>e) (λc ps e=>⟨#[],by rw[e];simp⟩) (λm hm=>?_) (λc u e=>?_) I.bare
  ·obtain ⟨o,es',ep',ho,r⟩:=hm
   exact ⟨o,es',ep',all _ o (λhc=>(hf _ hc).2.1 rfl) ho,r⟩
  ·refine (I.hok c u e).lK (λc' v hc' q=>all c' v ?_ q) (λc' q=>q) λc' xs q=>q
   rcases hc' with rfl | hc'
   ·exact nfp _ _ e
   ·exact nfp _ _ hc'
 self:=λ_ _ _ _ _ S h=>zag S.zz h
theorem SA (n a b:Nat)(ha:a < n)(hb:b < n):Zp (n+4) (n+2) (n+3) n (n+1) a b:=by
 refine ⟨?_,?_,?_⟩
 ·show ([n+4,n+2,n+3,n,n+1]:List Nat).Nodup
  simp only[Xt,WK,WY,or_false,not_or,zb5,and_true,not_false_eq_true]
  and_intros<;>omega
 ·show a ∉ ([n+4,n+3,n,n+1]:List Nat)
  simp only[WK,WY,or_false,not_or]
  omega
 ·show b ∉ ([n+4,n+3,n,n+1]:List Nat)
  simp only[WK,WY,or_false,not_or]
  omega
theorem N9 (n c:Nat)(h:c∈([n+4,n+2,n+3,n,n+1]:List Nat)):n<=c:=by
 simp only[WK,WY,or_false] at h
 omega
section
variable {X:Cx} {ea eb:W4} {es:List W4} {ek:Nat} {ep p pos:Pos}
def kQ (tp:Bool)(x:D)(f:List D->Prop):Prop:=match tp,x with
 | true,.tup ds=>f ds
 | false,.ls ds=>f ds
 | _,_=>False
theorem BX {K:Wq}{H:Hp}{tp:Bool}{v:V}{x:D}{f:List D->Prop}(p:Dp K H v x)(h:kQ tp x f):∃ a xs ds,v=.ref a/\SqX tp K H a xs/\DpL K H xs ds/\f ds:=by
 cases tp with
 | true=>cases p with
  | @tup a xs ds q l=>exact ⟨a,xs,ds,rfl,q,l,h⟩
  | _=>exact WA h
 | false=>cases p with
  | @ls a xs ds q l=>exact ⟨a,xs,ds,rfl,q,l,h⟩
  | _=>exact WA h
theorem Tk.sq {K:Wq}{H H':Hp}{tp:Bool}{a:Addr}{xs:List V}(t:Tk H H')(h:SqX tp K H a xs):Sq tp K H' a xs:=by
 cases tp with
 | true=>exact t.sqT h
 | false=>exact (t.sqF h).sq
end
end
section
open PySem PySem.Spec PyProof.Rows L2
def kObj (x:D)(f:Addr->Prop):Prop:=match x with
 | .obj a=>f a
 | _=>False
theorem iK (a:Addr)(f):kObj (.obj a) f=f a:=rfl
section
variable {X:Cx} {o a b c e:W4} {To Ta Tb Tc Te T T':ETr} {pos:Pos}
theorem UH {K:Wq}{H:Hp}{μ:Mu}{q:Addr}{u:HO}(m:bE K H μ)(t:Tk H (L2.upd H q u)):bE K (L2.upd H q u) (dn μ q):=λz y ez=>by
 have zq:z≠q:=λw=>by subst w;unfold dn at ez;rw[if_pos rfl] at ez;cases ez
 have ez':μ z=some y:=by unfold dn at ez;rw[if_neg zq] at ez;exact ez
 exact (m z _ ez').ne t zq
theorem lB {H:Hp}{q:Addr}{u:HO}{xs:List V}(ex:H q=some (.lst xs)):Tk H (L2.upd H q u):=
 .upd (λys z=>by rw[ex] at z;cases z) λo' w z=>by rw[ex] at z;cases z
theorem JB {K:Wq}{H:Hp}{μ:Mu}{q:Addr}{xs ys:List V}{ds:List D}(m:bE K H μ)(ex:H q=some (.lst xs))(l:DpL K H ys ds):bE K (L2.upd H q (.lst ys)) (up μ q (.lst ds)):=λz y ez=>by
 by_cases zq:z=q
 ·subst zq
  rw[aF] at ez;cases ez
  exact ⟨ys,aK,l.mono (lB ex)⟩
 ·rw[aS zq] at ez
  exact (m z _ ez).ne (lB ex) zq
theorem Cb {K:Wq}{H:Hp}{μ:Mu}{q:Addr}{ys:List V}{ds:List D}(m:bE K H μ)(hq:H q=none)(l:DpL K H ys ds):bE K (L2.upd H q (.lst ys)) (up μ q (.lst ds)):=λz y ez=>by
 by_cases zq:z=q
 ·subst zq
  rw[aF] at ez;cases ez
  exact ⟨ys,aK,l.mono (.new hq)⟩
 ·rw[aS zq] at ez
  exact bV m hq z y ez
def wu (T:ETr):ETr:=λρ μ Q=>T ρ μ λx μ1=>kObj x λa=>kL μ1 a λds=>Q (.ls ds) (dn μ1 a)
theorem vp (h:LE X e T):LE X e (wu T):=by
 obtain ⟨t,p,s⟩:=h.ex
 refine ⟨_,jk p,λσ H ρ μ Q Q' rl h k=>s σ H ρ μ _ _ rl h λv H1 d μ1 t1 m1 p1 h1=>?_⟩
 cases p1 with
 | obj q=>
  obtain ⟨ds,e0,h2⟩:=bN h1
  obtain ⟨xs,ex,l⟩:=m1 q _ e0
  refine ⟨q,xs,rfl,ex,λu=>?_⟩
  have t2:Tk H1 (L2.upd H1 q (.frz u (.lst xs))):=lB ex
  exact k _ _ _ (dn μ1 q) (t1.trans t2) (UH m1 t2) (.ls (.inl ⟨u,aK⟩) (l.mono t2)) h2
 | _=>exact WA h1
def mT (To Te:ETr):ETr:=λρ μ Q=>To ρ μ λx μ1=>kObj x λa=>kL μ1 a λ_=>Te ρ μ1 λy μ2=>kL μ2 a λds=>ds.length < 1000000/\Q .non (up μ2 a (.lst (ds++[y])))
theorem le_app {apos cpos:Pos}(ho:LE X o To)(he:LE X e Te)
  (hbase:Y5 o (OF "append") X.env (XG o X.env)=XG o X.env:=by rfl)
  (hfew:((XM cpos (WI [e] X.env)).all (λx=>!x.1)&&(zaj cpos (YS [] X.env)).all (λx=>x.1.isSome)
   && decide ([e].length+([]:List YW).length+(if ([]:List YW).isEmpty then 0 else 1) < 30))=true:=by rfl)
  (hline:(apos.endLine == cpos.line)=true:=by rfl) (hs:WI [e] X.env=(false,XG e X.env)::WI [] X.env:=by rfl) (hplain:(XM cpos (WI [] X.env)).any (·.1)=false:=by rfl) :
  LE X (.Call (.Attribute o (OF "append") apos) [e] [] cpos) (mT To Te):=by
 obtain ⟨to,po,so⟩:=ho.ex
 obtain ⟨te,pe,se⟩:=he.ex
 refine ⟨_,xu Yi PySem.F.slot_list_append PySem.F.type_list_append uH po (dU pe gX hs) hbase hfew hline hs hplain,λσ H ρ μ Q Q' rl h k=>so σ H ρ μ _ _ rl h λx H1 dx μ1 t1 m1 p1 h1=>?_⟩
 cases p1 with
 | obj q=>
  obtain ⟨ds0,e0,h2⟩:=bN h1
  obtain ⟨xs0,ex0,_⟩:=m1 q _ e0
  refine ⟨.inl ⟨rfl,_,SqL.of ex0⟩,se σ H1 ρ μ1 _ _ (rl.go t1 m1) h2 λy H2 dy μ2 t2 m2 p2 h3=>?_⟩
  obtain ⟨ds,e1,lz,h4⟩:=bN h3
  obtain ⟨xs,ex,l⟩:=m2 q _ e1
  exact ⟨q,xs,y,rfl,rfl,ex,by rw[l.length];exact WV lz (by decide),k _ _ _ _ ((t1.trans t2).trans (lB ex)) (JB m2 ex (l.append (.cons p2 .nil))) .non h4⟩
 | _=>exact WA h1
def bu:FSp:=λds μ Q=>match ds with
 | [.tup xs]=>Q (.tup xs) μ
 | [.ls xs]=>Q (.tup xs) μ
 | [.obj a]=>kL μ a λxs=>Q (.tup xs) μ
 | _=>False
theorem a8 {K:Wq}:lq K (λxs H Q=>∃ p ys,xs=[.ref p]/\((SqL K H p ys/\∀ l,H l=none->Q (.ref l) (L2.upd H l (.tup ys)))∨(SqT K H p ys/\Q (.ref p) H))) bu:=λH μ xs ds Q Q' m p h k=>by
 unfold bu at h
 split at h
 ·cases p with | cons p1 p2=>cases p2;cases p1 with | tup q l=>exact ⟨_,_,rfl,.inr ⟨q,k _ H _ μ (.refl H) m (.tup q l) h⟩⟩
 ·cases p with | cons p1 p2=>cases p2;cases p1 with | ls q l=>exact ⟨_,_,rfl,.inl ⟨q.sq,λz hz=>k _ _ _ μ (.new hz) (bV m hz) (.tup (SqT.of aK) (l.mono (.new hz))) h⟩⟩
 ·rename_i q
  cases p with | cons p1 p2=>
  cases p2;cases p1
  obtain ⟨ys,e0,h⟩:=bN h
  obtain ⟨xs,ex,l⟩:=m q _ e0
  exact ⟨_,_,rfl,.inl ⟨SqL.of ex,λz hz=>k _ _ _ μ (.new hz) (bV m hz) (.tup (SqT.of aK) (l.mono (.new hz))) h⟩⟩
 ·exact WA h
def jq:FSp:=λds μ Q=>match ds with
 | [.tup xs]=>∀ p,μ p=none->Q (.obj p) (up μ p (.lst xs))
 | [.ls xs]=>∀ p,μ p=none->Q (.obj p) (up μ p (.lst xs))
 | [.obj a]=>kL μ a λxs=>∀ p,μ p=none->Q (.obj p) (up μ p (.lst xs))
 | _=>False
theorem uf {K:Wq}:lq K (λxs H Q=>∃ p ys,xs=[.ref p]/\(SqL K H p ys∨SqT K H p ys)/\∀ l,H l=none->Q (.ref l) (L2.upd H l (.lst ys))) jq:=λH μ xs ds Q Q' m p h k=>by
 unfold jq at h
 split at h
 ·cases p with | cons p1 p2=>cases p2;cases p1 with | tup q l=>exact ⟨_,_,rfl,.inr q,λz hz=>k _ _ _ _ (.new hz) (Cb m hz l) (.obj _) (h z (m.free hz))⟩
 ·cases p with | cons p1 p2=>cases p2;cases p1 with | ls q l=>exact ⟨_,_,rfl,.inl q.sq,λz hz=>k _ _ _ _ (.new hz) (Cb m hz l) (.obj _) (h z (m.free hz))⟩
 ·rename_i q
  cases p with | cons p1 p2=>
  cases p2;cases p1
  obtain ⟨ys,e0,h⟩:=bN h
  obtain ⟨xs,ex,l⟩:=m q _ e0
  exact ⟨_,_,rfl,.inl (SqL.of ex),λz hz=>k _ _ _ _ (.new hz) (Cb m hz l) (.obj _) (h z (m.free hz))⟩
 ·exact WA h
def jN:FSp:=λds μ Q=>match ds with
 | [.tup xs]=>Q (.ls xs) μ
 | [.ls xs]=>Q (.ls xs) μ
 | [.obj a]=>kL μ a λxs=>Q (.ls xs) μ
 | _=>False
def OZ (Q:VK):VK:=λv H1=>∃ a xs,v=.ref a/\H1 a=some (.lst xs)/\∀ o,Q v (L2.upd H1 a (.frz o (.lst xs)))
theorem gu {K:Wq}{H:Hp}{μ:Mu}{ys:List V}{ds:List D}{Q:DK}{Q':VK}{z:Addr}(m:bE K H μ)(l:DpL K H ys ds)(h:Q (.ls ds) μ)(k:jX K H Q Q')(hz:H z=none):OZ Q' (.ref z) (L2.upd H z (.lst ys)):=
 ⟨z,ys,rfl,aK,λo=>by
  have e:L2.upd (L2.upd H z (.lst ys)) z (.frz o (.lst ys))=L2.upd H z (.frz o (.lst ys)):=vG
  rw[e]
  exact k _ _ _ μ (.new hz) (bV m hz) (.ls (.inl ⟨o,aK⟩) (l.mono (.new hz))) h⟩
theorem Ef {K:Wq}:lq K (λxs H Q=>∃ p ys,xs=[.ref p]/\(SqL K H p ys∨SqT K H p ys)/\∀ l,H l=none->OZ Q (.ref l) (L2.upd H l (.lst ys))) jN:=λH μ xs ds Q Q' m p h k=>by
 unfold jN at h
 split at h
 ·cases p with | cons p1 p2=>cases p2;cases p1 with | tup q l=>exact ⟨_,_,rfl,.inr q,λz hz=>gu m l h k hz⟩
 ·cases p with | cons p1 p2=>cases p2;cases p1 with | ls q l=>exact ⟨_,_,rfl,.inl q.sq,λz hz=>gu m l h k hz⟩
 ·rename_i q
  cases p with | cons p1 p2=>
  cases p2;cases p1
  obtain ⟨ys,e0,h⟩:=bN h
  obtain ⟨xs,ex,l⟩:=m q _ e0
  exact ⟨_,_,rfl,.inl (SqL.of ex),λz hz=>gu m l h k hz⟩
 ·exact WA h
theorem Ji {x:Str}{p:Pos}{At:ATr}(hx:x = "list")(hg:Gl X x)(hm:X.mg x=none)(hv:XR x=some (.type "list"))(ha:LA X [e] At)(hn:x ≠ "__name__" := by decide)(hdb:(x == ("__debug__" : Str))=false:=by decide)
  (h1:WI [e] X.env=(false,XG e X.env)::WI [] X.env:=by rfl) (h2:(XM pos (WI [] X.env)).any (·.1)=false:=by rfl):LE X (.Call (.Name x p) [e] [] pos) (aq jN At):=by
 obtain ⟨ta,pa,sa⟩:=ha.ex
 exact ⟨_,jk (uu iY hg hm hv pa hn hdb h1 h2),λσ H ρ μ Q Q' rl h k=>sa σ H ρ μ _ _ rl h λxs H1 ds μ1 t1 m1 p1 h1=>Ef H1 μ1 xs ds Q Q' m1 p1 h1 (k.go t1)⟩
def i8:D->Bool
 | .non=>true
 | .bl _=>true
 | .int _=>true
 | .str _=>true
 | _=>false
def inD (x:D)(xs:List D):Bool:=xs.any λy=>eqD y x
def rIn (neg:Bool):DR2:=λx y μ Q=>match y with
 | .tup xs=>(i8 x=true/\xs.all i8=true)/\Q (.bl (if neg then !inD x xs else inD x xs)) μ
 | .ls xs=>(i8 x=true/\xs.all i8=true)/\Q (.bl (if neg then !inD x xs else inD x xs)) μ
 | .obj a=>kL μ a λxs=>(i8 x=true/\xs.all i8=true)/\Q (.bl (if neg then !inD x xs else inD x xs)) μ
 | _=>False
end
end
section
open PySem PySem.Spec PyProof.Rows L2
section
variable {X:Cx} {a b e:W4} {Ta Tb T:ETr} {pos:Pos}
def SS (t:TE):TE:=λσ H Q=>t σ H λv H1=>Q v H1∨OZ Q v H1
theorem Dl {t:TE}(h:PE X e t):PE X e (SS t):=by
 have g:PE X e (λσ H Q=>∃ P:VK,Ea t σ H P/\∀ v H',P v H'->Q v H'):=λpins s σ H Q I ⟨P,hP,k⟩=>
  thn (jk h pins s σ H P I hP) λu s1 ⟨v,H1,I1,r,q⟩=>⟨v,H1,I1,r,k _ _ q⟩
 intro pins s σ H Q I hh
 refine thn (h pins s σ H _ I hh) λu s1 ⟨v,H1,I1,r,q⟩=>?_
 rcases q with q | ⟨c,xs,rfl,ec,q⟩
 ·exact ⟨v,H1,I1,r,q⟩
 ·have hz:=I1.hok c _ ec
  obtain ⟨z,its,n,rv,hg⟩:=hz
  have nl:∀ d o,H1 d=some o->(∀ ys,o≠.lst ys)->d≠c:=λd o e1 e2 w=>by subst w;rw[ec] at e1;cases e1;exact e2 _ rfl
  refine ⟨.ref c,_,I1.un (h':=s1.heap) (t':=s1.toks) (H':=L2.upd H1 c (.frz { cls:=.type "list", data:=.seq its.toArray n } (.lst xs))) ⟨λd o e _ _ _=>e,λd o e _ _ _=>⟨o.slots,e⟩,λd o e w _=>?_,λd o e _=>⟨o,e⟩,λd ys e=>?_,λd o u e=>?_,λd ps e=>⟨#[],?_⟩⟩ (λd u e=>?_),r,q _⟩
  ·rw[aJ (λz=>by subst z;rw[ec] at w;cases w)];exact w
  ·rw[aJ (nl d _ e (λ_=>nofun))];exact e
  ·rw[aJ (nl d _ e (λ_=>nofun))];exact e
  ·rw[aJ (nl d _ e (λ_=>nofun)),e];simp
  ·by_cases hd:d=c
   ·subst hd
    rw[aK] at e;cases e
    exact ⟨hg,z,its,n,rv,hg⟩
   ·rw[aJ hd] at e
    refine (I1.hok d u e).lK (λk w _ q=>q) (λk q=>?_) λk ys q=>?_
    ·rw[aJ (nl k _ q (λ_=>nofun))];exact q
    ·rw[aJ (nl k _ q (λ_=>nofun))];exact q
def OE (K:Wq):R2:=λx y H Q=>∃ p q ys,x=.ref p/\y=.ref q/\SqT K H p []/\SqT K H q ys/\Q (.ref q) H
theorem Lo:OpR X (YN .Add) (OE X.K):=λpins s σ H x y v u Q I rx ry ⟨p,q,ys,e1,e2,hp,hq,h⟩=>by
 subst e1 e2
 cases rx
 cases ry
 obtain ⟨its,r1,p1,_⟩:=I.tuple hp
 obtain ⟨its2,r2,p2,_⟩:=I.tuple hq
 cases r1
 obtain ⟨⟨c1,d1,t1,l1⟩,ho,hc,n,hd⟩:=id p1
 obtain ⟨⟨c2,d2,t2,l2⟩,ho2,hc2,n2,hd2⟩:=id p2
 simp only at hc hd hc2 hd2
 subst hc hd hc2 hd2
 exact zbz ⟨_,ho,rfl⟩ ⟨_,ho2,rfl⟩ zbi zcu ZV ZK (Zv _ _)
  (tuple_addW0 p q #[] its2.toArray n n2 d1 d2 l1 l2 rfl) ⟨ho,ho2,⟨.ref q,H,I,rfl,h⟩⟩
def OC (K:Wq):R2:=λx y H Q=>∃ p q xs ys,x=.ref p/\y=.ref q/\SqL K H p xs/\SqL K H q ys/\xs.length+ys.length<=sizeLine/\∀ z,H z=none->Q (.ref z) (L2.upd H z (.lst (xs++ys)))
theorem MF:OpR X (YN .Add) (OC X.K):=λpins s σ H x y v u Q I rx ry ⟨p,q,xs,ys,e1,e2,hp,hq,hz,h⟩=>by
 subst e1 e2
 cases rx
 cases ry
 obtain ⟨its,r1,p1,_⟩:=I.list hp
 obtain ⟨its2,r2,p2,_⟩:=I.list hq
 obtain ⟨⟨c1,d1,t1,l1⟩,n,ho,hc,hx,hd⟩:=id p1
 obtain ⟨⟨c2,d2,t2,l2⟩,n2,ho2,hc2,hx2,hd2⟩:=id p2
 simp only at hc hd hc2 hd2
 subst hc hd hc2 hd2
 have z1:=r1.length
 have z2:=r2.length
 refine zbz ⟨_,ho,rfl⟩ ⟨_,ho2,rfl⟩ PySem.noFill_list_add PySem.seq_list_add PySem.F.slot_list_add PySem.F.entry_list_add (PySem.F.args_list_add_2 _ _)
  (list_addW p q its.toArray its2.toArray n n2 d1 d2 l1 l2 (by rw[WR,WR];omega)) ⟨ho,ho2,?_⟩
 have ea:its.toArray++its2.toArray=(its++its2).toArray:=by simp
 rw[ea]
 exact ⟨.ref _,_,I.V9 (t':=s.toks) (r1.append r2) (by rw[WG];omega),rfl,h _ I.fresh⟩
def aO:DR2:=λx y μ Q=>match x,y with
 | .int i,.int j=>Q (.int (i+j)) μ
 | .str i,.str j=>i.length+j.length<=1000000/\Q (.str (i++j)) μ
 | .tup a,.tup b=>a.length+b.length<=1000000/\Q (.tup (a++b)) μ
 | .ls a,.ls b=>a.length+b.length<=1000000/\Q (.ls (a++b)) μ
 | _,_=>False
def rPl (K:Wq):R2:=λx y H Q=>(rI0 λi j=>.int (i+j)) x y H Q∨(∃ i j,x=.str i/\y=.str j/\i.length+j.length<=sizeLine/\Q (.str (i++j)) H)∨Om K x y H Q∨OE K x y H Q∨OC K x y H Q
theorem Me:OpR X (YN .Add) (rPl X.K):=λpins s σ H x y v u Q I rx ry h=>by
 rcases h with h | h | h | h | h
 ·exact OP pins s σ H x y v u Q I rx ry h
 ·exact Cn pins s σ H x y v u Q I rx ry h
 ·exact MN pins s σ H x y v u Q I rx ry h
 ·exact Lo pins s σ H x y v u Q I rx ry h
 ·exact MF pins s σ H x y v u Q I rx ry h
theorem aI (ha:LE X a Ta)(hb:LE X b Tb):LE X (.BinOp a .Add b pos) (aj aO Ta Tb):=by
 obtain ⟨ta,pa,sa⟩:=ha.ex
 obtain ⟨tb,pb,sb⟩:=hb.ex
 refine ⟨_,Dl (Oc Me pa pb),λσ H ρ μ Q Q' rl h k=>sa σ H ρ μ _ _ rl h λx H1 dx μ1 t1 m1 p1 h1=>sb σ H1 ρ μ1 _ _ (rl.go t1 m1) h1 λy H2 dy μ2 t2 m2 p2 h2=>?_⟩
 have p1:=p1.mono t2
 have k:=k.go (t1.trans t2)
 cases p1 with
 | int i=>
  cases p2 with
  | int j=>exact .inl ⟨i,j,rfl,rfl,.inl (k _ H2 _ μ2 (.refl H2) m2 (.int _) h2)⟩
  | _=>exact WA h2
 | str i=>
  cases p2 with
  | str j=>exact .inr (.inl ⟨i,j,rfl,rfl,big h2.1,.inl (k _ H2 _ μ2 (.refl H2) m2 (.str _) h2.2)⟩)
  | _=>exact WA h2
 | @tup q xs ds sq l=>
  cases p2 with
  | @tup q' ys es sq' l'=>
   obtain ⟨hz,h3⟩:=h2
   by_cases hx:xs=[]
   ·subst hx
    cases l
    exact .inr (.inr (.inr (.inl ⟨q,q',ys,rfl,rfl,sq,sq',.inl (k _ H2 _ μ2 (.refl H2) m2 (.tup sq' l') h3)⟩)))
   ·refine .inr (.inr (.inl ⟨q,q',xs,ys,rfl,rfl,sq,sq',hx,by rw[l.length,l'.length];exact big hz,λhy=>?_,λ_ z hzn=>.inl ?_⟩))
    ·subst hy
     cases l'
     rw[Xi] at h3
     exact .inl (k _ H2 _ μ2 (.refl H2) m2 (.tup sq l) h3)
    ·exact k _ _ _ μ2 (.new hzn) (bV m2 hzn) (.tup (SqT.of aK) ((l.append l').mono (.new hzn))) h3
  | _=>exact WA h2
 | @ls q xs ds sq l=>
  cases p2 with
  | @ls q' ys es sq' l'=>exact .inr (.inr (.inr (.inr ⟨q,q',xs,ys,rfl,rfl,sq.sq,sq'.sq,by rw[l.length,l'.length];exact big h2.1,λz hz=>.inr (gu m2 (l.append l') h2.2 k hz)⟩)))
  | _=>exact WA h2
 | _=>cases p2<;>exact WA h2
abbrev OTr:=ST->Mu->(Option Int->Mu->Prop)->Prop
def ONo:OTr:=λ_ μ Q=>Q none μ
def ky (T:ETr):OTr:=λρ μ Q=>T ρ μ λx μ1=>kI x λi=>Q (some i) μ1
def Wf (K:Wq)(t:TO)(T:OTr):Prop:=∀ σ H ρ μ (Q:Option Int->Mu->Prop) (Q':Option Int->Hp->Prop),Rl K σ H ρ μ->T ρ μ Q->(∀ i H' μ',Tk H H'->bE K H' μ'->Q i μ'->Q' i H')->t σ H Q'
structure LO (X:Cx) (o:Option W4) (T:OTr):Prop where
 ex:∃ t,PO X o t/\Wf X.K t T
theorem lX:LO X none ONo:=⟨_,Mp,λσ H ρ μ Q Q' rl h k=>k none H μ (.refl H) rl.mu h⟩
theorem gi (h:LE X e T):LO X (some e) (ky T):=by
 obtain ⟨t,p,s⟩:=h.ex
 refine ⟨_,Mw p,λσ H ρ μ Q Q' rl h k=>s σ H ρ μ _ _ rl h λv H1 d μ1 t1 m1 p1 h1=>?_⟩
 cases p1 with
 | int i=>exact ⟨i,rfl,k _ H1 μ1 t1 m1 h1⟩
 | _=>exact WA h1
def cutD {α:Type}(xs:List α)(lo hi:Option Int):List α:=(xs.drop (HT.sIx xs.length 0 lo)).take (HT.sIx xs.length xs.length hi - HT.sIx xs.length 0 lo)
theorem B4 {α:Type}{xs:List α}{lo hi:Option Int}(h:HT.sIx xs.length 0 lo=0/\HT.sIx xs.length xs.length hi=xs.length):cutD xs lo hi=xs:=by
 unfold cutD;rw[h.1,h.2];simp
theorem DpL.take {K:Wq}{H:Hp}:∀ {vs:List V} {ds:List D} (n:Nat),DpL K H vs ds->DpL K H (vs.take n) (ds.take n)
 | _,_,0,_=>.nil
 | _,_,_+1,.nil=>.nil
 | _,_,n+1,.cons h l=>.cons h (DpL.take n l)
theorem DpL.drop {K:Wq}{H:Hp}:∀ {vs:List V} {ds:List D} (n:Nat),DpL K H vs ds->DpL K H (vs.drop n) (ds.drop n)
 | _,_,0,l=>l
 | _,_,_+1,.nil=>.nil
 | _,_,n+1,.cons _ l=>DpL.drop n l
theorem DpL.cut {K:Wq}{H:Hp}{vs:List V}{ds:List D}(lo hi:Option Int)(l:DpL K H vs ds):DpL K H (xy vs lo hi) (cutD ds lo hi):=by
 unfold xy cutD;rw[l.length];exact (l.drop _).take _
theorem yG {prog:W9}{w:Xm}{A:XC}{E:Wv->Wz->Prop}{s:Wz}{t sl:Addr}{items:Array Wv}{vl vu:Wv}{lo hi:Option Int}{Q:Wv->Wz->Prop}(ht:zdD s.heap t items)(hs:s.heap.IsSliceOf sl vl vu .none)(pl:IsPart vl lo)(pu:IsPart vu hi)
  (hw:HT.sIx items.size 0 lo=0/\HT.sIx items.size items.size hi=items.size) (h:Q (.ref t) s):WW (W2 prog w) A (zaE (.ref t) (.ref sl)) Q E s:=by
 obtain ⟨os,hos,hcs,hds⟩:=id hs
 have hTs:s.TypeIs (.ref sl) "slice" := ⟨os,hos,hcs⟩
 unfold zaE
 try with_reducible refine Y4 ?_
 first | refine Wr (WC ?_) | skip
 refine Wr (zcZ ht.typeIs (by decide) ?_)
 refine Wr (Xl (name:=OF "__getitem__") ht.typeIs Xx (XH Xx ht.typeIs zco ?_ (zcL _ _)))
 show WW _ _ (zaO (.ref t) >>= _) _ _ s
 refine Wr (tupleItemsOf_ ht ?_)
 refine Wr <| wpAny_typeOf hTs ?_
 rw[if_pos (by decide)]
 refine Wr (HT.ij hs pl pu ?_)
 rw[hw.1,hw.2]
 refine (show WW _ _ (if (((0:Nat):Int) == 0&&(1:Int) == 1&&(items.size - 0) == items.size)=true then _ else _) _ _ s from ?_)
 rw[if_pos (by simp)]
 unfold zd7
 refine Wr (Wr (wpAny_typeOf ht.typeIs (WC ?_)))
 rw[if_pos (by decide)]
 first
  | exact Wr (Yt (Wr (WC (WC ⟨_,rfl,WC h⟩))))
  | exact Wr (Yt (WC ⟨_,rfl,WC h⟩))
  | exact Wr (Wr (Yt (WC (WC ⟨_,rfl,WC h⟩))))
def Vj (K:Wq):V->Option Int->Option Int->Hp->VK->Prop:=λx lo hi H Q=>∃ a xs,x=.ref a/\SqT K H a xs/\(HT.sIx xs.length 0 lo=0/\HT.sIx xs.length xs.length hi=xs.length)/\Q (.ref a) H
theorem HS:SlR X (Vj X.K):=λpins s σ H x v vl vu lo hi sl Q I rx hs pl pu ⟨q,xs,e,hx,hw,h⟩=>by
 subst e
 cases rx
 obtain ⟨its,r,ht,_⟩:=I.tuple hx
 have hlen:its.toArray.size=xs.length:=by rw[WR];exact r.length.symm
 exact ⟨"tuple", _,Xx.lookup,ht.typeIs,yG ht hs pl pu (by rw[hlen];exact hw) ⟨.ref q,H,I,rfl,h⟩⟩
def rSl:D->Option Int->Option Int->Mu->DK->Prop:=λx lo hi μ Q=>match x with
 | .tup xs=>Q (.tup (cutD xs lo hi)) μ
 | .ls xs=>Q (.ls (cutD xs lo hi)) μ
 | .obj a=>kL μ a λxs=>Q (.ls (cutD xs lo hi)) μ
 | _=>False
def TSl (a:ETr)(lo hi:OTr):ETr:=λρ μ Q=>a ρ μ λx μ1=>lo ρ μ1 λl μ2=>hi ρ μ2 λh μ3=>rSl x l h μ3 Q
theorem kR {lo hi:Option W4}{Tl Th:OTr}{p2:Pos}(ha:LE X a Ta)(hl:LO X lo Tl)(hh:LO X hi Th):LE X (.Subscript a (.Slice lo hi none p2) pos) (TSl Ta Tl Th):=by
 obtain ⟨ta,pa,sa⟩:=ha.ex
 obtain ⟨tl,pl,sl⟩:=hl.ex
 obtain ⟨th,ph,sh⟩:=hh.ex
 refine ⟨_,Dl (Kq (SlR.or HS (SlR.or R7 KI)) pa pl ph),λσ H ρ μ Q Q' rl h k=>sa σ H ρ μ _ _ rl h λx H1 dx μ1 t1 m1 p1 h1=>sl σ H1 ρ μ1 _ _ (rl.go t1 m1) h1 λi H2 μ2 t2 m2 h2=>sh σ H2 ρ μ2 _ _ (rl.go (t1.trans t2) m2) h2 λj H3 μ3 t3 m3 h3=>?_⟩
 have p1:=p1.mono (t2.trans t3)
 have k:=k.go (t1.trans (t2.trans t3))
 cases p1 with
 | @tup q xs ds sq l=>
  by_cases hw:HT.sIx xs.length 0 i=0/\HT.sIx xs.length xs.length j=xs.length
  ·refine .inl ⟨q,xs,rfl,sq,hw,.inl (k _ H3 _ μ3 (.refl H3) m3 (.tup sq l) ?_)⟩
   rw[l.length] at hw
   have h3:Q (.tup (cutD ds i j)) μ3:=h3
   rw[B4 hw] at h3;exact h3
  ·exact .inr (.inl ⟨q,xs,rfl,sq,hw,λz hz=>.inl (k _ _ _ μ3 (.new hz) (bV m3 hz) (.tup (SqT.of aK) ((l.cut i j).mono (.new hz))) h3)⟩)
 | @ls q xs ds sq l=>exact .inr (.inr ⟨q,xs,rfl,sq.sq,λz hz=>.inr (gu m3 (l.cut i j) h3 k hz)⟩)
 | obj q=>
  obtain ⟨ds,e0,h4⟩:=bN h3
  obtain ⟨xs,ex,l⟩:=m3 q _ e0
  exact .inr (.inr ⟨q,xs,rfl,SqL.of ex,λz hz=>.inr (gu m3 (l.cut i j) h4 k hz)⟩)
 | _=>exact WA h3
theorem vQ {α:Type}(xs:List α)(k:Nat):cutD xs none (some (k:Int))=xs.take k:=by
 unfold cutD
 rw[HT.yV,HT.Dz,List.drop_zero,Nat.sub_zero]
 rcases zet k xs.length with h | h
 ·rw[zdP h]
 ·rw[zdx h,List.take_length,Z1 h]
theorem mZ {α:Type}(xs:List α)(k:Nat):cutD xs (some (k:Int)) none=xs.drop k:=by
 unfold cutD
 rw[HT.yV,HT.Dz]
 rcases zet k xs.length with h | h
 ·rw[zdP h,Z1 (by rw[zaa];omega)]
 ·rw[zdx h,YO,List.drop_of_length_le h];simp
end
end
section
open PySem PySem.Spec PyProof.Rows L2
theorem iN:∀ {us:List Wv} {ns:List Int},Zy us ns->Vals (ns.map V.int) us
 | _,_,.nil=>.nil
 | _,_,.cons n t h=>.cons ⟨t,rfl⟩ (iN h)
def QS (K:Wq):List V->Hp->VK->Prop:=λxs H Q=>∃ (p:Addr) (ns:List Int),xs=[.ref p]/\SqL K H p (ns.map V.int)/\ns.length < 64/\∀ ns':List Int,ns'.Perm ns->ns'.Pairwise (·<=·)->∀ z,H z=none->Q (.ref z) (L2.upd H z (.lst (ns'.map V.int)))
theorem BP {X:Cx}:bU X (.builtin "sorted") (QS X.K):=λpins s σ H xs us Q I rx ⟨p,ns,e1,sq,hl,q⟩=>by
 subst e1
 obtain ⟨u,rfl,ru⟩:=vals1 rx
 cases ru
 obtain ⟨its,rv,pl,hz⟩:=I.list sq
 have hi:Zy its ns:=intsAre_of rv
 have hlen:its.length < 64:=by rw[hi.length];exact hl
 refine sorted_ints pl.isList hi hlen λout ns' a1 a2 a3=>?_
 obtain ⟨n,en⟩:=sortedAll_at s.heap its out
 refine ⟨.ref _,_,I.laid (t':=s.toks) (o:=.lst (ns'.map V.int)) (λb o e=>sortedAll_old e) (zal _) ?_,rfl,q ns' a2 a3 _ (I.hok.fresh (zal _))⟩
 have z1:ns'.length=ns.length:=a2.length_eq
 exact ⟨by rw[Ww,z1];exact ZR (WV hl (by decide)),out.toList,n,iN a1,by simpa[zaz] using en⟩
theorem DpL.ints_of {K:Wq}{H:Hp}:∀ {xs:List V} {ns:List Int},DpL K H xs (ns.map .int)->xs=ns.map V.int
 | _,[],.nil=>rfl
 | _,n::r,.cons h l=>by cases h;rw[DpL.ints_of l];rfl
end
section
open PySem PySem.Spec PyProof.Rows L2
theorem _root_.L2.Inv.frz {X:Cx}{pins:List (Addr×Obj)}{σ:L2.St}{H:Hp}{s:Wz}{c:Addr}{xs:List V}(I1:Inv X pins σ H s)(ec:H c=some (.lst xs)):∃ o,Inv X pins σ (L2.upd H c (.frz o (.lst xs))) s:=by
 obtain ⟨z,its,n,rv,hg⟩:=I1.hok c _ ec
 have nl:∀ d o,H d=some o->(∀ ys,o≠.lst ys)->d≠c:=λd o e1 e2 w=>by subst w;rw[ec] at e1;cases e1;exact e2 _ rfl
 refine ⟨_,I1.un (h':=s.heap) (t':=s.toks) (H':=L2.upd H c (.frz { cls:=.type "list", data:=.seq its.toArray n } (.lst xs))) ⟨λd o e _ _ _=>e,λd o e _ _ _=>⟨o.slots,e⟩,λd o e w _=>?_,λd o e _=>⟨o,e⟩,λd ys e=>?_,λd o u e=>?_,λd ps e=>⟨#[],?_⟩⟩ (λd u e=>?_)⟩
 ·rw[aJ (λz=>by subst z;rw[ec] at w;cases w)];exact w
 ·rw[aJ (nl d _ e (λ_=>nofun))];exact e
 ·rw[aJ (nl d _ e (λ_=>nofun))];exact e
 ·rw[aJ (nl d _ e (λ_=>nofun)),e];simp
 ·by_cases hd:d=c
  ·subst hd
   rw[aK] at e;cases e
   exact ⟨hg,z,its,n,rv,hg⟩
  ·rw[aJ hd] at e
   refine (I1.hok d u e).lK (λk w _ q=>q) (λk q=>?_) λk ys q=>?_
   ·rw[aJ (nl k _ q (λ_=>nofun))];exact q
   ·rw[aJ (nl k _ q (λ_=>nofun))];exact q
theorem CT {X:Cx}{tg iter elt:W4}{ifs:List W4}{scope:Scope}{pos spos py:Pos}{y:Str}{iy:Nat}{wi:TI}{g:TG}{tt:TT}{te:TE}{Nc:List Str}{n:Nat}{caps:List Nat}
  (hxe:X.xe=λ_ _=>False) (hcalm:X.calm=true) (hi:PI X tg iter wi)
  (hbody:∀ (cl:List (Str×Addr)) (C:Addr) (s₀:Wz) (H₀:Hp) (ex:List Addr),PG (ba X scope Nc cl C s₀ H₀ ex) tg g/\xi (ba X scope Nc cl C s₀ H₀ ex) ifs tt/\PE (ba X scope Nc cl C s₀ H₀ ex) elt te)
  (hfree:∀ y∈scope.names,y.2=.free->X.env.kindOf y.1=some .cell) (hcell:∀ y∈scope.names,y.2≠.cell) (gk:scope.kind=.function)
  (hnames:∀ y∈scope.names,y.2=.local->scope.names.lookup y.1=some .local) (hlen:Nc.length=n+caps.length)
  (hcap:∀ (j k:Nat),caps[j]? = some k->∃ x,Nc[n+j]? = some x/\X.N[k]? = some x/\scope.names.lookup x=some .free)
  (pgy:PG X (.Name y py) (lI iy))
  (hsw:Yz (.ListComp elt [⟨tg,iter,ifs,0⟩] scope pos) (some (.Name y py)) spos.line X.env=pure true)
  (hs:∀ x,Xs iter X.env x=pure x:=by intro _;rfl) :
  PS X (.Assign [.Name y py] (.ListComp elt [⟨tg,iter,ifs,0⟩] scope pos) spos) (Hk (Ea (kT wi g tt te n caps)) (lI iy)):=
 yW (Z:=Ea) hxe hcalm hi hbody hfree hcell gk hnames hlen hcap pgy hsw (λσ H Q h=>⟨_,h,λpins D H5 s5 I5 ⟨a,xs,ea,eH,q⟩=>by
  cases ea
  obtain ⟨o,I6⟩:=I5.frz eH
  exact ⟨_,λb hb=>by rw[aJ (λz=>by rw[z,eH] at hb;cases hb)];exact hb,I6,q o⟩⟩) hs
theorem Fp {K:Wq}{wi:TI}{It':ATr}{G:GTr}{Tt:TTr}{Te:ETr}{n:Nat}{caps:List Nat}(si:OR K wi It'):Sim K (Ea (kT wi (mL K n G) (liftT K Tt) (lO K Te) n caps)) (bG It' G Tt Te n caps):=by
 intro σ H ρ μ Q Q' rl h k
 refine si σ H ρ μ _ _ rl h λJ H1 ds μ1 t1 m1 Y h1 D hD=>?_
 have hp:=h1 D (m1.free hD)
 have tD:Tk H1 (L2.upd H1 D (.lst [])):=.new hD
 have mD:bE K (L2.upd H1 D (.lst [])) (up μ1 D (.lst [])):=λa o e=>by
  by_cases ha:a=D
  ·subst ha
   rw[aF] at e;cases e
   exact ⟨[],aK,.nil⟩
  ·rw[aS ha] at e
   exact bV m1 hD a o e
 refine ⟨λi m ys H2=>m=ds.length - i/\i<=ds.length/\Tk H1 H2/\∃ μ2,bE K H2 μ2/\fF D G Tt Te (fc ρ n caps) (λμ'=>kL μ' D λzs=>Q (.ls zs) (dn μ' D)) (ds.drop i) μ2,
  ⟨ds.length,by simp,Ya _,tD,_,mD,by simpa using hp⟩,?_⟩
 rintro i m ys H2 ⟨rfl,hi,t12,μ2,m2,h2⟩
 by_cases hlt:i < ds.length
 ·refine .inr ⟨Y.go i H2 t12 hlt,λys' H'=>Tk H1 H'/\∃ μ',bE K H' μ'/\fF D G Tt Te (fc ρ n caps) (λμ'=>kL μ' D λzs=>Q (.ls zs) (dn μ' D)) (ds.drop (i+1)) μ',λys' H' ⟨t',μ',m',h'⟩=>⟨ds.length - (i+1),by omega,rfl,hlt,t',μ',m',h'⟩,λx H3 y=>?_⟩
  obtain ⟨t23,⟨d,ed,pd⟩,mk⟩:=Y.yld i H2 x H3 t12 hlt y
  have e:ds.drop i=d::ds.drop (i+1):=by
   refine (Yb hlt).trans ?_
   congr 1
   rw[WO hlt] at ed
   exact Xq ed
  rw[e] at h2
  have t13:=t12.trans t23
  have r3:Rl K (kA σ n caps) H3 (fc ρ n caps) μ2:=pM (rl.go (t1.trans t13) (mk _ m2)) n caps
  refine ⟨_,_,d,_,r3,pd,h2,λσ4 H4 ρ4 μ4 t4 r4 kp h4=>⟨⟨kp.1.symm,λj v ej=>?_⟩,_,_,_,r4,h4,λb H5 μ5 t5 m5 h5=>?_⟩⟩
  ·by_cases hj:n<=j
   ·rw[kp.2 j hj];exact ej
   ·obtain ⟨j',k',e1,_⟩:=jF ej
    omega
  ·have t15:=t13.trans (t4.trans t5)
   cases b with
   | false=>exact pw ⟨t15,μ5,m5,h5⟩
   | true=>
    refine pk ⟨_,_,_,r4.go t5 m5,h5,λv H6 d6 μ6 t6 m6 p6 h6=>?_⟩
    obtain ⟨zs,ez,lz,h7⟩:=bN h6
    obtain ⟨xs,ex,lx⟩:=m6 D _ ez
    have t67:Tk H6 (L2.upd H6 D (.lst (xs++[v]))):=.upd (λys z=>by rw[ex] at z;cases z) λo' u z=>by rw[ex] at z;cases z
    refine ⟨xs,ex,by rw[lx.length];exact WV lz (by decide),(t15.trans t6).trans t67,up μ6 D (.lst (zs++[d6])),λa o ea=>?_,h7⟩
    by_cases ha:a=D
    ·subst ha
     rw[aF] at ea;cases ea
     exact ⟨_,aK,(lx.append (.cons p6 .nil)).mono t67⟩
    ·rw[aS ha] at ea
     exact (m6 a _ ea).ne t67 ha
 ·have e:i=ds.length:=by omega
  subst e
  rw[YO] at h2
  obtain ⟨zs,ez,hq⟩:=bN (show kL μ2 D λzs=>Q (.ls zs) (dn μ2 D) from h2)
  obtain ⟨xs,ex,lx⟩:=m2 D _ ez
  refine .inl ⟨Y.stop _ H2 t12 (WL _),D,xs,rfl,ex,λo=>?_⟩
  have t2f:Tk H2 (L2.upd H2 D (.frz o (.lst xs))):=.upd (λys z=>by rw[ex] at z;cases z) λo' u z=>by rw[ex] at z;cases z
  refine k _ _ _ (dn μ2 D) ((t1.trans t12).trans t2f) (λa o' ea=>?_) (.ls (.inl ⟨o,aK⟩) (lx.mono t2f)) hq
  have ha:a≠D:=λz=>by subst z;unfold dn at ea;rw[if_pos rfl] at ea;cases ea
  have ea':μ2 a=some o':=by unfold dn at ea;rw[if_neg ha] at ea;exact ea
  exact (m2 a _ ea').ne t2f ha
theorem f6 {X:Cx}{tg elt iter:W4}{Te:ETr}{Tt:TTr}{pos spos py:Pos}{y:Str}{It':ATr}{G:GTr}{ifs:List W4}{scope fsc:Scope}(iy:Nat)(hN:X.N.Nodup)(XN Nc:List Str)(n:Nat)(caps:List Nat)(hxe:X.xe=λ_ _=>False)(hcalm:X.calm=true)(hi:LI X tg iter It')
  (hbody:∀ (cl:List (Str×Addr)) (C:Addr) (s₀:Wz) (H₀:Hp) (ex:List Addr),LGc (ba X scope Nc cl C s₀ H₀ ex) n tg G/\xg (ba X scope Nc cl C s₀ H₀ ex) ifs Tt/\LE (ba X scope Nc cl C s₀ H₀ ex) elt Te)
  (hsc:X.env.scope=fsc) (hXN:X.N=XN) (hok:hE fsc.names XN scope Nc n caps=true)
  (hiy:X.N[iy]? = some y:=by rfl) (hx:Loc X.env.scope y:=by first | exact ZX rfl | exact ZY rfl) (hf:X.fn y=true∨X.env.scope.names.lookup y=some .local:=by first | exact .inl rfl | exact .inr rfl | assumption)
  (hsw:Yz (.ListComp elt [⟨tg,iter,ifs,0⟩] scope pos) (some (.Name y py)) spos.line X.env=pure true:=by rfl)
  (hs:∀ x,Xs iter X.env x=pure x:=by intro _;rfl) :
  LS X (.Assign [.Name y py] (.ListComp elt [⟨tg,iter,ifs,0⟩] scope pos) spos) (aN (bG It' G Tt Te n caps) (aw iy)):=by
 unfold hE at hok
 simp only[Xd,Zm] at hok
 obtain ⟨⟨⟨h1,h2⟩,h3⟩,h4⟩:=hok
 obtain ⟨wi,pi,si⟩:=hi.ex
 refine ⟨_,CT (g:=mL X.K n G) (tt:=liftT X.K Tt) (te:=lO X.K Te) hxe hcalm pi (λcl C s₀ H₀ ex=>let ⟨h1,h2,h3⟩:=hbody cl C s₀ H₀ ex;⟨h1.pe,h2.pe,h3.pe⟩) (λy hy hf=>?_) (λy hy hf=>?_) (by simpa using h2) (λy hy hf=>?_) (by simpa using h3) (λj k hj=>?_) (iE hN hiy hx hf) hsw hs,λσ H ρ μ E E' rl h k=>Fp si σ H ρ μ _ _ rl h λv H' d μ' t' m' p' h'=>ir iy σ H' ρ μ' v d _ _ (rl.go t' m') p' h' (k.go t').nx⟩
 ·have:=(h1 y hy).1.1
  show X.env.scope.names.lookup y.1=_
  rw[hsc]
  simpa[hf] using this
 ·have:=(h1 y hy).1.2
  simp[hf] at this
 ·have:=(h1 y hy).2
  simpa[hf] using this
 ·have hl:j < caps.length:=(Xc.mp hj).1
  have:=h4 j (YM.mpr hl)
  rw[hj] at this
  dsimp only at this
  rw[hXN]
  cases e:XN[k]? with
  | none=>rw[e] at this;cases this
  | some x=>
   rw[e] at this
   dsimp only at this
   rw[Xd] at this
   exact ⟨x,by simpa using this.1,rfl,by simpa using this.2⟩
end
section
open PySem PySem.Spec PyProof.Rows L2
section
variable {X:Cx} {ea:W4} {es:List W4} {ek:Nat} {ep p pos:Pos}
def kG (ds:List D):List D:=(Xh ds.length).zipWith (λi d=>.tup [.int (i:Nat),d]) ds
def TR (t:ATr):ATr:=λρ μ Q=>t ρ μ λvs μ1=>match vs with
 | [.ls ds]=>Q (kG ds) μ1
 | _=>False
theorem ug (ds:List D)(i:Nat):(kG ds)[i]? = (ds[i]?).map λd=>.tup [.int (i:Nat),d]:=by
 unfold kG
 rw[zbU]
 by_cases h:i < ds.length
 ·rw[zcp h,WO h];rfl
 ·rw[Zr.mpr (by simpa using h),Zr.mpr (by simpa using h)];rfl
theorem uc (ds:List D):(kG ds).length=ds.length:=by unfold kG;simp
variable {eb:W4} {tg:W4} {Ta Tb:ETr}
end
end
section
open PySem PySem.Spec PyProof PyProof.Rows L2
theorem hV:∀ {us:List Wv} {ns:List Int},Zy us ns->∃ ps:List (Int×Tok),us=ps.map (λp=>ZI p.1 p.2)/\ps.map zd8=ns
 | _,_,.nil=>⟨[],⟨rfl,rfl⟩⟩
 | _,_,.cons n t h=>by
  obtain ⟨ps,e1,e2⟩:=hV h
  exact ⟨(n,t)::ps,by rw[e1];rfl,by rw[← e2];rfl⟩
theorem qL (ps:List (Int×Tok))(i:Nat):zdH ps.toArray i=((ps.map zd8)[i]?).getD 0:=by
 unfold zdH
 simp only[List.getElem?_toArray,XW]
section
variable {X:Cx} {a b:W4} {Ta Tb:ETr} {pos:Pos}
end
end
theorem wF (i j:Int)(μ Q):aO (.int i) (.int j) μ Q=Q (.int (i+j)) μ:=rfl
theorem vg (i j:Str)(μ Q):aO (.str i) (.str j) μ Q=(i.length+j.length<=1000000/\Q (.str (i++j)) μ):=rfl
theorem vR (a b:List D)(μ Q):aO (.tup a) (.tup b) μ Q=(a.length+b.length<=1000000/\Q (.tup (a++b)) μ):=rfl
theorem vv (a b:List D)(μ Q):aO (.ls a) (.ls b) μ Q=(a.length+b.length<=1000000/\Q (.ls (a++b)) μ):=rfl
theorem qX (a:List D)(μ Q):bu [.tup a] μ Q=Q (.tup a) μ:=rfl
theorem rA (a:List D)(μ Q):bu [.ls a] μ Q=Q (.tup a) μ:=rfl
theorem rO (a:Addr)(μ Q):bu [.obj a] μ Q=kL μ a λxs=>Q (.tup xs) μ:=rfl
theorem su (a:List D)(μ Q):jN [.tup a] μ Q=Q (.ls a) μ:=rfl
theorem rj (a:List D)(μ Q):jN [.ls a] μ Q=Q (.ls a) μ:=rfl
theorem sv (a:Addr)(μ Q):jN [.obj a] μ Q=kL μ a λxs=>Q (.ls xs) μ:=rfl
theorem rZ (a:List D)(μ Q):jq [.tup a] μ Q = ∀ p,μ p=none->Q (.obj p) (up μ p (.lst a)):=rfl
theorem rf (a:List D)(μ Q):jq [.ls a] μ Q = ∀ p,μ p=none->Q (.obj p) (up μ p (.lst a)):=rfl
theorem rB (a:Addr)(μ Q):jq [.obj a] μ Q=kL μ a λxs=>∀ p,μ p=none->Q (.obj p) (up μ p (.lst xs)):=rfl
theorem G3 (a:List D)(lo hi)(μ Q):rSl (.tup a) lo hi μ Q=Q (.tup (cutD a lo hi)) μ:=rfl
theorem JR (a:List D)(lo hi)(μ Q):rSl (.ls a) lo hi μ Q=Q (.ls (cutD a lo hi)) μ:=rfl
theorem GD (a:Addr)(lo hi)(μ Q):rSl (.obj a) lo hi μ Q=kL μ a λxs=>Q (.ls (cutD xs lo hi)) μ:=rfl
theorem Jv (n:Bool)(x:D)(a:List D)(μ Q):L3.rIn n x (.tup a) μ Q=((i8 x=true/\a.all i8=true)/\Q (.bl (if n then !inD x a else inD x a)) μ):=rfl
theorem FJ (n:Bool)(x:D)(a:List D)(μ Q):L3.rIn n x (.ls a) μ Q=((i8 x=true/\a.all i8=true)/\Q (.bl (if n then !inD x a else inD x a)) μ):=rfl
theorem Ha (n:Bool)(x:D)(a:Addr)(μ Q):L3.rIn n x (.obj a) μ Q=kL μ a λxs=>(i8 x=true/\xs.all i8=true)/\Q (.bl (if n then !inD x xs else inD x xs)) μ:=rfl
theorem A3 (a:Addr)(μ Q):cQ [.obj a] μ Q=kL μ a λxs=>Q (.int xs.length) μ:=rfl
theorem A0 (x:Str)(μ Q):cQ [.str x] μ Q=(x.length<=1000000/\Q (.int x.length) μ):=rfl
theorem HF (μ Q):rIs .non .non μ Q=Q (.bl true) μ:=rfl
theorem J3 (i:Int)(μ Q):rIs (.int i) .non μ Q=Q (.bl false) μ:=rfl
theorem JU (i:List D)(μ Q):rIs (.tup i) .non μ Q=Q (.bl false) μ:=rfl
theorem qi (μ Q):Bk .non .non μ Q=Q (.bl false) μ:=rfl
theorem r6 (i:Int)(μ Q):Bk (.int i) .non μ Q=Q (.bl true) μ:=rfl
theorem qF (i:List D)(μ Q):Bk (.tup i) .non μ Q=Q (.bl true) μ:=rfl
theorem Ak (c:String)(i:List D)(μ Q):eS c (.ls i) μ Q=Q (.bl (eP "list" c)) μ:=rfl
theorem Ad (c:String)(i:Str)(μ Q):eS c (.str i) μ Q=Q (.bl (eP "str" c)) μ:=rfl
theorem BW (c:String)(μ Q):eS c .non μ Q=Q (.bl (eP "NoneType" c)) μ:=rfl
theorem b8 (k:Nat)(ds:List D):atD ds (k:Int)=ds[k]?:=by
 unfold atD L2.atI L2.ixN
 rw[if_pos (ZF k)]
 by_cases h:k < ds.length
 ·rw[if_pos (by omega)];simp
 ·rw[if_neg (by omega)];simp;omega
theorem wV (ds:List D):atD ds 0=ds[0]?:=b8 0 ds
theorem w4 (ds:List D):atD ds 1=ds[1]?:=b8 1 ds
theorem CO (ds:List D):atD ds 2=ds[2]?:=b8 2 ds
theorem CV (ds:List D):atD ds 3=ds[3]?:=b8 3 ds
theorem De (ds:List D):atD ds 4=ds[4]?:=b8 4 ds
theorem CM (ds:List D):atD ds 5=ds[5]?:=b8 5 ds
theorem NG (n k:Nat):L2.ixN n (k:Int)=if k < n then some k else none:=by
 unfold L2.ixN
 rw[if_pos (ZF k)]
 by_cases h:k < n
 ·rw[if_pos (by omega),if_pos h];simp
 ·rw[if_neg (by omega),if_neg h]
theorem fV:eP "int" "int" = true:=by decide
theorem fL:eP "int" "bool" = false:=by decide
theorem fJ:eP "bool" "bool" = true:=by decide
theorem fW:eP "bool" "int" = true:=by decide
theorem fP:eP "tuple" "tuple" = true:=by decide
theorem fR:eP "int" "tuple" = false:=by decide
theorem fK:eP "bool" "tuple" = false:=by decide
theorem fm0 {a n:Int}(h:0 < n):0<=a.fmod n:=Int.fmod_nonneg_of_pos a h
theorem fm1 {a n:Int}(h:0 < n):a.fmod n < n:=Int.fmod_lt_of_pos a h
theorem G0 (A B:Prop):kIf true A B=A:=rfl
theorem HM (A B:Prop):kIf false A B=B:=rfl
theorem FT (p:Prop) [Decidable p] (A B:Prop):kIf (decide p) A B=if p then A else B:=by by_cases h:p<;>simp[h,kIf]
theorem Kr (c:Bool)(A B:Prop):kIf (!c) A B=kIf c B A:=by cases c<;>rfl
theorem Hh (c:Bool)(f):kB (.bl c) f=f c:=rfl
theorem Ca (c:Int)(f):kI (.int c) f=f c:=rfl
theorem pS (c:D)(f):kO (some c) f=f c:=rfl
theorem B9 (c:List D)(f):kS (.tup c) f=f c:=rfl
theorem HK (c:List D)(f):kS (.ls c) f=f c:=rfl
theorem AG (a b:D)(f):k2 [a,b] f=f a b:=rfl
theorem vz (c:Nat)(f):kN (some c) f=f c:=rfl
theorem Di (μ:Mu)(a:Addr)(ds:List D)(f):kL (up μ a (.lst ds)) a f=f ds:=by unfold kL;rw[aF]
theorem Uq {μ:Mu}{a:Addr}{ds:List D}(h:μ a=some (.lst ds))(f):kL μ a f=f ds:=by unfold kL;rw[h]
theorem qV (a:Addr)(n:Int)(y:D)(μ:Mu)(f):TK (.obj a) (.int n) y μ f=kL μ a λds=>kN (L2.ixN ds.length n) λj=>f (up μ a (.lst (ds.set j y))):=rfl
theorem B0 (i j:Int)(μ Q):je (.int i) (.int j) μ Q=Q (.int (i - j)) μ:=rfl
theorem Aw (i j:Int)(μ Q):eJ (.int i) (.int j) μ Q=(MulOk i j/\Q (.int (i*j)) μ):=rfl
theorem AM (i j:Int)(μ Q):nJ (.int i) (.int j) μ Q=(jE j/\Q (.int (i.fdiv j)) μ):=rfl
theorem B3 (i j:Int)(μ Q):mP (.int i) (.int j) μ Q=(j≠0/\Q (.int (i.fmod j)) μ):=rfl
theorem A6 (i j:Int)(μ Q):IA (.int i) (.int j) μ Q=(sC i j/\Q (.int (i ^ j.toNat)) μ):=rfl
theorem AK (i:Int)(μ Q):Ny (.int i) μ Q=Q (.int (-i)) μ:=rfl
theorem GN (i j:Int)(μ Q):rLt (.int i) (.int j) μ Q=Q (.bl (decide (i < j))) μ:=rfl
theorem Ip (i j:Int)(μ Q):rLe (.int i) (.int j) μ Q=Q (.bl (decide (i<=j))) μ:=rfl
theorem GO (i j:Int)(μ Q):rGt (.int i) (.int j) μ Q=Q (.bl (decide (j < i))) μ:=rfl
theorem IU (i j:Int)(μ Q):rGe (.int i) (.int j) μ Q=Q (.bl (decide (j<=i))) μ:=rfl
theorem FD (x y:D)(μ Q):L3.rEq x y μ Q=((okD 40 x=true/\okD 40 y=true)/\Q (.bl (eqD x y)) μ):=rfl
theorem Fl (x y:D)(μ Q):L3.rNe x y μ Q=((okD 40 x=true/\okD 40 y=true)/\Q (.bl (!eqD x y)) μ):=rfl
theorem rq (ds:List D)(i:Int)(μ Q):L3.rIx (.tup ds) (.int i) μ Q=kO (atD ds i) λd=>Q d μ:=rfl
theorem Fm (ds:List D)(i:Int)(μ Q):L3.rIx (.ls ds) (.int i) μ Q=kO (atD ds i) λd=>Q d μ:=rfl
theorem Kc (a:Addr)(i:Int)(μ Q):L3.rIx (.obj a) (.int i) μ Q=kL μ a λds=>kO (atD ds i) λd=>Q d μ:=rfl
theorem Ci (c:String)(i:Int)(μ Q):eS c (.int i) μ Q=Q (.bl (eP "int" c)) μ:=rfl
theorem Bu (c:String)(i:Bool)(μ Q):eS c (.bl i) μ Q=Q (.bl (eP "bool" c)) μ:=rfl
theorem AO (c:String)(i:List D)(μ Q):eS c (.tup i) μ Q=Q (.bl (eP "tuple" c)) μ:=rfl
theorem AH (i:Int)(μ Q):zE [.int i] μ Q=Q (.int (if i < 0 then -i else i)) μ:=rfl
theorem AR (i j:Int)(μ Q):ua [.int i,.int j] μ Q=Q (.int (if j > i then j else i)) μ:=rfl
theorem By (i j:Int)(μ Q):uv [.int i,.int j] μ Q=Q (.int (if j < i then j else i)) μ:=rfl
theorem AD (i:Int)(μ Q):AL [.int i] μ Q=Q (.int i) μ:=rfl
theorem Ai (i:Bool)(μ Q):AL [.bl i] μ Q=Q (.int (if i then 1 else 0)) μ:=rfl
theorem AU (i:List D)(μ Q):cQ [.tup i] μ Q=Q (.int i.length) μ:=rfl
theorem B6 (i:List D)(μ Q):cQ [.ls i] μ Q=Q (.int i.length) μ:=rfl
local macro_rules | `(tactic| walk_at "rd")=>zzS "L3.ah L3.TC L3.aj L3.TUn L3.iz L3.IL L3.sR L3.TB L3.tL L3.TOr L3.uY L3.lC L3.lr L3.ar L3.af L3.bh L3.fM L3.lF L3.aq L3.a9 L3.ay L3.Bn L3.Ja L3.eU L3.aT L3.Kl L3.bI L3.aw L3.aN L3.pz L3.Cg L3.iR L3.fi L3.eg L3.G0 L3.HM L3.FT L3.Kr L3.Hh L3.Ca L3.pS L3.B9 L3.HK L3.AG L3.vz L3.Di L3.qV L3.wF L3.vg L3.vR L3.vv L3.mT L3.iK L3.wu L3.qX L3.rA L3.rO L3.su L3.rj L3.sv L3.rZ L3.rf L3.rB L3.TSl L3.ONo L3.ky L3.G3 L3.JR L3.GD L3.Jv L3.FJ L3.Ha L3.A3 L3.A0 L3.HF L3.J3 L3.JU L3.qi L3.r6 L3.qF L3.Ak L3.Ad L3.BW L3.B0 L3.Aw L3.AM L3.B3 L3.A6 L3.AK L3.GN L3.Ip L3.GO L3.IU L3.FD L3.Fl L3.rq L3.Fm L3.Kc L3.Ci L3.Bu L3.AO L3.AH L3.AR L3.By L3.AD L3.Ai L3.AU L3.B6 L3.lk L3.ini zc7 XQ X6 zdI zeD zbm Zz zc8 zcy zcz L3.wV L3.w4 L3.CO L3.CV L3.De L3.CM ZM ZN L3.aF zc9 zbn if_true if_false true_and and_true zcA zb8 zb9 zbo zan zbM decide_eq_true_eq ZE ite_false ite_true ne_eq not_false_eq_true zbN zcB zcC zcD zcE zcF zda L3.okD L3.b7 L3.eqD L3.jZ zcG zcH zcI L3.fV L3.fL L3.fJ L3.fW L3.fP L3.fR L3.fK"
local macro_rules | `(tactic| walk_at "ok")=>`(tactic| (simp only[L3.jE,L3.MulOk,L3.S64,L3.gc,L3.sC] at *;omega))
def Box (μ:Mu)(b:Addr):Prop:=∃ g s c:Int,μ b=some (.lst [.int g,.int s,.int c])/\0<=s/\s < 2147483647
structure qJ (b:Addr) (μ μ':Mu):Prop where
 box:Box μ' b
 oth:∀ a,a≠b->μ' a=μ a
theorem qJ.trans {b:Addr}{μ μ1 μ2:Mu}(x:qJ b μ μ1)(y:qJ b μ1 μ2):qJ b μ μ2:=⟨y.box,λa h=>(y.oth a h).trans (x.oth a h)⟩
theorem wU (x y:Int):W8 y (x.fmod y)=W8 x y:=by
 rw[Int.fmod_def,Int.gcd_sub_mul_left_right,zbF]
theorem Gq (a:Int):(if a < 0 then -a else a)=(a.natAbs:Int):=by
 split<;>omega
def mz (i:Nat):ST->Mu->Nat:=λρ _=>match lk ρ i with
 | some (.int z)=>z.toNat
 | _=>0
structure Fr (p q:Int):Prop where
 q0:0 < q
 q1:q < 100000000000
 p0:-100000000000 < p
 p1:p < 100000000000
 g:W8 p q=1
theorem jn {a b:Int}(h:0 < b):a.fdiv b=a / b:=Int.fdiv_eq_ediv_of_nonneg a (zbG h)
theorem GF {ns:List Int}{k:Int}(h0:0<=k)(h1:k < (ns.length:Int)):∃ z,atD (ns.map D.int) k=some (.int z):=by
 rcases ZO h0 with ⟨j,rfl⟩
 rw[b8]
 have hj:j < ns.length:=by omega
 exact ⟨ns[j],by simp[hj]⟩
theorem Bv {lo:Int}{n:Nat}{d:D}(h:d∈ck lo n):∃ k:Int,d=.int k/\lo<=k/\k < lo+n:=by
 unfold ck at h
 rcases WE.mp h with ⟨i,hi,rfl⟩
 have:=YM.mp hi
 exact ⟨_,rfl,by omega,by omega⟩
def gY:FSp:=λds μ Q=>kcL ds λxs ds=>kcN ds ((∃ ns:List Int,xs=ns.map .int/\ns.length<=63)/\∀ μ',Q (.bl true) μ')
theorem we:∀ ds μ Q,gY ds μ Q->ds.length=1:=λ_ _ _ h=>lcL h λ_ _ h=>by rw[(ecN h).1];rfl
theorem nv (ns:List Int)(h:ns.length<=63)(μ:Mu):gY [.ls (ns.map .int)] μ (λd _=>d=.bl true):=⟨⟨ns,rfl,h⟩,λ_=>rfl⟩
local macro_rules | `(tactic| walk_at "rd")=>zzS "L3.ah L3.TC L3.aj L3.TUn L3.iz L3.IL L3.sR L3.TB L3.tL L3.TOr L3.uY L3.lC L3.lr L3.ar L3.af L3.bh L3.fM L3.lF L3.aq L3.a9 L3.ay L3.Bn L3.Ja L3.eU L3.aT L3.Kl L3.bI L3.aw L3.aN L3.pz L3.Cg L3.iR L3.fi L3.eg L3.bG L3.fF L3.fc L3.dA L3.S4 L3.ILs L3.G0 L3.HM L3.FT L3.Kr L3.Hh L3.Ca L3.pS L3.B9 L3.HK L3.AG L3.vz L3.Di L3.qV L3.wF L3.vg L3.vR L3.vv L3.mT L3.iK L3.wu L3.qX L3.rA L3.rO L3.su L3.rj L3.sv L3.rZ L3.rf L3.rB L3.TSl L3.ONo L3.ky L3.G3 L3.JR L3.GD L3.Jv L3.FJ L3.Ha L3.A3 L3.A0 L3.HF L3.J3 L3.JU L3.qi L3.r6 L3.qF L3.Ak L3.Ad L3.BW L3.B0 L3.Aw L3.AM L3.B3 L3.A6 L3.AK L3.GN L3.Ip L3.GO L3.IU L3.FD L3.Fl L3.rq L3.Fm L3.Kc L3.Ci L3.Bu L3.AO L3.AH L3.AR L3.By L3.AD L3.Ai L3.AU L3.B6 L3.lk L3.ini zc7 XQ X6 zdI zeD zbm Zz zc8 zcy zcz L3.wV L3.w4 L3.CO L3.CV L3.De L3.CM ZM ZN L3.aF L3.iq zc9 zbn if_true if_false true_and and_true zcA zb8 zb9 zbo zan zbM decide_eq_true_eq ZE ite_false ite_true ne_eq not_false_eq_true zbN zcB zcC zcD zcE zcF zda L3.okD L3.b7 L3.eqD L3.jZ zcG zcH zcI L3.fV L3.fL L3.fJ L3.fW L3.fP L3.fR L3.fK"
structure IsPart (a b p q:Int):Prop where
 q0:0 < q
 g:W8 p q=1
 e:p*b=a*q
 pa:p.natAbs<=a.natAbs
 qb:q.natAbs<=b.natAbs
theorem qZ {g c:Int}(hg:0 < g):c.natAbs<=(g*c).natAbs:=by
 rw[zd9]
 exact Nat.le_mul_of_pos_left _ (by omega)
theorem DE {a b:Int}(hb:b≠0):IsPart a b (a.fdiv (if b < 0 then -(W8 a b:Int) else W8 a b)) (b.fdiv (if b < 0 then -(W8 a b:Int) else W8 a b)):=by
 have gp:0 < W8 a b:=Ym a hb
 have gz:0 < (W8 a b:Int):=by omega
 obtain ⟨c,hc⟩:=zdy a b
 obtain ⟨d,hd⟩:=zdb a b
 have g1:=zaX gp
 have e1:a / (W8 a b:Int)=c:=Yp (by omega) hc
 have e2:b / (W8 a b:Int)=d:=Yp (by omega) hd
 rw[e1,e2] at g1
 generalize (W8 a b:Int)=g at *
 clear e1 e2 gp
 subst hc hd
 have p1:=qZ (c:=c) gz
 have p2:=qZ (c:=d) gz
 split
 ·rename_i hneg
  have d0:d < 0:=by
   rcases Z2 d 0 with h | h | h
   ·exact h
   ·subst h;omega
   ·have:=X3 gz h;omega
  have x1:(g*c).fdiv (-g) = -c:=by rw[show g*c = -g * -c by rw[zdQ]];exact YJ _ (by omega)
  have x2:(g*d).fdiv (-g) = -d:=by rw[show g*d = -g * -d by rw[zdQ]];exact YJ _ (by omega)
  rw[x1,x2]
  refine ⟨by omega,by rw[Int.neg_gcd,Int.gcd_neg];exact g1,?_,by omega,by omega⟩
  rw[Int.neg_mul,Int.mul_neg,zdc,zek]
 ·rename_i hneg
  have d0:0 < d:=by
   rcases Z2 d 0 with h | h | h
   ·have:=Zs gz h;omega
   ·subst h;omega
   ·exact h
  have x1:(g*c).fdiv g=c:=YJ _ (by omega)
  have x2:(g*d).fdiv g=d:=YJ _ (by omega)
  rw[x1,x2]
  refine ⟨d0,g1,?_,by omega,by omega⟩
  rw[zdc,zek]
theorem MZ {p q p' q':Int}(q0:0 < q)(q0':0 < q')(g:W8 p q=1)(g':W8 p' q'=1)(e:p*q'=p'*q):p=p'/\q=q':=by
 have h1:q ∣ q':=by
  have:q ∣ p*q':=⟨p',by rw[e,XZ]⟩
  have h:=Yq.mpr this
  rw[zbF,g] at h
  simpa using h
 have h2:q' ∣ q:=by
  have:q' ∣ p'*q:=⟨p,by rw[← e,XZ]⟩
  have h:=Yq.mpr this
  rw[zbF,g'] at h
  simpa using h
 have e3:q=q':=Int.dvd_antisymm (by omega) (by omega) h1 h2
 subst e3
 exact ⟨Zg (by omega) e,rfl⟩
theorem IsPart.same {a b p q a' b' p' q':Int}(h:IsPart a b p q)(h':IsPart a' b' p' q')(hb:b≠0)(hb':b'≠0)(e:a*b'=a'*b):p=p'/\q=q':=by
 refine MZ h.q0 h'.q0 h.g h'.g ?_
 have e1:=h.e
 have e2:=h'.e
 have x:(p*q')*(b*b')=(p'*q)*(b*b'):=by
  calc (p*q')*(b*b')=(p*b)*(q'*b'):=by ac_rfl
   _=(a*q)*(q'*b'):=by rw[e1]
   _=(a*b')*(q*q'):=by ac_rfl
   _=(a'*b)*(q*q'):=by rw[e]
   _=(a'*q')*(q*b):=by ac_rfl
   _=(p'*b')*(q*b):=by rw[e2]
   _=(p'*q)*(b*b'):=by ac_rfl
 exact Zg (Int.mul_ne_zero hb hb') x
def fG:FSp:=λds μ Q=>kcI ds λa ds=>kcI ds λb ds=>kcN ds (Q (.int (W8 a b)) μ)
theorem tq:∀ ds μ Q,fG ds μ Q->ds.length=2:=λ_ _ _ h=>lcI h λ_ _ h=>lcI h λ_ _ h=>by rw[(ecN h).1];rfl
def oI:STr:=ay (aN (aq zE (af (ah 0) (ar))) (aw 2)) (ay (aN (aq zE (af (ah 1) (ar))) (aw 3)) (ay (wQ (TB (aj rGt (ah 3) (TC (.int 0)))) (ay (aN (aj mP (ah 2) (ah 3)) (aw 4)) (ay (aN (ah 3) (aw 2)) (aN (ah 4) (aw 3))))) (aT (ah 2))))
theorem vy:∀ ds μ Q,fG ds μ Q->oI { nx:=λ_ μ'=>RT Q .non μ',rt:=RT Q } (ini 5 ds) μ:=by
 intro ds μ Q k
 replace k:=ecI k
 obtain ⟨a,ds,rfl,k⟩:=k
 replace k:=ecI k
 obtain ⟨b,ds,rfl,k⟩:=k
 replace k:=ecN k
 obtain ⟨rfl,k⟩:=k
 unfold oI
 walk_at "rd"
 refine ⟨λρ μ'=>μ'=μ/\∃ (x y:Int) (z:Option D),ρ=[some (.int a),some (.int b),some (.int x),some (.int y),z]/\0<=x/\0<=y/\W8 x y=W8 a b,mz 3,⟨rfl,_,_,_,rfl,?_,?_,?_⟩,?_⟩
 ·split<;>omega
 ·split<;>omega
 ·rw[Gq,Gq];unfold W8;rw[zcP,zcP]
 ·rintro ρ _ ⟨rfl,x,y,z,rfl,x0,y0,e⟩
  walk_at "rd"
  split
  ·rename_i hy
   refine ⟨by omega,⟨_,_,_,rfl,y0,fm0 hy,?_⟩,?_⟩
   ·rw[wU];exact e
   ·have:=fm1 (a:=x) hy
    have:=fm0 (a:=x) hy
    simp only[mz,lk]
    omega
  ·rename_i hy
   have hy0:y=0:=by omega
   subst hy0
   rw[zcQ] at e
   have hx:x=(W8 a b:Int):=by omega
   subst hx
   exact ⟨_,.refl _,k⟩
def gH:FSp:=λds μ Q=>kcI ds λa ds=>kcI ds λb ds=>kcN ds ((b≠0/\gc b)/\∀ p q,IsPart a b p q->Q (.tup [.int p,.int q]) μ)
theorem Jr:∀ ds μ Q,gH ds μ Q->ds.length=2:=λ_ _ _ h=>lcI h λ_ _ h=>lcI h λ_ _ h=>by rw[(ecN h).1];rfl
def GP:STr:=ay (aN (aq fG (af (ah 0) (af (ah 1) (ar)))) (aw 2)) (ay (bI (TB (aj rLt (ah 1) (TC (.int 0)))) (aN (TUn Ny (ah 2)) (aw 2)) (a9)) (aT (bh (af (aj nJ (ah 0) (ah 2)) (af (aj nJ (ah 1) (ah 2)) (ar))))))
theorem Ng:∀ ds μ Q,gH ds μ Q->GP { nx:=λ_ μ'=>RT Q .non μ',rt:=RT Q } (ini 3 ds) μ:=by
 intro ds μ Q h
 replace h:=ecI h
 obtain ⟨a,ds,rfl,h⟩:=h
 replace h:=ecI h
 obtain ⟨b,ds,rfl,h⟩:=h
 replace h:=ecN h
 obtain ⟨rfl,h⟩:=h
 obtain ⟨⟨hb,hm⟩,k⟩:=h
 have P:=k _ _ (DE (a:=a) hb)
 have gp:0 < W8 a b:=Ym a hb
 have gl:W8 a b<=b.natAbs:=Int.gcd_le_natAbs_right a hb
 unfold GP
 walk_at "rd"
 show (if b < 0 then _ else _)
 split
 ·rename_i hn
  rw[if_pos hn] at P
  have dv:jE (-(W8 a b:Int)):=by walk_at "ok"
  exact ⟨dv,dv,_,.refl _,P⟩
 ·rename_i hn
  rw[if_neg hn] at P
  have dv:jE (W8 a b:Int):=by walk_at "ok"
  exact ⟨dv,dv,_,.refl _,P⟩
structure FrB (lo hi p q:Int):Prop where
 q0:0 < q
 q1:q<=10000002
 g:W8 p q=1
 ge:lo*q<=p
 le:p<=hi*q
structure FrA (lo hi p q:Int):Prop extends FrB lo hi p q where
 ab:lo*q < p
structure FrL (hi p q:Int):Prop extends FrB 0 hi p q where
 ab:0 < p
 be:p < hi*q
theorem kb {a b:Int}(b0:0 < b):∃ g p q:Int,0 < g/\a=g*p/\b=g*q/\a.fdiv (W8 a b)=p/\b.fdiv (W8 a b)=q/\0 < q/\q<=b/\W8 p q=1:=by
 have gp:0 < W8 a b:=Ym a (by omega)
 have gz:0 < (W8 a b:Int):=by omega
 obtain ⟨c,hc⟩:=zdy a b
 obtain ⟨d,hd⟩:=zdb a b
 have g1:=zaX gp
 have e1:a / (W8 a b:Int)=c:=Yp (by omega) hc
 have e2:b / (W8 a b:Int)=d:=Yp (by omega) hd
 rw[e1,e2] at g1
 refine ⟨_,c,d,gz,hc,hd,by rw[jn gz];exact e1,by rw[jn gz];exact e2,?_,?_,g1⟩
 all_goals generalize (W8 a b:Int)=g at *
 ·rcases Z2 d 0 with h | h | h
  ·have:=Zs gz h;omega
  ·subst h;omega
  ·exact h
 ·have d0:0 < d:=by
   rcases Z2 d 0 with h | h | h
   ·have:=Zs gz h;omega
   ·subst h;omega
   ·exact h
  have h:=WU (show (1:Int)<=g by omega) (show (0:Int)<=d by omega)
  omega
theorem JI {lo hi a b:Int}(b0:0 < b)(b1:b<=10000002)(h1:lo*b<=a)(h2:a<=hi*b):FrB lo hi (a.fdiv (W8 a b)) (b.fdiv (W8 a b)):=by
 obtain ⟨g,p,q,g0,ea,eb,ep,eq,q0,qb,gg⟩:=kb (a:=a) b0
 rw[ep,eq]
 subst ea
 have e1:lo*b=g*(lo*q):=by rw[eb];ac_rfl
 have e2:hi*b=g*(hi*q):=by rw[eb];ac_rfl
 exact ⟨q0,by omega,gg,zaY (by rw[← e1];exact h1) g0,zaY (by rw[← e2];exact h2) g0⟩
theorem IW {lo hi a b:Int}(b0:0 < b)(b1:b<=10000002)(h1:lo*b < a)(h2:a<=hi*b):FrA lo hi (a.fdiv (W8 a b)) (b.fdiv (W8 a b)):=by
 refine ⟨JI b0 b1 (by omega) h2,?_⟩
 obtain ⟨g,p,q,g0,ea,eb,ep,eq,q0,qb,gg⟩:=kb (a:=a) b0
 rw[ep,eq]
 have e1:lo*b=g*(lo*q):=by rw[eb];ac_rfl
 exact Zt (by rw[← e1,← ea];exact h1) (by omega)
theorem Tn {hi a b:Int}(b0:0 < b)(b1:b<=10000002)(h1:0 < a)(h2:a < hi*b):FrL hi (a.fdiv (W8 a b)) (b.fdiv (W8 a b)):=by
 refine ⟨JI b0 b1 (by omega) (by omega),?_,?_⟩
 all_goals
  obtain ⟨g,p,q,g0,ea,eb,ep,eq,q0,qb,gg⟩:=kb (a:=a) b0
 ·rw[ep]
  exact Zt (a:=g) (by rw[← ea];simpa using h1) (by omega)
 ·rw[ep,eq]
  have e1:hi*b=g*(hi*q):=by rw[eb];ac_rfl
  exact Zt (by rw[← e1,← ea];exact h2) (by omega)
theorem dN:(OF "still" = OF "step")=False:=eq_false (by decide +kernel)
theorem c6:(OF "still" = OF "swell")=False:=eq_false (by decide +kernel)
theorem dB:(OF "still" = OF "heed")=False:=eq_false (by decide +kernel)
theorem dQ:(OF "still" = OF "calm")=False:=eq_false (by decide +kernel)
theorem dr:(OF "step" = OF "still")=False:=eq_false (by decide +kernel)
theorem dM:(OF "step" = OF "swell")=False:=eq_false (by decide +kernel)
theorem eC:(OF "step" = OF "heed")=False:=eq_false (by decide +kernel)
theorem eN:(OF "step" = OF "calm")=False:=eq_false (by decide +kernel)
theorem de:(OF "swell" = OF "still")=False:=eq_false (by decide +kernel)
theorem dH:(OF "swell" = OF "step")=False:=eq_false (by decide +kernel)
theorem dm:(OF "swell" = OF "heed")=False:=eq_false (by decide +kernel)
theorem dD:(OF "swell" = OF "calm")=False:=eq_false (by decide +kernel)
theorem dG:(OF "heed" = OF "still")=False:=eq_false (by decide +kernel)
theorem eK:(OF "heed" = OF "step")=False:=eq_false (by decide +kernel)
theorem dq:(OF "heed" = OF "swell")=False:=eq_false (by decide +kernel)
theorem eM:(OF "heed" = OF "calm")=False:=eq_false (by decide +kernel)
theorem dO:(OF "calm" = OF "still")=False:=eq_false (by decide +kernel)
theorem eG:(OF "calm" = OF "step")=False:=eq_false (by decide +kernel)
theorem dJ:(OF "calm" = OF "swell")=False:=eq_false (by decide +kernel)
theorem eL:(OF "calm" = OF "heed")=False:=eq_false (by decide +kernel)
theorem nF:WD (OF "still")=true:=by decide +kernel
theorem r9:WD (OF "step")=true:=by decide +kernel
theorem mW:WD (OF "swell")=true:=by decide +kernel
theorem pY:WD (OF "heed")=true:=by decide +kernel
theorem sy:WD (OF "calm")=true:=by decide +kernel
abbrev fr (p q:Int):D:=.tup [.int p,.int q]
theorem cx (i:Decidable (OF "still" = OF "step")):@decide (OF "still" = OF "step") i=false:=by cases i with | isTrue h=>exact absurd h (by rw[dN];exact not_false) | isFalse _=>rfl
theorem bO (i:Decidable (OF "still" = OF "swell")):@decide (OF "still" = OF "swell") i=false:=by cases i with | isTrue h=>exact absurd h (by rw[c6];exact not_false) | isFalse _=>rfl
theorem cj (i:Decidable (OF "still" = OF "heed")):@decide (OF "still" = OF "heed") i=false:=by cases i with | isTrue h=>exact absurd h (by rw[dB];exact not_false) | isFalse _=>rfl
theorem cv (i:Decidable (OF "still" = OF "calm")):@decide (OF "still" = OF "calm") i=false:=by cases i with | isTrue h=>exact absurd h (by rw[dQ];exact not_false) | isFalse _=>rfl
theorem cw (i:Decidable (OF "step" = OF "still")):@decide (OF "step" = OF "still") i=false:=by cases i with | isTrue h=>exact absurd h (by rw[dr];exact not_false) | isFalse _=>rfl
theorem b9 (i:Decidable (OF "step" = OF "swell")):@decide (OF "step" = OF "swell") i=false:=by cases i with | isTrue h=>exact absurd h (by rw[dM];exact not_false) | isFalse _=>rfl
theorem cM (i:Decidable (OF "step" = OF "heed")):@decide (OF "step" = OF "heed") i=false:=by cases i with | isTrue h=>exact absurd h (by rw[eC];exact not_false) | isFalse _=>rfl
theorem cG (i:Decidable (OF "step" = OF "calm")):@decide (OF "step" = OF "calm") i=false:=by cases i with | isTrue h=>exact absurd h (by rw[eN];exact not_false) | isFalse _=>rfl
theorem bQ (i:Decidable (OF "swell" = OF "still")):@decide (OF "swell" = OF "still") i=false:=by cases i with | isTrue h=>exact absurd h (by rw[de];exact not_false) | isFalse _=>rfl
theorem cf (i:Decidable (OF "swell" = OF "step")):@decide (OF "swell" = OF "step") i=false:=by cases i with | isTrue h=>exact absurd h (by rw[dH];exact not_false) | isFalse _=>rfl
theorem cc (i:Decidable (OF "swell" = OF "heed")):@decide (OF "swell" = OF "heed") i=false:=by cases i with | isTrue h=>exact absurd h (by rw[dm];exact not_false) | isFalse _=>rfl
theorem cz (i:Decidable (OF "swell" = OF "calm")):@decide (OF "swell" = OF "calm") i=false:=by cases i with | isTrue h=>exact absurd h (by rw[dD];exact not_false) | isFalse _=>rfl
theorem cy (i:Decidable (OF "heed" = OF "still")):@decide (OF "heed" = OF "still") i=false:=by cases i with | isTrue h=>exact absurd h (by rw[dG];exact not_false) | isFalse _=>rfl
theorem cL (i:Decidable (OF "heed" = OF "step")):@decide (OF "heed" = OF "step") i=false:=by cases i with | isTrue h=>exact absurd h (by rw[eK];exact not_false) | isFalse _=>rfl
theorem cu (i:Decidable (OF "heed" = OF "swell")):@decide (OF "heed" = OF "swell") i=false:=by cases i with | isTrue h=>exact absurd h (by rw[dq];exact not_false) | isFalse _=>rfl
theorem cN (i:Decidable (OF "heed" = OF "calm")):@decide (OF "heed" = OF "calm") i=false:=by cases i with | isTrue h=>exact absurd h (by rw[eM];exact not_false) | isFalse _=>rfl
theorem cq (i:Decidable (OF "calm" = OF "still")):@decide (OF "calm" = OF "still") i=false:=by cases i with | isTrue h=>exact absurd h (by rw[dO];exact not_false) | isFalse _=>rfl
theorem cI (i:Decidable (OF "calm" = OF "step")):@decide (OF "calm" = OF "step") i=false:=by cases i with | isTrue h=>exact absurd h (by rw[eG];exact not_false) | isFalse _=>rfl
theorem cp (i:Decidable (OF "calm" = OF "swell")):@decide (OF "calm" = OF "swell") i=false:=by cases i with | isTrue h=>exact absurd h (by rw[dJ];exact not_false) | isFalse _=>rfl
theorem cP (i:Decidable (OF "calm" = OF "heed")):@decide (OF "calm" = OF "heed") i=false:=by cases i with | isTrue h=>exact absurd h (by rw[eL];exact not_false) | isFalse _=>rfl
theorem iV (a:Str)(i:Decidable (a=a)):@decide (a=a) i=true:=by cases i with | isTrue _=>rfl | isFalse h=>exact absurd rfl h
def kLs (x:D)(f:List D->Prop):Prop:=match x with
 | .ls ds=>f ds
 | _=>False
def gW (sp:FSp)(ds:List D)(μ:Mu)(Q:DK):Prop:=sp ds μ Q
def LEN (ds:List D)(P:Prop):Prop:=ds.length<=1000000/\P
theorem RG (d:D)(r:ST)(μ:Mu)(Q:DK):ah 0 (some d::r) μ Q=Q d μ:=propext Wx
theorem M9 (x0:Option D)(r:ST)(d:D)(μ:Mu)(k:ST->Mu->Prop):aw 0 d (x0::r) μ k=k (some d::r) μ:=propext Wx
theorem Pp (x0:Option D)(d:D)(r:ST)(μ:Mu)(Q:DK):ah 1 (x0::some d::r) μ Q=Q d μ:=propext Wx
theorem MP (x0 x1:Option D)(r:ST)(d:D)(μ:Mu)(k:ST->Mu->Prop):aw 1 d (x0::x1::r) μ k=k (x0::some d::r) μ:=propext Wx
theorem Pr (x0 x1:Option D)(d:D)(r:ST)(μ:Mu)(Q:DK):ah 2 (x0::x1::some d::r) μ Q=Q d μ:=propext Wx
theorem Ma (x0 x1 x2:Option D)(r:ST)(d:D)(μ:Mu)(k:ST->Mu->Prop):aw 2 d (x0::x1::x2::r) μ k=k (x0::x1::some d::r) μ:=propext Wx
theorem Rr (x0 x1 x2:Option D)(d:D)(r:ST)(μ:Mu)(Q:DK):ah 3 (x0::x1::x2::some d::r) μ Q=Q d μ:=propext Wx
theorem M1 (x0 x1 x2 x3:Option D)(r:ST)(d:D)(μ:Mu)(k:ST->Mu->Prop):aw 3 d (x0::x1::x2::x3::r) μ k=k (x0::x1::x2::some d::r) μ:=propext Wx
theorem Rz (x0 x1 x2 x3:Option D)(d:D)(r:ST)(μ:Mu)(Q:DK):ah 4 (x0::x1::x2::x3::some d::r) μ Q=Q d μ:=propext Wx
theorem LZ (x0 x1 x2 x3 x4:Option D)(r:ST)(d:D)(μ:Mu)(k:ST->Mu->Prop):aw 4 d (x0::x1::x2::x3::x4::r) μ k=k (x0::x1::x2::x3::some d::r) μ:=propext Wx
theorem OM (x0 x1 x2 x3 x4:Option D)(d:D)(r:ST)(μ:Mu)(Q:DK):ah 5 (x0::x1::x2::x3::x4::some d::r) μ Q=Q d μ:=propext Wx
theorem LY (x0 x1 x2 x3 x4 x5:Option D)(r:ST)(d:D)(μ:Mu)(k:ST->Mu->Prop):aw 5 d (x0::x1::x2::x3::x4::x5::r) μ k=k (x0::x1::x2::x3::x4::some d::r) μ:=propext Wx
theorem QR (x0 x1 x2 x3 x4 x5:Option D)(d:D)(r:ST)(μ:Mu)(Q:DK):ah 6 (x0::x1::x2::x3::x4::x5::some d::r) μ Q=Q d μ:=propext Wx
theorem L6 (x0 x1 x2 x3 x4 x5 x6:Option D)(r:ST)(d:D)(μ:Mu)(k:ST->Mu->Prop):aw 6 d (x0::x1::x2::x3::x4::x5::x6::r) μ k=k (x0::x1::x2::x3::x4::x5::some d::r) μ:=propext Wx
theorem OX (x0 x1 x2 x3 x4 x5 x6:Option D)(d:D)(r:ST)(μ:Mu)(Q:DK):ah 7 (x0::x1::x2::x3::x4::x5::x6::some d::r) μ Q=Q d μ:=propext Wx
theorem Lm (x0 x1 x2 x3 x4 x5 x6 x7:Option D)(r:ST)(d:D)(μ:Mu)(k:ST->Mu->Prop):aw 7 d (x0::x1::x2::x3::x4::x5::x6::x7::r) μ k=k (x0::x1::x2::x3::x4::x5::x6::some d::r) μ:=propext Wx
theorem OO (x0 x1 x2 x3 x4 x5 x6 x7:Option D)(d:D)(r:ST)(μ:Mu)(Q:DK):ah 8 (x0::x1::x2::x3::x4::x5::x6::x7::some d::r) μ Q=Q d μ:=propext Wx
theorem Nd (x0 x1 x2 x3 x4 x5 x6 x7 x8:Option D)(r:ST)(d:D)(μ:Mu)(k:ST->Mu->Prop):aw 8 d (x0::x1::x2::x3::x4::x5::x6::x7::x8::r) μ k=k (x0::x1::x2::x3::x4::x5::x6::x7::some d::r) μ:=propext Wx
theorem PM (x0 x1 x2 x3 x4 x5 x6 x7 x8:Option D)(d:D)(r:ST)(μ:Mu)(Q:DK):ah 9 (x0::x1::x2::x3::x4::x5::x6::x7::x8::some d::r) μ Q=Q d μ:=propext Wx
theorem MG (x0 x1 x2 x3 x4 x5 x6 x7 x8 x9:Option D)(r:ST)(d:D)(μ:Mu)(k:ST->Mu->Prop):aw 9 d (x0::x1::x2::x3::x4::x5::x6::x7::x8::x9::r) μ k=k (x0::x1::x2::x3::x4::x5::x6::x7::x8::some d::r) μ:=propext Wx
theorem Lp (x0 x1 x2 x3 x4 x5 x6 x7 x8 x9:Option D)(d:D)(r:ST)(μ:Mu)(Q:DK):ah 10 (x0::x1::x2::x3::x4::x5::x6::x7::x8::x9::some d::r) μ Q=Q d μ:=propext Wx
theorem Jl (x0 x1 x2 x3 x4 x5 x6 x7 x8 x9 x10:Option D)(r:ST)(d:D)(μ:Mu)(k:ST->Mu->Prop):aw 10 d (x0::x1::x2::x3::x4::x5::x6::x7::x8::x9::x10::r) μ k=k (x0::x1::x2::x3::x4::x5::x6::x7::x8::x9::some d::r) μ:=propext Wx
theorem KW (x0 x1 x2 x3 x4 x5 x6 x7 x8 x9 x10:Option D)(d:D)(r:ST)(μ:Mu)(Q:DK):ah 11 (x0::x1::x2::x3::x4::x5::x6::x7::x8::x9::x10::some d::r) μ Q=Q d μ:=propext Wx
theorem Gb (x0 x1 x2 x3 x4 x5 x6 x7 x8 x9 x10 x11:Option D)(r:ST)(d:D)(μ:Mu)(k:ST->Mu->Prop):aw 11 d (x0::x1::x2::x3::x4::x5::x6::x7::x8::x9::x10::x11::r) μ k=k (x0::x1::x2::x3::x4::x5::x6::x7::x8::x9::x10::some d::r) μ:=propext Wx
theorem Ln (x0 x1 x2 x3 x4 x5 x6 x7 x8 x9 x10 x11:Option D)(d:D)(r:ST)(μ:Mu)(Q:DK):ah 12 (x0::x1::x2::x3::x4::x5::x6::x7::x8::x9::x10::x11::some d::r) μ Q=Q d μ:=propext Wx
theorem IP (x0 x1 x2 x3 x4 x5 x6 x7 x8 x9 x10 x11 x12:Option D)(r:ST)(d:D)(μ:Mu)(k:ST->Mu->Prop):aw 12 d (x0::x1::x2::x3::x4::x5::x6::x7::x8::x9::x10::x11::x12::r) μ k=k (x0::x1::x2::x3::x4::x5::x6::x7::x8::x9::x10::x11::some d::r) μ:=propext Wx
theorem MC (x0 x1 x2 x3 x4 x5 x6 x7 x8 x9 x10 x11 x12:Option D)(d:D)(r:ST)(μ:Mu)(Q:DK):ah 13 (x0::x1::x2::x3::x4::x5::x6::x7::x8::x9::x10::x11::x12::some d::r) μ Q=Q d μ:=propext Wx
theorem Jj (x0 x1 x2 x3 x4 x5 x6 x7 x8 x9 x10 x11 x12 x13:Option D)(r:ST)(d:D)(μ:Mu)(k:ST->Mu->Prop):aw 13 d (x0::x1::x2::x3::x4::x5::x6::x7::x8::x9::x10::x11::x12::x13::r) μ k=k (x0::x1::x2::x3::x4::x5::x6::x7::x8::x9::x10::x11::x12::some d::r) μ:=propext Wx
theorem KU (x0 x1 x2 x3 x4 x5 x6 x7 x8 x9 x10 x11 x12 x13:Option D)(d:D)(r:ST)(μ:Mu)(Q:DK):ah 14 (x0::x1::x2::x3::x4::x5::x6::x7::x8::x9::x10::x11::x12::x13::some d::r) μ Q=Q d μ:=propext Wx
theorem J5 (x0 x1 x2 x3 x4 x5 x6 x7 x8 x9 x10 x11 x12 x13 x14:Option D)(r:ST)(d:D)(μ:Mu)(k:ST->Mu->Prop):aw 14 d (x0::x1::x2::x3::x4::x5::x6::x7::x8::x9::x10::x11::x12::x13::x14::r) μ k=k (x0::x1::x2::x3::x4::x5::x6::x7::x8::x9::x10::x11::x12::x13::some d::r) μ:=propext Wx
theorem LX (x0 x1 x2 x3 x4 x5 x6 x7 x8 x9 x10 x11 x12 x13 x14:Option D)(d:D)(r:ST)(μ:Mu)(Q:DK):ah 15 (x0::x1::x2::x3::x4::x5::x6::x7::x8::x9::x10::x11::x12::x13::x14::some d::r) μ Q=Q d μ:=propext Wx
theorem Jb (x0 x1 x2 x3 x4 x5 x6 x7 x8 x9 x10 x11 x12 x13 x14 x15:Option D)(r:ST)(d:D)(μ:Mu)(k:ST->Mu->Prop):aw 15 d (x0::x1::x2::x3::x4::x5::x6::x7::x8::x9::x10::x11::x12::x13::x14::x15::r) μ k=k (x0::x1::x2::x3::x4::x5::x6::x7::x8::x9::x10::x11::x12::x13::x14::some d::r) μ:=propext Wx
theorem UZ (d:D)(ρ:ST)(μ:Mu)(Q:DK):TC d ρ μ Q=Q d μ:=propext Wx
theorem R4 (r:DR2)(a b:ETr)(ρ:ST)(μ:Mu)(Q:DK):aj r a b ρ μ Q=a ρ μ λx μ1=>b ρ μ1 λy μ2=>r x y μ2 Q:=propext Wx
theorem Sw (r:DR)(a:ETr)(ρ:ST)(μ:Mu)(Q:DK):TUn r a ρ μ Q=a ρ μ λx μ1=>r x μ1 Q:=propext Wx
theorem Li (a b:ETr)(ρ:ST)(μ:Mu)(Q:DK):iz a b ρ μ Q=a ρ μ λx μ1=>kB x λc=>kIf c (b ρ μ1 Q) (Q (.bl false) μ1):=propext Wx
theorem Ll (a:ETr)(ρ:ST)(μ:Mu)(Q:DK):sR a ρ μ Q=a ρ μ λx μ1=>kB x λc=>Q (.bl (!c)) μ1:=propext Wx
theorem U4 (t:ETr)(ρ:ST)(μ:Mu)(Q:Bool->Mu->Prop):TB t ρ μ Q=t ρ μ λx μ1=>kB x λc=>Q c μ1:=propext Wx
theorem RS (t u:TTr)(ρ:ST)(μ:Mu)(Q:Bool->Mu->Prop):tL t u ρ μ Q=t ρ μ λc μ1=>kIf c (u ρ μ1 Q) (Q false μ1):=propext Wx
theorem Sf (t u:TTr)(ρ:ST)(μ:Mu)(Q:Bool->Mu->Prop):TOr t u ρ μ Q=t ρ μ λc μ1=>kIf c (Q true μ1) (u ρ μ1 Q):=propext Wx
theorem O1 (t:TTr)(ρ:ST)(μ:Mu)(Q:Bool->Mu->Prop):uY t ρ μ Q=t ρ μ λc μ1=>Q (!c) μ1:=propext Wx
theorem QU (c:TTr)(a b:ETr)(ρ:ST)(μ:Mu)(Q:DK):lC c a b ρ μ Q=c ρ μ λk μ1=>kIf k (a ρ μ1 Q) (b ρ μ1 Q):=propext Wx
theorem Im (r r':DR2)(a b c:ETr)(ρ:ST)(μ:Mu)(Q:DK):lr r r' a b c ρ μ Q=a ρ μ λx μ1=>b ρ μ1 λy μ2=>r x y μ2 λz μ3=>kB z λk=>kIf k (c ρ μ3 λy' μ4=>r' y y' μ4 Q) (Q (.bl false) μ3):=propext Wx
theorem RC (ρ:ST)(μ:Mu)(Q:List D->Mu->Prop):ar ρ μ Q=Q [] μ:=propext Wx
theorem Mn (a:ETr)(r:ATr)(ρ:ST)(μ:Mu)(Q:List D->Mu->Prop):af a r ρ μ Q=a ρ μ λx μ1=>r ρ μ1 λxs μ2=>Q (x::xs) μ2:=propext Wx
theorem PD (t:ATr)(ρ:ST)(μ:Mu)(Q:DK):bh t ρ μ Q=t ρ μ λds μ1=>LEN ds (Q (.tup ds) μ1):=propext Wx
theorem R8 (t:ATr)(ρ:ST)(μ:Mu)(Q:DK):fM t ρ μ Q=t ρ μ λds μ1=>LEN ds (Q (.ls ds) μ1):=propext Wx
theorem QL (t:ATr)(ρ:ST)(μ:Mu)(Q:DK):lF t ρ μ Q=t ρ μ λds μ1=>LEN ds (∀ p,μ1 p=none->Q (.obj p) (up μ1 p (.lst ds))):=propext Wx
theorem Kz (sp:FSp)(t:ATr)(ρ:ST)(μ:Mu)(Q:DK):aq sp t ρ μ Q=t ρ μ λds μ1=>gW sp ds μ1 Q:=propext Wx
theorem MY (nx:ST->Mu->Prop)(rt:DK)(bk ct:ST->Mu->Prop)(ρ:ST)(μ:Mu):a9 ⟨nx,rt,bk,ct⟩ ρ μ=nx ρ μ:=propext Wx
theorem Sa (t u:STr)(nx:ST->Mu->Prop)(rt:DK)(bk ct:ST->Mu->Prop)(ρ:ST)(μ:Mu):ay t u ⟨nx,rt,bk,ct⟩ ρ μ=t ⟨u ⟨nx,rt,bk,ct⟩,rt,bk,ct⟩ ρ μ:=propext Wx
theorem KS (e:ETr)(nx:ST->Mu->Prop)(rt:DK)(bk ct:ST->Mu->Prop)(ρ:ST)(μ:Mu):eU e ⟨nx,rt,bk,ct⟩ ρ μ=e ρ μ λ_ μ1=>nx ρ μ1:=propext Wx
theorem RZ (e:ETr)(nx:ST->Mu->Prop)(rt:DK)(bk ct:ST->Mu->Prop)(ρ:ST)(μ:Mu):aT e ⟨nx,rt,bk,ct⟩ ρ μ=e ρ μ rt:=propext Wx
theorem Qi (c:TTr)(t u:STr)(nx:ST->Mu->Prop)(rt:DK)(bk ct:ST->Mu->Prop)(ρ:ST)(μ:Mu):bI c t u ⟨nx,rt,bk,ct⟩ ρ μ=c ρ μ λb μ1=>kIf b (t ⟨nx,rt,bk,ct⟩ ρ μ1) (u ⟨nx,rt,bk,ct⟩ ρ μ1):=propext Wx
theorem QP (e:ETr)(g:GTr)(nx:ST->Mu->Prop)(rt:DK)(bk ct:ST->Mu->Prop)(ρ:ST)(μ:Mu):aN e g ⟨nx,rt,bk,ct⟩ ρ μ=e ρ μ λd μ1=>g d ρ μ1 nx:=propext Wx
theorem RA (i j:Nat)(a:ATr)(nx:ST->Mu->Prop)(rt:DK)(bk ct:ST->Mu->Prop)(ρ:ST)(μ:Mu):pz i j a ⟨nx,rt,bk,ct⟩ ρ μ=a ρ μ λds μ1=>k2 ds λv w=>aw i v ρ μ1 λρ2 μ2=>aw j w ρ2 μ2 nx:=propext Wx
theorem Q3 (it:ATr)(g:GTr)(b:STr)(nx:ST->Mu->Prop)(rt:DK)(bk ct:ST->Mu->Prop)(ρ:ST)(μ:Mu):iR it g b ⟨nx,rt,bk,ct⟩ ρ μ=it ρ μ λds μ1=>forR g b ⟨nx,rt,bk,ct⟩ ds ρ μ1:=propext Wx
theorem EZ (a:ETr)(ρ:ST)(μ:Mu)(Q:List D->Mu->Prop):fi a ρ μ Q=a ρ μ λx μ1=>kI x λj=>(-4611686018427387904<=j/\j < 4611686018427387904)/\Q (ck 0 j.toNat) μ1:=propext Wx
theorem ko (a:ETr)(ρ:ST)(μ:Mu)(Q:List D->Mu->Prop):TR (af a ar) ρ μ Q=a ρ μ λx μ1=>kLs x λds=>Q (kG ds) μ1:=propext (Iff.of_eq (congrArg (a ρ μ) (funext λx=>funext λμ1=>by cases x<;>rfl)))
theorem RW (a:ETr)(ρ:ST)(μ:Mu)(Q:DK):wu a ρ μ Q=a ρ μ λx μ1=>kObj x λb=>kL μ1 b λds=>Q (.ls ds) (dn μ1 b):=propext Wx
theorem QA (To Te:ETr)(ρ:ST)(μ:Mu)(Q:DK):mT To Te ρ μ Q=To ρ μ λx μ1=>kObj x λa=>kL μ1 a λ_=>Te ρ μ1 λy μ2=>kL μ2 a λds=>ds.length < 1000000/\Q .non (up μ2 a (.lst (ds++[y]))):=propext Wx
theorem Sm (a:ETr)(lo hi:OTr)(ρ:ST)(μ:Mu)(Q:DK):TSl a lo hi ρ μ Q=a ρ μ λx μ1=>lo ρ μ1 λl μ2=>hi ρ μ2 λh μ3=>rSl x l h μ3 Q:=propext Wx
theorem UG (ρ:ST)(μ:Mu)(Q:Option Int->Mu->Prop):ONo ρ μ Q=Q none μ:=propext Wx
theorem QT (T:ETr)(ρ:ST)(μ:Mu)(Q:Option Int->Mu->Prop):ky T ρ μ Q=T ρ μ λx μ1=>kI x λi=>Q (some i) μ1:=propext Wx
theorem Qu (i0 i1:Nat)(d0 d1:D)(ρ:ST)(μ:Mu)(k:ST->Mu->Prop):dh [i0,i1] (.tup [d0,d1]) ρ μ k=aw i0 d0 ρ μ λρ1 _=>aw i1 d1 ρ1 μ λρ2 _=>k ρ2 μ:=by simp[dh,jG,aw]
theorem O0 (i0 i1 i2:Nat)(d0 d1 d2:D)(ρ:ST)(μ:Mu)(k:ST->Mu->Prop):dh [i0,i1,i2] (.tup [d0,d1,d2]) ρ μ k=aw i0 d0 ρ μ λρ1 _=>aw i1 d1 ρ1 μ λρ2 _=>aw i2 d2 ρ2 μ λρ3 _=>k ρ3 μ:=by simp[dh,jG,aw]
theorem Pl (i0 i1 i2 i3:Nat)(d0 d1 d2 d3:D)(ρ:ST)(μ:Mu)(k:ST->Mu->Prop):dh [i0,i1,i2,i3] (.tup [d0,d1,d2,d3]) ρ μ k=aw i0 d0 ρ μ λρ1 _=>aw i1 d1 ρ1 μ λρ2 _=>aw i2 d2 ρ2 μ λρ3 _=>aw i3 d3 ρ3 μ λρ4 _=>k ρ4 μ:=by simp[dh,jG,aw]
theorem SE (P:Prop):LEN [] P=P:=by simp[LEN]
theorem Ts (x0:D)(P:Prop):LEN [x0] P=P:=by simp[LEN]
theorem S3 (x0 x1:D)(P:Prop):LEN [x0,x1] P=P:=by simp[LEN]
theorem Uo (x0 x1 x2:D)(P:Prop):LEN [x0,x1,x2] P=P:=by simp[LEN]
theorem SG (x0 x1 x2 x3:D)(P:Prop):LEN [x0,x1,x2,x3] P=P:=by simp[LEN]
theorem UD (x0 x1 x2 x3 x4:D)(P:Prop):LEN [x0,x1,x2,x3,x4] P=P:=by simp[LEN]
theorem Sd (x0 x1 x2 x3 x4 x5:D)(P:Prop):LEN [x0,x1,x2,x3,x4,x5] P=P:=by simp[LEN]
theorem Tg (x0 x1 x2 x3 x4 x5 x6 x7:D)(P:Prop):LEN [x0,x1,x2,x3,x4,x5,x6,x7] P=P:=by simp[LEN]
theorem RM (x0 x1 x2 x3 x4 x5 x6 x7 x8 x9 x10:D)(P:Prop):LEN [x0,x1,x2,x3,x4,x5,x6,x7,x8,x9,x10] P=P:=by simp[LEN]
theorem Rx (x0:D)(r:List D)(μ:Mu)(Q:DK):L3.rIx (.tup (x0::r)) (.int 0) μ Q=Q x0 μ:=by rw[rq];exact congrArg (λo=>kO o λd=>Q d μ) (b8 0 _)
theorem R6 (x0 x1:D)(r:List D)(μ:Mu)(Q:DK):L3.rIx (.tup (x0::x1::r)) (.int 1) μ Q=Q x1 μ:=by rw[rq];exact congrArg (λo=>kO o λd=>Q d μ) (b8 1 _)
theorem Rw (x0 x1 x2:D)(r:List D)(μ:Mu)(Q:DK):L3.rIx (.tup (x0::x1::x2::r)) (.int 2) μ Q=Q x2 μ:=by rw[rq];exact congrArg (λo=>kO o λd=>Q d μ) (b8 2 _)
theorem RF (x0 x1 x2 x3:D)(r:List D)(μ:Mu)(Q:DK):L3.rIx (.tup (x0::x1::x2::x3::r)) (.int 3) μ Q=Q x3 μ:=by rw[rq];exact congrArg (λo=>kO o λd=>Q d μ) (b8 3 _)
theorem RU (i j:Int)(μ:Mu)(Q:DK):L3.rEq (.int i) (.int j) μ Q=Q (.bl (decide (i=j))) μ:=by simp[L3.rEq,okD,eqD]
theorem Pk (i j:Str)(μ:Mu)(Q:DK):L3.rEq (.str i) (.str j) μ Q=((WD i=true/\WD j=true)/\Q (.bl (decide (i=j))) μ):=by simp[L3.rEq,okD,eqD]
theorem Pj (i j:Str)(μ:Mu)(Q:DK):L3.rNe (.str i) (.str j) μ Q=((WD i=true/\WD j=true)/\Q (.bl (!decide (i=j))) μ):=by simp[L3.rNe,okD,eqD]
theorem RV (i j:Bool)(μ:Mu)(Q:DK):L3.rNe (.bl i) (.bl j) μ Q=Q (.bl (!(i == j))) μ:=by simp[L3.rNe,okD,eqD]
theorem RO (i:Int)(μ:Mu)(Q:DK):gW zE [.int i] μ Q=Q (.int (if i < 0 then -i else i)) μ:=propext Wx
theorem O3 (i j:Int)(μ:Mu)(Q:DK):gW ua [.int i,.int j] μ Q=Q (.int (max i j)) μ:=by show Q (.int (if j > i then j else i)) μ=_;congr 2;omega
theorem Qe (i j:Int)(μ:Mu)(Q:DK):gW uv [.int i,.int j] μ Q=Q (.int (min i j)) μ:=by show Q (.int (if j < i then j else i)) μ=_;congr 2;omega
theorem Ry (i:Bool)(μ:Mu)(Q:DK):gW AL [.bl i] μ Q=Q (.int (if i then 1 else 0)) μ:=propext Wx
theorem Jc (a:List D)(μ:Mu)(Q:DK):gW bu [.tup a] μ Q=Q (.tup a) μ:=propext Wx
theorem Jk (a:List D)(μ:Mu)(Q:DK):gW bu [.ls a] μ Q=Q (.tup a) μ:=propext Wx
theorem J7 (a:Addr)(μ:Mu)(Q:DK):gW bu [.obj a] μ Q=kL μ a λxs=>Q (.tup xs) μ:=propext Wx
theorem Kn (a:List D)(μ:Mu)(Q:DK):gW jN [.ls a] μ Q=Q (.ls a) μ:=propext Wx
theorem Kv (a:List D)(μ:Mu)(Q:DK):gW jq [.tup a] μ Q = ∀ p,μ p=none->Q (.obj p) (up μ p (.lst a)):=propext Wx
theorem QW (a:Addr)(μ:Mu)(Q:DK):gW cQ [.obj a] μ Q=kL μ a λxs=>Q (.int xs.length) μ:=propext Wx
theorem RK (x:Str)(μ:Mu)(Q:DK):gW cQ [.str x] μ Q=(x.length<=1000000/\Q (.int x.length) μ):=propext Wx
theorem nC (a:List D)(μ:Mu)(Q:DK):gW cQ [.tup a] μ Q=Q (.int a.length) μ:=propext Wx
theorem nH (a:List D)(μ:Mu)(Q:DK):gW cQ [.ls a] μ Q=Q (.int a.length) μ:=propext Wx
theorem Fd (n:Nat)(i:Int):okD n (.int i)=true:=by cases n<;>simp[okD]
theorem y3 (n:Nat)(x:Str):okD n (.str x)=WD x:=by cases n<;>simp[okD]
theorem E4 (n:Nat)(ds:List D):okD (n+1) (.tup ds)=b7 n ds:=by simp[okD]
theorem E1 (n:Nat)(ds:List D):okD (n+1) (.ls ds)=b7 n ds:=by simp[okD]
theorem kg (n:Nat):b7 n []=true:=by simp[b7]
theorem fo (n:Nat)(d:D)(r:List D):b7 n (d::r)=(okD n d&&b7 n r):=by simp[b7]
theorem qH (i j:Int):eqD (.int i) (.int j)=decide (i=j):=by simp[eqD]
theorem kK (i j:Str):eqD (.str i) (.str j)=decide (i=j):=by simp[eqD]
theorem ur (a b:List D):eqD (.tup a) (.tup b)=jZ a b:=by simp[eqD]
theorem uC (a b:List D):eqD (.ls a) (.ls b)=jZ a b:=by simp[eqD]
theorem km  : jZ [] []=true:=by simp[jZ]
theorem iw (a b:D)(r s:List D):jZ (a::r) (b::s)=(eqD a b&&jZ r s):=by simp[jZ]
theorem Nt (A B:Prop):kIf true A B=A:=propext Wx
theorem LQ (A B:Prop):kIf false A B=B:=propext Wx
theorem Nn (c:Bool)(f):kB (.bl c) f=f c:=propext Wx
theorem J4 (c:Int)(f):kI (.int c) f=f c:=propext Wx
theorem Em (c:D)(f):kO (some c) f=f c:=propext Wx
theorem Gx (c:List D)(f):kS (.tup c) f=f c:=propext Wx
theorem Lw (c:List D)(f):kS (.ls c) f=f c:=propext Wx
theorem Ju (a b:D)(f):k2 [a,b] f=f a b:=propext Wx
theorem ED (c:Nat)(f):kN (some c) f=f c:=propext Wx
theorem DI (i j:Int)(μ Q):aO (.int i) (.int j) μ Q=Q (.int (i+j)) μ:=propext Wx
theorem E5 (a b:List D)(μ Q):aO (.tup a) (.tup b) μ Q=(a.length+b.length<=1000000/\Q (.tup (a++b)) μ):=propext Wx
theorem D6 (a b:List D)(μ Q):aO (.ls a) (.ls b) μ Q=(a.length+b.length<=1000000/\Q (.ls (a++b)) μ):=propext Wx
theorem Iw (i j:Int)(μ Q):je (.int i) (.int j) μ Q=Q (.int (i - j)) μ:=propext Wx
theorem Hi (i j:Int)(μ Q):eJ (.int i) (.int j) μ Q=(MulOk i j/\Q (.int (i*j)) μ):=propext Wx
theorem Jz (i j:Int)(μ Q):nJ (.int i) (.int j) μ Q=(jE j/\Q (.int (i.fdiv j)) μ):=propext Wx
theorem GR (i j:Int)(μ Q):mP (.int i) (.int j) μ Q=(j≠0/\Q (.int (i.fmod j)) μ):=propext Wx
theorem Hr (i j:Int)(μ Q):IA (.int i) (.int j) μ Q=(sC i j/\Q (.int (i ^ j.toNat)) μ):=propext Wx
theorem Na (i j:Int)(μ Q):rLt (.int i) (.int j) μ Q=Q (.bl (decide (i < j))) μ:=propext Wx
theorem M3 (i j:Int)(μ Q):rLe (.int i) (.int j) μ Q=Q (.bl (decide (i<=j))) μ:=propext Wx
theorem MR (i j:Int)(μ Q):rGt (.int i) (.int j) μ Q=Q (.bl (decide (j < i))) μ:=propext Wx
theorem Kw (i j:Int)(μ Q):rGe (.int i) (.int j) μ Q=Q (.bl (decide (j<=i))) μ:=propext Wx
theorem IX (c:String)(i:Int)(μ Q):eS c (.int i) μ Q=Q (.bl (eP "int" c)) μ:=propext Wx
theorem G4 (c:String)(i:List D)(μ Q):eS c (.tup i) μ Q=Q (.bl (eP "tuple" c)) μ:=propext Wx
theorem Hz (c:String)(i:List D)(μ Q):eS c (.ls i) μ Q=Q (.bl (eP "list" c)) μ:=propext Wx
theorem JD (c:String)(i:Str)(μ Q):eS c (.str i) μ Q=Q (.bl (eP "str" c)) μ:=propext Wx
theorem JP (c:String)(μ Q):eS c .non μ Q=Q (.bl (eP "NoneType" c)) μ:=propext Wx
theorem Ld (μ Q):rIs .non .non μ Q=Q (.bl true) μ:=propext Wx
theorem L4 (i:Int)(μ Q):rIs (.int i) .non μ Q=Q (.bl false) μ:=propext Wx
theorem MV (i:List D)(μ Q):rIs (.tup i) .non μ Q=Q (.bl false) μ:=propext Wx
theorem K4 (a:List D)(lo hi)(μ Q):rSl (.tup a) lo hi μ Q=Q (.tup (cutD a lo hi)) μ:=propext Wx
theorem My (a:List D)(lo hi)(μ Q):rSl (.ls a) lo hi μ Q=Q (.ls (cutD a lo hi)) μ:=propext Wx
theorem ke (ds:List D)(i:Int)(μ Q):L3.rIx (.tup ds) (.int i) μ Q=kO (atD ds i) λd=>Q d μ:=propext Wx
theorem ka (ds:List D)(i:Int)(μ Q):L3.rIx (.ls ds) (.int i) μ Q=kO (atD ds i) λd=>Q d μ:=propext Wx
theorem kn (x y:D)(μ Q):L3.rEq x y μ Q=((okD 40 x=true/\okD 40 y=true)/\Q (.bl (eqD x y)) μ):=propext Wx
theorem j3 (x y:D)(μ Q):L3.rNe x y μ Q=((okD 40 x=true/\okD 40 y=true)/\Q (.bl (!eqD x y)) μ):=propext Wx
theorem kif {p:Prop} [Decidable p] {A B:Prop}(h1:p->A)(h2:¬ p->B):kIf (decide p) A B:=by
 by_cases h:p
 ·rw[decide_eq_true h];exact h1 h
 ·rw[decide_eq_false h];exact h2 h
theorem Vo {p:Prop} [Decidable p] {A B:Prop}(h1:¬ p->A)(h2:p->B):kIf (!decide p) A B:=by
 by_cases h:p
 ·rw[decide_eq_true h];exact h2 h
 ·rw[decide_eq_false h];exact h1 h
theorem sT {p:Prop} [Decidable p] {A B:Prop}(h:p)(hA:A):kIf (decide p) A B:=by rw[decide_eq_true h];exact hA
theorem zU {p:Prop} [Decidable p] {A B:Prop}(h:¬ p)(hB:B):kIf (decide p) A B:=by rw[decide_eq_false h];exact hB
theorem Jf {p:Prop} [Decidable p] {A B:Prop}(h:p)(hB:B):kIf (!decide p) A B:=by rw[decide_eq_true h];exact hB
theorem Sl {c:Bool}{A B:Prop}(h1:c=true->A)(h2:c=false->B):kIf c A B:=by
 cases c
 ·exact h2 rfl
 ·exact h1 rfl
theorem Od {o:Option D}{d:D}{f:D->Prop}(e:o=some d)(h:f d):kO o f:=by rw[e];exact h
theorem br {μ:Mu}{a:Addr}{ds:List D}{f:List D->Prop}(e:μ a=some (.lst ds))(h:f ds):kL μ a f:=by rw[Uq e];exact h
section
open PySem PySem.Spec PyProof.Rows L2
def Oq (kvs:List (Str×D))(s:Str):Option D:=(kvs.find? λkv=>decide (kv.1=s)).map (·.2)
def Dj (K:Wq):List DictEntry->List (Str×D)->Prop
 | [],[]=>True
 | e::es,(x,d)::r=>(∃ t,e.key=.str x t)/\(∃ v,RelV v e.val/\∀ H,Dp K H v d)/\Dj K es r
 | _,_=>False
theorem y4 (s x:Str)(t:Tok):Y2 s (.str x t)=decide (x=s):=by
 by_cases h:x=s
 ·subst h;simp[Y2]
 ·rw[decide_eq_false h];simp[Y2];first | exact h | exact λz=>h z.symm
theorem Dj.find {K:Wq}(s:Str):∀ {es:List DictEntry} {kvs:List (Str×D)},Dj K es kvs->
  match Oq kvs s with
  | none=>(es.find? λe=>Y2 s e.key)=none
  | some d=>∃ e v,(es.find? λe=>Y2 s e.key)=some e/\RelV v e.val/\∀ H,Dp K H v d
 | [],[],_=>rfl
 | e::es,(x,d)::r,h=>by
  obtain ⟨⟨t,ht⟩,⟨v,rv,pv⟩,hr⟩:=h
  have ih:=Dj.find s hr
  unfold Oq at ih ⊢
  rw[XB,XB,ht,y4]
  by_cases hx:x=s
  ·simp only[decide_eq_true hx,zdR]
   exact ⟨e,v,rfl,rv,pv⟩
  ·simp only[decide_eq_false hx]
   exact ih
 | [],_::_,h=>WA h
 | _::_,[],h=>WA h
section
variable {X:Cx} {a b c e:W4} {Ta Tb Te:ETr} {pos gpos:Pos} {x:Str} {kvs:List (Str×D)}
end
section
variable {X:Cx} {a b:W4} {Ta Tb:ETr} {pos:Pos}
end
end
section
open PySem PySem.Spec PyProof.Rows L2
def cF {κ:Type} [DecidableEq κ] (kvs:List (κ×D))(k:κ):Option D:=(kvs.find? λkv=>decide (kv.1=k)).map (·.2)
def putD {κ:Type} [DecidableEq κ] (kvs:List (κ×D))(k:κ)(v:D):List (κ×D):=
 if (kvs.any λkv=>decide (kv.1=k))=true then kvs.map (λkv=>if kv.1=k then (kv.1,v) else kv) else kvs++[(k,v)]
def tG (x:D)(f:Key->Prop):Prop:=match x with
 | .int i=>f (.inl i)
 | .str s=>f (.inr s)
 | _=>False
theorem DpK.nil {κ:Type}{K:Wq}{H:Hp}:DpK (κ:=κ) K H [] []:=⟨rfl,.nil⟩
theorem DpK.cons {κ:Type}{K:Wq}{H:Hp}{k:κ}{v:V}{d:D}{xs:List (κ×V)}{kvs:List (κ×D)}(h:Dp K H v d)(r:DpK K H xs kvs):DpK K H ((k,v)::xs) ((k,d)::kvs):=
 ⟨by simp[r.1],.cons h r.2⟩
theorem DpK.ind {κ:Type}{K:Wq}{H:Hp}{P:List (κ×V)->List (κ×D)->Prop}(h0:P [] [])(h1:∀ k v d xs kvs,Dp K H v d->DpK K H xs kvs->P xs kvs->P ((k,v)::xs) ((k,d)::kvs)) :
  ∀ {xs:List (κ×V)} {kvs:List (κ×D)},DpK K H xs kvs->P xs kvs
 | [],[],_=>h0
 | [],_::_,h=>by cases h.1
 | _::_,[],h=>by cases h.1
 | (k,v)::xs,(k',d)::kvs,h=>by
  obtain ⟨h2,h3⟩:=h
  simp only[WN,List.cons.injEq] at h2
  obtain ⟨rfl,h2⟩:=h2
  cases h3 with
  | cons p l=>exact h1 k v d xs kvs p ⟨h2,l⟩ (DpK.ind h0 h1 ⟨h2,l⟩)
theorem DpK.look {κ:Type} [DecidableEq κ] {K:Wq}{H:Hp}{xs:List (κ×V)}{kvs:List (κ×D)}(h:DpK K H xs kvs)(k:κ) :
  (cF kvs k=none/\gT xs k=none)∨∃ v d,cF kvs k=some d/\gT xs k=some v/\Dp K H v d:=by
 refine DpK.ind (P:=λxs kvs=>(cF kvs k=none/\gT xs k=none)∨∃ v d,cF kvs k=some d/\gT xs k=some v/\Dp K H v d) (.inl ⟨rfl,rfl⟩) (λj v d xs kvs p _ ih=>?_) h
 by_cases e:j=k
 ·refine .inr ⟨v,d,?_,lU (p:=(j,v)) e,p⟩
  unfold cF;rw[XB];simp[e]
 ·have e1:cF ((j,d)::kvs) k=cF kvs k:=by unfold cF;rw[XB];simp[e]
  rw[e1,mJ (p:=(j,v)) e]
  exact ih
theorem DpK.any {κ:Type} [DecidableEq κ] {K:Wq}{H:Hp}{xs:List (κ×V)}{kvs:List (κ×D)}(h:DpK K H xs kvs)(k:κ):(xs.any λkv=>decide (kv.1=k))=kvs.any λkv=>decide (kv.1=k):=by
 refine DpK.ind (P:=λxs kvs=>(xs.any λkv=>decide (kv.1=k))=kvs.any λkv=>decide (kv.1=k)) rfl (λj v d xs kvs p _ ih=>?_) h
 rw[YG,YG,ih]
theorem DpK.put {κ:Type} [DecidableEq κ] {K:Wq}{H:Hp}{xs:List (κ×V)}{kvs:List (κ×D)}(h:DpK K H xs kvs)(k:κ){v:V}{d:D}(p:Dp K H v d):DpK K H (putK xs k v) (putD kvs k d):=by
 unfold putK putD
 rw[h.any k]
 split
 ·refine DpK.ind (P:=λxs kvs=>DpK K H (xs.map λkv=>if kv.1=k then (kv.1,v) else kv) (kvs.map λkv=>if kv.1=k then (kv.1,d) else kv)) .nil (λj v' d' xs kvs p' _ ih=>?_) h
  rw[WN,WN]
  by_cases e:j=k
  ·rw[if_pos e,if_pos e];exact .cons p ih
  ·rw[if_neg e,if_neg e];exact .cons p' ih
 ·refine DpK.ind (P:=λxs kvs=>DpK K H (xs++[(k,v)]) (kvs++[(k,d)])) (.cons p .nil) (λj v' d' xs kvs p' _ ih=>?_) h
  exact .cons p' ih
theorem DpK.length {κ:Type}{K:Wq}{H:Hp}{xs:List (κ×V)}{kvs:List (κ×D)}(h:DpK K H xs kvs):xs.length=kvs.length:=by
 have:=h.2.length
 simpa using this
theorem mN {K:Wq}{H:Hp}{y:V}{dy:D}{f:Key->Prop}(p:Dp K H y dy)(h:tG dy f):∃ k,y=kV k/\f k:=by
 cases p with
 | int i=>exact ⟨.inl i,rfl,h⟩
 | str s=>exact ⟨.inr s,rfl,h⟩
 | _=>exact WA h
theorem fk {K:Wq}{H:Hp}{x:V}{dx:D}{f:Addr->Prop}(p:Dp K H x dx)(h:kObj dx f):∃ a,x=.ref a/\f a:=by
 cases p with
 | obj a=>exact ⟨a,rfl,h⟩
 | _=>exact WA h
theorem sj {H:Hp}{q:Addr}{u:HO}{xs:List (Key×V)}(ex:H q=some (.dK xs)):Tk H (L2.upd H q u):=
 .upd (λys z=>by rw[ex] at z;cases z) λo' w z=>by rw[ex] at z;cases z
theorem AF {K:Wq}{H:Hp}{μ:Mu}{q:Addr}{xs ys:List (Key×V)}{ds:List (Key×D)}(m:bE K H μ)(ex:H q=some (.dK xs))(l:DpK K H ys ds):bE K (L2.upd H q (.dK ys)) (up μ q (.dct ds)):=λz y ez=>by
 by_cases zq:z=q
 ·subst zq
  rw[aF] at ez;cases ez
  exact ⟨ys,aK,l.mono (sj ex)⟩
 ·rw[aS zq] at ez
  exact (m z _ ez).ne (sj ex) zq
theorem Dx {K:Wq}{H:Hp}{μ:Mu}{q:Addr}{ys:List (Key×V)}{ds:List (Key×D)}(m:bE K H μ)(hq:H q=none)(l:DpK K H ys ds):bE K (L2.upd H q (.dK ys)) (up μ q (.dct ds)):=λz y ez=>by
 by_cases zq:z=q
 ·subst zq
  rw[aF] at ez;cases ez
  exact ⟨ys,aK,l.mono (.new hq)⟩
 ·rw[aS zq] at ez
  exact bV m hq z y ez
section
variable {X:Cx} {o i a b c e value:W4} {To Ti Ta Tb Te:ETr} {pos tpos:Pos}
theorem hu1 (hu:X.A.units+64 < cLine):X.A.units+1 < cLine:=by omega
def bK (To Ti:ETr):ETr:=λρ μ Q=>To ρ μ λx μ1=>Ti ρ μ1 λy μ2=>kObj x λa=>kD μ2 a λkvs=>tG y λk=>kO (cF kvs k) λd=>Q d μ2
theorem cA (hu:X.A.units+64 < cLine)(ho:LE X o To)(hi:LE X i Ti)(hs:QZ i:=by intro _ _;rfl):LE X (.Subscript o i pos) (bK To Ti):=by
 obtain ⟨to,po,so⟩:=ho.ex
 obtain ⟨ti,pi,si⟩:=hi.ex
 refine ⟨_,KQ (hu1 hu) po pi hs,λσ H ρ μ Q Q' rl h k=>so σ H ρ μ _ _ rl h λx H1 dx μ1 t1 m1 p1 h1=>si σ H1 ρ μ1 _ _ (rl.go t1 m1) h1 λy H2 dy μ2 t2 m2 p2 h2=>?_⟩
 obtain ⟨q,rfl,h2⟩:=fk p1 h2
 obtain ⟨kvs,e0,h2⟩:=qU h2
 obtain ⟨kk,rfl,h2⟩:=mN p2 h2
 obtain ⟨d,e1,h2⟩:=kX h2
 obtain ⟨xs,ex,l⟩:=m2 q _ e0
 rcases l.look kk with ⟨z,_⟩ | ⟨v,d',z,ev,pv⟩
 ·rw[z] at e1;cases e1
 ·rw[z] at e1;cases e1
  exact ⟨q,v,rfl,by rw[← ev];exact m8.k ex,k _ H2 _ μ2 (t1.trans t2) m2 pv h2⟩
def i7 (To Ti Te:ETr):STr:=λE ρ μ=>Te ρ μ λv μ1=>To ρ μ1 λx μ2=>Ti ρ μ2 λy μ3=>kObj x λa=>kD μ3 a λkvs=>tG y λk=>kvs.length < 1000000/\E.nx ρ (up μ3 a (.dct (putD kvs k v)))
theorem l6 (hu:X.A.units+64 < cLine)(ho:LE X o To)(hi:LE X i Ti)(he:LE X value Te)(hs:Yz value (some (.Subscript o i tpos)) pos.line X.env=pure false:=by rfl) :
  LS X (.Assign [.Subscript o i tpos] value pos) (i7 To Ti Te):=by
 obtain ⟨to,po,so⟩:=ho.ex
 obtain ⟨ti,pi,si⟩:=hi.ex
 obtain ⟨te,pe,se⟩:=he.ex
 refine ⟨_,Dk (hu1 hu) po pi pe hs,λσ H ρ μ E E' rl h k=>se σ H ρ μ _ _ rl h λv H1 dv μ1 t1 m1 p1 h1=>so σ H1 ρ μ1 _ _ (rl.go t1 m1) h1 λx H2 dx μ2 t2 m2 p2 h2=>
  si σ H2 ρ μ2 _ _ (rl.go (t1.trans t2) m2) h2 λy H3 dy μ3 t3 m3 p3 h3=>?_⟩
 obtain ⟨q,rfl,h3⟩:=fk p2 h3
 obtain ⟨kvs,e0,h3⟩:=qU h3
 obtain ⟨kk,rfl,h3⟩:=mN p3 h3
 obtain ⟨xs,ex,l⟩:=m3 q _ e0
 have t4:Tk H3 (L2.upd H3 q (.dK (putK xs kk v))):=sj ex
 have t14:=t1.trans (t2.trans (t3.trans t4))
 refine ⟨q,_,rfl,tT.k ex (by rw[l.length];exact WV h3.1 (by decide)),k.nx _ _ ρ _ t14 (rl.go t14 (AF m3 ex (l.put kk (p1.mono (t2.trans t3))))) h3.2⟩
def mw (f:Int->Int->Int)(To Ti Te:ETr):STr:=λE ρ μ=>To ρ μ λx μ1=>Ti ρ μ1 λy μ2=>kObj x λa=>kD μ2 a λkvs=>tG y λk=>kO (cF kvs k) λd=>kI d λm=>
 Te ρ μ2 λw μ3=>kI w λn=>kD μ3 a λkvs3=>kvs3.length < 1000000/\E.nx ρ (up μ3 a (.dct (putD kvs3 k (.int (f m n)))))
theorem F3 {to ti te:TE}{K:Wq}{f:Int->Int->Int}{rd:V->V->Hp->VK->Prop}(hrd:∀ i j H Q,Q (.int (f i j)) H->rd (.int i) (.int j) H Q)(so:Sim K to To)(si:Sim K ti Ti)(se:Sim K te Te) :
  Iy K (Oa to ti te rd) (mw f To Ti Te):=λσ H ρ μ E E' rl h k=>so σ H ρ μ _ _ rl h λx H1 dx μ1 t1 m1 p1 h1=>si σ H1 ρ μ1 _ _ (rl.go t1 m1) h1 λy H2 dy μ2 t2 m2 p2 h2=>by
  obtain ⟨q,rfl,h2⟩:=fk p1 h2
  obtain ⟨kvs,e0,h2⟩:=qU h2
  obtain ⟨kk,rfl,h2⟩:=mN p2 h2
  obtain ⟨d,e1,h2⟩:=kX h2
  obtain ⟨xs,ex,l⟩:=m2 q _ e0
  rcases l.look kk with ⟨z,_⟩ | ⟨v,d',z,ev,pv⟩
  ·rw[z] at e1;cases e1
  ·rw[z] at e1;cases e1
   cases pv with
   | int m=>
    refine ⟨q,.int m,rfl,by rw[← ev];exact m8.k ex,se σ H2 ρ μ2 _ _ (rl.go (t1.trans t2) m2) h2 λw H3 dw μ3 t3 m3 p3 h3=>?_⟩
    cases p3 with
    | int n=>
     obtain ⟨kvs3,e3,h3⟩:=qU (show kD μ3 q _ from h3)
     obtain ⟨xs3,ex3,l3⟩:=m3 q _ e3
     have t4:Tk H3 (L2.upd H3 q (.dK (putK xs3 kk (.int (f m n))))):=sj ex3
     have t14:=t1.trans (t2.trans (t3.trans t4))
     exact hrd m n H3 _ ⟨_,tT.k ex3 (by rw[l3.length];exact WV h3.1 (by decide)),k.nx _ _ ρ _ t14 (rl.go t14 (AF m3 ex3 (l3.put kk (.int _)))) h3.2⟩
    | _=>exact WA h3
   | _=>exact WA h2
theorem kZ (hu:X.A.units+64 < cLine)(ho:LE X o To)(hi:LE X i Ti)(he:LE X value Te)(ha:∀ ov iv new,augStore i ov iv new=(do zbw [new,ov,iv] (setItem ov iv new);release [new,ov,iv] [];pure .next):=by intros;rfl) :
  LS X (.AugAssign (.Subscript o i tpos) .Add value pos) (mw (λm n=>m+n) To Ti Te):=by
 obtain ⟨to,po,so⟩:=ho.ex
 obtain ⟨ti,pi,si⟩:=hi.ex
 obtain ⟨te,pe,se⟩:=he.ex
 exact ⟨_,Mi (hu1 hu) po pi pe Qg ha,F3 (λi j H Q q=>⟨i,j,rfl,rfl,q⟩) so si se⟩
def MT (f:Int->Int->Int)(i:Nat)(Te:ETr):STr:=λE ρ μ=>kO (lk ρ i) λd=>kI d λm=>Te ρ μ λw μ1=>kI w λn=>aw i (.int (f m n)) ρ μ1 E.nx
theorem LF {te:TE}{K:Wq}{f:Int->Int->Int}{j:Nat}(se:Sim K te Te):Iy K (Sj j te (ipI f)) (MT f j Te):=λσ H ρ μ E E' rl h k=>by
 obtain ⟨d,e1,h⟩:=kX h
 obtain ⟨v,ev,pv⟩:=rl.loc j d e1
 cases pv with
 | int m=>
  refine ⟨.int m,ev,se σ H ρ μ _ _ rl h λw H1 dw μ1 t1 m1 p1 h1=>?_⟩
  cases p1 with
  | int n=>exact ⟨m,n,rfl,rfl,k.nx _ _ _ _ t1 ((rl.go t1 m1).set (.int _) j) h1⟩
  | _=>exact WA h1
 | _=>exact WA h
theorem Ek (j:Nat){x:Str}(hN:X.N.Nodup)(he:LE X e Te)(hi:X.N[j]? = some x:=by rfl)(hx:Loc X.env.scope x:=by first | exact ZX rfl | exact ZY rfl)(hf:X.fn x=true∨X.env.scope.names.lookup x=some .local:=by first | exact .inl rfl | exact .inr rfl | assumption) :
  LS X (.AugAssign (.Name x tpos) .Add e pos) (MT (λm n=>m+n) j Te):=by
 obtain ⟨te,pe,se⟩:=he.ex
 exact ⟨_,Pg hN hi hx pe Ql hf,LF se⟩
def U1 (K:Wq)(trs:List (TE×TE))(ks:List Key)(T:ATr):Prop:=∀ σ H ρ μ (Q:List D->Mu->Prop) (Q':List (V×V)->Hp->Prop),Rl K σ H ρ μ->T ρ μ Q->
 (∀ vs H' ds μ',Tk H H'->bE K H' μ'->vs.length=ks.length->DpL K H' vs ds->Q ds μ'->Q' ((ks.map kV).zip vs) H')->wj trs σ H Q'
structure LPs (X:Cx) (pos:Pos) (keys:List (Option W4)) (values:List W4) (ks:List Key) (T:ATr):Prop where
 ex:∃ trs,PPs X pos keys values trs/\U1 X.K trs ks T
theorem KL:LPs X pos [] [] [] ar:=⟨[],K7,λσ H ρ μ Q Q' rl h k=>k [] H [] μ (.refl H) rl.mu rfl .nil h⟩
theorem ki {s:Str}{j}{p:Pos}{ks:List (Option W4)}{vs:List W4}{kk:List Key}{At:ATr}(hv:LE X value Te)(hr:LPs X pos ks vs kk At):LPs X pos (some (.Constant (.str s) j p)::ks) (value::vs) (.inr s::kk) (af Te At):=by
 obtain ⟨te,pe,se⟩:=hv.ex
 obtain ⟨trs,pr,sr⟩:=hr.ex
 refine ⟨_,GQ Fy pe pr,λσ H ρ μ Q Q' rl h k=>?_⟩
 refine se σ H ρ μ _ _ rl h λy H1 dy μ1 t1 m1 p1 h1=>sr σ H1 ρ μ1 _ _ (rl.go t1 m1) h1 λvs H2 ds μ2 t2 m2 hl p2 h2=>?_
 exact k (y::vs) H2 (dy::ds) μ2 (t1.trans t2) m2 (by simp[hl]) (.cons (p1.mono t2) p2) h2
def IZ (ks:List Key)(At:ATr):ETr:=λρ μ Q=>∀ p,μ p=none->At ρ (up μ p (.dct [])) λds μ2=>kD μ2 p λkvs=>kvs=[]/\Q (.obj p) (up μ2 p (.dct (ks.zip ds)))
theorem Jo {acc:List (Key×V)}{k:Key}{v:V}(h:gT acc k=some v):k∈acc.map (·.1):=by
 unfold gT at h
 obtain ⟨p,hp,_⟩:=zbD.mp h
 have h1:=zaZ hp
 have h2:=List.find?_some hp
 exact WE.mpr ⟨p,h1,of_decide_eq_true h2⟩
theorem rN:∀ (kvs acc:List (Key×V)),((acc++kvs).map (·.1)).Nodup->eu acc kvs=acc++kvs
 | [],acc,_=>by simp[eu]
 | p::r,acc,h=>by
  have hn:gT acc p.1=none:=by
   cases e:gT acc p.1 with
   | none=>rfl
   | some v=>
    exfalso
    have:=Jo e
    rw[Xf,WN] at h
    exact (zdd.mp h).2.2 _ this _ WS rfl
  show eu (putK acc p.1 p.2) r=_
  rw[Gr p.2 hn]
  rw[rN r (acc++[(p.1,p.2)]) (by simpa using h)]
  simp
theorem zc:∀ (ks:List Key) (vs:List V),(ks.map kV).zip vs=(ks.zip vs).map λkv=>(kV kv.1,kv.2)
 | [],_=>by simp
 | _::_,[]=>by simp
 | k::ks,v::vs=>by simp[zc ks vs]
theorem DpK.zip {K:Wq}{H:Hp}:∀ {ks:List Key} {vs:List V} {ds:List D},DpL K H vs ds->DpK K H (ks.zip vs) (ks.zip ds)
 | [],_,_,_=>by simp;exact .nil
 | _::_,_,_,.nil=>by simp;exact .nil
 | k::ks,_,_,.cons p l=>.cons p (DpK.zip l)
theorem Lj {keys:List (Option W4)}{values:List W4}{ks:List Key}{At:ATr}(h:LPs X pos keys values ks At)(hall:keys.all (·.isSome)=true:=by rfl)(hl:keys.length=values.length:=by rfl)(h0:keys≠[]:=by nofun)
  (h15:keys.length<=15:=by decide) (hk:keys.length=ks.length:=by rfl) (hn:ks.Nodup:=by decide):LE X (.Dict keys values pos) (IZ ks At):=by
 obtain ⟨trs,pr,sr⟩:=h.ex
 refine ⟨_,MA pr hall hl h0 h15,λσ H ρ μ Q Q' rl h k p hp=>?_⟩
 refine sr σ _ ρ _ _ _ (rl.go (.new hp) (Dx rl.mu hp .nil)) (h p (rl.mu.free hp)) λvs H2 ds μ2 t2 m2 hvl p2 h2=>?_
 obtain ⟨kvs,e0,rfl,h2⟩:=qU h2
 obtain ⟨xs,ex,l⟩:=m2 p _ e0
 have:xs=[]:=by have:=l.length;cases xs with | nil=>rfl | cons=>simp at this
 subst this
 refine ⟨ex,ks.zip vs,zc ks vs,by rw[zaA];omega,?_⟩
 have e:eu [] (ks.zip vs)=ks.zip vs:=by
  have:=rN (ks.zip vs) [] (by rw[Zz,List.map_fst_zip (by omega)];exact hn)
  simpa using this
 rw[e]
 exact k _ _ _ _ ((Tk.new hp).trans (t2.trans (sj ex))) (AF m2 ex (.zip p2)) (.obj p) h2
end
end
section
open PySem PySem.Spec PyProof.Rows L2
theorem ER:zd0 (.type "list") (OF "keys")=pure none:=am_miss_of_fast (by kernel_rfl)
theorem R9 {prog:W9}{w:Xm}{A:XC}{E:Wv->Wz->Prop}{s:Wz}{a:Addr}{o:Obj}{xs:Array Wv}{k:Nat}{Q:Option Wv->Wz->Prop}
  (hx:s.heap.get? a=some o) (hc:o.cls=.type "list") (hdat:o.data=.seq xs k) (hd:o.dict=none) (hA:A.handled=none)
  (h:∀ h' tk,(∀ b ob,s.heap.get? b=some ob->h'.get? b=some ob)->Q none { s with heap:=h',toks:=tk }) :
  WW (W2 prog w) A (getAttr? (.ref a) "keys") Q E s:=by
 obtain ⟨c,dct,dat,sl⟩:=o
 simp only at hc hdat hd
 subst hc hdat hd
 obtain ⟨hp,g,d,tk,os⟩:=s
 have hT:∀ tk',(⟨hp,g,d,tk',os⟩:Wz).TypeIs (.ref a) "list" := λ_=>⟨_,hx,rfl⟩
 have f1:=sub_AttributeError
 have f3:=Zx.lookup
 have f4:=Zx.bind (.ref a)
 have f5:=am_list_getattr_none
 unfold getAttr? getAttrBy? getAttrBy
 repeat (any_goals (first | assumption | exact hT _ | ((with_reducible show WW _ _ (zbT (Value.builtin "list.__getattribute__") _ _) _ _ _);refine zab Zx (hT _) am_entry_list_getattribute (F.args_list_getattribute_2 _ _) (meets_getattribute_miss_list a xs k sl (OF "keys") _ ER (by decide +kernel) (by decide +kernel)) ⟨hx,hA,λh' tk' e hx'=>?_⟩) | wp_step))
 obtain ⟨t',u',he⟩:=hx'.there
 show WW _ _ (zcR _ _ _ _ _ _ _) _ _ _
 unfold zcR
 repeat (any_goals (first | assumption | wp_step))
 exact h _ _ hx'.keeps
theorem lS:plainId "dict.update.loop" = true:=by decide +kernel
theorem zP:entryFor table "dict.update.loop" = some Z0.«dict.update.loop»:=entryFor_of_fast (by kernel_rfl)
inductive fQ {prog:W9} {w:Xm} {κ:Type} [DecidableEq κ] (knd:KeyKind prog w κ) (h:Heap):List Wv->List (κ×Wv)->Prop
 | nil:fQ knd h [] []
 | cons {a:Addr} {u v:Wv} {k:κ} {us:List Wv} {r:List (κ×Wv)}:zdD h a #[u,v]->knd.is k u=true->fQ knd h us r->fQ knd h (.ref a::us) ((k,v)::r)
section
variable {prog:W9} {w:Xm} {κ:Type} [DecidableEq κ] {knd:KeyKind prog w κ}
theorem fQ.keeps {h h':Heap}(kp:∀ b o,h.get? b=some o->o.cls=.type "tuple" -> h'.get? b=some o):∀ {us:List Wv} {r:List (κ×Wv)},fQ knd h us r->fQ knd h' us r
 | _,_,.nil=>.nil
 | _,_,.cons t k r=>.cons (by obtain ⟨o,e,c,n,d⟩:=t;exact ⟨o,kp _ o e c,c,n,d⟩) k (r.keeps kp)
theorem wY {A:XC}{R:zds->Wz->Prop}{d it l:Addr}{items:Array Wv}(hA:A.handled=none)(n1:d≠it)(n2:l≠it)(n3:l≠d) :
  ∀ (us:List Wv) (r:List (κ×Wv)) (i:Nat) (kvs:List (κ×Wv)) (s:Wz),items.toList.drop i=us->fQ knd s.heap us r->s.heap.IsListIter it l i->s.heap.IsList l items->s.heap.DictOf knd d kvs->kvs.length+r.length<=sizeLine->
   (∀ h' tk,h'.DictOf knd d (merged kvs r)->(∀ b o,b≠it->b≠d->s.heap.get? b=some o->h'.get? b=some o)->R (.ok (.ret .none)) { s with heap:=h',toks:=tk })->
   WW (W2 prog w) A.in1 (Z0.«dict.update.loop» ⟨[.ref d,.ref it,ZT i,.none],[]⟩) (λfin s'=>match fin with | .done f=>R (.ok f) s' | .again c'=>c'.quiet=true/\Za (W2 prog w) A c' R s') (λe s'=>R (.error e) s') s
 | [],r,i,kvs,s,hd,P,hit,hl,hm,hz,h=>by
  cases P
  have hx:items[i]? = none:=by
   have:items.toList.length<=i:=by
    have:=congrArg XQ hd
    simp at this;simp;omega
   simpa using this
  show WW _ _ (YV (.ref it) >>= _) _ _ _
  refine Wr (zbS (by exact hA) hit hl hx λh' k=>?_)
  show WW _ _ (zel d [] >>= _) _ _ _
  refine Wr (WC (WC ?_))
  refine h h' s.toks ?_ λb o hb _ e=>k b o hb e
  obtain ⟨o,es,ep,ho,rest⟩:=hm
  exact ⟨o,es,ep,k d o n1 ho,rest⟩
 | u::us,r,i,kvs,s,hd,P,hit,hl,hm,hz,h=>by
  cases P with
  | @cons a ku v k _ r tp hk P=>
  have hx:items[i]? = some (.ref a):=by
   have:items.toList[i]? = some (.ref a):=by
    have:=congrArg (λl=>l[0]?) hd
    simpa using this
   simpa using this
  have hd':items.toList.drop (i+1)=us:=by
   have:=congrArg List.tail hd
   simpa using this
  show WW _ _ (YV (.ref it) >>= _) _ _ _
  refine Wr (zbx hit hl hx λh1 it1 k1=>?_)
  have ne_it:∀ b o,s.heap.get? b=some o->o.cls≠.type "list_iterator" -> b≠it:=λb o e c z=>by
   subst z
   obtain ⟨o',e',c',_⟩:=hit
   rw[e] at e';cases e';exact c c'
  have tp1:zdD h1 a #[ku,v]:=by
   obtain ⟨o,e,c,n,dd⟩:=tp
   exact ⟨o,(k1.2 a (ne_it a o e (by rw[c];decide))).trans e,c,n,dd⟩
  obtain ⟨o,e,c,n,dd⟩:=tp1
  have hm1:h1.DictOf knd d kvs:=by
   obtain ⟨o,es,ep,ho,rest⟩:=hm
   exact ⟨o,es,ep,(k1.2 d n1).trans ho,rest⟩
  have hl1:h1.IsList l items:=by
   obtain ⟨o,e,c,n,dd⟩:=hl
   exact ⟨o,(k1.2 l n2).trans e,c,n,dd⟩
  dsimp only
  refine Wr (Y4 ?_)
  refine Wr (Zh ?_)
  unfold zeu
  refine Wr (wpAny_typeOf (T := "tuple") ⟨o,e,c⟩ ?_)
  rw[if_pos (by decide)]
  refine Wr (Xk e dd (WC ?_))
  show WW _ _ (zbw [ku,v] (dictSet d ku v)) _ _ _
  refine Y4 (wpAny_dictSet_pairs (hsz:=by have:=hz;simp at this;omega) hk hm1 λh2 hm2 k2=>?_)
  refine WC ?_
  refine ⟨YK lS _,zbO zP ?_⟩
  rw[zao lS _]
  have kp:∀ b o,b≠it->b≠d->s.heap.get? b=some o->h2.get? b=some o:=λb o b1 b2 q=>(k2.2 b b2).trans ((k1.2 b b1).trans q)
  have ci:((i:Int)+1)=((i+1:Nat):Int):=by push_cast;rfl
  have nd:∀ b o,s.heap.get? b=some o->o.cls≠.type "dict" -> b≠d:=λb o q c z=>by
   subst z
   obtain ⟨o',_,_,e',ex,_⟩:=hm
   rw[q] at e';cases e';exact c ex.1
  show WW _ _ (Z0.«dict.update.loop» ⟨[.ref d,.ref it,ZT ((i:Int)+1),.none],[]⟩) _ _ _
  rw[ci]
  refine wY hA n1 n2 n3 us r (i+1) (stored kvs k v) _ hd' (P.keeps λb o q c=>kp b o (ne_it b o q (by rw[c];decide)) (nd b o q (by rw[c];decide)) q) ?_ ?_ hm2 ?_ ?_
  ·obtain ⟨o,e,c⟩:=it1
   exact ⟨o,(k2.2 it (WX n1)).trans e,c⟩
  ·obtain ⟨o,e,c⟩:=hl1
   exact ⟨o,(k2.2 l n3).trans e,c⟩
  ·have:=stored_length_le kvs k v
   simp at hz;omega
  ·intro h' tk hm' kp'
   exact h h' tk hm' λb o b1 b2 q=>kp' b o b1 b2 (kp b o b1 b2 q)
end
end
section
open PySem PySem.Spec PyProof.Rows L2
section
variable {prog:W9} {w:Xm} {κ:Type} [DecidableEq κ] {knd:KeyKind prog w κ}
theorem pB {A:XC}{E:Wv->Wz->Prop}{s:Wz}{l:Addr}{o:Obj}{items:Array Wv}{k:Nat}{r:List (κ×Wv)}{Q:Wv->Wz->Prop}(hA:A.handled=none)
  (hx:s.heap.get? l=some o) (hc:o.cls=.type "list") (hdat:o.data=.seq items k) (hd:o.dict=none) (P:fQ knd s.heap items.toList r) (hz:r.length<=sizeLine)
  (h:∀ h' tk,h'.DictOf knd s.heap.objs.size (merged [] r)->(∀ b o,s.heap.get? b=some o->h'.get? b=some o)->Q (.ref s.heap.objs.size) { s with heap:=h',toks:=tk }) :
  WW (W2 prog w) A (zbT (.type "dict") [.ref l]) Q E s:=by
 refine callType_codes (Q₁:=λobj s₁=>obj=.ref s.heap.objs.size/\s₁={ s with heap:=s.heap.push { cls:=.type "dict", data:=.dict #[] } }) F.kt_called_dict (F.kt_typeCall_dict_1 _) F.entry_dict_init (kt_code_dict_new _ ⟨rfl,rfl⟩) ?_
 rintro obj s₁ ⟨rfl,rfl⟩
 have Lz:(s.heap.push { cls:=.type "dict", data:=.dict #[] }).DictOf knd s.heap.objs.size []:=zdM s.heap
 have hx1:(s.heap.push { cls:=.type "dict", data:=.dict #[] }).get? l=some o:=Wu _ hx
 have ll:l < s.heap.objs.size:=WH hx
 refine ⟨Lz.typeIs,F.args_dict_init_2 _ _,?_⟩
 unfold Z0.«dict.__init__»
 refine Wr ?_
 unfold zem
 refine Wr (wpAny_notOrdered_dict Lz.typeIs ?_)
 show WW _ _ (pure (s.heap.objs.size,[Xa l])) _ _ _
 refine WC ?_
 show WW _ _ (zbp "dict.__init__" s.heap.objs.size (.ref l) [] .none) _ _ _
 unfold zbp
 refine Wr (wpAny_typeOf (T := "list") ⟨o,hx1,hc⟩ ?_)
 rw[if_pos (by decide)]
 refine Wr (R9 hx1 hc hdat hd hA λh1 tk1 kp1=>?_)
 rw[if_pos (by decide)]
 refine Wr (Yt ?_)
 have hx2:h1.get? l=some o:=kp1 _ _ hx1
 have hl2:h1.IsList l items:=⟨o,hx2,hc,k,hdat⟩
 have lt1:s.heap.objs.size < h1.objs.size:=by
  obtain ⟨o',es,ep,ho,_⟩:=Lz
  exact WH (kp1 _ _ ho)
 refine Wr (Y9 hl2 ?_)
 refine Wr (WC (WC ?_))
 refine ⟨YK lS _,zbO zP ?_⟩
 rw[zao lS _]
 have kp2:∀ b o,s.heap.get? b=some o->(h1.push { cls:=.type "list_iterator", data:=.fields #[.ref l,.int 0 0] }).get? b=some o:=λb o q=>Wu _ (kp1 _ _ (Wu _ q))
 refine wY (A:=A.in1) (knd:=knd) (it:=h1.objs.size) (d:=s.heap.objs.size) (l:=l) (items:=items) (R:=wants (λr s₂=>r=Yj/\Q (Xa s.heap.objs.size) s₂) E) hA (WZ lt1) (WZ (zc1 ll lt1)) (WZ ll) items.toList r 0 [] _ rfl ?_ ?_ ?_ ?_ (by simpa using hz) ?_
 ·exact P.keeps λb o q _=>kp2 b o q
 ·exact ⟨_,WJ _ rfl,rfl,rfl⟩
 ·exact ⟨o,Wu _ hx2,hc,k,hdat⟩
 ·obtain ⟨o',es,ep,ho,rest⟩:=Lz
  exact ⟨o',es,ep,Wu _ (kp1 _ _ ho),rest⟩
 ·intro h' tk hm' kp'
  refine ⟨rfl,h h' tk hm' λb o q=>?_⟩
  have hb:b < s.heap.objs.size:=WH q
  exact kp' b o (WZ (zc1 hb lt1)) (WZ hb) (kp2 b o q)
end
def dK:Key->D
 | .inl i=>.int i
 | .inr s=>.str s
def A2 (kv:Key×D):D:=.tup [dK kv.1,kv.2]
def jj (kvs more:List (Key×D)):List (Key×D):=more.foldl (λacc kv=>putD acc kv.1 kv.2) kvs
inductive fu (K:Wq) (H:Hp):List V->List (Key×V)->Prop
 | nil:fu K H [] []
 | cons {a:Addr} {k:Key} {v:V} {ys:List V} {r:List (Key×V)}:SqT K H a [kV k,v]->fu K H ys r->fu K H (.ref a::ys) ((k,v)::r)
theorem fu.at {X:Cx}{pins:List (Addr×Obj)}{σ:L2.St}{H:Hp}{s:Wz}(I:Inv X pins σ H s):∀ {ys:List V} {kvs:List (Key×V)} {us:List Wv},fu X.K H ys kvs->Vals ys us->∃ r,fQ (bM X.prog X.w) s.heap us r/\KV kvs r
 | _,_,_,.nil,.nil=>⟨[],.nil,.nil⟩
 | _,_,_,@fu.cons _ _ a k v ys r sq h,.cons ru rs=>by
  cases (show _=Xa a from ru)
  obtain ⟨r,p,q⟩:=h.at I rs
  obtain ⟨its,vs,it,_⟩:=I.tuple sq
  cases vs with | @cons _ u1 _ _ r1 vs=>cases vs with | @cons _ u2 _ _ r2 vs=>
  cases vs
  exact ⟨(k,u2)::r,.cons it (uB r1) p,.cons ⟨rfl,r2⟩ q⟩
theorem Bo {X:Cx}(hc:X.calm=true):bU X (.type "dict") (λxs H Q=>∃ l ys kvs,xs=[.ref l]/\SqL X.K H l ys/\fu X.K H ys kvs/\kvs.length<=sizeLine/\∀ p,H p=none->Q (.ref p) (L2.upd H p (.dK (eu [] kvs)))):=by
 intro pins s σ H xs us Q I rx h
 obtain ⟨l,ys,kvs,rfl,sq,pv,hz,q⟩:=h
 obtain ⟨u,rfl,ru⟩:=vals1 rx
 cases (show u=Xa l from ru)
 obtain ⟨its,vs,pl,_⟩:=I.list sq
 obtain ⟨o,n,e,c,hd,hdat⟩:=pl
 obtain ⟨r,pr,kv⟩:=pv.at I vs
 refine pB (knd:=bM X.prog X.w) (I.ok.hd hc) e c hdat hd (r:=r) (by simpa using pr) (by rw[← kv.length];exact hz) λh' tk dd kp=>?_
 have hl:(eu [] kvs).length<=sizeLine:=by have:=gS kvs [];simp at this;omega
 exact ⟨.ref s.heap.objs.size,_,I.laid (a:=s.heap.objs.size) (o:=.dK (eu [] kvs)) kp (WL _) (BY hl (beq_eq_false_iff_ne.mpr (WX (WZ I.big))) (KV.merge kv .nil) dd),rfl,q _ (I.hok.fresh (WL _))⟩
def Dm:FSp:=λds μ Q=>match ds with
 | [.ls xs]=>∃ kvs:List (Key×D),xs=kvs.map A2/\kvs.length<=1000000/\∀ p,μ p=none->Q (.obj p) (up μ p (.dct (jj [] kvs)))
 | _=>False
theorem QY {K:Wq}{H:Hp}{v:V}{k:Key}(h:Dp K H v (dK k)):v=kV k:=by
 cases k with
 | inl i=>cases h;rfl
 | inr s=>cases h;rfl
theorem fu.of {K:Wq}{H:Hp}:∀ {kvs:List (Key×D)} {xs:List V},DpL K H xs (kvs.map A2)->∃ r,fu K H xs r/\DpK K H r kvs
 | [],_,h=>by cases h;exact ⟨[],.nil,.nil⟩
 | kv::kvs,_,h=>by
  obtain ⟨k,d⟩:=kv
  cases h with
  | cons p l=>
   obtain ⟨r,h1,h2⟩:=fu.of l
   cases p with
   | tup sq lp=>
    cases lp with | cons p1 lp=>cases lp with | cons p2 lp=>
    cases lp
    cases QY p1
    exact ⟨(k,_)::r,.cons sq h1,.cons p2 h2⟩
theorem DpK.merge {K:Wq}{H:Hp}{xs:List (Key×V)}{kvs:List (Key×D)}(h:DpK K H xs kvs):∀ {axs:List (Key×V)} {akvs:List (Key×D)},DpK K H axs akvs->DpK K H (eu axs xs) (jj akvs kvs):=
 DpK.ind (P:=λxs kvs=>∀ {axs:List (Key×V)} {akvs:List (Key×D)},DpK K H axs akvs->DpK K H (eu axs xs) (jj akvs kvs)) (λh=>h) (λk v d xs kvs p _ ih axs akvs ha=>ih (ha.put k p)) h
theorem HZ {K:Wq}:lq K (λxs H Q=>∃ l ys kvs,xs=[.ref l]/\SqL K H l ys/\fu K H ys kvs/\kvs.length<=sizeLine/\∀ p,H p=none->Q (.ref p) (L2.upd H p (.dK (eu [] kvs)))) Dm:=λH μ xs ds Q Q' m p h k=>by
 unfold Dm at h
 split at h
 ·obtain ⟨kvs,rfl,hl,h⟩:=h
  cases p with | cons p1 p2=>
  cases p2
  cases p1 with
  | ls q l=>
   obtain ⟨r,h1,h2⟩:=fu.of l
   exact ⟨_,_,r,rfl,q.sq,h1,by rw[h2.length];exact big hl,λz hz=>k _ _ _ _ (.new hz) (Dx m hz (h2.merge .nil)) (.obj z) (h z (m.free hz))⟩
 ·exact WA h
end
section
open PySem PySem.Spec PyProof.Rows L2
theorem Dh (K:Wq){t:String}(ht:t∈tys):∀ (cs:List String),(∀ c∈cs,c∈xc)->zea K (.type t) (cs.map .type)=some (cs.any λc=>eP t c)
 | [],_=>rfl
 | c::cs,h=>by
  have e:=C4 K t ht c (h c WS)
  have ih:=Dh K ht cs λx hx=>h x (W5 _ hx)
  rw[WN,YG]
  unfold zea
  rw[e]
  cases eP t c with
  | true=>rfl
  | false=>rw[zcw];exact ih
def HP (K:Wq):List V->Hp->VK->Prop:=λxs H Q=>∃ x d t p,∃ cs:List String,xs=[x,.ref p]/\SqT K H p (cs.map V.ty)/\Dp K H x d/\tyD d=some t/\(∀ c∈cs,c∈xc)/\Q (.bl (cs.any λc=>eP t c)) H
theorem Ds:∀ {cs:List String} {us:List Wv},Vals (cs.map V.ty) us->us=cs.map .type
 | [],_,h=>by cases h;rfl
 | c::cs,_,h=>by
  cases h with
  | cons r h=>rw[Ds h,WN];congr 1
theorem D7 {X:Cx}:bU X (.builtin "isinstance") (HP X.K):=λpins s σ H xs us Q I rx ⟨x,d,t,p,cs,ex,sq,px,et,hc,q⟩=>by
 subst ex
 cases rx with | @cons _ u _ _ r1 r2=>cases r2 with | cons r2 r3=>
 cases r3
 cases (show _=Xa p from r2)
 obtain ⟨its,rv,⟨o,ho,hcl,n,hd⟩,_⟩:=I.tuple sq
 have ei:=Ds rv
 subst ei
 have htp:s.heap.get? p=some ⟨.type "tuple", o.dict,.seq (cs.map zbv).toArray n,o.slots⟩:=by
  rw[ho];obtain ⟨c,dd,dt,sl⟩:=o;simp only at hcl hd;subst hcl hd;rfl
 have e:=Dh X.K (Ir et) cs hc
 have fin:∀ tk,EP X pins σ Q (.bool (cs.any λc=>eP t c)) { s with toks:=tk }:=λtk=>⟨.bl _,H,I.tok tk,rfl,q⟩
 cases px with
 | non=>cases et;cases (show u=Yj from r1);exact YZ zc3 I.kIn Yc htp e (λz=>nomatch z) fin
 | bl y=>cases et;cases (show u=zaI y from r1);exact YZ zc4 I.kIn Yc htp e (λz=>nomatch z) fin
 | int i=>cases et;obtain ⟨t,z⟩:=(show ∃ t,u=ZI i t from r1);cases z;exact YZ zdv I.kIn Yc htp e (λz=>nomatch z) fin
 | str y=>cases et;obtain ⟨t,z⟩:=(show ∃ t,u=zaH y t from r1);cases z;exact YZ zdw I.kIn Yc htp e (λz=>nomatch z) fin
 | ty _=>cases et
 | obj _=>cases et
 | @tup a xs ds sq l=>
  cases et
  cases (show u=Xa a from r1)
  obtain ⟨its,_,⟨o,h1,h2,_⟩,_⟩:=I.tuple sq
  exact YZ zcM I.kIn ⟨o,h1,h2⟩ htp e (λz=>nomatch z) fin
 | @ls a xs ds sq l=>
  cases et
  cases (show u=Xa a from r1)
  obtain ⟨its,_,⟨o,n,h1,h2,_⟩,_⟩:=I.list sq.sq
  exact YZ zc5 I.kIn ⟨o,h1,h2⟩ htp e (λz=>nomatch z) fin
def xP (cs:List String):FSp:=λds μ Q=>match ds with
 | [x,.tup ts]=>(ts=cs.map .ty/\∀ c∈cs,c∈xc)/\(match tyD x with
  | some t=>Q (.bl (cs.any λc=>eP t c)) μ
  | none=>False)
 | _=>False
theorem F0 {K:Wq}{H:Hp}:∀ {cs:List String} {xs:List V},DpL K H xs (cs.map .ty)->xs=cs.map V.ty
 | [],_,h=>by cases h;rfl
 | c::cs,_,h=>by
  cases h with
  | cons p l=>cases p;rw[F0 l,WN]
theorem Fx {K:Wq}(cs:List String):lq K (HP K) (xP cs):=λH μ xs ds Q Q' m p h k=>by
 unfold xP at h
 split at h
 ·obtain ⟨⟨rfl,hc⟩,h⟩:=h
  cases p with | cons p1 p2=>cases p2 with | cons p2 p3=>
  cases p3
  cases p2 with
  | tup sq l=>
   cases F0 l
   split at h
   ·rename_i t et
    exact ⟨_,_,t,_,cs,rfl,sq,p1,et,hc,k _ H _ μ (.refl H) m (.bl _) h⟩
   ·exact WA h
 ·exact WA h
section
variable {X:Cx} {o i a b c e value:W4} {To Ti Ta Tb Te:ETr} {pos tpos apos cpos:Pos}
def PV (To Ti:ETr):ETr:=λρ μ Q=>To ρ μ λx μ1=>kObj x λa=>kL μ1 a λ_=>Ti ρ μ1 λy μ2=>kI y λj=>(-9223372036854775808<=j/\j < 9223372036854775808)/\kL μ2 a λds=>kN (L2.ixN ds.length j) λk=>kO ds[k]? λd=>Q d (up μ2 a (.lst (ds.eraseIdx k)))
theorem Js {n k:Nat}{j:Int}(h:L2.ixN n j=some k):zck j n=some k:=by
 unfold L2.ixN at h
 unfold zck
 split at h
 ·split at h
  ·cases h
   rename_i h1 h2
   simp[show ¬ (j < 0) by omega,h1,h2]
  ·cases h
 ·split at h
  ·cases h
   rename_i h1 h2
   simp[show j < 0 by omega]
   omega
  ·cases h
theorem DpL.erase {K:Wq}{H:Hp}:∀ {vs:List V} {ds:List D} (i:Nat),DpL K H vs ds->DpL K H (vs.eraseIdx i) (ds.eraseIdx i)
 | _,_,_,.nil=>by simp;exact .nil
 | _,_,0,.cons _ l=>l
 | _,_,i+1,.cons q l=>.cons q (DpL.erase i l)
theorem Pc (ho:LE X o To)(hi:LE X i Ti)
  (hbase:Y5 o "pop" X.env (XG o X.env)=XG o X.env:=by rfl)
  (hfew:((XM cpos (WI [i] X.env)).all (λx=>!x.1)&&(zaj cpos (YS [] X.env)).all (λx=>x.1.isSome)
   && decide (([i]:List W4).length+([]:List YW).length+(if ([]:List YW).isEmpty then 0 else 1) < 30))=true:=by rfl)
  (hline:(apos.endLine == cpos.line)=true:=by rfl) (hs:WI [i] X.env=(false,XG i X.env)::WI [] X.env:=by rfl) (hplain:(XM cpos (WI [] X.env)).any (·.1)=false:=by rfl) :
  LE X (.Call (.Attribute o "pop" apos) [i] [] cpos) (PV To Ti):=by
 obtain ⟨to,po,so⟩:=ho.ex
 obtain ⟨ti,pi,si⟩:=hi.ex
 refine ⟨_,xu Yi PySem.F.slot_list_pop PySem.F.type_list_pop FK po (dU pi gX hs) hbase hfew hline hs hplain,λσ H ρ μ Q Q' rl h k=>so σ H ρ μ _ _ rl h λx H1 dx μ1 t1 m1 p1 h1=>?_⟩
 obtain ⟨q,rfl,h1⟩:=fk p1 h1
 obtain ⟨ds0,e0,h1⟩:=bN h1
 obtain ⟨xs0,ex0,_⟩:=m1 q _ e0
 refine ⟨.inl ⟨rfl,_,SqL.of ex0⟩,si σ H1 ρ μ1 _ _ (rl.go t1 m1) h1 λy H2 dy μ2 t2 m2 p2 h2=>?_⟩
 cases p2 with
 | int j=>
  obtain ⟨hr,h2⟩:=h2
  obtain ⟨ds,e2,h3⟩:=bN (show kL μ2 q _ from h2)
  obtain ⟨kk,e3,h3⟩:=JM h3
  obtain ⟨d,e4,h3⟩:=kX h3
  obtain ⟨xs,ex,l⟩:=m2 q _ e2
  obtain ⟨v,ev,pv⟩:=l.get e4
  have e3':L2.ixN xs.length j=some kk:=by rw[l.length];exact e3
  exact ⟨q,xs,j,kk,v,rfl,rfl,ex,by omega,by omega,Js e3',ev,k _ _ _ _ ((t1.trans t2).trans (lB ex)) (JB m2 ex (l.erase kk)) (pv.mono (lB ex)) h3⟩
 | _=>exact WA h2
end
noncomputable def lG (h:Heap) (dx:PyData) (y:Wv):Bool:=@decide (∃ d as,Reads h y d as/\zd4 d=true/\YH d dx=true) (ZP _)
theorem DB {h:Heap}{dx d:PyData}{y:Wv}{as:List Addr}(r:Reads h y d as)(hd:d.canLay0=true):lG h dx y=YH d dx:=by
 unfold lG
 cases e:YH d dx with
 | true=>exact @decide_eq_true _ (ZP _) ⟨d,as,r,hd,e⟩
 | false=>
  refine @decide_eq_false _ (ZP _) ?_
  rintro ⟨d',as',r',hd',e'⟩
  cases SeqAt.Reads.unique _ _ _ _ _ hd r r'
  rw[e] at e';cases e'
theorem DF {n:Nat}:∀ {ds:List D} {d:D},b7 n ds=true->d∈ds->okD n d=true
 | x::r,d,h,hm=>by
  have h':okD n x=true/\b7 n r=true:=by simpa[b7] using h
  rcases WK.mp hm with rfl | hm
  ·exact h'.1
  ·exact DF h'.2 hm
section
variable {X:Cx} {pins:List (Addr×Obj)} {σ:L2.St} {H:Hp} {s:Wz}
theorem item_at (I:Inv X pins σ H s){vs:List V}{ds:List D}{us:List Wv}(l:DpL X.K H vs ds)(r:Vals vs us)(ok:b7 38 ds=true){dy:D}{y:Wv}{bs:List Addr}(oy:okD 38 dy=true)(ry:Reads s.heap y (toP dy) bs)(hu:X.A.units+64 < cLine)
  {m:Nat} {u:Wv} (hm:us[m]? = some u):∃ d,ds[m]? = some d/\lG s.heap (toP dy) u=eqD d dy/\zeb X.A.in1 s u y (lG s.heap (toP dy) u):=by
 have hlt:m < vs.length:=by rw[r.length];exact (Xc.mp hm).1
 obtain ⟨u',e1,rv⟩:=r.get (WO hlt)
 rw[hm] at e1;cases e1
 obtain ⟨d,ed,pd⟩:=l.get' (WO hlt)
 have od:=DF ok (Ze ed)
 obtain ⟨as,ra⟩:=dI I pd od rv
 obtain ⟨l1,d1⟩:=gD 38 d od
 obtain ⟨l2,d2⟩:=gD 38 dy oy
 have e:=DB (dx:=toP dy) ra l1
 refine ⟨d,ed,by rw[e,mF 38 38 d dy od oy],?_⟩
 rw[e]
 exact SeqAt.eqAt_reads _ _ _ s _ _ _ _ ra ry l1 l2 (by have:=zbL (toP d).depth (toP dy).depth;rw[Around.in1_units];omega)
end
def Eo (ds:List D)(x:D):Option Nat:=ds.findIdx? λy=>eqD y x
theorem Jy {X:Cx}(hu:X.A.units+64 < cLine):MtM X "list.index" (λx vs H Q=>∃ p xs y ds dy,∃ j:Nat,x=.ref p/\vs=[y]/\SqL X.K H p xs/\DpL X.K H xs ds/\Dp X.K H y dy/\b7 38 ds=true/\okD 38 dy=true/\Eo ds dy=some j/\j < 1000000/\Q (.int j) H):=by
 intro pins s σ H x vs v us Q I rx rv h
 obtain ⟨p,xs,y,ds,dy,j,rfl,rfl,sq,l,py,ok,oy,hj,hj2,q⟩:=h
 cases (show v=Xa p from rx)
 obtain ⟨u,rfl,ru⟩:=rv.one
 obtain ⟨its,r,⟨o,n,e,c,hd,hdat⟩,_⟩:=I.list sq
 obtain ⟨bs,rb⟩:=dI I py oy ru
 have he:s.heap.get? p=some ⟨.type "list", none,.seq its.toArray n,o.slots⟩:=by
  rw[e];obtain ⟨c',dd,dt,sl⟩:=o;simp only at c hd hdat;subst c hd hdat;rfl
 unfold Eo at hj
 rw[ZQ] at hj
 obtain ⟨h1,h2,h3⟩:=hj
 have hl:ds.length=its.length:=by rw[← l.length,r.length]
 have at':∀ m (hm:m < its.toArray.size),∃ d,ds[m]? = some d/\lG s.heap (toP dy) its.toArray[m]=eqD d dy/\zeb X.A.in1 s its.toArray[m] u (lG s.heap (toP dy) its.toArray[m]):=λm hm=>
  item_at I l r ok oy rb hu (by simp at hm ⊢)
 refine zab F.slot_list_index ⟨_,he,rfl⟩ F.entry_list_index (F.args_list_index_2 _ _) (SeqAt.list_indexAt p its.toArray n none o.slots u (lG s.heap (toP dy)) j (by simp;omega) (by omega) ?_ ?_) ⟨he,λw hw=>?_,?_⟩
 ·obtain ⟨d,e1,e2,_⟩:=at' j (by simp;omega)
  rw[e2]
  rw[WO h1] at e1;cases e1
  exact h2
 ·intro m hm hlt
  obtain ⟨d,e1,e2,_⟩:=at' m hm
  rw[e2]
  have hm':m < ds.length:=by simp at hm;omega
  rw[WO hm'] at e1;cases e1
  have:=h3 m hlt
  simpa using this
 ·obtain ⟨m,hm,rfl⟩:=zbV.mp hw
  obtain ⟨d,_,_,e3⟩:=at' m hm
  exact e3
 ·exact ⟨.int j,H,I.tok _,⟨_,rfl⟩,q⟩
section
variable {X:Cx} {o i a b c e value:W4} {To Ti Ta Tb Te:ETr} {pos tpos apos cpos:Pos}
def tJ (μ:Mu)(x:D)(f:List D->Prop):Prop:=match x with
 | .ls ds=>f ds
 | .obj a=>kL μ a f
 | _=>False
theorem ma {K:Wq}{H:Hp}{μ:Mu}{x:V}{dx:D}{f:List D->Prop}(m:bE K H μ)(p:Dp K H x dx)(h:tJ μ dx f):∃ q xs ds,x=.ref q/\SqL K H q xs/\DpL K H xs ds/\f ds:=by
 cases p with
 | ls sq l=>exact ⟨_,_,_,rfl,sq.sq,l,h⟩
 | obj q=>
  obtain ⟨ds,e0,h⟩:=bN h
  obtain ⟨xs,ex,l⟩:=m q _ e0
  exact ⟨q,xs,ds,rfl,SqL.of ex,l,h⟩
 | _=>exact WA h
def Ay (To Ti:ETr):ETr:=λρ μ Q=>To ρ μ λx μ1=>tJ μ1 x λ_=>Ti ρ μ1 λy μ2=>tJ μ2 x λds=>(b7 38 ds=true/\okD 38 y=true)/\kN (Eo ds y) λj=>j < 1000000/\Q (.int j) μ2
theorem FN (hu:X.A.units+64 < cLine)(ho:LE X o To)(hi:LE X i Ti)
  (hbase:Y5 o "index" X.env (XG o X.env)=XG o X.env:=by rfl)
  (hfew:((XM cpos (WI [i] X.env)).all (λx=>!x.1)&&(zaj cpos (YS [] X.env)).all (λx=>x.1.isSome)
   && decide (([i]:List W4).length+([]:List YW).length+(if ([]:List YW).isEmpty then 0 else 1) < 30))=true:=by rfl)
  (hline:(apos.endLine == cpos.line)=true:=by rfl) (hs:WI [i] X.env=(false,XG i X.env)::WI [] X.env:=by rfl) (hplain:(XM cpos (WI [] X.env)).any (·.1)=false:=by rfl) :
  LE X (.Call (.Attribute o "index" apos) [i] [] cpos) (Ay To Ti):=by
 obtain ⟨to,po,so⟩:=ho.ex
 obtain ⟨ti,pi,si⟩:=hi.ex
 refine ⟨_,xu Yi PySem.F.slot_list_index PySem.F.type_list_index (Jy hu) po (dU pi gX hs) hbase hfew hline hs hplain,λσ H ρ μ Q Q' rl h k=>so σ H ρ μ _ _ rl h λx H1 dx μ1 t1 m1 p1 h1=>?_⟩
 obtain ⟨q,xs0,ds0,rfl,sq0,l0,h1⟩:=ma m1 p1 h1
 refine ⟨.inl ⟨rfl,_,sq0⟩,si σ H1 ρ μ1 _ _ (rl.go t1 m1) h1 λy H2 dy μ2 t2 m2 p2 h2=>?_⟩
 obtain ⟨q',xs,ds,eq,sq,l,h2⟩:=ma m2 (p1.mono t2) h2
 cases eq
 obtain ⟨⟨o1,o2⟩,h2⟩:=h2
 obtain ⟨j,ej,hj,h2⟩:=JM h2
 exact ⟨q,xs,y,ds,dy,j,rfl,rfl,sq,l,p2,o1,o2,ej,hj,k _ H2 _ μ2 (t1.trans t2) m2 (.int _) h2⟩
def inG (x:D)(ds:List D):Bool:=ds.any λy=>eqD y x
def Oh (K:Wq)(neg:Bool):L2.R2:=λx y H Q=>∃ p xs ds dx,y=.ref p/\(SqL K H p xs∨SqT K H p xs)/\DpL K H xs ds/\Dp K H x dx/\b7 38 ds=true/\okD 38 dx=true/\Q (.bl (if neg then !inG dx ds else inG dx ds)) H
theorem BI {pins:List (Addr×Obj)}{σ:L2.St}{H:Hp}{s:Wz}(I:Inv X pins σ H s)(hu:X.A.units+64 < cLine){vs:List V}{ds:List D}{us:List Wv}(l:DpL X.K H vs ds)(r:Vals vs us)(ok:b7 38 ds=true){dy:D}{y:Wv}{bs:List Addr}(oy:okD 38 dy=true)(ry:Reads s.heap y (toP dy) bs) :
  (∀ w,w∈us.toArray->zeb X.A.in1 s w y (lG s.heap (toP dy) w))/\us.toArray.any (lG s.heap (toP dy))=inG dy ds:=by
 have hl:ds.length=us.length:=by rw[← l.length,r.length]
 constructor
 ·intro w hw
  obtain ⟨m,hm,rfl⟩:=zbV.mp hw
  obtain ⟨d,_,_,e3⟩:=item_at I l r ok oy ry hu (m:=m) (u:=us.toArray[m]) (by simp at hm ⊢)
  exact e3
 ·unfold inG
  rw[show us.toArray.any (lG s.heap (toP dy))=us.any (lG s.heap (toP dy)) by simp]
  rw[Bool.eq_iff_iff,Zn,Zn]
  constructor
  ·rintro ⟨w,hw,e⟩
   obtain ⟨m,hm,rfl⟩:=zca.mp hw
   obtain ⟨d,e1,e2,_⟩:=item_at I l r ok oy ry hu (m:=m) (u:=us[m]) (by simp)
   exact ⟨d,Ze e1,by rw[← e2];exact e⟩
  ·rintro ⟨d,hd,e⟩
   obtain ⟨m,hm,rfl⟩:=zca.mp hd
   obtain ⟨d',e1,e2,_⟩:=item_at I l r ok oy ry hu (m:=m) (u:=us[m]'(by omega)) (by simp)
   rw[WO hm] at e1;cases e1
   exact ⟨us[m]'(by omega),Ye _,by rw[e2];exact e⟩
theorem Pe (hu:X.A.units+64 < cLine):OpR X (X9 .In) (Oh X.K false):=by
 intro pins s σ H x y v u Q I rx ry h
 obtain ⟨p,xs,ds,dx,rfl,hq,l,px,o1,o2,q⟩:=h
 cases (show u=Xa p from ry)
 obtain ⟨bs,rb⟩:=dI I px o2 rx
 rcases hq with hq | hq
 ·obtain ⟨its,r,pl,hz⟩:=I.list hq
  obtain ⟨h1,h2⟩:=BI I hu l r o1 o2 rb
  exact SeqAt.in_listAt _ pl.isList h1 ⟨.bl _,H,I,rfl,by rw[h2];exact q⟩
 ·obtain ⟨its,r,pl,hz⟩:=I.tuple hq
  obtain ⟨h1,h2⟩:=BI I hu l r o1 o2 rb
  exact SeqAt.in_tupleAt _ pl h1 ⟨.bl _,H,I,rfl,by rw[h2];exact q⟩
def EI (μ:Mu)(x:D)(f:List D->Prop):Prop:=match x with
 | .tup ds=>f ds
 | .ls ds=>f ds
 | .obj a=>kL μ a f
 | _=>False
def Nr (neg:Bool):DR2:=λx y μ Q=>EI μ y λds=>(b7 38 ds=true/\okD 38 x=true)/\Q (.bl (if neg then !inG x ds else inG x ds)) μ
theorem K6 {K:Wq}(neg:Bool):fm K (Oh K neg) (Nr neg):=λH μ x y dx dy Q Q' m px py h k=>by
 cases py with
 | tup sq l=>exact ⟨_,_,_,dx,rfl,.inr sq,l,px,h.1.1,h.1.2,k _ H _ μ (.refl H) m (.bl _) h.2⟩
 | ls sq l=>exact ⟨_,_,_,dx,rfl,.inl sq.sq,l,px,h.1.1,h.1.2,k _ H _ μ (.refl H) m (.bl _) h.2⟩
 | obj q=>
  obtain ⟨ds,e0,h⟩:=bN (show kL μ q _ from h)
  obtain ⟨xs,ex,l⟩:=m q _ e0
  exact ⟨_,_,_,dx,rfl,.inl (SqL.of ex),l,px,h.1.1,h.1.2,k _ H _ μ (.refl H) m (.bl _) h.2⟩
 | _=>exact WA h
theorem Rv (hu:X.A.units+64 < cLine)(ha:LE X a Ta)(hb:LE X b Tb)(hm:Y3 .In b=false:=by rfl):LT X (.Compare a [.In] [b] pos) (TB (aj (Nr false) Ta Tb)):=gK (Pe hu) (K6 false) ha hb hm
end
end
section
open PySem PySem.Spec PyProof.Rows L2
def RX (K:Wq)(n:Nat)(t:TGs)(is:List Nat):Prop:=∀ σ H ρ μ vs ds (k:ST->Mu->Prop) (k':L2.St->Hp->Prop),Rl K σ H ρ μ->DpL K H vs ds->ds.length=is.length->k (jG ρ is ds) μ->N8 K n σ H k k'->t vs σ H k'
structure MD (X:Cx) (n:Nat) (es:List W4) (is:List Nat):Prop where
 ex:∃ t,PGs X es t/\RX X.K n t is
section
variable {X:Cx} {e tg:W4} {es:List W4} {is:List Nat} {pos:Pos} {x:Str} {n:Nat}
theorem ft:MD X n [] []:=⟨_,Dc,λσ H ρ μ vs ds k k' rl l hl h q=>by
 cases ds with
 | nil=>cases l;exact ⟨rfl,q _ _ _ _ (.refl H) rl ⟨rfl,λ_ _=>rfl⟩ h⟩
 | cons=>cases hl⟩
theorem bz (i:Nat)(hN:X.N.Nodup)(h2:MD X n es is)(hin:i < n:=by decide)(hi:X.N[i]? = some x:=by rfl)(hx:Loc X.env.scope x:=by first | exact ZX rfl | exact ZY rfl)(hf:X.fn x=true∨X.env.scope.names.lookup x=some .local:=by first | exact .inr rfl | exact .inl rfl | assumption)
  (hs:(X5 (.Name x pos::es) X.env).map (·.2)=zbZ (.Name x pos) X.env::(X5 es X.env).map (·.2):=by rfl):MD X n (.Name x pos::es) (i::is):=by
 obtain ⟨t,pt,st⟩:=h2.ex
 refine ⟨_,zI (iE hN hi hx hf) pt hs,λσ H ρ μ vs ds k k' rl l hl h q=>?_⟩
 cases l with
 | nil=>cases hl
 | @cons v d vs ds p l=>
  refine ⟨v,vs,rfl,st _ H _ μ vs ds k k' (rl.set p i) l (by simpa using hl) h λσ' H' ρ' μ' t' r' hk kk=>q σ' H' ρ' μ' t' r' ⟨?_,λj hj=>?_⟩ kk⟩
  ·rw[hk.1];simp
  ·rw[hk.2 j hj,YC (by omega)]
theorem gB {k:Nat}(hc:X.calm=true)(h:MD X n es is)(hn:(X5 es X.env).length=is.length:=by rfl)(hst:(X5 es X.env).findIdx? (·.1)=none:=by rfl):LGc X n (.Tuple es k pos) (dh is):=by
 obtain ⟨t,pt,st⟩:=h.ex
 refine ⟨λpins s σ H v u k' I r ⟨ρ,μ,d,k,rl,p,h,post⟩=>JY hc pt hn hst pins s σ H v u k' I r ?_⟩
 cases p with
 | @tup a xs ds sq l=>exact ⟨a,xs,rfl,sq,by rw[l.length];exact h.1,st σ H ρ μ xs ds k k' rl l h.1 h.2 post⟩
 | _=>exact WA h
end
section
variable {X:Cx} {o i a b c e value:W4} {To Ti Ta Tb Te:ETr} {pos tpos apos cpos:Pos}
theorem ET (l:Addr)(its:Array Wv)(n:Nat)(q:Addr)(its2:Array Wv)(n2:Nat)(sl:Array (Option Wv))(h0:¬ (!its.isEmpty&&XX (its.size+its2.size))=true)(h1:its.size<=sizeLine)(h2:its.size+its2.size<=sizeLine+1) :
  Meets (Z0.«list.extend» ⟨[.ref l,.ref q],[]⟩) (λ_ R s=>s.heap.get? l=some { cls:=.type "list", dict:=none,data:=.seq its n,slots:=#[] }/\s.heap.get? q=some { cls:=.type "list", dict:=none,data:=.seq its2 n2,slots:=sl }/\
   R (.ok (.ret Yj)) { s with heap:=s.heap.update l (zaP λx=>x++its2) }):=
 .of_wp λprog w A R s h=>by
  obtain ⟨hp,g,d,tk,os⟩:=s
  obtain ⟨hl,hb,h⟩:=h
  have z1:=zbH
  have z2:=zah
  have z3:=zaB
  have z4:=zap
  have z5:=zaq
  have hz':(its++its2).size<=sizeLine+1:=by rw[zde];omega
  wp_walk using (Y0 hl rfl (hz:=h1) (_hz':=hz')),zaC hl,zaC hb
  exact ⟨_,rfl,h⟩
def T8 (K:Wq):V->List V->Hp->VK->Prop:=λx vs H Q=>∃ l b xs zs,x=.ref l/\vs=[.ref b]/\H l=some (.lst xs)/\SqL K H b zs/\xs.length+zs.length<=sizeLine/\Q .non (L2.upd H l (.lst (xs++zs)))
theorem PC:MtM X "list.extend" (T8 X.K):=by
 intro pins s σ H x vs v us Q I rx rv h
 obtain ⟨l,q,xs,zs,rfl,rfl,hH,hB,hz,qq⟩:=h
 cases (show v=Xa l from rx)
 obtain ⟨u,rfl,ru⟩:=rv.one
 cases (show u=Xa q from ru)
 obtain ⟨z,its,n,r,hl,e⟩:=I.NZ hH
 obtain ⟨its2,r2,⟨o,n2,e2,c2,d2,dat2⟩,_⟩:=I.list hB
 have e2':s.heap.get? q=some ⟨.type "list", none,.seq its2.toArray n2,o.slots⟩:=by
  rw[e2];obtain ⟨c',dd,dt,sl⟩:=o;simp only at c2 d2 dat2;subst c2 d2 dat2;rfl
 have hl2:=r2.length
 have hs2:its.toArray.size+its2.toArray.size<=sizeLine:=by rw[WR,WR];omega
 have JH:¬ (!its.toArray.isEmpty&&XX (its.toArray.size+its2.toArray.size))=true:=by
  rw[Ac hs2,zcb];decide
 refine zab zcS ⟨_,e,rfl⟩ zcq (zcc _ _) (ET l its.toArray n q its2.toArray n2 o.slots JH (by omega) (by omega)) ⟨e,e2',?_⟩
 refine ⟨.non,_,I.Nb (its':=its++its2) hH e (by simp) (r.append r2) ?_,rfl,qq⟩
 rw[WG];omega
end
section
variable {P:W9} {w:Xm} {K:Wq} {mg:Str->Option Wv} {base:Heap}
theorem UC {k:Nat}{f:Addr}{fd:WT}{ps:List Str}{x qual:Str}{st:Stmt}{N:List Str}(F:Fun K x qual st f fd)(S:aG N ps (av st)):jf P w K mg base CX0 (k+1) f fd ps (lift K λ_ _ _=>False):=by
 refine F.ok S (λvs H Q E h=>?_) (λcdv A outer s H vs Q E hroom h=>?_)
 ·obtain ⟨ds,μ,QQ,l,m,h1,k⟩:=h;exact h1.elim
 ·obtain ⟨ds,μ,QQ,l,m,h1,k⟩:=h;exact h1.elim
end
end
section
open PySem PySem.Spec PyProof.Rows L2
section
variable {X:Cx} {tg a ea eb:W4} {Ta:ETr} {es:List W4} {ek:Nat} {ep p pos:Pos}
def We (K:Wq)(tl:TE):TI:=λσ H R=>tl σ H λx H1=>∃ q,x=.ref q/\(((∃ xs,SqL K H1 q xs)/\R (Itl K q) H1)∨((∃ xs,SqT K H1 q xs)/\R (Itt K q) H1))
theorem Q6 {tl:TE}(hl:PE X a tl):PI X tg a (We X.K tl):=by
 intro pins s σ H R I h
 refine thn (hl pins s σ H _ I h) λv s1 ⟨x,H1,I1,r1,q,ex,qq⟩=>?_
 subst ex
 cases (show v=Xa q from r1)
 have fp:∀ b∈[s1.heap.objs.size],_:=λb hb=>by
  have e:b=s1.heap.objs.size:=by simpa using hb
  subst e
  exact I1.AB (WL _) (I1.hok.fresh (WL _))
 rcases qq with ⟨⟨xs,sq⟩,qq⟩ | ⟨⟨xs,sq⟩,qq⟩
 ·obtain ⟨its,rv,pl,hz⟩:=I1.list sq
  exact Y9 pl.isList ⟨s1.heap.objs.size,[s1.heap.objs.size],_,_,H1,rfl,I1.kept (t':=s1.toks) (λb o e=>Wu _ e),t8 q _,⟨_,WJ _ rfl,rfl,rfl⟩,fp,qq⟩
 ·obtain ⟨its,rv,pl,hz⟩:=I1.tuple sq
  exact zcO (show s1.heap.IsTuple q its.toArray from pl) ⟨s1.heap.objs.size,[s1.heap.objs.size],_,_,H1,rfl,I1.kept (t':=s1.toks) (λb o e=>Wu _ e),Ar q _,⟨_,WJ _ rfl,rfl,rfl⟩,fp,qq⟩
theorem bJ (ha:LE X a Ta):LI X tg a (eg Ta):=by
 obtain ⟨ta,pa,sa⟩:=ha.ex
 refine ⟨_,Q6 pa,λσ H ρ μ Q R rl h k=>sa σ H ρ μ _ _ rl h λx H1 d μ1 t1 m1 p1 h1=>?_⟩
 cases p1 with
 | @tup p xs ds q l=>exact ⟨p,rfl,.inr ⟨⟨xs,q⟩,k _ H1 ds μ1 t1 m1 (Gj q l) h1⟩⟩
 | @ls p xs ds q l=>exact ⟨p,rfl,.inl ⟨⟨xs,q.sq⟩,k _ H1 ds μ1 t1 m1 (M7 q l) h1⟩⟩
 | _=>exact WA h1
def SF (K:Wq)(t:TA):TI:=λσ H R=>t σ H λvs H1=>∃ (ta tb:Bool) (a b:Addr),vs=[.ref a,.ref b]/\(∃ xs,Sq ta K H1 a xs)/\(∃ ys,Sq tb K H1 b ys)/\R (Itz ta tb K a b) H1
theorem NK {t:TA}(hg:Gl X "zip")(hm:X.mg "zip" = none)(ha:PA X [ea,eb] t)(hs:WI [ea,eb] X.env=[(false,XG ea X.env),(false,XG eb X.env)]:=by rfl)(hs2:WI [eb] X.env=[(false,XG eb X.env)]:=by rfl) :
  PI X (.Tuple es ek ep) (.Call (.Name "zip" p) [ea,eb] [] pos) (SF X.K t):=by
 intro pins s σ H R I h
 refine Call_ (gU I hg hm boot_zip (Xw (thn (ha pos pins s σ H _ I h) λus s1 ⟨vs,H1,I1,r1,ta,tb,a,b,e,⟨xs,qa⟩,⟨ys,qb⟩,q⟩=>?_) (by rw[hs,hs2]) (by rw[hs2];rfl)))
 subst e
 cases r1 with | cons r rr=>cases rr with | cons r' rr=>
 cases rr
 cases (show _=Xa a from r)
 cases (show _=Xa b from r')
 obtain ⟨ia,ra,sa⟩:=Inv.sq I1 qa
 obtain ⟨ib,rb,sb⟩:=Inv.sq I1 qb
 have alt:a < s1.heap.objs.size:=by cases ta<;>(obtain ⟨o,e,_⟩:=sa;exact WH e)
 have blt:b < s1.heap.objs.size:=by cases tb<;>(obtain ⟨o,e,_⟩:=sb;exact WH e)
 refine Et sa sb λg S kp=>zag S.zz ⟨s1.heap.objs.size+4,[s1.heap.objs.size+4,s1.heap.objs.size+2,s1.heap.objs.size+3,s1.heap.objs.size,s1.heap.objs.size+1],_,_,H1,rfl,I1.kept (t':=s1.toks) kp,IG (SA _ _ _ alt blt),S,λc hc=>?_,q⟩
 exact I1.AB (N9 _ _ hc) (I1.hok.fresh (N9 _ _ hc))
def jK (t:ATr):ATr:=λρ μ Q=>t ρ μ λvs μ1=>k2 vs λx y=>kS x λds=>kS y λes=>Q (X0 (λd e=>.tup [d,e]) ds es) μ1
theorem Bz {K:Wq}{H:Hp}{v:V}{x:D}{f:List D->Prop}(p:Dp K H v x)(h:kS x f):∃ (tp:Bool) (a:Addr) (xs:List V) (ds:List D),v=.ref a/\SqX tp K H a xs/\DpL K H xs ds/\kQ tp x f:=by
 cases p with
 | @tup a xs ds q l=>exact ⟨true,a,xs,ds,rfl,q,l,h⟩
 | @ls a xs ds q l=>exact ⟨false,a,xs,ds,rfl,q,l,h⟩
 | _=>exact WA h
theorem gL {At:ATr}(hg:Gl X "zip")(hm:X.mg "zip" = none)(ha:LA X [ea,eb] At)
  (hs:WI [ea,eb] X.env=[(false,XG ea X.env),(false,XG eb X.env)]:=by rfl) (hs2:WI [eb] X.env=[(false,XG eb X.env)]:=by rfl) :
  LI X (.Tuple es ek ep) (.Call (.Name "zip" p) [ea,eb] [] pos) (jK At):=by
 obtain ⟨t,pt,st⟩:=ha.ex
 refine ⟨_,NK hg hm pt hs hs2,λσ H ρ μ Q R rl h k=>st σ H ρ μ _ _ rl h λvs H1 ds μ1 t1 m1 p1 h1=>?_⟩
 unfold L3.k2 at h1
 split at h1
 case h_2=>exact WA h1
 cases p1 with | cons pa p2=>cases p2 with | cons pb p3=>
 cases p3
 obtain ⟨ta,a,xs,dx,rfl,qa,la,h2⟩:=Bz pa h1
 obtain ⟨a',xs',dx',ea',qa',la',h2⟩:=BX pa h2
 cases ea'
 obtain ⟨tb,b,ys,dy,rfl,qb,lb,h3⟩:=Bz pb h2
 obtain ⟨b',ys',dy',eb',qb',lb',h3⟩:=BX pb h3
 cases eb'
 refine ⟨ta,tb,a,b,rfl,⟨xs',qa'.sq⟩,⟨ys',qb'.sq⟩,k _ H1 _ μ1 t1 m1 ⟨λi H' tk hi=>?_,λi H' v H'' tk hi yv=>?_,λi H' tk hi=>?_⟩ h3⟩
 ·have l1:=la'.length
  have l2:=lb'.length
  rw[XJ] at hi
  exact ⟨xs',ys',xs'[i],ys'[i],tk.sq qa',tk.sq qb',by simp[show i < xs'.length by omega],by simp[show i < ys'.length by omega]⟩
 ·obtain ⟨x,y,q,fx,fy,rfl,fr,rfl⟩:=yv
  obtain ⟨d,ed,pd⟩:=la'.get' (fx _ (tk.sq qa'))
  obtain ⟨e,ee,pe⟩:=lb'.get' (fy _ (tk.sq qb'))
  have tn:Tk H' (L2.upd H' q (.tup [x,y])):=.new fr
  exact ⟨tn,⟨.tup [d,e],by simp[zbU,ed,ee],.tup (SqT.of aK) (.cons ((pd.mono tk).mono tn) (.cons ((pe.mono tk).mono tn) .nil))⟩,λμ' m'=>bV m' fr⟩
 ·have l1:=la'.length
  have l2:=lb'.length
  rw[XJ] at hi
  exact ⟨xs',ys',tk.sq qa',tk.sq qb',by omega⟩
variable {i o:W4} {Ti To:ETr}
end
end
section
open PySem PySem.Spec PyProof.Rows L2
def ltS (x y:Str):Bool:=decide (x.cps.toList < y.cps.toList)
theorem lW:∀ {us:List Wv} {ss:List Str},StrsAre us ss->Vals (ss.map V.str) us
 | _,_,.nil=>.nil
 | _,_,.cons n t h=>.cons ⟨t,rfl⟩ (lW h)
theorem Df:∀ {us:List Wv} {ss:List Str},Vals (ss.map V.str) us->StrsAre us ss
 | _,[],h=>by cases h;exact .nil
 | _,s::r,h=>by
  cases h with
  | cons q h=>obtain ⟨t,rfl⟩:=(show ∃ t,_=zaH s t from q);exact .cons s t (Df h)
def Qq (K:Wq):List V->Hp->VK->Prop:=λxs H Q=>∃ (p:Addr) (ss:List Str),xs=[.ref p]/\SqL K H p (ss.map V.str)/\ss.length < 64/\∀ ss':List Str,ss'.Perm ss->ss'.Pairwise (λa b=>ltS b a=false)->∀ z,H z=none->Q (.ref z) (L2.upd H z (.lst (ss'.map V.str)))
theorem Fe:∀ (p:Str) (l:List Str),risingS p l=true->(p::l).Pairwise (λa b=>ltS b a=false):=by
 have tr:∀ a b c:Str,ltS b a=false->ltS c b=false->ltS c a=false:=by
  intro a b c h1 h2
  unfold ltS at *
  rw[decide_eq_false_iff_not,zdJ] at *
  exact List.le_trans h1 h2
 intro p l
 induction l generalizing p with
 | nil=>intro _;exact List.pairwise_singleton _ _
 | cons x r ih=>
  intro h
  have h':ltCps x.cps.toList p.cps.toList=false/\risingS x r=true:=by
   have:(!ltCps x.cps.toList p.cps.toList&&risingS x r)=true:=h
   simpa using this
  have hx:=ih x h'.2
  have hpx:ltS x p=false:=by unfold ltS;rw[← ltCps_eq];exact h'.1
  refine ZG.mpr ⟨λy hy=>?_,hx⟩
  rcases WK.mp hy with rfl | hy
  ·exact hpx
  ·exact tr p x y hpx ((ZG.mp hx).1 y hy)
theorem EE:∀ (l:List Str),sortedS l=true->l.Pairwise (λa b=>ltS b a=false)
 | [],_=>.nil
 | p::l,h=>Fe p l h
theorem BK {X:Cx}:bU X (.builtin "sorted") (Qq X.K):=λpins s σ H xs us Q I rx ⟨p,ss,e1,sq,hl,q⟩=>by
 subst e1
 obtain ⟨u,rfl,ru⟩:=vals1 rx
 cases (show u=Xa p from ru)
 obtain ⟨its,rv,pl,hz⟩:=I.list sq
 have hi:StrsAre its ss:=Df rv
 have hlen:its.length < 64:=by have:=rv.length;simp at this;omega
 refine sorted_strs pl.isList hi hlen λout ss' a1 a2 a3=>?_
 obtain ⟨n,en⟩:=sortedAll_at s.heap its out
 refine ⟨.ref _,_,I.laid (t':=s.toks) (o:=.lst (ss'.map V.str)) (λb o e=>sortedAll_old e) (zal _) ?_,rfl,q ss' a2 (EE _ a3) _ (I.hok.fresh (zal _))⟩
 have z1:ss'.length=ss.length:=a2.length_eq
 exact ⟨by rw[Ww,z1];exact ZR (WV hl (by decide)),out.toList,n,lW a1,by simpa[zaz] using en⟩
def B8:FSp:=λds μ Q=>match ds with
 | [.ls xs]=>∃ ss:List Str,(xs=ss.map .str/\ss.length < 64)/\∀ ss':List Str,ss'.Perm ss->ss'.Pairwise (λa b=>ltS b a=false)->Q (.ls (ss'.map .str)) μ
 | _=>False
theorem DpL.strs {K:Wq}{H:Hp}:∀ ss:List Str,DpL K H (ss.map V.str) (ss.map D.str)
 | []=>.nil
 | s::r=>.cons (.str s) (DpL.strs r)
theorem DpL.lW {K:Wq}{H:Hp}:∀ {xs:List V} {ss:List Str},DpL K H xs (ss.map .str)->xs=ss.map V.str
 | _,[],.nil=>rfl
 | _,s::r,.cons h l=>by cases h;rw[DpL.lW l];rfl
section
variable {X:Cx} {e a b:W4} {x:Str} {p pos:Pos} {At:ATr} {Ta Tb:ETr}
theorem Jg (hg:Gl X x)(hm:X.mg x=none)(hv:XR x=some (.builtin "sorted"))(ha:LA X [e] At)(hn:x ≠ "__name__" := by decide)(hdb:(x == ("__debug__" : Str))=false:=by decide)
  (h1:WI [e] X.env=(false,XG e X.env)::WI [] X.env:=by rfl) (h2:(XM pos (WI [] X.env)).any (·.1)=false:=by rfl):LE X (.Call (.Name x p) [e] [] pos) (aq B8 At):=by
 obtain ⟨ta,pa,sa⟩:=ha.ex
 refine ⟨_,jk (lT BK hg hm hv pa hn hdb h1 h2),λσ H ρ μ Q Q' rl h k=>sa σ H ρ μ _ _ rl h λxs H1 ds μ1 t1 m1 p1 h1=>?_⟩
 unfold B8 at h1
 split at h1
 ·obtain ⟨ss,⟨rfl,hl⟩,h2⟩:=h1
  cases p1 with | cons p1 p2=>
  cases p2
  cases p1 with
  | @ls a ys _ q l=>
   cases DpL.lW l
   refine ⟨a,ss,rfl,q.sq,hl,λss' a2 a3 z hz=>⟨z,_,rfl,aK,λo=>?_⟩⟩
   have e:L2.upd (L2.upd H1 z (.lst (ss'.map V.str))) z (.frz o (.lst (ss'.map V.str)))=L2.upd H1 z (.frz o (.lst (ss'.map V.str))):=vG
   rw[e]
   exact k _ _ _ μ1 (t1.trans (.new hz)) (bV m1 hz) (.ls (.inl ⟨o,aK⟩) (.strs ss')) (h2 ss' a2 a3)
 ·exact WA h1
def Oi (f:Str->Str->Bool):DR2:=λx y μ Q=>match x,y with
 | .str i,.str j=>Q (.bl (f i j)) μ
 | _,_=>False
theorem Pd:OpR X (X9 .Gt) (λx y H Q=>∃ i j,x=.str i/\y=.str j/\Q (.bl (ltS j i)) H):=by
 intro pins s σ H x y v u Q I rx ry h
 obtain ⟨i,j,rfl,rfl,q⟩:=h
 obtain ⟨t,rfl⟩:=rx
 obtain ⟨t',rfl⟩:=ry
 exact PySem.P.gt_str ⟨.bl _,H,I,rfl,q⟩
theorem HE {K:Wq}(f:Str->Str->Bool):fm K (λx y H Q=>∃ i j,x=.str i/\y=.str j/\Q (.bl (f i j)) H) (Oi f):=λH μ x y dx dy Q Q' m px py h k=>by
 cases px with
 | str i=>cases py with
  | str j=>exact ⟨i,j,rfl,rfl,k _ H _ μ (.refl H) m (.bl _) h⟩
  | _=>exact WA h
 | _=>cases py<;>exact WA h
def Rt:DR2:=Oi λi j=>ltS j i
theorem Rk (ha:LE X a Ta)(hb:LE X b Tb):LT X (.Compare a [.Gt] [b] pos) (TB (aj Rt Ta Tb)):=gK Pd (HE _) ha hb (fZ _)
end
end
section
open PySem PySem.Spec PyProof.Rows L2
def lj (C:Mu->Prop)(p:Addr)(G:GTr)(tt:TTr)(te:ETr)(ρc:ST)(K:Mu->Prop):List D->Mu->Prop
 | [],μ=>C μ/\K μ
 | d::r,μ=>C μ/\G d ρc μ λρ1 μ1=>tt ρ1 μ1 λb μ2=>kIf b (te ρ1 μ2 λy μ3=>kL μ3 p λzs=>zs.length < 1000000/\lj C p G tt te ρc K r (up μ3 p (.lst (zs++[y])))) (lj C p G tt te ρc K r μ2)
def iT (To:ETr)(G:GTr)(tt:TTr)(te:ETr)(n:Nat)(caps:List Nat):ETr:=λρ μ Q=>To ρ μ λx μ1=>kObj x λa=>kL μ1 a λds=>∀ p,μ1 p=none->
 lj (λμ=>μ a=some (.lst ds)) p G tt te (fc ρ n caps) (λμ'=>kL μ' p λzs=>Q (.ls zs) (dn μ' p)) ds (up μ1 p (.lst []))
theorem tW {K:Wq}{ta:TE}{To:ETr}{G:GTr}{Tt:TTr}{Te:ETr}{n:Nat}{caps:List Nat}(sa:Sim K ta To):Sim K (Ea (kT (N5 K ta) (mL K n G) (liftT K Tt) (lO K Te) n caps)) (iT To G Tt Te n caps):=by
 intro σ H ρ μ Q Q' rl h k
 refine sa σ H ρ μ _ _ rl h λx H1 dx μ1 t1 m1 px hx=>?_
 obtain ⟨q,rfl,hx⟩:=fk px hx
 obtain ⟨ds,eq0,h1⟩:=bN hx
 obtain ⟨xs0,exs0,l0⟩:=m1 q _ eq0
 refine ⟨q,rfl,⟨_,SqL.of exs0⟩,λD hD=>?_⟩
 have hp:=h1 D (m1.free hD)
 have tD:Tk H1 (L2.upd H1 D (.lst [])):=.new hD
 have mD:bE K (L2.upd H1 D (.lst [])) (up μ1 D (.lst [])):=λa o e=>by
  by_cases ha:a=D
  ·subst ha
   rw[aF] at e;cases e
   exact ⟨[],aK,.nil⟩
  ·rw[aS ha] at e
   exact bV m1 hD a o e
 refine ⟨λi m ys H2=>m=ds.length - i/\i<=ds.length/\Tk H1 H2/\∃ μ2,bE K H2 μ2/\lj (λμ=>μ q=some (.lst ds)) D G Tt Te (fc ρ n caps) (λμ'=>kL μ' D λzs=>Q (.ls zs) (dn μ' D)) (ds.drop i) μ2,
  ⟨ds.length,by simp,Ya _,tD,_,mD,by simpa using hp⟩,?_⟩
 rintro i m ys H2 ⟨rfl,hi,t12,μ2,m2,h2⟩
 have hg:μ2 q=some (.lst ds):=by
  cases hdr:ds.drop i with
  | nil=>rw[hdr] at h2;exact h2.1
  | cons=>rw[hdr] at h2;exact h2.1
 obtain ⟨xs2,ex2,l2⟩:=m2 q _ hg
 have ll:=l2.length
 by_cases hlt:i < ds.length
 ·refine .inr ⟨⟨xs2,xs2[i]'(by omega),SqL.of ex2,WO (by omega)⟩,λys' H'=>Tk H1 H'/\∃ μ',bE K H' μ'/\lj (λμ=>μ q=some (.lst ds)) D G Tt Te (fc ρ n caps) (λμ'=>kL μ' D λzs=>Q (.ls zs) (dn μ' D)) (ds.drop (i+1)) μ',λys' H' ⟨t',μ',m',h'⟩=>⟨ds.length - (i+1),by omega,rfl,hlt,t',μ',m',h'⟩,λx H3 y=>?_⟩
  obtain ⟨rfl,y⟩:=y
  have exi:=y xs2 (SqL.of ex2)
  obtain ⟨d,ed,pd⟩:=l2.get' exi
  have e:ds.drop i=d::ds.drop (i+1):=by
   refine (Yb hlt).trans ?_
   congr 1
   rw[WO hlt] at ed
   exact Xq ed
  rw[e] at h2
  have t13:=t12
  have r3:Rl K (kA σ n caps) H3 (fc ρ n caps) μ2:=pM (rl.go (t1.trans t13) m2) n caps
  refine ⟨_,_,d,_,r3,pd,h2.2,λσ4 H4 ρ4 μ4 t4 r4 kp h4=>⟨⟨kp.1.symm,λj v ej=>?_⟩,_,_,_,r4,h4,λb H5 μ5 t5 m5 h5=>?_⟩⟩
  ·by_cases hj:n<=j
   ·rw[kp.2 j hj];exact ej
   ·obtain ⟨j',k',e1,_⟩:=jF ej
    omega
  ·have t15:=t13.trans (t4.trans t5)
   cases b with
   | false=>exact pw ⟨t15,μ5,m5,h5⟩
   | true=>
    refine pk ⟨_,_,_,r4.go t5 m5,h5,λv H6 d6 μ6 t6 m6 p6 h6=>?_⟩
    obtain ⟨zs,ez,lz,h7⟩:=bN h6
    obtain ⟨xs,ex,lx⟩:=m6 D _ ez
    have t67:Tk H6 (L2.upd H6 D (.lst (xs++[v]))):=.upd (λys z=>by rw[ex] at z;cases z) λo' u z=>by rw[ex] at z;cases z
    refine ⟨xs,ex,by rw[lx.length];exact WV lz (by decide),(t15.trans t6).trans t67,up μ6 D (.lst (zs++[d6])),λa o ea=>?_,h7⟩
    by_cases ha:a=D
    ·subst ha
     rw[aF] at ea;cases ea
     exact ⟨_,aK,(lx.append (.cons p6 .nil)).mono t67⟩
    ·rw[aS ha] at ea
     exact (m6 a _ ea).ne t67 ha
 ·have e:i=ds.length:=by omega
  subst e
  rw[YO] at h2
  obtain ⟨zs,ez,hq⟩:=bN (show kL μ2 D λzs=>Q (.ls zs) (dn μ2 D) from h2.2)
  obtain ⟨xs,ex,lx⟩:=m2 D _ ez
  refine .inl ⟨⟨xs2,SqL.of ex2,by omega⟩,D,xs,rfl,ex,λo=>?_⟩
  have t2f:Tk H2 (L2.upd H2 D (.frz o (.lst xs))):=.upd (λys z=>by rw[ex] at z;cases z) λo' u z=>by rw[ex] at z;cases z
  refine k _ _ _ (dn μ2 D) ((t1.trans t12).trans t2f) (λa o' ea=>?_) (.ls (.inl ⟨o,aK⟩) (lx.mono t2f)) hq
  have ha:a≠D:=λz=>by subst z;unfold dn at ea;rw[if_pos rfl] at ea;cases ea
  have ea':μ2 a=some o':=by unfold dn at ea;rw[if_neg ha] at ea;exact ea
  exact (m2 a _ ea').ne t2f ha
theorem nk {X:Cx}{tg elt iter:W4}{Te:ETr}{Tt:TTr}{pos spos py:Pos}{y:Str}{To:ETr}{G:GTr}{ifs:List W4}{scope fsc:Scope}(iy:Nat)(hN:X.N.Nodup)(XN Nc:List Str)(n:Nat)(caps:List Nat)(hxe:X.xe=λ_ _=>False)(hcalm:X.calm=true)(hi:LE X iter To)
  (hbody:∀ (cl:List (Str×Addr)) (C:Addr) (s₀:Wz) (H₀:Hp) (ex:List Addr),LGc (ba X scope Nc cl C s₀ H₀ ex) n tg G/\xg (ba X scope Nc cl C s₀ H₀ ex) ifs Tt/\LE (ba X scope Nc cl C s₀ H₀ ex) elt Te)
  (hsc:X.env.scope=fsc) (hXN:X.N=XN) (hok:hE fsc.names XN scope Nc n caps=true)
  (hiy:X.N[iy]? = some y:=by rfl) (hx:Loc X.env.scope y:=by first | exact ZX rfl | exact ZY rfl) (hf:X.fn y=true∨X.env.scope.names.lookup y=some .local:=by first | exact .inl rfl | exact .inr rfl | assumption)
  (hsw:Yz (.ListComp elt [⟨tg,iter,ifs,0⟩] scope pos) (some (.Name y py)) spos.line X.env=pure true:=by rfl)
  (hs:∀ x,Xs iter X.env x=pure x:=by intro _;rfl) :
  LS X (.Assign [.Name y py] (.ListComp elt [⟨tg,iter,ifs,0⟩] scope pos) spos) (aN (iT To G Tt Te n caps) (aw iy)):=by
 unfold hE at hok
 simp only[Xd,Zm] at hok
 obtain ⟨⟨⟨h1,h2⟩,h3⟩,h4⟩:=hok
 obtain ⟨ta,pa,sa⟩:=hi.ex
 refine ⟨_,CT (g:=mL X.K n G) (tt:=liftT X.K Tt) (te:=lO X.K Te) hxe hcalm (CY pa) (λcl C s₀ H₀ ex=>let ⟨h1,h2,h3⟩:=hbody cl C s₀ H₀ ex;⟨h1.pe,h2.pe,h3.pe⟩) (λy hy hf=>?_) (λy hy hf=>?_) (by simpa using h2) (λy hy hf=>?_) (by simpa using h3) (λj k hj=>?_) (iE hN hiy hx hf) hsw hs,λσ H ρ μ E E' rl h k=>tW sa σ H ρ μ _ _ rl h λv H' d μ' t' m' p' h'=>ir iy σ H' ρ μ' v d _ _ (rl.go t' m') p' h' (k.go t').nx⟩
 ·have:=(h1 y hy).1.1
  show X.env.scope.names.lookup y.1=_
  rw[hsc]
  simpa[hf] using this
 ·have:=(h1 y hy).1.2
  simp[hf] at this
 ·have:=(h1 y hy).2
  simpa[hf] using this
 ·have hl:j < caps.length:=(Xc.mp hj).1
  have:=h4 j (YM.mpr hl)
  rw[hj] at this
  dsimp only at this
  rw[hXN]
  cases e:XN[k]? with
  | none=>rw[e] at this;cases this
  | some x=>
   rw[e] at this
   dsimp only at this
   rw[Xd] at this
   exact ⟨x,by simpa using this.1,rfl,by simpa using this.2⟩
theorem uj {X:Cx}{tg elt iter:W4}{Te:ETr}{Tt:TTr}{pos:Pos}{To:ETr}{G:GTr}{ifs:List W4}{scope fsc:Scope}(XN Nc:List Str)(n:Nat)(caps:List Nat)(hxe:X.xe=λ_ _=>False)(hcalm:X.calm=true)(hi:LE X iter To)
  (hbody:∀ (cl:List (Str×Addr)) (C:Addr) (s₀:Wz) (H₀:Hp) (ex:List Addr),LGc (ba X scope Nc cl C s₀ H₀ ex) n tg G/\xg (ba X scope Nc cl C s₀ H₀ ex) ifs Tt/\LE (ba X scope Nc cl C s₀ H₀ ex) elt Te)
  (hsc:X.env.scope=fsc) (hXN:X.N=XN) (hok:hE fsc.names XN scope Nc n caps=true)
  (hs:∀ x,Xs iter X.env x=pure x:=by intro _;rfl) :
  LE X (.ListComp elt [⟨tg,iter,ifs,0⟩] scope pos) (iT To G Tt Te n caps):=by
 unfold hE at hok
 simp only[Xd,Zm] at hok
 obtain ⟨⟨⟨h1,h2⟩,h3⟩,h4⟩:=hok
 obtain ⟨ta,pa,sa⟩:=hi.ex
 refine ⟨_,jk (C1 (g:=mL X.K n G) (tt:=liftT X.K Tt) (te:=lO X.K Te) hxe hcalm (CY pa) (λcl C s₀ H₀ ex=>let ⟨h1,h2,h3⟩:=hbody cl C s₀ H₀ ex;⟨h1.pe,h2.pe,h3.pe⟩) (λy hy hf=>?_) (λy hy hf=>?_) (by simpa using h2) (λy hy hf=>?_) (by simpa using h3) (λj k hj=>?_) hs),tW sa⟩
 ·have:=(h1 y hy).1.1
  show X.env.scope.names.lookup y.1=_
  rw[hsc]
  simpa[hf] using this
 ·have:=(h1 y hy).1.2
  simp[hf] at this
 ·have:=(h1 y hy).2
  simpa[hf] using this
 ·have hl:j < caps.length:=(Xc.mp hj).1
  have:=h4 j (YM.mpr hl)
  rw[hj] at this
  dsimp only at this
  rw[hXN]
  cases e:XN[k]? with
  | none=>rw[e] at this;cases this
  | some x=>
   rw[e] at this
   dsimp only at this
   rw[Xd] at this
   exact ⟨x,by simpa using this.1,rfl,by simpa using this.2⟩
end
theorem MW (a b:ETr)(ρ:ST)(μ:Mu)(Q:DK):bK a b ρ μ Q=a ρ μ λx μ1=>b ρ μ1 λy μ2=>kObj x λa=>kD μ2 a λkvs=>tG y λk=>kO (cF kvs k) λd=>Q d μ2:=propext Wx
theorem KG (a b e:ETr)(nx:ST->Mu->Prop)(rt:DK)(bk ct:ST->Mu->Prop)(ρ:ST)(μ:Mu):i7 a b e ⟨nx,rt,bk,ct⟩ ρ μ=e ρ μ λv μ1=>a ρ μ1 λx μ2=>b ρ μ2 λy μ3=>kObj x λa=>kD μ3 a λkvs=>tG y λk=>kvs.length < 1000000/\nx ρ (up μ3 a (.dct (putD kvs k v))):=propext Wx
theorem Nf (f:Int->Int->Int)(a b e:ETr)(nx:ST->Mu->Prop)(rt:DK)(bk ct:ST->Mu->Prop)(ρ:ST)(μ:Mu):mw f a b e ⟨nx,rt,bk,ct⟩ ρ μ=a ρ μ λx μ1=>b ρ μ1 λy μ2=>kObj x λa=>kD μ2 a λkvs=>tG y λk=>kO (cF kvs k) λd=>kI d λm=>e ρ μ2 λw μ3=>kI w λn=>kD μ3 a λkvs3=>kvs3.length < 1000000/\nx ρ (up μ3 a (.dct (putD kvs3 k (.int (f m n))))):=propext Wx
theorem PR (f:Int->Int->Int)(i:Nat)(e:ETr)(nx:ST->Mu->Prop)(rt:DK)(bk ct:ST->Mu->Prop)(ρ:ST)(μ:Mu):MT f i e ⟨nx,rt,bk,ct⟩ ρ μ=ah i ρ μ λd _=>kI d λm=>e ρ μ λw μ1=>kI w λn=>aw i (.int (f m n)) ρ μ1 nx:=propext Wx
theorem MB (ks:List L2.Key)(t:ATr)(ρ:ST)(μ:Mu)(Q:DK):IZ ks t ρ μ Q = ∀ p,μ p=none->t ρ (up μ p (.dct [])) λds μ2=>kD μ2 p λkvs=>kvs=[]/\Q (.obj p) (up μ2 p (.dct (ks.zip ds))):=propext Wx
theorem O6 (a b:ETr)(ρ:ST)(μ:Mu)(Q:DK):PV a b ρ μ Q=a ρ μ λx μ1=>kObj x λa=>kL μ1 a λ_=>b ρ μ1 λy μ2=>kI y λj=>(-9223372036854775808<=j/\j < 9223372036854775808)/\kL μ2 a λds=>kN (L2.ixN ds.length j) λk=>kO ds[k]? λd=>Q d (up μ2 a (.lst (ds.eraseIdx k))):=propext Wx
theorem Ko (a b:ETr)(ρ:ST)(μ:Mu)(Q:DK):Ay a b ρ μ Q=a ρ μ λx μ1=>tJ μ1 x λ_=>b ρ μ1 λy μ2=>tJ μ2 x λds=>(b7 38 ds=true/\okD 38 y=true)/\kN (Eo ds y) λj=>j < 1000000/\Q (.int j) μ2:=propext Wx
theorem O8 (a:ETr)(ρ:ST)(μ:Mu)(Q:List D->Mu->Prop):eg a ρ μ Q=a ρ μ λx μ1=>kS x λds=>Q ds μ1:=propext Wx
theorem NM (t:ATr)(ρ:ST)(μ:Mu)(Q:List D->Mu->Prop):jK t ρ μ Q=t ρ μ λvs μ1=>k2 vs λx y=>kS x λds=>kS y λes=>Q (X0 (λd e=>.tup [d,e]) ds es) μ1:=propext Wx
theorem OU (n:Bool)(x:D)(ds:List D)(μ:Mu)(Q:DK):Nr n x (.ls ds) μ Q=((b7 38 ds=true/\okD 38 x=true)/\Q (.bl (if n then !inG x ds else inG x ds)) μ):=propext Wx
theorem OS (μ:Mu)(ds:List D)(f:List D->Prop):tJ μ (.ls ds) f=f ds:=propext Wx
theorem Qd (s:Str)(f:L2.Key->Prop):tG (.str s) f=f (.inr s):=propext Wx
theorem N1 {μ:Mu}{a:Addr}{ds:List (L2.Key×D)}(h:μ a=some (.dct ds))(f):kD μ a f=f ds:=by unfold kD;rw[h]
theorem SQ (μ:Mu)(a:Addr)(ds:List (L2.Key×D))(f:List (L2.Key×D)->Prop):kD (up μ a (.dct ds)) a f=f ds:=N1 aF f
theorem SM {μ:Mu}{a:Addr}{ds:List (L2.Key×D)}{f:List (L2.Key×D)->Prop}(e:μ a=some (.dct ds))(h:f ds):kD μ a f:=by rw[N1 e];exact h
theorem MX (cs:List String)(x:D)(ts:List D)(μ:Mu)(Q:DK):gW (xP cs) [x,.tup ts] μ Q=((ts=cs.map .ty/\∀ c∈cs,c∈xc)/\(match tyD x with | some t=>Q (.bl (cs.any λc=>eP t c)) μ | none=>False)):=propext Wx
theorem L8 (xs:List D)(μ:Mu)(Q:DK):gW Dm [.ls xs] μ Q=(∃ kvs:List (L2.Key×D),xs=kvs.map A2/\kvs.length<=1000000/\∀ p,μ p=none->Q (.obj p) (up μ p (.dct (jj [] kvs)))):=propext Wx
theorem Q4 (i j:Str)(μ:Mu)(Q:DK):Rt (.str i) (.str j) μ Q=Q (.bl (ltS j i)) μ:=propext Wx
theorem IsPart.of_eq {a b c d x y:Int}(h:IsPart a b x y)(hb:0 < b)(hd:0 < d)(e:a*d=c*b):IsPart c d x y:=by
 have xd:x*d=c*y:=by
  refine Zg (a:=b) (by omega) ?_
  calc x*d*b=(x*b)*d:=by ac_rfl
   _=(a*y)*d:=by rw[h.e]
   _=(a*d)*y:=by ac_rfl
   _=(c*b)*y:=by rw[e]
   _=c*y*b:=by ac_rfl
 have y0:=h.q0
 have dx:x ∣ c:=by
  have:x ∣ y*c:=⟨d,by rw[XZ y c];exact xd.symm⟩
  have h':=Yq.mpr this
  rw[h.g] at h'
  simpa using h'
 have dy:y ∣ d:=by
  have:y ∣ x*d:=⟨c,by rw[xd,XZ]⟩
  have h':=Yq.mpr this
  rw[zbF,h.g] at h'
  simpa using h'
 refine ⟨h.q0,h.g,xd,?_,zen (by omega) (zbW.mpr dy)⟩
 by_cases hc:c=0
 ·subst hc
  have:x=0:=by
   rcases Int.mul_eq_zero.mp (show x*d=0 by rw[xd,Int.zero_mul]) with z | z
   ·exact z
   ·omega
  rw[this];exact WL _
 ·exact zen (by omega) (zbW.mpr dx)
structure Vl (d:D) (a b:Int):Prop where
 ex:∃ p q,d=fr p q/\IsPart a b p q
 b0:0 < b
theorem Vl.of_eq {d:D}{a b a' b':Int}(h:Vl d a b)(hb:0 < b')(e:a*b'=a'*b):Vl d a' b':=by
 obtain ⟨⟨p,q,rfl,P⟩,b0⟩:=h
 exact ⟨⟨p,q,rfl,P.of_eq b0 hb e⟩,hb⟩
theorem Vl.uniq {d d':D}{a b:Int}(h:Vl d a b)(h':Vl d' a b):d=d':=by
 obtain ⟨⟨p,q,rfl,P⟩,b0⟩:=h
 obtain ⟨⟨p',q',rfl,P'⟩,_⟩:=h'
 obtain ⟨rfl,rfl⟩:=P.same P' (by omega) (by omega) rfl
 rfl
theorem PZ (a:Int){b:Int}(b0:0 < b):Vl (.tup [.int (a.fdiv (W8 a b)),.int (b.fdiv (W8 a b))]) a b:=by
 have h:=DE (a:=a) (b:=b) (by omega)
 rw[if_neg (by omega)] at h
 exact ⟨⟨_,_,rfl,h⟩,b0⟩
theorem iU {lo hi p q:Int}(h:FrB lo hi p q):Vl (fr p q) p q:=⟨⟨p,q,rfl,h.q0,h.g,rfl,WL _,WL _⟩,h.q0⟩
theorem Cw {a b x y:Int}(h:IsPart a b x y)(b0:0 < b):Vl (fr x y) a b:=⟨⟨x,y,rfl,h⟩,b0⟩
theorem OB {p q a b:Int}(g:Int)(q0:0 < q)(b0:0 < b)(e:p*b=a*q):p*g / q=a*g / b:=by
 calc p*g / q=(p*g)*b / (q*b):=(X1 _ _ b0).symm
  _=(a*g)*q / (b*q):=by rw[show p*g*b=(p*b)*g by ac_rfl,e,XZ q b,show a*q*g=a*g*q by ac_rfl]
  _=a*g / b:=X1 _ _ q0
theorem O5 {p q a b:Int}(q0:0 < q)(b0:0 < b)(e:p*b=a*q):p / q=a / b:=by
 have:=OB 1 q0 b0 e
 simpa using this
theorem UL {p q r s a b c e:Int}(q0:0 < q)(s0:0 < s)(b0:0 < b)(e0:0 < e)(h1:p*b=a*q)(h2:r*e=c*s):(p*s < r*q)↔(a*e < c*b):=by
 have k1:(p*s)*(b*e)=(a*e)*(q*s):=by
  calc (p*s)*(b*e)=(p*b)*(s*e):=by ac_rfl
   _=(a*q)*(s*e):=by rw[h1]
   _=(a*e)*(q*s):=by ac_rfl
 have k2:(r*q)*(b*e)=(c*b)*(q*s):=by
  calc (r*q)*(b*e)=(r*e)*(q*b):=by ac_rfl
   _=(c*s)*(q*b):=by rw[h2]
   _=(c*b)*(q*s):=by ac_rfl
 have be:0 < b*e:=X3 b0 e0
 have qs:0 < q*s:=X3 q0 s0
 constructor
 ·intro h
  have:=Zc h be
  rw[k1,k2] at this
  exact zaT this (zbG qs)
 ·intro h
  have:=Zc h qs
  rw[← k1,← k2] at this
  exact zaT this (zbG be)
def Le (a A:Int):Prop:=-A<=a/\a<=A
theorem Le.mono {a A B:Int}(h:Le a A)(hb:A<=B):Le a B:=⟨by have:=h.1;omega,by have:=h.2;omega⟩
theorem Le.of {a A:Int}(h0:0<=a)(h1:a<=A):Le a A:=⟨by omega,h1⟩
theorem Le.add {a b A B:Int}(h:Le a A)(k:Le b B):Le (a+b) (A+B):=⟨by have:=h.1;have:=k.1;omega,by have:=h.2;have:=k.2;omega⟩
theorem Le.sub {a b A B:Int}(h:Le a A)(k:Le b B):Le (a - b) (A+B):=⟨by have:=h.1;have:=k.2;omega,by have:=h.2;have:=k.1;omega⟩
theorem Le.neg {a A:Int}(h:Le a A):Le (-a) A:=⟨by have:=h.2;omega,by have:=h.1;omega⟩
theorem Le.abs {a A:Int}(h:Le a A):(a.natAbs:Int)<=A:=by have:=h.1;have:=h.2;omega
theorem Le.IE {a A:Int}(h:(a.natAbs:Int)<=A):Le a A:=⟨by omega,by omega⟩
theorem Le.mul {a b A B:Int}(h:Le a A)(k:Le b B):Le (a*b) (A*B):=by
 refine .IE ?_
 rw[zd9,Int.natCast_mul]
 have a0:(0:Int)<=(a.natAbs:Int):=ZF _
 have b0:(0:Int)<=(b.natAbs:Int):=ZF _
 exact zec h.abs k.abs b0 (Int.le_trans a0 h.abs)
abbrev Bd (a:Int):Prop:=Le a 1000000000000000000000000000000
theorem Bd.m {a:Int}(h:Bd a):gc a:=by have:=h.1;have:=h.2;unfold gc;omega
theorem Bd.mm {a b:Int}(h:Bd a)(k:Bd b):gc (a*b):=by
 have:=(h.mul k).1;have:=(h.mul k).2
 unfold gc;omega
theorem Bd.mul {a b:Int}(h:Bd a)(k:Bd b):MulOk a b:=.inr ⟨h.m,k.m⟩
theorem IsPart.bp {a b x y:Int}(h:IsPart a b x y)(ha:Bd a):Bd x:=.IE (by have:=h.pa;have:=ha.abs;omega)
theorem IsPart.bq {a b x y:Int}(h:IsPart a b x y)(hb:Bd b):Bd y:=.IE (by have:=h.qb;have:=hb.abs;omega)
inductive Wd | still | step | swell | heed | calm
 deriving DecidableEq
structure RN where
 wd:Wd
 p:Int
 q:Int
 x:Int
 y:Int
 a:Int
 b:Int
 l:Int
 h:Int
 r:Int
 s:Int
def Wd.str:Wd->Str
 | .still=>OF "still"
 | .step=>OF "step"
 | .swell=>OF "swell"
 | .heed=>OF "heed"
 | .calm=>OF "calm"
def RN.toD (R:RN):D:=match R.wd with
 | .still=>.tup [.str "still", fr R.p R.q]
 | .step=>.tup [.str "step", fr R.p R.q,fr R.x R.y,fr R.a R.b,fr R.r R.s]
 | .swell=>.tup [.str "swell", fr R.p R.q,fr R.x R.y,fr R.a R.b,fr R.r R.s]
 | .heed=>.tup [.str "heed", fr R.p R.q,fr R.x R.y,fr R.a R.b,fr R.r R.s]
 | .calm=>.tup [.str "calm", fr R.p R.q,fr R.x R.y,.int R.l,.int R.h,fr R.r R.s]
structure RN.Ok (R:RN):Prop where
 w:FrB 1 60 R.p R.q
 t:FrB 1 60 R.r R.s
 wt:R.p*R.s<=R.r*R.q
 u:FrA 0 60 R.x R.y
 u1:R.wd=.swell->R.y < R.x
 g:FrA 0 1 R.a R.b
 d1:R.wd=.step∨R.wd=.swell->R.a < R.b
 l0:0<=R.l
 lh:R.l<=R.h
 h1:R.h<=60
 st:R.wd=.still->R.r=R.p/\R.s=R.q
theorem II {lo hi:Int}(h0:lo < 1)(h1:1<=hi):FrA lo hi 1 1:=⟨⟨by decide,by decide,by decide,by omega,by omega⟩,by omega⟩
theorem Uv {p q:Int}(h:FrL 1 p q):FrA 0 1 p q:=⟨h.toFrB,by have:=h.ab;omega⟩
structure Hd where
 good:Int
 mark:Int
 bD:Int
 wt:Int
structure Hd.Ok (h:Hd):Prop where
 g0:0<=h.good
 g1:h.good<=1000000
 m0:0<=h.mark
 m1:h.mark<=1000000
 l0:0<=h.bD
 l1:h.bD<=1000000
 w0:0<=h.wt
def Hd.toD (h:Hd):D:=.tup [.int h.good,.int h.mark,.int h.bD,.int h.wt]
def Hd.bad (h:Hd):Int:=h.mark+h.bD
def Hd.many (h:Hd):Int:=h.good+h.bad
def RN.idle (R:RN)(h:Hd):Prop:=R.wd=.still∨h.good+h.mark+h.bD=0
instance (R:RN) (h:Hd):Decidable (R.idle h):=by unfold RN.idle;infer_instance
def RN.cap (R:RN)(g:Int):Int:=R.r*g / R.s
def RN.shr (R:RN)(g S:Int)(h:Hd):Int:=if R.wd=.heed then (S*R.b*h.many+R.a*(h.bad*g - S*h.many)) / (R.b*h.many) else S
def RN.fac (R:RN)(g S:Int)(h:Hd):Option (Int×Int):=match R.wd with
 | .still=>none
 | .calm=>if 0 < h.bD then some (1,2) else none
 | .heed=>if h.bad=0 then none else some (2*g - S,2*g)
 | .swell=>if h.bad=0 then some (R.x,R.y) else some (R.a,R.b)
 | .step=>if h.bad=0 then none else some (R.a,R.b)
def RN.mvd (R:RN)(g W:Int)(h:Hd):Int:=if R.wd=.calm then (if h.wt < R.l then W*R.y+g*R.x else if R.h < h.wt then W*R.y - g*R.x else W*R.y) else W*R.y+g*R.x
def RN.mv (R:RN)(g W S:Int)(h:Hd):Int:=match R.fac g S h with
 | some f=>W*f.1 / f.2
 | none=>R.mvd g W h / R.y
def RN.clip (R:RN)(g z:Int):Int:=min (max z g) (R.cap g)
def RN.beh (R:RN)(g W S:Int)(h:Hd):Int×Int:=if R.idle h then (W,S) else (R.clip g (R.mv g W (R.shr g S h) h),R.shr g S h)
theorem Jq {R:RN}(k:R.Ok){g:Int}(g0:0 < g):g<=R.cap g:=by
 unfold RN.cap
 rw[X8 k.t.q0]
 have:=WU k.t.ge (show 0<=g by omega)
 have e:g*R.s=1*R.s*g:=by rw[zcd,XZ]
 omega
theorem Fv {R:RN}(k:R.Ok){g:Int}(g0:0 < g):R.cap g<=60*g:=by
 unfold RN.cap
 refine Y7 k.t.q0 ?_
 have:=WU k.t.le (show 0<=g by omega)
 have e:60*g*R.s=60*R.s*g:=by ac_rfl
 omega
theorem HX {R:RN}(k:R.Ok){g S:Int}{h:Hd}(H:h.Ok)(hn:¬ R.idle h)(g0:0 < g)(S0:0<=S)(S1:S<=g):0<=R.shr g S h/\R.shr g S h<=g:=by
 unfold RN.shr
 split
 ·rename_i hw
  have m0:0 < h.many:=by
   unfold RN.idle at hn
   unfold Hd.many Hd.bad
   have:=H.g0;have:=H.m0;have:=H.l0
   have:¬ (h.good+h.mark+h.bD=0):=λz=>hn (.inr z)
   omega
  have bb:h.bad<=h.many:=by unfold Hd.many;have:=H.g0;omega
  have b0:0<=h.bad:=by unfold Hd.bad;have:=H.m0;have:=H.l0;omega
  have q0:=k.g.q0
  have a0:0 < R.a:=by have:=k.g.ab;omega
  have ab:R.a<=R.b:=by have:=k.g.le;omega
  have Y:0 < R.b*h.many:=X3 q0 m0
  have e:S*R.b*h.many+R.a*(h.bad*g - S*h.many)=(R.b - R.a)*(S*h.many)+R.a*(h.bad*g):=by
   rw[Int.mul_sub,za4,show S*R.b*h.many=R.b*(S*h.many) by ac_rfl];omega
  have z1:0<=(R.b - R.a)*(S*h.many):=YQ (by omega) (YQ S0 (by omega))
  have z2:0<=R.a*(h.bad*g):=YQ (by omega) (YQ b0 (by omega))
  have z3:(R.b - R.a)*(S*h.many)<=(R.b - R.a)*(g*h.many):=zar (WU S1 (by omega)) (by omega)
  have z4:R.a*(h.bad*g)<=R.a*(h.many*g):=zar (WU bb (by omega)) (by omega)
  have e2:(R.b - R.a)*(g*h.many)+R.a*(h.many*g)=g*(R.b*h.many):=by
   rw[za4,show R.b*(g*h.many)=g*(R.b*h.many) by ac_rfl,show R.a*(h.many*g)=R.a*(g*h.many) by ac_rfl];omega
  rw[e]
  exact ⟨Int.ediv_nonneg (by omega) (by omega),Y7 Y (by omega)⟩
 ·exact ⟨S0,S1⟩
local macro_rules | `(tactic| walk_at "rd")=>zzS "L3.ah L3.TC L3.aj L3.TUn L3.iz L3.IL L3.sR L3.TB L3.tL L3.TOr L3.uY L3.lC L3.lr L3.ar L3.af L3.bh L3.fM L3.lF L3.aq L3.a9 L3.ay L3.Bn L3.Ja L3.eU L3.aT L3.Kl L3.bI L3.aw L3.aN L3.pz L3.Cg L3.iR L3.fi L3.eg L3.bG L3.fF L3.fc L3.dA L3.S4 L3.ILs L3.G0 L3.HM L3.FT L3.Kr L3.Hh L3.Ca L3.pS L3.B9 L3.HK L3.AG L3.vz L3.Di L3.qV L3.wF L3.vg L3.vR L3.vv L3.mT L3.iK L3.wu L3.qX L3.rA L3.rO L3.su L3.rj L3.sv L3.rZ L3.rf L3.rB L3.TSl L3.ONo L3.ky L3.G3 L3.JR L3.GD L3.Jv L3.FJ L3.Ha L3.A3 L3.A0 L3.HF L3.J3 L3.JU L3.qi L3.r6 L3.qF L3.Ak L3.Ad L3.BW L3.B0 L3.Aw L3.AM L3.B3 L3.A6 L3.AK L3.GN L3.Ip L3.GO L3.IU L3.FD L3.Fl L3.rq L3.Fm L3.Kc L3.Ci L3.Bu L3.AO L3.AH L3.AR L3.By L3.AD L3.Ai L3.AU L3.B6 L3.lk L3.ini zc7 XQ X6 zdI zeD zbm Zz zc8 zcy zcz L3.wV L3.w4 L3.CO L3.CV L3.De L3.CM ZM ZN L3.aF L3.iq zc9 zbn if_true if_false true_and and_true zcA zb8 zb9 zbo zan zbM decide_eq_true_eq ZE ite_false ite_true ne_eq not_false_eq_true zbN zcB zcC zcD zcE zcF zda L3.okD L3.b7 L3.eqD L3.jZ zcG zcH zcI L3.dh L3.jG decide_true decide_false Bool.or_true zeg zer zcw zcb zdW and_self L3.cx L3.bO L3.cj L3.cv L3.cw L3.b9 L3.cM L3.cG L3.bQ L3.cf L3.cc L3.cz L3.cy L3.cL L3.cu L3.cN L3.cq L3.cI L3.cp L3.cP L3.iV L3.nF L3.r9 L3.mW L3.pY L3.sy L3.fV L3.fL L3.fJ L3.fW L3.fP L3.fR L3.fK"
def j7:FSp:=λds μ Q=>kcA ds λd1 ds=>kcA ds λd2 ds=>kcN ds (∃ a b c e,((Vl d1 a b/\Vl d2 c e)/\Bd a/\Bd b/\Bd c/\Bd e)/\∀ z,Vl z (a*e+c*b) (b*e)->Q z μ)
theorem Gz:∀ ds μ Q,j7 ds μ Q->ds.length=2:=λ_ _ _ h=>lcA h λ_ _ h=>lcA h λ_ _ h=>by rw[(ecN h).1];rfl
def JX:STr:=aT (aq gH (af (aj aO (aj eJ (aj L3.rIx (ah 0) (TC (.int 0))) (aj L3.rIx (ah 1) (TC (.int 1)))) (aj eJ (aj L3.rIx (ah 1) (TC (.int 0))) (aj L3.rIx (ah 0) (TC (.int 1))))) (af (aj eJ (aj L3.rIx (ah 0) (TC (.int 1))) (aj L3.rIx (ah 1) (TC (.int 1)))) (ar))))
theorem Lf:∀ ds μ Q,j7 ds μ Q->JX { nx:=λ_ μ'=>RT Q .non μ',rt:=RT Q } (ini 2 ds) μ:=by
 intro ds μ Q h
 replace h:=ecA h
 obtain ⟨d1,ds,rfl,h⟩:=h
 replace h:=ecA h
 obtain ⟨d2,ds,rfl,h⟩:=h
 replace h:=ecN h
 obtain ⟨rfl,h⟩:=h
 unfold JX
 walk_at "rd"
 obtain ⟨a,b,c,e,⟨⟨V1,V2⟩,Ba,Bb,Bc,Be⟩,k⟩:=h
 obtain ⟨⟨p,q,rfl,P⟩,b0⟩:=V1
 obtain ⟨⟨r,s,rfl,S⟩,e0⟩:=V2
 have q0:=P.q0
 have s0:=S.q0
 have be:0 < b*e:=X3 b0 e0
 have qs:0 < q*s:=X3 q0 s0
 have Bp:=P.bp Ba
 have Bq:=P.bq Bb
 have Br:=S.bp Bc
 have Bs:=S.bq Be
 walk_at "rd"
 refine ⟨Bp.mul Bs,Br.mul Bq,Bq.mul Bs,⟨by omega,Bq.mm Bs⟩,λx y Pt=>⟨_,.refl _,k _ ⟨⟨x,y,rfl,Pt.of_eq qs be ?_⟩,be⟩⟩⟩
 calc (p*s+r*q)*(b*e)=(p*b)*(s*e)+(r*e)*(q*b):=by rw[zce];congr 1<;>ac_rfl
  _=(a*q)*(s*e)+(c*s)*(q*b):=by rw[P.e,S.e]
  _=(a*e+c*b)*(q*s):=by rw[zce];congr 1<;>ac_rfl
def iu:FSp:=λds μ Q=>kcA ds λd1 ds=>kcA ds λd2 ds=>kcN ds (∃ a b c e,((Vl d1 a b/\Vl d2 c e)/\Bd a/\Bd b/\Bd c/\Bd e)/\∀ z,Vl z (a*e - c*b) (b*e)->Q z μ)
theorem DV:∀ ds μ Q,iu ds μ Q->ds.length=2:=λ_ _ _ h=>lcA h λ_ _ h=>lcA h λ_ _ h=>by rw[(ecN h).1];rfl
def Du:STr:=aT (aq gH (af (aj je (aj eJ (aj L3.rIx (ah 0) (TC (.int 0))) (aj L3.rIx (ah 1) (TC (.int 1)))) (aj eJ (aj L3.rIx (ah 1) (TC (.int 0))) (aj L3.rIx (ah 0) (TC (.int 1))))) (af (aj eJ (aj L3.rIx (ah 0) (TC (.int 1))) (aj L3.rIx (ah 1) (TC (.int 1)))) (ar))))
theorem Gy:∀ ds μ Q,iu ds μ Q->Du { nx:=λ_ μ'=>RT Q .non μ',rt:=RT Q } (ini 2 ds) μ:=by
 intro ds μ Q h
 replace h:=ecA h
 obtain ⟨d1,ds,rfl,h⟩:=h
 replace h:=ecA h
 obtain ⟨d2,ds,rfl,h⟩:=h
 replace h:=ecN h
 obtain ⟨rfl,h⟩:=h
 unfold Du
 walk_at "rd"
 obtain ⟨a,b,c,e,⟨⟨V1,V2⟩,Ba,Bb,Bc,Be⟩,k⟩:=h
 obtain ⟨⟨p,q,rfl,P⟩,b0⟩:=V1
 obtain ⟨⟨r,s,rfl,S⟩,e0⟩:=V2
 have q0:=P.q0
 have s0:=S.q0
 have be:0 < b*e:=X3 b0 e0
 have qs:0 < q*s:=X3 q0 s0
 have Bp:=P.bp Ba
 have Bq:=P.bq Bb
 have Br:=S.bp Bc
 have Bs:=S.bq Be
 walk_at "rd"
 refine ⟨Bp.mul Bs,Br.mul Bq,Bq.mul Bs,⟨by omega,Bq.mm Bs⟩,λx y Pt=>⟨_,.refl _,k _ ⟨⟨x,y,rfl,Pt.of_eq qs be ?_⟩,be⟩⟩⟩
 calc (p*s - r*q)*(b*e)=(p*b)*(s*e) - (r*e)*(q*b):=by rw[za4];congr 1<;>ac_rfl
  _=(a*q)*(s*e) - (c*s)*(q*b):=by rw[P.e,S.e]
  _=(a*e - c*b)*(q*s):=by rw[za4];congr 1<;>ac_rfl
def iA:FSp:=λds μ Q=>kcA ds λd1 ds=>kcA ds λd2 ds=>kcN ds (∃ a b c e,((Vl d1 a b/\Vl d2 c e)/\Bd a/\Bd b/\Bd c/\Bd e)/\∀ z,Vl z (a*c) (b*e)->Q z μ)
theorem DS:∀ ds μ Q,iA ds μ Q->ds.length=2:=λ_ _ _ h=>lcA h λ_ _ h=>lcA h λ_ _ h=>by rw[(ecN h).1];rfl
def CW:STr:=aT (aq gH (af (aj eJ (aj L3.rIx (ah 0) (TC (.int 0))) (aj L3.rIx (ah 1) (TC (.int 0)))) (af (aj eJ (aj L3.rIx (ah 0) (TC (.int 1))) (aj L3.rIx (ah 1) (TC (.int 1)))) (ar))))
theorem Fq:∀ ds μ Q,iA ds μ Q->CW { nx:=λ_ μ'=>RT Q .non μ',rt:=RT Q } (ini 2 ds) μ:=by
 intro ds μ Q h
 replace h:=ecA h
 obtain ⟨d1,ds,rfl,h⟩:=h
 replace h:=ecA h
 obtain ⟨d2,ds,rfl,h⟩:=h
 replace h:=ecN h
 obtain ⟨rfl,h⟩:=h
 unfold CW
 walk_at "rd"
 obtain ⟨a,b,c,e,⟨⟨V1,V2⟩,Ba,Bb,Bc,Be⟩,k⟩:=h
 obtain ⟨⟨p,q,rfl,P⟩,b0⟩:=V1
 obtain ⟨⟨r,s,rfl,S⟩,e0⟩:=V2
 have q0:=P.q0
 have s0:=S.q0
 have be:0 < b*e:=X3 b0 e0
 have qs:0 < q*s:=X3 q0 s0
 have Bp:=P.bp Ba
 have Bq:=P.bq Bb
 have Br:=S.bp Bc
 have Bs:=S.bq Be
 walk_at "rd"
 refine ⟨Bp.mul Br,Bq.mul Bs,⟨by omega,Bq.mm Bs⟩,λx y Pt=>⟨_,.refl _,k _ ⟨⟨x,y,rfl,Pt.of_eq qs be ?_⟩,be⟩⟩⟩
 calc (p*r)*(b*e)=(p*b)*(r*e):=by ac_rfl
  _=(a*q)*(c*s):=by rw[P.e,S.e]
  _=(a*c)*(q*s):=by ac_rfl
def md:FSp:=λds μ Q=>kcA ds λd1 ds=>kcA ds λd2 ds=>kcN ds (∃ a b c e,((Vl d1 a b/\Vl d2 c e)/\Bd a/\Bd b/\Bd c/\Bd e)/\Q (.bl (decide (a*e < c*b))) μ)
theorem GG:∀ ds μ Q,md ds μ Q->ds.length=2:=λ_ _ _ h=>lcA h λ_ _ h=>lcA h λ_ _ h=>by rw[(ecN h).1];rfl
def GH:STr:=aT (aj rLt (aj eJ (aj L3.rIx (ah 0) (TC (.int 0))) (aj L3.rIx (ah 1) (TC (.int 1)))) (aj eJ (aj L3.rIx (ah 1) (TC (.int 0))) (aj L3.rIx (ah 0) (TC (.int 1)))))
theorem Lr:∀ ds μ Q,md ds μ Q->GH { nx:=λ_ μ'=>RT Q .non μ',rt:=RT Q } (ini 2 ds) μ:=by
 intro ds μ Q h
 replace h:=ecA h
 obtain ⟨d1,ds,rfl,h⟩:=h
 replace h:=ecA h
 obtain ⟨d2,ds,rfl,h⟩:=h
 replace h:=ecN h
 obtain ⟨rfl,h⟩:=h
 unfold GH
 walk_at "rd"
 obtain ⟨a,b,c,e,⟨⟨V1,V2⟩,Ba,Bb,Bc,Be⟩,k⟩:=h
 obtain ⟨⟨p,q,rfl,P⟩,b0⟩:=V1
 obtain ⟨⟨r,s,rfl,S⟩,e0⟩:=V2
 walk_at "rd"
 refine ⟨(P.bp Ba).mul (S.bq Be),(S.bp Bc).mul (P.bq Bb),_,.refl _,?_⟩
 rw[show decide (p*s < r*q)=decide (a*e < c*b) from decide_eq_decide.mpr (UL P.q0 S.q0 b0 e0 P.e S.e)]
 exact k
def gx:FSp:=λds μ Q=>kcA ds λd1 ds=>kcN ds (∃ a b,(Vl d1 a b/\Bd b)/\Q (.int (a / b)) μ)
theorem vN:∀ ds μ Q,gx ds μ Q->ds.length=1:=λ_ _ _ h=>lcA h λ_ _ h=>by rw[(ecN h).1];rfl
def rT:STr:=aT (aj nJ (aj L3.rIx (ah 0) (TC (.int 0))) (aj L3.rIx (ah 0) (TC (.int 1))))
theorem yU:∀ ds μ Q,gx ds μ Q->rT { nx:=λ_ μ'=>RT Q .non μ',rt:=RT Q } (ini 1 ds) μ:=by
 intro ds μ Q h
 replace h:=ecA h
 obtain ⟨d1,ds,rfl,h⟩:=h
 replace h:=ecN h
 obtain ⟨rfl,h⟩:=h
 unfold rT
 walk_at "rd"
 obtain ⟨a,b,⟨⟨⟨p,q,rfl,P⟩,b0⟩,Bb⟩,k⟩:=h
 have q0:=P.q0
 walk_at "rd"
 rw[jn q0,O5 q0 b0 P.e]
 exact ⟨⟨by omega,(P.bq Bb).m⟩,_,.refl _,k⟩
def eW:FSp:=λds μ Q=>kcA ds λd1 ds=>kcI ds λg ds=>kcN ds (∃ a b,(Vl d1 a b/\Bd a/\Bd b/\0 < g/\g<=1000000)/\∀ z,Vl z (a*g / b) g->Q z μ)
theorem Bh:∀ ds μ Q,eW ds μ Q->ds.length=2:=λ_ _ _ h=>lcA h λ_ _ h=>lcI h λ_ _ h=>by rw[(ecN h).1];rfl
def wZ:STr:=aT (aq gH (af (aj nJ (aj eJ (aj L3.rIx (ah 0) (TC (.int 0))) (ah 1)) (aj L3.rIx (ah 0) (TC (.int 1)))) (af (ah 1) (ar))))
theorem Eu:∀ ds μ Q,eW ds μ Q->wZ { nx:=λ_ μ'=>RT Q .non μ',rt:=RT Q } (ini 2 ds) μ:=by
 intro ds μ Q h
 replace h:=ecA h
 obtain ⟨d1,ds,rfl,h⟩:=h
 replace h:=ecI h
 obtain ⟨g,ds,rfl,h⟩:=h
 replace h:=ecN h
 obtain ⟨rfl,h⟩:=h
 unfold wZ
 walk_at "rd"
 obtain ⟨a,b,⟨⟨⟨p,q,rfl,P⟩,b0⟩,Ba,Bb,g0,g1⟩,k⟩:=h
 have q0:=P.q0
 walk_at "rd"
 rw[jn q0,OB g q0 b0 P.e]
 exact ⟨.inl (.inr (by unfold S64;omega)),⟨by omega,(P.bq Bb).m⟩,⟨by omega,by unfold gc;omega⟩,λx y Pt=>⟨_,.refl _,k _ (Cw Pt g0)⟩⟩
theorem IQ {xs:List D}{d:D}(h:xs[xs.length - 1]? = some d)(h0:xs≠[]):atD xs ((xs.length:Int) - 1)=some d:=by
 have:0 < xs.length:=List.length_pos_iff.mpr h0
 have e:((xs.length:Int) - 1)=((xs.length - 1:Nat):Int):=by omega
 rw[e,b8,h]
theorem RN.tup (R:RN)(hst:R.wd=.still->R.r=R.p/\R.s=R.q):∃ xs,R.toD=.tup xs/\xs[0]? = some (.str R.wd.str)/\xs[1]? = some (fr R.p R.q)/\xs[xs.length - 1]? = some (fr R.r R.s)/\xs≠[]:=by
 obtain ⟨wd,p,q,x,y,a,b,l,h,r,s⟩:=R
 cases wd
 ·obtain ⟨e1,e2⟩:=hst rfl
  dsimp only at e1 e2
  subst e1 e2
  exact ⟨_,rfl,rfl,rfl,rfl,nofun⟩
 all_goals exact ⟨_,rfl,rfl,rfl,rfl,nofun⟩
def ip:FSp:=λds μ Q=>kcA ds λd ds=>kcN ds (∃ R:RN,(R.Ok/\d=R.toD)/\Q (fr R.r R.s) μ)
theorem Bi:∀ ds μ Q,ip ds μ Q->ds.length=1:=λ_ _ _ h=>lcA h λ_ _ h=>by rw[(ecN h).1];rfl
def y9:STr:=aT (aj L3.rIx (ah 0) (aj je (aq cQ (af (ah 0) (ar))) (TC (.int 1))))
theorem EN:∀ ds μ Q,ip ds μ Q->y9 { nx:=λ_ μ'=>RT Q .non μ',rt:=RT Q } (ini 1 ds) μ:=by
 intro ds μ Q h
 replace h:=ecA h
 obtain ⟨d,ds,rfl,h⟩:=h
 replace h:=ecN h
 obtain ⟨rfl,h⟩:=h
 unfold y9
 walk_at "rd"
 obtain ⟨R,⟨K,rfl⟩,k⟩:=h
 obtain ⟨xs,e,_,_,e3,e4⟩:=R.tup K.st
 rw[e]
 walk_at "rd"
 rw[IQ e3 e4]
 exact ⟨_,.refl _,k⟩
def iF:FSp:=λds μ Q=>kcA ds λd ds=>kcA ds λe ds=>kcN ds (∃ (R:RN) (h:Hd),(d=R.toD/\e=h.toD)/\Q (.bl (decide (R.idle h))) μ)
theorem zG:∀ ds μ Q,iF ds μ Q->ds.length=2:=λ_ _ _ h=>lcA h λ_ _ h=>lcA h λ_ _ h=>by rw[(ecN h).1];rfl
def ue:STr:=aT (IL (aj rEq (aj L3.rIx (ah 0) (TC (.int 0))) (TC (.str "still"))) (aj rEq (aj aO (aj aO (aj L3.rIx (ah 1) (TC (.int 0))) (aj L3.rIx (ah 1) (TC (.int 1)))) (aj L3.rIx (ah 1) (TC (.int 2)))) (TC (.int 0))))
theorem BO:∀ ds μ Q,iF ds μ Q->ue { nx:=λ_ μ'=>RT Q .non μ',rt:=RT Q } (ini 2 ds) μ:=by
 intro ds μ Q h
 replace h:=ecA h
 obtain ⟨d,ds,rfl,h⟩:=h
 replace h:=ecA h
 obtain ⟨e,ds,rfl,h⟩:=h
 replace h:=ecN h
 obtain ⟨rfl,h⟩:=h
 unfold ue
 walk_at "rd"
 obtain ⟨R,h,⟨rfl,rfl⟩,k⟩:=h
 obtain ⟨wd,p,q,x,y,a,b,l,hh,r,s⟩:=R
 obtain ⟨good,mark,bD,wt⟩:=h
 unfold RN.idle at k
 cases wd
 all_goals
  simp only[RN.toD,Hd.toD,fr]
  walk_at "rd"
  refine ⟨_,.refl _,?_⟩
  simpa using k
def Gd (g:Int):Prop:=1<=g/\g<=60
theorem Ii {R:RN}{h:Hd}(H:h.Ok)(hn:¬ R.idle h):0 < h.many/\h.many<=3000000:=by
 have:=H.g0;have:=H.m0;have:=H.l0;have:=H.g1;have:=H.m1;have:=H.l1
 have:¬ (h.good+h.mark+h.bD=0):=λz=>hn (.inr z)
 unfold Hd.many Hd.bad
 omega
theorem FrB.bd {lo hi p q:Int}(h:FrB lo hi p q)(l0:0<=lo)(h1:hi<=60):Le p 600000120/\Le q 10000002:=by
 have:=h.q0;have:=h.q1
 have e1:=h.ge;have e2:=h.le
 have a1:0<=lo*q:=YQ l0 (by omega)
 have a2:hi*q<=60*q:=WU h1 (by omega)
 exact ⟨.of (by omega) (by omega),.of (by omega) (by omega)⟩
theorem BU {R:RN}{g S:Int}{h:Hd}(hw:R.wd=.heed)(g0:0 < g)(Y:0 < R.b*h.many):(S*(R.b*(h.many*g))+R.a*(h.bad*g - S*h.many)*g)*g / (g*(R.b*(h.many*g)))=R.shr g S h:=by
 unfold RN.shr
 rw[if_pos hw]
 have e1:(S*(R.b*(h.many*g))+R.a*(h.bad*g - S*h.many)*g)*g=(S*R.b*h.many+R.a*(h.bad*g - S*h.many))*(g*g):=by
  rw[zce,zce];congr 1<;>ac_rfl
 have e2:g*(R.b*(h.many*g))=(R.b*h.many)*(g*g):=by ac_rfl
 rw[e1,e2]
 exact X1 _ _ (X3 g0 g0)
def dY:FSp:=λds μ Q=>kcA ds λd ds=>kcI ds λg ds=>kcA ds λsd ds=>kcA ds λe ds=>kcN ds (∃ (R:RN) (S:Int) (h:Hd),((d=R.toD/\e=h.toD)/\R.Ok/\h.Ok/\Gd g/\Vl sd S g/\(0<=S/\S<=g)/\¬ R.idle h)/\∀ z,Vl z (R.shr g S h) g->Q z μ)
theorem nE:∀ ds μ Q,dY ds μ Q->ds.length=4:=λ_ _ _ h=>lcA h λ_ _ h=>lcI h λ_ _ h=>lcA h λ_ _ h=>lcA h λ_ _ h=>by rw[(ecN h).1];rfl
def jW:STr:=ay (bI (TB (aj rNe (aj L3.rIx (ah 0) (TC (.int 0))) (TC (.str "heed")))) (aT (ah 2)) (a9)) (ay (aN (aj aO (aj L3.rIx (ah 3) (TC (.int 1))) (aj L3.rIx (ah 3) (TC (.int 2)))) (aw 4)) (ay (aN (aq iA (af (aj L3.rIx (ah 0) (TC (.int 3))) (af (aq iu (af (aq gH (af (ah 4) (af (aj aO (aj L3.rIx (ah 3) (TC (.int 0))) (ah 4)) (ar)))) (af (ah 2) (ar)))) (ar)))) (aw 5)) (aT (aq eW (af (aq j7 (af (ah 2) (af (ah 5) (ar)))) (af (ah 1) (ar)))))))
theorem pG:∀ ds μ Q,dY ds μ Q->jW { nx:=λ_ μ'=>RT Q .non μ',rt:=RT Q } (ini 6 ds) μ:=by
 intro ds μ Q h
 replace h:=ecA h
 obtain ⟨d,ds,rfl,h⟩:=h
 replace h:=ecI h
 obtain ⟨g,ds,rfl,h⟩:=h
 replace h:=ecA h
 obtain ⟨sd,ds,rfl,h⟩:=h
 replace h:=ecA h
 obtain ⟨e,ds,rfl,h⟩:=h
 replace h:=ecN h
 obtain ⟨rfl,h⟩:=h
 unfold jW
 walk_at "rd"
 obtain ⟨R,S,h,⟨⟨rfl,rfl⟩,K,H,⟨g0,g1⟩,VS,⟨S0,S1⟩,hn⟩,k⟩:=h
 obtain ⟨m0,m1⟩:=Ii H hn
 have hb0:=H.m0;have hb1:=H.m1;have hc0:=H.l0;have hc1:=H.l1;have hg0:=H.g0;have hg1:=H.g1
 have GB:=K.g.toFrB.bd (by decide) (by decide)
 have gp:=K.g.q0
 obtain ⟨wd,p,q,x,y,a,b,l,hh,r,s⟩:=R
 cases wd
 case heed=>
  have sh:=λY=>BU (R:=⟨.heed,p,q,x,y,a,b,l,hh,r,s⟩) (g:=g) (S:=S) (h:=h) rfl (by omega) Y
  have k':=k
  generalize RN.shr ⟨.heed,p,q,x,y,a,b,l,hh,r,s⟩ g S h=Z at sh k'
  dsimp only at sh GB gp
  obtain ⟨good,mark,bD,wt⟩:=h
  simp only[Hd.many,Hd.bad] at sh m0 m1
  dsimp only at m0 m1 hb0 hb1 hc0 hc1 hg0 hg1
  simp only[RN.toD,Hd.toD,fr]
  walk_at "rd"
  have L1:Le (mark+bD) 2000000:=.of (by omega) (by omega)
  have L2:Le (good+(mark+bD)) 3000000:=.of (by omega) (by omega)
  have LS:Le S 60:=.of S0 (by omega)
  have Lg:Le g 60:=.of (by omega) g1
  have e1:=L1.mul Lg
  have e2:=LS.mul L2
  have e3:=L2.mul Lg
  have e4:=e1.sub e2
  have e5:=GB.1.mul e4
  have e6:=GB.2.mul e3
  have mg:0 < (good+(mark+bD))*g:=X3 m0 (by omega)
  refine ⟨⟨by omega,Bd.m (L2.mono (by decide))⟩,λu v Pt=>⟨_,_,_,_,⟨⟨Cw Pt m0,VS⟩,L1.mono (by decide),L2.mono (by decide),LS.mono (by decide),Lg.mono (by decide)⟩,λz1 V1=>?_⟩⟩
  refine ⟨a,b,_,_,⟨⟨iU K.g.toFrB,V1⟩,GB.1.mono (by decide),GB.2.mono (by decide),e4.mono (by decide),e3.mono (by decide)⟩,λz2 V2=>?_⟩
  walk_at "rd"
  refine ⟨_,_,_,_,⟨⟨VS,V2⟩,LS.mono (by decide),Lg.mono (by decide),e5.mono (by decide),e6.mono (by decide)⟩,λz3 V3=>?_⟩
  refine ⟨_,_,⟨V3,((LS.mul e6).add (e5.mul Lg)).mono (by decide),(Lg.mul e6).mono (by decide),by omega,by omega⟩,λz V=>⟨_,.refl _,k' z ?_⟩⟩
  rw[sh (X3 gp m0)] at V
  exact V
 all_goals
  simp only[RN.toD,Hd.toD,fr]
  walk_at "rd"
  refine ⟨_,.refl _,k _ ?_⟩
  exact VS
def fU:FSp:=λds μ Q=>kcA ds λd ds=>kcA ds λsd ds=>kcA ds λe ds=>kcN ds (∃ (R:RN) (g S:Int) (h:Hd),((d=R.toD/\e=h.toD)/\R.Ok/\h.Ok/\Gd g/\Vl sd S g/\(0<=S/\S<=g)/\¬ R.idle h)/\(R.fac g S h=none->Q .non μ)/\∀ f,R.fac g S h=some f->∀ z,Vl z f.1 f.2->Q z μ)
theorem sZ:∀ ds μ Q,fU ds μ Q->ds.length=3:=λ_ _ _ h=>lcA h λ_ _ h=>lcA h λ_ _ h=>lcA h λ_ _ h=>by rw[(ecN h).1];rfl
def nM:STr:=ay (bI (TB (aj rEq (aj L3.rIx (ah 0) (TC (.int 0))) (TC (.str "calm")))) (aT (lC (TB (aj rGt (aj L3.rIx (ah 2) (TC (.int 2))) (TC (.int 0)))) (TC (.tup [.int 1,.int 2])) (TC .non))) (a9)) (ay (bI (TB (aj rEq (aj aO (aj L3.rIx (ah 2) (TC (.int 1))) (aj L3.rIx (ah 2) (TC (.int 2)))) (TC (.int 0)))) (aT (lC (TB (aj rEq (aj L3.rIx (ah 0) (TC (.int 0))) (TC (.str "swell")))) (aj L3.rIx (ah 0) (TC (.int 2))) (TC .non))) (a9)) (ay (bI (TB (aj rEq (aj L3.rIx (ah 0) (TC (.int 0))) (TC (.str "heed")))) (aT (aq iu (af (TC (.tup [.int 1,.int 1])) (af (aq iA (af (TC (.tup [.int 1,.int 2])) (af (ah 1) (ar)))) (ar))))) (a9)) (aT (aj L3.rIx (ah 0) (TC (.int 3))))))
theorem vH:∀ ds μ Q,fU ds μ Q->nM { nx:=λ_ μ'=>RT Q .non μ',rt:=RT Q } (ini 3 ds) μ:=by
 intro ds μ Q h
 replace h:=ecA h
 obtain ⟨d,ds,rfl,h⟩:=h
 replace h:=ecA h
 obtain ⟨sd,ds,rfl,h⟩:=h
 replace h:=ecA h
 obtain ⟨e,ds,rfl,h⟩:=h
 replace h:=ecN h
 obtain ⟨rfl,h⟩:=h
 unfold nM
 walk_at "rd"
 obtain ⟨R,g,S,h,⟨⟨rfl,rfl⟩,K,H,⟨g0,g1⟩,VS,⟨S0,S1⟩,hn⟩,k1,k2⟩:=h
 have hb0:=H.m0;have hb1:=H.m1;have hc0:=H.l0;have hc1:=H.l1;have hg0:=H.g0;have hg1:=H.g1
 have VG:=iU K.g.toFrB
 have VU:=iU K.u.toFrB
 have LS:Le S 60:=.of S0 (by omega)
 have Lg:Le g 60:=.of (by omega) g1
 have V12:Vl (fr 1 2) 1 2:=iU (lo:=0) (hi:=1) ⟨by decide,by decide,by decide,by decide,by decide⟩
 have V11:Vl (fr 1 1) 1 1:=iU (II (lo:=0) (hi:=1) (by decide) (by decide)).toFrB
 obtain ⟨wd,p,q,x,y,a,b,l,hh,r,s⟩:=R
 obtain ⟨good,mark,bD,wt⟩:=h
 dsimp only at hb0 hb1 hc0 hc1 hg0 hg1 VG VU
 simp only[RN.fac,Hd.bad] at k1 k2
 cases wd
 case still=>exact absurd (ZX rfl) hn
 case calm=>
  simp only[RN.toD,Hd.toD,fr]
  walk_at "rd"
  split
  ·rename_i hl
   exact ⟨_,.refl _,k2 (1,2) (if_pos hl) _ V12⟩
  ·rename_i hl
   exact ⟨_,.refl _,k1 (if_neg hl)⟩
 case heed=>
  simp only[RN.toD,Hd.toD,fr]
  walk_at "rd"
  split
  ·rename_i hl
   exact ⟨_,.refl _,k1 (if_pos hl)⟩
  ·rename_i hl
   refine ⟨1,2,S,g,⟨⟨V12,VS⟩,.of (by decide) (by decide),.of (by decide) (by decide),LS.mono (by decide),Lg.mono (by decide)⟩,λz1 V1=>?_⟩
   refine ⟨1,1,_,_,⟨⟨V11,V1⟩,.of (by decide) (by decide),.of (by decide) (by decide),?_,?_⟩,λz2 V2=>⟨_,.refl _,k2 (2*g - S,2*g) (if_neg hl) _ ?_⟩⟩
   ·rw[zcd];exact LS.mono (by decide)
   ·exact .of (by omega) (by omega)
   ·simpa using V2
 case step=>
  simp only[RN.toD,Hd.toD,fr]
  walk_at "rd"
  split
  ·rename_i hl
   exact ⟨_,.refl _,k1 (if_pos hl)⟩
  ·rename_i hl
   exact ⟨_,.refl _,k2 (a,b) (if_neg hl) _ VG⟩
 case swell=>
  simp only[RN.toD,Hd.toD,fr]
  walk_at "rd"
  split
  ·rename_i hl
   exact ⟨_,.refl _,k2 (x,y) (if_pos hl) _ VU⟩
  ·rename_i hl
   exact ⟨_,.refl _,k2 (a,b) (if_neg hl) _ VG⟩
def lJ:FSp:=λds μ Q=>kcA ds λd ds=>kcA ds λwd ds=>kcA ds λe ds=>kcN ds (∃ (R:RN) (g W:Int) (h:Hd),((d=R.toD/\e=h.toD)/\R.Ok/\Gd g/\Vl wd W g/\Le W 1000000/\¬ R.idle h)/\∀ z,Vl z (R.mvd g W h) (g*R.y)->Q z μ)
theorem Fb:∀ ds μ Q,lJ ds μ Q->ds.length=3:=λ_ _ _ h=>lcA h λ_ _ h=>lcA h λ_ _ h=>lcA h λ_ _ h=>by rw[(ecN h).1];rfl
def CN:STr:=ay (bI (TOr (TB (aj rNe (aj L3.rIx (ah 0) (TC (.int 0))) (TC (.str "calm")))) (TB (aj rLt (aj L3.rIx (ah 2) (TC (.int 3))) (aj L3.rIx (ah 0) (TC (.int 3)))))) (aT (aq j7 (af (ah 1) (af (aj L3.rIx (ah 0) (TC (.int 2))) (ar))))) (a9)) (ay (bI (TB (aj rGt (aj L3.rIx (ah 2) (TC (.int 3))) (aj L3.rIx (ah 0) (TC (.int 4))))) (aT (aq iu (af (ah 1) (af (aj L3.rIx (ah 0) (TC (.int 2))) (ar))))) (a9)) (aT (ah 1)))
theorem Io:∀ ds μ Q,lJ ds μ Q->CN { nx:=λ_ μ'=>RT Q .non μ',rt:=RT Q } (ini 3 ds) μ:=by
 intro ds μ Q h
 replace h:=ecA h
 obtain ⟨d,ds,rfl,h⟩:=h
 replace h:=ecA h
 obtain ⟨wd,ds,rfl,h⟩:=h
 replace h:=ecA h
 obtain ⟨e,ds,rfl,h⟩:=h
 replace h:=ecN h
 obtain ⟨rfl,h⟩:=h
 unfold CN
 walk_at "rd"
 obtain ⟨R,g,W,h,⟨⟨rfl,rfl⟩,K,⟨g0,g1⟩,VW,LW,hn⟩,k⟩:=h
 have VU:=iU K.u.toFrB
 have UB:=K.u.toFrB.bd (by decide) (by decide)
 have y0:=K.u.q0
 have Lg:Le g 60:=.of (by omega) g1
 obtain ⟨wd',p,q,x,y,a,b,l,hh,r,s⟩:=R
 obtain ⟨good,mark,bD,wt⟩:=h
 dsimp only at VU UB y0
 simp only[RN.mvd] at k
 have up:∀ Q':DK,(∀ z,Vl z (W*y+g*x) (g*y)->Q' z μ)->j7 [wd,fr x y] μ Q':=λQ' kk=>
  ⟨W,g,x,y,⟨⟨VW,VU⟩,LW.mono (by decide),Lg.mono (by decide),UB.1.mono (by decide),UB.2.mono (by decide)⟩,λz V=>kk z (by rw[XZ g x];exact V)⟩
 cases wd'
 case still=>exact absurd (ZX rfl) hn
 case calm=>
  simp only[if_true] at k
  simp only[RN.toD,Hd.toD,fr]
  walk_at "rd"
  split
  ·rename_i hl
   rw[if_pos hl] at k
   exact up _ λz V=>⟨_,.refl _,k z V⟩
  ·rename_i hl
   rw[if_neg hl] at k
   split
   ·rename_i hm
    rw[if_pos hm] at k
    exact ⟨W,g,x,y,⟨⟨VW,VU⟩,LW.mono (by decide),Lg.mono (by decide),UB.1.mono (by decide),UB.2.mono (by decide)⟩,λz V=>⟨_,.refl _,k z (by rw[XZ g x];exact V)⟩⟩
   ·rename_i hm
    rw[if_neg hm] at k
    exact ⟨_,.refl _,k _ (VW.of_eq (X3 (by omega) y0) (by ac_rfl))⟩
 all_goals
  simp only[reduceCtorEq,if_false] at k
  simp only[RN.toD,Hd.toD,fr]
  walk_at "rd"
  exact up _ λz V=>⟨_,.refl _,k z V⟩
def mf:FSp:=λds μ Q=>kcA ds λd ds=>kcI ds λg ds=>kcA ds λwd ds=>kcN ds (∃ (R:RN) (N M:Int),(d=R.toD/\R.Ok/\Gd g/\Vl wd N M/\Bd N/\Bd M)/\∀ z,Vl z (R.clip g (N*g / M)) g->Q z μ)
theorem IB:∀ ds μ Q,mf ds μ Q->ds.length=3:=λ_ _ _ h=>lcA h λ_ _ h=>lcI h λ_ _ h=>lcA h λ_ _ h=>by rw[(ecN h).1];rfl
def JF:STr:=ay (bI (TB (aq md (af (ah 2) (af (TC (.tup [.int 1,.int 1])) (ar))))) (aT (TC (.tup [.int 1,.int 1]))) (a9)) (ay (bI (TB (aq md (af (aq ip (af (ah 0) (ar))) (af (ah 2) (ar))))) (aT (aq eW (af (aq ip (af (ah 0) (ar))) (af (ah 1) (ar))))) (a9)) (aT (aq eW (af (ah 2) (af (ah 1) (ar))))))
theorem MK:∀ ds μ Q,mf ds μ Q->JF { nx:=λ_ μ'=>RT Q .non μ',rt:=RT Q } (ini 3 ds) μ:=by
 intro ds μ Q h
 replace h:=ecA h
 obtain ⟨d,ds,rfl,h⟩:=h
 replace h:=ecI h
 obtain ⟨g,ds,rfl,h⟩:=h
 replace h:=ecA h
 obtain ⟨wd,ds,rfl,h⟩:=h
 replace h:=ecN h
 obtain ⟨rfl,h⟩:=h
 unfold JF
 walk_at "rd"
 obtain ⟨R,N,M,⟨rfl,K,⟨g0,g1⟩,V,BN,BM⟩,k⟩:=h
 have M0:=V.b0
 have V11:Vl (fr 1 1) 1 1:=iU (II (lo:=0) (hi:=1) (by decide) (by decide)).toFrB
 have TB:=K.t.bd (by decide) (by decide)
 have VT:=iU K.t
 have s0:=K.t.q0
 have cg:=Jq K (g:=g) (by omega)
 refine ⟨N,M,1,1,⟨⟨V,V11⟩,BN,BM,.of (by decide) (by decide),.of (by decide) (by decide)⟩,?_⟩
 walk_at "rd"
 rw[Int.mul_one,zcd]
 have key:∀ z,Vl z (R.clip g (N*g / M)) g->RT Q z μ:=λz V=>⟨_,.refl _,k z V⟩
 unfold RN.clip at key
 split
 ·rename_i hl
  have f:N*g / M < g:=by
   rw[Int.ediv_lt_iff_lt_mul M0,XZ g M]
   exact Zc hl (by omega)
  rw[show min (max (N*g / M) g) (R.cap g)=g by omega] at key
  exact key _ (V11.of_eq (by omega) (by omega))
 ·rename_i hl
  refine ⟨R,⟨K,rfl⟩,R.r,R.s,N,M,⟨⟨VT,V⟩,TB.1.mono (by decide),TB.2.mono (by decide),BN,BM⟩,?_⟩
  walk_at "rd"
  have f1:g<=N*g / M:=by
   rw[X8 M0,XZ g M]
   exact WU (by omega) (by omega)
  split
  ·rename_i ht
   have f2:R.cap g<=N*g / M:=by
    unfold RN.cap
    rw[X8 M0]
    have d:=zbP (R.r*g) (show R.s≠0 by omega)
    have e1:R.r*g / R.s*M*R.s<=N*g*R.s:=by
     calc R.r*g / R.s*M*R.s=(R.r*g / R.s*R.s)*M:=by ac_rfl
      _<=(R.r*g)*M:=WU d (by omega)
      _=(R.r*M)*g:=by ac_rfl
      _<=(N*R.s)*g:=WU (by omega) (by omega)
      _=N*g*R.s:=by ac_rfl
    exact Zi e1 s0
   rw[show min (max (N*g / M) g) (R.cap g)=R.cap g by omega] at key
   exact ⟨R,⟨K,rfl⟩,R.r,R.s,⟨VT,TB.1.mono (by decide),TB.2.mono (by decide),by omega,by omega⟩,λz V=>key z V⟩
  ·rename_i ht
   have f2:N*g / M<=R.cap g:=by
    unfold RN.cap
    rw[X8 s0]
    have d:=zbP (N*g) (show M≠0 by omega)
    have e1:N*g / M*R.s*M<=R.r*g*M:=by
     calc N*g / M*R.s*M=(N*g / M*M)*R.s:=by ac_rfl
      _<=(N*g)*R.s:=WU d (by omega)
      _=(N*R.s)*g:=by ac_rfl
      _<=(R.r*M)*g:=WU (by omega) (by omega)
      _=R.r*g*M:=by ac_rfl
    exact Zi e1 M0
   rw[show min (max (N*g / M) g) (R.cap g)=N*g / M by omega] at key
   exact ⟨N,M,⟨V,BN,BM,by omega,by omega⟩,λz V=>key z V⟩
theorem RN.QE {R:RN}(K:R.Ok){g S:Int}{h:Hd}(G:Gd g)(S0:0<=S)(S1:S<=g){f:Int×Int}(e:R.fac g S h=some f):0 < f.1/\0 < f.2/\Le f.1 600000120/\Le f.2 10000002:=by
 obtain ⟨g0,g1⟩:=G
 have UB:=K.u.toFrB.bd (by decide) (by decide)
 have GB:=K.g.toFrB.bd (by decide) (by decide)
 have h1:=K.u.q0;have h2:=K.u.ab;have h3:=K.g.q0;have h4:=K.g.ab
 unfold RN.fac at e
 split at e
 ·cases e
 ·split at e
  ·cases e;exact ⟨by decide,by decide,.of (by decide) (by decide),.of (by decide) (by decide)⟩
  ·cases e
 ·split at e
  ·cases e
  ·cases e;exact ⟨by show 0 < 2*g - S;omega,by show 0 < 2*g;omega,.of (by show 0<=2*g - S;omega) (by show 2*g - S<=_;omega),.of (by show 0<=2*g;omega) (by show 2*g<=_;omega)⟩
 ·split at e
  ·cases e;exact ⟨by show 0 < R.x;omega,h1,UB.1,UB.2⟩
  ·cases e;exact ⟨by show 0 < R.a;omega,h3,GB.1,GB.2⟩
 ·split at e
  ·cases e
  ·cases e;exact ⟨by show 0 < R.a;omega,h3,GB.1,GB.2⟩
theorem RN.Q5 {R:RN}(K:R.Ok){g W:Int}{h:Hd}(G:Gd g)(L:Le W 1000000):Bd (R.mvd g W h):=by
 obtain ⟨g0,g1⟩:=G
 have UB:=K.u.toFrB.bd (by decide) (by decide)
 have Lg:Le g 60:=.of (by omega) g1
 have e1:=L.mul UB.2
 have e2:=Lg.mul UB.1
 unfold RN.mvd
 split
 ·split
  ·exact (e1.add e2).mono (by decide)
  ·split
   ·exact (e1.sub e2).mono (by decide)
   ·exact e1.mono (by decide)
 ·exact (e1.add e2).mono (by decide)
def gy:FSp:=λds μ Q=>kcA ds λd ds=>kcI ds λg ds=>kcA ds λwd ds=>kcA ds λsd ds=>kcA ds λe ds=>kcN ds (∃ (R:RN) (W S:Int) (h:Hd),((d=R.toD/\e=h.toD)/\R.Ok/\h.Ok/\Gd g/\(Vl wd W g/\Le W 1000000)/\Vl sd S g/\(0<=S/\S<=g))/\∀ w z,Vl w (R.beh g W S h).1 g->Vl z (R.beh g W S h).2 g->Q (.tup [w,z]) μ)
theorem uR:∀ ds μ Q,gy ds μ Q->ds.length=5:=λ_ _ _ h=>lcA h λ_ _ h=>lcI h λ_ _ h=>lcA h λ_ _ h=>lcA h λ_ _ h=>lcA h λ_ _ h=>by rw[(ecN h).1];rfl
def rK:STr:=ay (bI (TB (aq iF (af (ah 0) (af (ah 4) (ar))))) (aT (bh (af (ah 2) (af (ah 3) (ar))))) (a9)) (ay (aN (aq dY (af (ah 0) (af (ah 1) (af (ah 3) (af (ah 4) (ar)))))) (aw 5)) (ay (aN (aq fU (af (ah 0) (af (ah 5) (af (ah 4) (ar))))) (aw 6)) (ay (bI (TB (aj rIs (ah 6) (TC .non))) (aT (bh (af (aq mf (af (ah 0) (af (ah 1) (af (aq lJ (af (ah 0) (af (ah 2) (af (ah 4) (ar))))) (ar))))) (af (ah 5) (ar))))) (a9)) (aT (bh (af (aq mf (af (ah 0) (af (ah 1) (af (aq iA (af (ah 2) (af (ah 6) (ar)))) (ar))))) (af (ah 5) (ar))))))))
theorem y1:∀ ds μ Q,gy ds μ Q->rK { nx:=λ_ μ'=>RT Q .non μ',rt:=RT Q } (ini 7 ds) μ:=by
 intro ds μ Q h
 replace h:=ecA h
 obtain ⟨d,ds,rfl,h⟩:=h
 replace h:=ecI h
 obtain ⟨g,ds,rfl,h⟩:=h
 replace h:=ecA h
 obtain ⟨wd,ds,rfl,h⟩:=h
 replace h:=ecA h
 obtain ⟨sd,ds,rfl,h⟩:=h
 replace h:=ecA h
 obtain ⟨e,ds,rfl,h⟩:=h
 replace h:=ecN h
 obtain ⟨rfl,h⟩:=h
 unfold rK
 walk_at "rd"
 obtain ⟨R,W,S,h,⟨⟨rfl,rfl⟩,K,H,G,⟨VW,LW⟩,VS,S0,S1⟩,k⟩:=h
 have g0:=G.1
 have g1:=G.2
 have Lg:Le g 60:=.of (by omega) g1
 refine ⟨R,h,⟨rfl,rfl⟩,?_⟩
 walk_at "rd"
 unfold RN.beh at k
 split
 ·rename_i hi
  rw[if_pos hi] at k
  exact ⟨_,.refl _,k _ _ VW VS⟩
 ·rename_i hi
  rw[if_neg hi] at k
  refine ⟨R,S,h,⟨⟨rfl,rfl⟩,K,H,G,VS,⟨S0,S1⟩,hi⟩,λz VZ=>?_⟩
  walk_at "rd"
  have sin:=HX K H hi (by omega) S0 S1
  unfold RN.mv at k
  refine ⟨R,g,_,h,⟨⟨rfl,rfl⟩,K,H,G,VZ,sin,hi⟩,λhf=>?_,λf hf v VF=>?_⟩
  ·rw[hf] at k
   walk_at "rd"
   have y0:=K.u.q0
   refine ⟨R,g,W,h,⟨⟨rfl,rfl⟩,K,G,VW,LW,hi⟩,λw Vw=>?_⟩
   refine ⟨R,_,_,⟨rfl,K,G,Vw,RN.Q5 K G LW,?_⟩,λw2 Vw2=>?_⟩
   ·exact (Lg.mul (K.u.toFrB.bd (by decide) (by decide)).2).mono (by decide)
   ·walk_at "rd"
    refine ⟨_,.refl _,k _ _ ?_ VZ⟩
    rw[show R.mvd g W h*g / (g*R.y)=R.mvd g W h / R.y by rw[XZ g R.y];exact X1 _ _ (by omega)] at Vw2
    exact Vw2
  ·rw[hf] at k
   obtain ⟨f1,f2,F1,F2⟩:=RN.QE K G sin.1 sin.2 hf
   obtain ⟨⟨p,q,rfl,P⟩,b0⟩:=id VF
   walk_at "rd"
   refine ⟨W,g,f.1,f.2,⟨⟨VW,VF⟩,LW.mono (by decide),Lg.mono (by decide),F1.mono (by decide),F2.mono (by decide)⟩,λw Vw=>?_⟩
   refine ⟨R,_,_,⟨rfl,K,G,Vw,(LW.mul F1).mono (by decide),(Lg.mul F2).mono (by decide)⟩,λw2 Vw2=>?_⟩
   walk_at "rd"
   refine ⟨_,.refl _,k _ _ ?_ VZ⟩
   rw[show W*f.1*g / (g*f.2)=W*f.1 / f.2 by rw[XZ g f.2];exact X1 _ _ (by omega)] at Vw2
   exact Vw2
def TN:=Jn @RG <| Jn @M9 <| Jn @Pp <| Jn @MP <| Jn @Pr <| Jn @Ma <| Jn @Rr <| Jn @M1 <| Jn @Rz <| Jn @LZ <| Jn @OM <| Jn @LY <| Jn @QR <| Jn @L6 <| Jn @OX <| Jn @Lm <| Jn @OO <| Jn @Nd <| Jn @PM <| Jn @MG <| Jn @Lp <| Jn @Jl <| Jn @KW <| Jn @Gb <| Jn @Ln <| Jn @IP <| Jn @MC <| Jn @Jj <| Jn @KU <| Jn @J5 <| Jn @LX <| Jn @Jb <| Jn @UZ <| Jn @R4 <| Jn @Sw <| Jn @Li <| Jn @Ll <| Jn @U4 <| Jn @RS <| Jn @Sf <| Jn @O1 <| Jn @QU <| Jn @Im <| Jn @RC <| Jn @Mn <| Jn @PD <| Jn @R8 <| Jn @QL <| Jn @Kz <| Jn @MY <| Jn @Sa <| Jn @KS <| Jn @RZ <| Jn @Qi <| Jn @QP <| Jn @RA <| Jn @Q3 <| Jn @EZ <| Jn @RW <| Jn @QA <| Jn @Sm <| Jn @UG <| Jn @QT <| Jn @Qu <| Jn @O0 <| Jn @Pl <| Jn @SE <| Jn @Ts <| Jn @S3 <| Jn @Uo <| Jn @SG <| Jn @UD <| Jn @Sd <| Jn @Tg <| Jn @RM <| Jn @Rx <| Jn @R6 <| Jn @Rw <| Jn @RF <| Jn @Nt <| Jn @LQ <| Jn @Nn <| Jn @J4 <| Jn @Em <| Jn @Gx <| Jn @Lw <| Jn @Ju <| Jn @ED <| Jn @Di <| Jn @DI <| Jn @E5 <| Jn @D6 <| Jn @Iw <| Jn @Hi <| Jn @Jz <| Jn @GR <| Jn @Hr <| Jn @Na <| Jn @M3 <| Jn @MR <| Jn @Kw <| Jn @IX <| Jn @G4 <| Jn @Hz <| Jn @JD <| Jn @JP <| Jn @Ld <| Jn @L4 <| Jn @MV <| Jn @K4 <| Jn @My <| Jn @RU <| Jn @Pk <| Jn @Pj <| Jn @RV <| Jn @RO <| Jn @O3 <| Jn @Qe <| Jn @Ry <| Jn @Jc <| Jn @Jk <| Jn @J7 <| Jn @Kn <| Jn @Kv <| Jn @QW <| @RK
def DU:=Jn @nF <| Jn @r9 <| Jn @mW <| Jn @pY <| @sy
local macro_rules | `(tactic| walk_at "go")=>zzS "↓L3.TN L3.DU ↓L3.ko ↓L3.iK L3.cx L3.bO L3.cj L3.cv L3.cw L3.b9 L3.cM L3.cG L3.bQ L3.cf L3.cc L3.cz L3.cy L3.cL L3.cu L3.cN L3.cq L3.cI L3.cp L3.cP L3.iV L3.Fd L3.y3 L3.E4 L3.E1 L3.kg L3.fo L3.qH L3.kK L3.ur L3.uC L3.km L3.iw L3.nC L3.nH L3.ke L3.ka L3.kn L3.j3 true_and and_true and_self Bool.not_true Bool.not_false decide_true decide_false Bool.or_true Bool.or_false Bool.true_or Bool.false_or Bool.and_false Bool.false_and Bool.and_true Bool.true_and Int.reduceToNat Int.reducePow Int.reduceNeg Int.reduceSub Int.reduceAdd Int.reduceMul Int.reduceEq Int.reduceLT Int.reduceLE Int.reduceBEq L3.iq L3.fV L3.fL L3.fJ L3.fW L3.fP L3.fR L3.fK if_true if_false Bool.false_eq_true reduceCtorEq decide_eq_true_eq"
local macro_rules | `(tactic| walk_at "ini")=>`(tactic| simp only[ini,List.map,List.length,List.replicate,Nat.reduceSub,Nat.reduceAdd,Nat.sub_self,List.cons_append,List.nil_append,List.append_nil])
theorem eX {xs:List D}{P:D->Prop}(h:∀ d∈xs,P d){k:Int}(k0:0<=k)(k1:k < xs.length):∃ d,atD xs k=some d/\P d:=by
 obtain ⟨j,rfl⟩:=ZO k0
 rw[b8]
 have hj:j < xs.length:=by omega
 exact ⟨xs[j],by simp[hj],h _ (Ye hj)⟩
def IsL (hi:Int)(d:D):Prop:=∃ p q,d=fr p q/\FrL hi p q
def IsI (lo hi:Int)(d:D):Prop:=∃ i:Int,d=.int i/\lo<=i/\i<=hi
theorem eE {P:D->Prop}:∀ d∈([]:List D),P d:=λ_ h=>nomatch h
theorem aH {P:D->Prop}{a:D}{xs:List D}(h:P a)(k:∀ d∈xs,P d):∀ d∈a::xs,P d:=λd hd=>by
 rcases WK.mp hd with e | e
 ·rw[e];exact h
 ·exact k d e
local macro_rules | `(tactic| walk_at "all")=>`(tactic| repeat' (first | exact eE | refine aH ?_ ?_))
structure oR (b p:Addr) (xs:List D) (μ μ':Mu):Prop where
 box:Box μ' b
 ne:p≠b
 new:μ p=none
 at':μ' p=some (.lst xs)
 oth:∀ a,a≠b->a≠p->μ' a=μ a
theorem oR.mk' {b p:Addr}{xs:List D}{μ:Mu}(hB:Box μ b)(hp:μ p=none):oR b p xs μ (up μ p (.lst xs)):=by
 have ne:p≠b:=λz=>by subst z;obtain ⟨_,_,_,e,_⟩:=hB;rw[hp] at e;cases e
 obtain ⟨g,s,c,e,h⟩:=hB
 exact ⟨⟨g,s,c,by rw[aS ne.symm];exact e,h⟩,ne,hp,aF,λa _ h=>aS h⟩
theorem oR.go {b p:Addr}{xs:List D}{μ μ1 μ2:Mu}(h:oR b p xs μ μ1)(B:qJ b μ1 μ2):oR b p xs μ μ2:=
 ⟨B.box,h.ne,h.new,by rw[B.oth p h.ne];exact h.at',λa h1 h2=>by rw[B.oth a h1];exact h.oth a h1 h2⟩
theorem oR.set {b p:Addr}{xs ys:List D}{μ μ1:Mu}(h:oR b p xs μ μ1):oR b p ys μ (up μ1 p (.lst ys)):=by
 obtain ⟨g,s,c,e,hh⟩:=h.box
 exact ⟨⟨g,s,c,by rw[aS h.ne.symm];exact e,hh⟩,h.ne,h.new,aF,λa h1 h2=>by rw[aS h2];exact h.oth a h1 h2⟩
theorem Rh (μ:Mu)(p:Addr):Sub (dn μ p) μ:=λa o e=>by
 unfold dn at e
 split at e
 ·cases e
 ·exact e
theorem oR.fin {b p:Addr}{xs:List D}{μ μ1:Mu}(h:oR b p xs μ μ1):qJ b μ (dn μ1 p):=by
 obtain ⟨g,s,c,e,hh⟩:=h.box
 refine ⟨⟨g,s,c,?_,hh⟩,λa ha=>?_⟩
 ·unfold dn;rw[if_neg h.ne.symm];exact e
 ·unfold dn
  split
  ·rename_i z;subst z;exact h.new.symm
  ·rename_i z;exact h.oth a ha z
theorem oR.rt {b p:Addr}{xs:List D}{μ μ1:Mu}{Q:DK}{d:D}(h:oR b p xs μ μ1)(k:∀ μ',qJ b μ μ'->Q d μ'):RT Q d μ1:=⟨_,Rh μ1 p,k _ h.fin⟩
theorem j5 {p:Addr}{G:GTr}{tt:TTr}{te:ETr}{ρc:ST}{K:Mu->Prop}(P:List D->Mu->Prop)(hnil:∀ μ,P [] μ->K μ)
  (hcons:∀ d r μ (N:Mu->Prop),P (d::r) μ->(∀ μ',P r μ'->N μ')->G d ρc μ λρ1 μ1=>tt ρ1 μ1 λb μ2=>kIf b (te ρ1 μ2 λy μ3=>kL μ3 p λzs=>zs.length < 1000000/\N (up μ3 p (.lst (zs++[y])))) (N μ2)) :
  ∀ (ds:List D) (μ:Mu),P ds μ->fF p G tt te ρc K ds μ
 | [],μ,h=>hnil μ h
 | d::r,μ,h=>hcons d r μ _ h λμ' q=>j5 P hnil hcons r μ' q
theorem zp (d0:D)(r:List D)(f:D->Prop):kO (atD (d0::r) 0) f=f d0:=by rw[wV];rfl
theorem yj (d0 d1:D)(r:List D)(f:D->Prop):kO (atD (d0::d1::r) 1) f=f d1:=by rw[w4];rfl
theorem yz (d0 d1 d2:D)(r:List D)(f:D->Prop):kO (atD (d0::d1::d2::r) 2) f=f d2:=by rw[CO];rfl
theorem xU (d0 d1 d2 d3:D)(r:List D)(f:D->Prop):kO (atD (d0::d1::d2::d3::r) 3) f=f d3:=by rw[CV];rfl
theorem xh (d0 d1 d2 d3 d4:D)(r:List D)(f:D->Prop):kO (atD (d0::d1::d2::d3::d4::r) 4) f=f d4:=by rw[De];rfl
theorem xH (d0 d1 d2 d3 d4 d5:D)(r:List D)(f:D->Prop):kO (atD (d0::d1::d2::d3::d4::d5::r) 5) f=f d5:=by rw[CM];rfl
def tH (G:GTr)(tt:TTr)(te:ETr)(ρc:ST)(ds:List D)(μ:Mu)(Q:DK):Prop:=∀ p,μ p=none->fF p G tt te ρc (λμ'=>kL μ' p λzs=>Q (.ls zs) (dn μ' p)) ds (up μ p (.lst []))
theorem Nz (it:ATr)(G:GTr)(tt:TTr)(te:ETr)(n:Nat)(caps:List Nat)(ρ:ST)(μ:Mu)(Q:DK):bG it G tt te n caps ρ μ Q=it ρ μ λds μ1=>tH G tt te (fc ρ n caps) ds μ1 Q:=propext Wx
theorem ON (ρ:ST)(μ:Mu)(Q:Bool->Mu->Prop):dA ρ μ Q=Q true μ:=propext Wx
section
variable {G:GTr} {tt:TTr} {te:ETr} {ρc:ST} {ds:List D} {μ:Mu} {Q:DK}
theorem wD (f:D->Option D)(hl:ds.length<=999999)
  (step:∀ d∈ds,∀ μ',Sub μ μ'->∀ (N:Option D->Mu->Prop),N (f d) μ'->G d ρc μ' λρ1 μ1=>tt ρ1 μ1 λb μ2=>kIf b (te ρ1 μ2 λy μ3=>N (some y) μ3) (N none μ2))
  (k:Q (.ls (ds.filterMap f)) μ):tH G tt te ρc ds μ Q:=by
 intro p hp
 refine j5 (λr μ'=>∃ done,ds=done++r/\μ'=up μ p (.lst (done.filterMap f))) ?_ ?_ _ _ ⟨[],rfl,rfl⟩
 ·rintro μ' ⟨done,e,rfl⟩
  rw[Xi] at e
  subst e
  refine br aF ?_
  rw[sM hp];exact k
 ·rintro d r μ' N ⟨done,e,rfl⟩ hN
  have hd:d∈ds:=by rw[e];simp
  have e':ds=(done++[d])++r:=by rw[e];simp
  have lf:(done.filterMap f).length < 1000000:=by
   have h1:=Yh f done
   have h2:ds.length=done.length+(d::r).length:=by rw[e,WG]
   rw[W6] at h2;omega
  refine step d hd _ (Sub.new hp) (λoy μ3=>match oy with
   | some y=>kL μ3 p λzs=>zs.length < 1000000/\N (up μ3 p (.lst (zs++[y])))
   | none=>N μ3) ?_
  cases hf:f d with
  | none=>
   refine hN _ ⟨done++[d],e',?_⟩
   rw[Xz];simp[hf]
  | some y=>
   refine br aF ⟨lf,hN _ ⟨done++[d],e',?_⟩⟩
   rw[Xz,iq];simp[hf]
theorem comp_map (f:D->D)(hl:ds.length<=999999)
  (step:∀ d∈ds,∀ μ',Sub μ μ'->∀ (N:DK),N (f d) μ'->G d ρc μ' λρ1 μ1=>te ρ1 μ1 N)
  (k:Q (.ls (ds.map f)) μ):tH G dA te ρc ds μ Q:=by
 refine wD (λd=>some (f d)) hl (λd hd μ' s N n=>?_) (by rw[show (λd=>some (f d))=some ∘ f from rfl,Z7];exact k)
 exact step d hd μ' s (λy μ3=>N (some y) μ3) n
theorem Hm (I:List D->List D->Prop)(h0:I ds [])(hl:ds.length<=999999)
  (step:∀ d r zs μ',Sub μ μ'->I (d::r) zs->∀ (N:Option D->Mu->Prop),(∀ oy,I r (zs++oy.toList)->N oy μ')->G d ρc μ' λρ1 μ1=>tt ρ1 μ1 λb μ2=>kIf b (te ρ1 μ2 λy μ3=>N (some y) μ3) (N none μ2))
  (k:∀ zs,I [] zs->Q (.ls zs) μ):tH G tt te ρc ds μ Q:=by
 intro p hp
 refine j5 (λr μ'=>∃ zs,I r zs/\zs.length+r.length<=ds.length/\μ'=up μ p (.lst zs)) ?_ ?_ _ _ ⟨[],h0,by simp,rfl⟩
 ·rintro μ' ⟨zs,hI,_,rfl⟩
  refine br aF ?_
  rw[sM hp];exact k zs hI
 ·rintro d r μ' N ⟨zs,hI,hz,rfl⟩ hN
  rw[W6] at hz
  refine step d r zs _ (Sub.new hp) hI (λoy μ3=>match oy with
   | some y=>kL μ3 p λzs=>zs.length < 1000000/\N (up μ3 p (.lst (zs++[y])))
   | none=>N μ3) ?_
  intro oy hoy
  cases oy with
  | none=>exact hN _ ⟨zs,by simpa using hoy,by omega,rfl⟩
  | some y=>
   refine br aF ⟨by omega,hN _ ⟨zs++[y],hoy,by rw[WG];simp;omega,?_⟩⟩
   rw[iq]
theorem lV {α:Type}(xs:List α)(t:α->D)(h:α->Option D)(hds:ds=xs.map t)(hl:xs.length<=999999)
  (step:∀ x∈xs,∀ μ',Sub μ μ'->∀ (N:Option D->Mu->Prop),N (h x) μ'->G (t x) ρc μ' λρ1 μ1=>tt ρ1 μ1 λb μ2=>kIf b (te ρ1 μ2 λy μ3=>N (some y) μ3) (N none μ2))
  (k:Q (.ls (xs.filterMap h)) μ):tH G tt te ρc ds μ Q:=by
 subst hds
 refine Hm (λr zs=>∃ a c,xs=a++c/\r=c.map t/\zs=a.filterMap h) ⟨[],xs,rfl,rfl,rfl⟩ (by simpa using hl) ?_ ?_
 ·rintro d r zs μ' sb ⟨a,c,e,er,rfl⟩ N hN
  cases c with
  | nil=>cases er
  | cons x c=>
  cases er
  refine step x (by rw[e];simp) μ' sb N (hN _ ⟨a++[x],c,by rw[e];simp,rfl,?_⟩)
  rw[Xz]
  cases hx:h x<;>simp[hx]
 ·rintro zs ⟨a,c,e,er,rfl⟩
  have:c=[]:=by cases c with | nil=>rfl | cons=>cases er
  subst this
  rw[Xi] at e
  subst e;exact k
theorem bB {α:Type}(xs:List α)(t:α->D)(h:α->D)(hds:ds=xs.map t)(hl:xs.length<=999999)
  (step:∀ x∈xs,∀ μ',Sub μ μ'->∀ (N:DK),N (h x) μ'->G (t x) ρc μ' λρ1 μ1=>te ρ1 μ1 N)
  (k:Q (.ls (xs.map h)) μ):tH G dA te ρc ds μ Q:=by
 refine lV xs t (λx=>some (h x)) hds hl (λx hx μ' s N n=>?_) (by rw[show (λx=>some (h x))=some ∘ h from rfl,Z7];exact k)
 exact step x hx μ' s (λy μ3=>N (some y) μ3) n
def CJ (a:Addr)(full:List D)(G:GTr)(tt:TTr)(te:ETr)(ρc:ST)(ds:List D)(μ:Mu)(Q:DK):Prop:=∀ p,μ p=none->lj (λμ=>μ a=some (.lst full)) p G tt te ρc (λμ'=>kL μ' p λzs=>Q (.ls zs) (dn μ' p)) ds (up μ p (.lst []))
theorem Fn (To:ETr)(G:GTr)(tt:TTr)(te:ETr)(n:Nat)(caps:List Nat)(ρ:ST)(μ:Mu)(Q:DK):iT To G tt te n caps ρ μ Q=To ρ μ λx μ1=>kObj x λa=>kL μ1 a λds=>CJ a ds G tt te (fc ρ n caps) ds μ1 Q:=propext Wx
theorem lD {C:Mu->Prop}{p:Addr}{ρc:ST}{K:Mu->Prop}(P:List D->Mu->Prop)(hC:∀ r μ,P r μ->C μ)(hnil:∀ μ,P [] μ->K μ)
  (hcons:∀ d r μ (N:Mu->Prop),P (d::r) μ->(∀ μ',P r μ'->N μ')->G d ρc μ λρ1 μ1=>tt ρ1 μ1 λb μ2=>kIf b (te ρ1 μ2 λy μ3=>kL μ3 p λzs=>zs.length < 1000000/\N (up μ3 p (.lst (zs++[y])))) (N μ2)) :
  ∀ (ds:List D) (μ:Mu),P ds μ->lj C p G tt te ρc K ds μ
 | [],μ,h=>⟨hC _ _ h,hnil μ h⟩
 | d::r,μ,h=>⟨hC _ _ h,hcons d r μ _ h λμ' q=>lD P hC hnil hcons r μ' q⟩
theorem Fs {a:Addr}{full:List D}(hm:μ a=some (.lst full))(f:D->Option D)(hl:ds.length<=999999)
  (step:∀ d∈ds,∀ μ',Sub μ μ'->∀ (N:Option D->Mu->Prop),N (f d) μ'->G d ρc μ' λρ1 μ1=>tt ρ1 μ1 λb μ2=>kIf b (te ρ1 μ2 λy μ3=>N (some y) μ3) (N none μ2))
  (k:Q (.ls (ds.filterMap f)) μ):CJ a full G tt te ρc ds μ Q:=by
 intro p hp
 refine lD (λr μ'=>∃ done,ds=done++r/\μ'=up μ p (.lst (done.filterMap f))) ?_ ?_ ?_ _ _ ⟨[],rfl,rfl⟩
 ·rintro r μ' ⟨done,_,rfl⟩
  exact Sub.new hp _ _ hm
 ·rintro μ' ⟨done,e,rfl⟩
  rw[Xi] at e
  subst e
  refine br aF ?_
  rw[sM hp];exact k
 ·rintro d r μ' N ⟨done,e,rfl⟩ hN
  have hd:d∈ds:=by rw[e];simp
  have e':ds=(done++[d])++r:=by rw[e];simp
  have lf:(done.filterMap f).length < 1000000:=by
   have h1:=Yh f done
   have h2:ds.length=done.length+(d::r).length:=by rw[e,WG]
   rw[W6] at h2;omega
  refine step d hd _ (Sub.new hp) (λoy μ3=>match oy with
   | some y=>kL μ3 p λzs=>zs.length < 1000000/\N (up μ3 p (.lst (zs++[y])))
   | none=>N μ3) ?_
  cases hf:f d with
  | none=>
   refine hN _ ⟨done++[d],e',?_⟩
   rw[Xz];simp[hf]
  | some y=>
   refine br aF ⟨lf,hN _ ⟨done++[d],e',?_⟩⟩
   rw[Xz,iq];simp[hf]
theorem kq {α:Type}{a:Addr}(xs:List α)(t:α->D)(h:α->Option D)(hds:ds=xs.map t)(hm:μ a=some (.lst (xs.map t)))(hl:xs.length<=999999)
  (step:∀ x∈xs,∀ μ',Sub μ μ'->∀ (N:Option D->Mu->Prop),N (h x) μ'->G (t x) ρc μ' λρ1 μ1=>tt ρ1 μ1 λb μ2=>kIf b (te ρ1 μ2 λy μ3=>N (some y) μ3) (N none μ2))
  (k:Q (.ls (xs.filterMap h)) μ):CJ a (xs.map t) G tt te ρc ds μ Q:=by
 subst hds
 intro p hp
 refine lD (λr μ'=>∃ b c,xs=b++c/\r=c.map t/\μ'=up μ p (.lst (b.filterMap h))) ?_ ?_ ?_ _ _ ⟨[],xs,rfl,rfl,rfl⟩
 ·rintro r μ' ⟨b,c,_,_,rfl⟩
  exact Sub.new hp _ _ hm
 ·rintro μ' ⟨b,c,e,er,rfl⟩
  have:c=[]:=by cases c with | nil=>rfl | cons=>cases er
  subst this
  rw[Xi] at e
  subst e
  refine br aF ?_
  rw[sM hp];exact k
 ·rintro d r μ' N ⟨b,c,e,er,rfl⟩ hN
  cases c with
  | nil=>cases er
  | cons x c=>
  cases er
  have e':xs=(b++[x])++c:=by rw[e];simp
  have lf:(b.filterMap h).length < 1000000:=by
   have h1:=Yh h b
   have h2:xs.length=b.length+(x::c).length:=by rw[e,WG]
   rw[W6] at h2;omega
  refine step x (by rw[e];simp) _ (Sub.new hp) (λoy μ3=>match oy with
   | some y=>kL μ3 p λzs=>zs.length < 1000000/\N (up μ3 p (.lst (zs++[y])))
   | none=>N μ3) ?_
  cases hf:h x with
  | none=>
   refine hN _ ⟨b++[x],c,e',rfl,?_⟩
   rw[Xz];simp[hf]
  | some y=>
   refine br aF ⟨lf,hN _ ⟨b++[x],c,e',rfl,?_⟩⟩
   rw[Xz,iq];simp[hf]
theorem DX {a:Addr}{full:List D}(hm:μ a=some (.lst full))(f:D->D)(hl:ds.length<=999999)
  (step:∀ d∈ds,∀ μ',Sub μ μ'->∀ (N:DK),N (f d) μ'->G d ρc μ' λρ1 μ1=>te ρ1 μ1 N)
  (k:Q (.ls (ds.map f)) μ):CJ a full G dA te ρc ds μ Q:=by
 refine Fs hm (λd=>some (f d)) hl (λd hd μ' s N n=>?_) (by rw[show (λd=>some (f d))=some ∘ f from rfl,Z7];exact k)
 exact step d hd μ' s (λy μ3=>N (some y) μ3) n
end
def TF:=Jn @Nz <| Jn @Fn <| Jn @ON <| Jn @MW <| Jn @KG <| Jn @Nf <| Jn @PR <| Jn @MB <| Jn @O6 <| Jn @Ko <| Jn @O8 <| Jn @NM <| Jn @OU <| Jn @OS <| Jn @Qd <| Jn @SQ <| Jn @MX <| Jn @L8 <| Jn @Q4 <| @TN
local macro_rules | `(tactic| walk_at "go")=>zzS "↓L3.TF L3.DU ↓L3.zp ↓L3.yj ↓L3.yz ↓L3.xU ↓L3.xh ↓L3.xH ↓L3.ko ↓L3.iK L3.cx L3.bO L3.cj L3.cv L3.cw L3.b9 L3.cM L3.cG L3.bQ L3.cf L3.cc L3.cz L3.cy L3.cL L3.cu L3.cN L3.cq L3.cI L3.cp L3.cP L3.iV L3.fc List.map_cons List.map_nil List.replicate List.cons_append List.nil_append L3.lk L3.Fd L3.y3 L3.E4 L3.E1 L3.kg L3.fo L3.qH L3.kK L3.ur L3.uC L3.km L3.iw L3.nC L3.nH L3.ke L3.ka L3.kn L3.j3 true_and and_true and_self Bool.not_true Bool.not_false decide_true decide_false Bool.or_true Bool.or_false Bool.true_or Bool.false_or Bool.and_false Bool.false_and Bool.and_true Bool.true_and Int.reduceToNat Int.reducePow Int.reduceNeg Int.reduceSub Int.reduceAdd Int.reduceMul Int.reduceEq Int.reduceLT Int.reduceLE Int.reduceBEq L3.iq L3.fV L3.fL L3.fJ L3.fW L3.fP L3.fR L3.fK if_true if_false Bool.false_eq_true reduceCtorEq decide_eq_true_eq"
abbrev ks (s:String):L2.Key:=.inr (OF s)
def ik (cs:List Int)(a l g m s:Int):List (L2.Key×D):=[(ks "cells", .ls (cs.map .int)),(ks "at", .int a),(ks "left", .int l),(ks "given", .int g),(ks "many", .int m),(ks "seed", .int s)]
section
variable (cs:List Int) (a l g m s x:Int)
theorem Er:cF (ik cs a l g m s) (.inr (OF "cells"))=some (.ls (cs.map .int)):=rfl
theorem OL:cF (ik cs a l g m s) (.inr (OF "at"))=some (.int a):=rfl
theorem Ka:cF (ik cs a l g m s) (.inr (OF "left"))=some (.int l):=rfl
theorem Es:cF (ik cs a l g m s) (.inr (OF "given"))=some (.int g):=rfl
theorem Ic:cF (ik cs a l g m s) (.inr (OF "many"))=some (.int m):=rfl
theorem JL:cF (ik cs a l g m s) (.inr (OF "seed"))=some (.int s):=rfl
theorem Qx:putD (ik cs a l g m s) (.inr (OF "at")) (.int x)=ik cs x l g m s:=rfl
theorem Ku:putD (ik cs a l g m s) (.inr (OF "left")) (.int x)=ik cs a x g m s:=rfl
theorem EG:putD (ik cs a l g m s) (.inr (OF "given")) (.int x)=ik cs a l x m s:=rfl
theorem FX:putD (ik cs a l g m s) (.inr (OF "many")) (.int x)=ik cs a l g x s:=rfl
theorem Kf:putD (ik cs a l g m s) (.inr (OF "seed")) (.int x)=ik cs a l g m x:=rfl
theorem L5:(ik cs a l g m s).length < 1000000:=by show 6 < 1000000;decide
end
local macro_rules | `(tactic| walk_at "pot")=>zzS "L3.Er L3.OL L3.Ka L3.Es L3.Ic L3.JL L3.Qx L3.Ku L3.EG L3.FX L3.Kf L3.L5 true_and L3.pS"
local macro_rules | `(tactic| walk_at "gp")=>`(tactic| (walk_at "go";walk_at "pot";walk_at "go";walk_at "pot";walk_at "go";walk_at "pot";walk_at "go";walk_at "pot";walk_at "go"))
def Pot (μ:Mu)(b:Addr):Prop:=∃ (cs:List Int) (a l g m s:Int),μ b=some (.dct (ik cs a l g m s))/\0<=a
structure dE (b:Addr) (μ μ':Mu):Prop where
 pot:Pot μ' b
 oth:∀ a,a≠b->μ' a=μ a
theorem dE.trans {b:Addr}{μ μ1 μ2:Mu}(x:dE b μ μ1)(y:dE b μ1 μ2):dE b μ μ2:=⟨y.pot,λa h=>(y.oth a h).trans (x.oth a h)⟩
theorem dE.ne {b p:Addr}{μ μ1:Mu}(x:dE b μ μ1)(h:p≠b):μ1 p=μ p:=x.oth p h
theorem Pot.ne {μ:Mu}{b p:Addr}(h:Pot μ b)(hp:μ p=none):p≠b:=λz=>by subst z;obtain ⟨_,_,_,_,_,_,e,_⟩:=h;rw[hp] at e;cases e
theorem Pot.up {μ:Mu}{b p:Addr}{o:MO}(h:Pot μ b)(hp:p≠b):Pot (up μ p o) b:=by
 obtain ⟨cs,a,l,g,m,s,e,h0⟩:=h
 exact ⟨cs,a,l,g,m,s,by rw[aS (WX hp)];exact e,h0⟩
theorem Lu {μ:Mu}{b:Addr}{o:MO}(h:μ b=some o):up μ b o=μ:=by
 funext a;unfold L3.up;split
 ·rename_i e;subst e;exact h.symm
 ·rfl
def Kp (b:Addr)(μ μ':Mu):Prop:=∀ a o,a≠b->μ a=some o->μ' a=some o
theorem Kp.trans {b:Addr}{μ μ1 μ2:Mu}(x:Kp b μ μ1)(y:Kp b μ1 μ2):Kp b μ μ2:=λa o h e=>y a o h (x a o h e)
theorem dE.kp {b:Addr}{μ μ1:Mu}(x:dE b μ μ1):Kp b μ μ1:=λa o h e=>by rw[x.oth a h];exact e
theorem Kp.new {b p:Addr}{μ:Mu}{o:MO}(h:μ p=none):Kp b μ (up μ p o):=λa u _ e=>by rw[aS (λz=>by subst z;rw[h] at e;cases e)];exact e
theorem Kp.put {b p:Addr}{μ μ1:Mu}{o:MO}(x:Kp b μ μ1)(h:μ p=none):Kp b μ (up μ1 p o):=λa u n e=>by rw[aS (λz=>by subst z;rw[h] at e;cases e)];exact x a u n e
theorem Kp.dn {b p:Addr}{μ μ1:Mu}(x:Kp b μ μ1)(h:μ p=none):Kp b μ (dn μ1 p):=λa u n e=>by unfold L3.dn;rw[if_neg (λz=>by subst z;rw[h] at e;cases e)];exact x a u n e
theorem K2 {b:Addr}{μ μ':Mu}{d:D}{Q:DK}(hP:Pot μ' b)(h:Kp b μ μ')(k:∀ μ2,dE b μ μ2->Q d μ2):RT Q d μ':=by
 refine ⟨λa=>if a=b then μ' a else μ a,λa o e=>?_,k _ ⟨?_,λa ha=>by simp only[if_neg ha]⟩⟩
 ·dsimp only at e
  split at e
  ·exact e
  ·rename_i ha;exact h a o ha e
 ·obtain ⟨cs,a,l,g,m,s,e,h0⟩:=hP
  exact ⟨cs,a,l,g,m,s,by simp only[if_pos rfl];exact e,h0⟩
def pO:FSp:=λds μ Q=>kcL ds λxs ds=>kcN ds ((∃ ns:List Int,xs=ns.map .int)/\∀ p μ',μ p=none->Pot μ' p->(∀ a,a≠p->μ' a=μ a)->Q (.obj p) μ')
theorem Km:∀ ds μ Q,pO ds μ Q->ds.length=1:=λ_ _ _ h=>lcL h λ_ _ h=>by rw[(ecN h).1];rfl
def FC:STr:=aT (IZ [.inr (OF "cells"),.inr (OF "at"),.inr (OF "left"),.inr (OF "given"),.inr (OF "many"),.inr (OF "seed")] (af (aq jN (af (ah 0) (ar))) (af (TC (.int 0)) (af (TC (.int 0)) (af (TC (.int 0)) (af (TC (.int 0)) (af (TC (.int 5)) (ar))))))))
theorem Ni:∀ ds μ Q,pO ds μ Q->FC { nx:=λ_ μ'=>RT Q .non μ',rt:=RT Q } (ini 1 ds) μ:=by
 intro ds μ Q h
 replace h:=ecL h
 obtain ⟨xs,ds,rfl,h⟩:=h
 replace h:=ecN h
 obtain ⟨rfl,h⟩:=h
 walk_at "ini"
 unfold FC
 walk_at "go"
 obtain ⟨⟨ns,rfl⟩,k⟩:=h
 intro p hp
 walk_at "go"
 exact ⟨_,.refl _,k p _ hp ⟨ns,0,0,0,0,5,aF,Xp 0⟩ λa ha=>aS ha⟩
def iM:FSp:=λds μ Q=>kcI ds λ_ ds=>kcI ds λ_ ds=>kcN ds (∀ k:Int,Q (.int k) μ)
theorem Je:∀ ds μ Q,iM ds μ Q->ds.length=2:=λ_ _ _ h=>lcI h λ_ _ h=>lcI h λ_ _ h=>by rw[(ecN h).1];rfl
def Hl:STr:=ay (aN (aj mP (aj eJ (aj aO (aj aO (aj mP (ah 0) (TC (.int 2147483647))) (aj eJ (TC (.int 7919)) (ah 1))) (TC (.int 11))) (TC (.int 48271))) (TC (.int 2147483629))) (aw 2)) (ay (aN (aj mP (aj eJ (ah 2) (ah 2)) (TC (.int 2147483587))) (aw 3)) (aT (aj mP (aj eJ (aj aO (ah 3) (ah 1)) (TC (.int 69621))) (TC (.int 1999999973)))))
theorem Mt:∀ ds μ Q,iM ds μ Q->Hl { nx:=λ_ μ'=>RT Q .non μ',rt:=RT Q } (ini 4 ds) μ:=by
 intro ds μ Q h
 replace h:=ecI h
 obtain ⟨n,ds,rfl,h⟩:=h
 replace h:=ecI h
 obtain ⟨t,ds,rfl,h⟩:=h
 replace h:=ecN h
 obtain ⟨rfl,h⟩:=h
 walk_at "ini"
 unfold Hl
 walk_at "go"
 have s79:S64 7919:=by unfold S64;decide
 have s48:S64 48271:=by unfold S64;decide
 have s69:S64 69621:=by unfold S64;decide
 refine ⟨by decide,.inl (.inl s79),.inl (.inr s48),by decide,?_⟩
 walk_at "go"
 generalize hx:((n.fmod 2147483647+7919*t+11)*48271).fmod 2147483629=x
 have x0:0<=x:=by rw[← hx];exact fm0 (by decide)
 have x1:x < 2147483629:=by rw[← hx];exact fm1 (by decide)
 refine ⟨.inl (.inl (by unfold S64;omega)),by decide,?_⟩
 walk_at "go"
 exact ⟨.inl (.inr s69),by decide,_,.refl _,h _⟩
def aA:FSp:=λds μ Q=>kcO ds λb ds=>kcI ds λn ds=>kcN ds ((Pot μ b/\0 < n/\n < 18446744073709551616)/\∀ k μ',0<=k->k < n->dE b μ μ'->Q (.int k) μ')
theorem aV {μ:Mu}{b:Addr}{n:Int}{Q:DK}(hB:Pot μ b)(h0:0 < n)(h1:n < 18446744073709551616)(h:∀ k μ',0<=k->k < n->dE b μ μ'->Q (.int k) μ'):aA [.obj b,.int n] μ Q:=⟨⟨hB,h0,h1⟩,h⟩
theorem E8:∀ ds μ Q,aA ds μ Q->ds.length=2:=λ_ _ _ h=>lcO h λ_ _ h=>lcI h λ_ _ h=>by rw[(ecN h).1];rfl
def kY:STr:=ay (bI (tL (TB (aj rGt (bK (ah 0) (TC (.str "left"))) (TC (.int 0)))) (TB (aj rLt (bK (ah 0) (TC (.str "given"))) (TC (.int 60))))) (ay (mw (λm n=>m+n) (ah 0) (TC (.str "given")) (TC (.int 1))) (ay (aN (aj mP (bK (ah 0) (TC (.str "left"))) (ah 1)) (aw 3)) (ay (i7 (ah 0) (TC (.str "left")) (aj nJ (bK (ah 0) (TC (.str "left"))) (ah 1))) (aT (ah 3))))) (a9)) (ay (i7 (ah 0) (TC (.str "seed")) (aq iM (af (bK (ah 0) (TC (.str "seed"))) (af (bK (ah 0) (TC (.str "many"))) (ar))))) (aT (aj mP (aj nJ (bK (ah 0) (TC (.str "seed"))) (TC (.int 7))) (ah 1))))
def Dt:STr:=ay (mw (λm n=>m+n) (ah 0) (TC (.str "many")) (TC (.int 1))) (ay (bI (tL (TOr (TB (aj rEq (bK (ah 0) (TC (.str "left"))) (TC (.int 0)))) (TB (aj rEq (bK (ah 0) (TC (.str "given"))) (TC (.int 60))))) (TB (aj rLt (bK (ah 0) (TC (.str "at"))) (aq cQ (af (bK (ah 0) (TC (.str "cells"))) (ar)))))) (ay (aN (aq zE (af (aj L3.rIx (bK (ah 0) (TC (.str "cells"))) (bK (ah 0) (TC (.str "at")))) (ar))) (aw 2)) (ay (mw (λm n=>m+n) (ah 0) (TC (.str "at")) (TC (.int 1))) (ay (i7 (ah 0) (TC (.str "left")) (aj eJ (ah 2) (aq AL (af (aj rGe (ah 2) (aj IA (TC (.int 10)) (TC (.int 18)))) (ar))))) (ay (i7 (ah 0) (TC (.str "given")) (TC (.int 0))) (i7 (ah 0) (TC (.str "seed")) (aq iM (af (aj aO (bK (ah 0) (TC (.str "seed"))) (ah 2)) (af (bK (ah 0) (TC (.str "many"))) (ar))))))))) (a9)) (kY))
theorem Iq:∀ ds μ Q,aA ds μ Q->Dt { nx:=λ_ μ'=>RT Q .non μ',rt:=RT Q } (ini 4 ds) μ:=by
 intro ds μ Q h
 replace h:=ecO h
 obtain ⟨b,ds,rfl,h⟩:=h
 replace h:=ecI h
 obtain ⟨n,ds,rfl,h⟩:=h
 replace h:=ecN h
 obtain ⟨rfl,h⟩:=h
 walk_at "ini"
 unfold Dt
 obtain ⟨⟨⟨cs,a,l,g,m,s,eb,a0⟩,n0,n1⟩,k⟩:=h
 have nm:gc n:=by unfold gc;omega
 have fin:∀ (μ':Mu) (c a l g m s:Int),0<=c->c < n->0<=a->RT Q (.int c) (up μ b (.dct (ik cs a l g m s))):=λμ' c a l g m s c0 c1 a0=>
  ⟨_,.refl _,k c _ c0 c1 ⟨⟨cs,a,l,g,m,s,aF,a0⟩,λz hz=>aS hz⟩⟩
 have rest:∀ (v2 v3:Option D) (a l g m s:Int),0<=a->kY { nx:=λ_ μ'=>RT Q .non μ',rt:=RT Q } [some (.obj b),some (.int n),v2,v3] (up μ b (.dct (ik cs a l g m s))):=by
  intro v2 v3 a l g m s a0
  unfold kY
  walk_at "gp"
  refine kif (λh1=>kif (λh2=>?_) λ_=>?_) λ_=>?_
  ·walk_at "gp"
   refine ⟨by omega,?_⟩
   walk_at "gp"
   exact ⟨⟨by omega,nm⟩,fin μ _ a _ _ m s (fm0 n0) (fm1 n0) a0⟩
  all_goals
   intro s2
   walk_at "gp"
   exact ⟨⟨by decide,by unfold gc;decide⟩,by omega,fin μ _ a l g m s2 (fm0 n0) (fm1 n0) a0⟩
 have e0:∀ c:Int,MulOk c (if 1000000000000000000<=c then 1 else 0):=λc=>.inl (.inr (by unfold S64;split<;>decide))
 have e1:sC 10 18:=by unfold sC;decide
 refine (Lu eb).symm ▸ ?_
 walk_at "gp"
 rw[Ww]
 refine kif (λ_=>kif (λh1=>?_) λ_=>rest _ _ _ _ _ _ _ a0) λ_=>kif (λ_=>kif (λh1=>?_) λ_=>rest _ _ _ _ _ _ _ a0) λ_=>rest _ _ _ _ _ _ _ a0
 all_goals
  obtain ⟨z,ez⟩:=GF a0 h1
  rw[ez]
  walk_at "gp"
  refine ⟨e1,e0 _,?_⟩
  walk_at "gp"
  intro s2
  walk_at "gp"
  exact rest _ _ _ _ _ _ _ (by omega)
def cH:List Str:=[OF "a", OF "aa", OF "ab", OF "b", OF "ba", OF "mid", OF "way", OF "zz", OF "z", OF "long", OF "longer", OF "abcdefgh", OF "x", OF "yz", OF "m", OF "az", OF "c"]
theorem Ij:∀ w∈cH,WD w=true:=by decide +kernel
theorem Bw:cH.Nodup:=by decide +kernel
theorem JW:∀ f:Fin 17,∀ s:Fin 16,((Xh 17).map λk=>(f.val+(1+s.val)*k) % 17).Nodup:=by decide +kernel
def nameAt (f s:Nat)(k:Nat):Str:=cH.getD ((f+(1+s)*k) % 17) (OF "")
theorem Jw {f s n:Nat}(hf:f < 17)(hs:s < 16)(hn:n<=17):((Xh n).map (nameAt f s)).Nodup:=by
 have h1:((Xh 17).map λk=>(f+(1+s)*k) % 17).Nodup:=JW ⟨f,hf⟩ ⟨s,hs⟩
 have h2:((Xh n).map λk=>(f+(1+s)*k) % 17).Nodup:=by
  refine List.Nodup.sublist ?_ h1
  refine zeJ _ ?_
  rw[show Xh 17=Xh n++(Xh (17 - n)).map (n + ·) by rw[← List.range_add];congr 1;omega]
  exact zbd _ _
 have h3:((Xh n).map (nameAt f s))=((Xh n).map λk=>(f+(1+s)*k) % 17).map λj=>cH.getD j (OF ""):=by rw[WQ];rfl
 rw[h3]
 rw[zaU,za5]
 rw[zaU] at h2
 refine (za5.mp h2 |> λq=>?_)
 rw[za5]
 refine q.imp_of_mem ?_
 intro a b ha hb hne e
 refine hne ?_
 have l1:(f+(1+s)*a) % 17 < cH.length:=zcT _ (by decide)
 have l2:(f+(1+s)*b) % 17 < cH.length:=zcT _ (by decide)
 rw[Yw,Yw,WO l1,WO l2,zad,zad] at e
 exact (zdo Bw).mp e
theorem Ag (f s k:Nat):nameAt f s k∈cH:=by
 unfold nameAt
 have l1:(f+(1+s)*k) % 17 < cH.length:=zcT _ (by decide)
 rw[Yw,WO l1,zad]
 exact Ye _
def ig:FSp:=λds μ Q=>kcO ds λb ds=>kcI ds λm ds=>kcN ds ((Pot μ b/\0<=m/\m<=17)/\∀ (ws:List Str) μ',(ws.length:Int)=m->ws.Nodup->(∀ w∈ws,w∈cH)->dE b μ μ'->Q (.ls (ws.map .str)) μ')
theorem BV:∀ ds μ Q,ig ds μ Q->ds.length=2:=λ_ _ _ h=>lcO h λ_ _ h=>lcI h λ_ _ h=>by rw[(ecN h).1];rfl
def yC:STr:=ay (aN (fM (af (TC (.str "a")) (af (TC (.str "aa")) (af (TC (.str "ab")) (af (TC (.str "b")) (af (TC (.str "ba")) (af (TC (.str "mid")) (af (TC (.str "way")) (af (TC (.str "zz")) (af (TC (.str "z")) (af (TC (.str "long")) (af (TC (.str "longer")) (af (TC (.str "abcdefgh")) (af (TC (.str "x")) (af (TC (.str "yz")) (af (TC (.str "m")) (af (TC (.str "az")) (ar)))))))))))))))))) (aw 2)) (ay (aN (bh (af (aq aA (af (ah 0) (af (TC (.int 17)) (ar)))) (af (aj aO (TC (.int 1)) (aq aA (af (ah 0) (af (TC (.int 16)) (ar))))) (ar)))) (dh [3,4])) (aT (bG (fi (ah 1)) (aw 0) (dA) (aj L3.rIx (aj aO (ah 1) (fM (af (TC (.str "c")) (ar)))) (aj mP (aj aO (ah 2) (aj eJ (ah 3) (ah 0))) (TC (.int 17)))) 1 [2,3,4])))
theorem Fh:∀ ds μ Q,ig ds μ Q->yC { nx:=λ_ μ'=>RT Q .non μ',rt:=RT Q } (ini 5 ds) μ:=by
 intro ds μ Q h
 replace h:=ecO h
 obtain ⟨b,ds,rfl,h⟩:=h
 replace h:=ecI h
 obtain ⟨m,ds,rfl,h⟩:=h
 replace h:=ecN h
 obtain ⟨rfl,h⟩:=h
 walk_at "ini"
 unfold yC
 walk_at "go"
 obtain ⟨⟨hP,m0,m1⟩,k⟩:=h
 refine ⟨by decide,?_⟩
 refine aV hP (by decide) (by decide) λf μ1 f0 f1 P1=>?_
 walk_at "go"
 refine aV P1.pot (by decide) (by decide) λs μ2 s0 s1 P2=>?_
 walk_at "go"
 refine ⟨⟨by omega,by omega⟩,?_⟩
 have hw:∀ (kk:Nat),atD [D.str "a", D.str "aa", D.str "ab", D.str "b", D.str "ba", D.str "mid", D.str "way", D.str "zz", D.str "z", D.str "long", D.str "longer", D.str "abcdefgh", D.str "x", D.str "yz", D.str "m", D.str "az", D.str "c"] ((f+(1+s)*(kk:Int)).fmod 17)=some (.str (nameAt f.toNat s.toNat kk)):=by
  intro kk
  have e1:(f+(1+s)*(kk:Int)).fmod 17=(((f.toNat+(1+s.toNat)*kk) % 17:Nat):Int):=by
   rw[Int.fmod_eq_emod_of_nonneg _ (by decide)]
   push_cast
   rw[Yo f0,Yo s0]
  rw[e1,b8]
  show (cH.map D.str)[(f.toNat+(1+s.toNat)*kk) % 17]? = _
  have l1:(f.toNat+(1+s.toNat)*kk) % 17 < cH.length:=zcT _ (by decide)
  unfold nameAt
  rw[XW,Yw,WO l1];rfl
 refine comp_map (λd=>match d with
  | .int j=>.str (nameAt f.toNat s.toNat j.toNat)
  | _=>.non) (by rw[cX];omega) (λd hd μ' _ N n=>?_) ?_
 ·obtain ⟨j,rfl,j0,j1⟩:=Bv hd
  walk_at "go"
  refine ⟨by decide,?_⟩
  walk_at "go"
  refine ⟨.inl (.inl (by unfold S64;omega)),by decide,?_⟩
  have:=hw j.toNat
  rw[Yo (by omega)] at this
  rw[this]
  walk_at "go"
  exact n
 ·refine ⟨_,.refl _,?_⟩
  have e:(ck 0 m.toNat).map (λd=>match d with
   | .int j=>D.str (nameAt f.toNat s.toNat j.toNat)
   | _=>.non)=((Xh m.toNat).map (nameAt f.toNat s.toNat)).map .str:=by
   unfold ck
   rw[WQ,WQ]
   refine Xn λi _=>?_
   simp
  rw[e]
  refine k _ _ (by simp;omega) (Jw (by omega) (by omega) (by omega)) (λw hw=>?_) (P1.trans P2)
  obtain ⟨i,_,rfl⟩:=WE.mp hw
  exact Ag _ _ _
section
variable {G:GTr} {tt:TTr} {te:ETr} {ρc:ST} {ds:List D} {μ:Mu} {Q:DK} {b:Addr}
theorem zM (hP:Pot μ b)(I:List D->List D->Prop)(h0:I ds [])(hl:ds.length<=999999)
  (step:∀ d r zs μ',Pot μ' b->Kp b μ μ'->I (d::r) zs->∀ (N:Option D->Mu->Prop),(∀ oy μ2,I r (zs++oy.toList)->dE b μ' μ2->N oy μ2)->G d ρc μ' λρ1 μ1=>tt ρ1 μ1 λc μ2=>kIf c (te ρ1 μ2 λy μ3=>N (some y) μ3) (N none μ2))
  (k:∀ zs μ',I [] zs->dE b μ μ'->Q (.ls zs) μ'):tH G tt te ρc ds μ Q:=by
 intro p hp
 have pb:=hP.ne hp
 refine j5 (λr μ'=>∃ zs,I r zs/\zs.length+r.length<=ds.length/\μ' p=some (.lst zs)/\Pot μ' b/\∀ a,a≠b->a≠p->μ' a=μ a) ?_ ?_ _ _ ⟨[],h0,by simp,aF,hP.up pb,λa _ h=>aS h⟩
 ·rintro μ' ⟨zs,hI,_,e,P,fr⟩
  refine br e (k zs _ hI ⟨?_,λa ha=>?_⟩)
  ·obtain ⟨cs,a,l,g,m,s,e,h0⟩:=P
   exact ⟨cs,a,l,g,m,s,by unfold dn;rw[if_neg (WX pb)];exact e,h0⟩
  ·unfold dn
   split
   ·rename_i z;subst z;exact hp.symm
   ·rename_i z;exact fr a ha z
 ·rintro d r μ' N ⟨zs,hI,hz,e,P,fr⟩ hN
  rw[W6] at hz
  refine step d r zs μ' P (λa o n h=>?_) hI (λoy μ3=>match oy with
   | some y=>kL μ3 p λzs=>zs.length < 1000000/\N (up μ3 p (.lst (zs++[y])))
   | none=>N μ3) ?_
  ·rw[fr a n (λz=>by subst z;rw[hp] at h;cases h)];exact h
  intro oy μ2 hoy P2
  have e2:μ2 p=some (.lst zs):=by rw[P2.oth p pb];exact e
  cases oy with
  | none=>exact hN _ ⟨zs,by simpa using hoy,by omega,e2,P2.pot,λa h1 h2=>(P2.oth a h1).trans (fr a h1 h2)⟩
  | some y=>
   refine br e2 ⟨by omega,hN _ ⟨zs++[y],hoy,by rw[WG];simp;omega,aF,P2.pot.up pb,λa h1 h2=>?_⟩⟩
   rw[aS h2,P2.oth a h1,fr a h1 h2]
end
theorem LC {xs:List D}{c:Int}(c0:0<=c):atD xs c=xs[c.toNat]?:=by
 have:=b8 c.toNat xs
 rwa [Yo c0] at this
structure Lt where
 nm:Str
 nu:Int
 ag:Int
 hp:Int
 mr:Int
def Lt.toD (x:Lt):D:=.tup [.str x.nm,.int x.nu,.int x.ag,.int x.hp,.int x.mr]
abbrev ltD (ls:List Lt):List D:=ls.map Lt.toD
structure Lt.Ok (x:Lt):Prop where
 a0:0<=x.ag
 a1:x.ag < 30
 h0:0<=x.hp
 h1:x.hp < 6
 m0:0<=x.mr
 m1:x.mr<=1
structure Wy where
 nm:Str
 pc:Int
 rm:Int
 mr:Option Int
 tn:Bool
def cS:Option Int->D
 | none=>.non
 | some i=>.int i
def yX (b:Bool):Str:=if b then OF "turns" else OF "line"
def Wy.toD (x:Wy):D:=.tup [.str x.nm,.int x.pc,.int x.rm,cS x.mr,.str (yX x.tn)]
structure Wy.Ok (x:Wy):Prop where
 n:WD x.nm=true
 p0:1<=x.pc
 p1:x.pc<=20
 r0:1<=x.rm
 r1:x.rm<=60
 m:∀ i,x.mr=some i->0<=i/\i<=60
mutual
def pl:Nat->D->Bool
 | _,.non=>true
 | _,.int _=>true
 | _,.str x=>WD x
 | n+1,.tup ds=>decide (ds.length<=999999)&&pls n ds
 | n+1,.ls ds=>decide (ds.length<=999999)&&pls n ds
 | _,_=>false
def pls:Nat->List D->Bool
 | _,[]=>true
 | n,d::r=>pl n d&&pls n r
end
def j2 (n:Nat):FSp:=λds μ Q=>match ds with
 | [x,y]=>(x=y/\pl n y=true)/\Q (.bl true) μ
 | _=>False
def fY:Nat->FSp
 | 0=>λ_ _ _=>False
 | n+1=>j2 n
theorem Ce:∀ n ds μ Q,fY n ds μ Q->ds.length=2:=by
 intro n ds μ Q h
 cases n with
 | zero=>exact h.elim
 | succ n=>
  have h:j2 n ds μ Q:=h
  unfold j2 at h
  split at h
  ·rfl
  ·exact h.elim
theorem CS {n:Nat}:∀ {ds:List D} {d:D},pls n ds=true->d∈ds->pl n d=true
 | x::r,d,h,hm=>by
  have h':pl n x=true/\pls n r=true:=by simpa[pls] using h
  rcases WK.mp hm with rfl | hm
  ·exact h'.1
  ·exact CS h'.2 hm
theorem ya:∀ (ds:List D),X0 (λd e=>D.tup [d,e]) ds ds=ds.map λd=>.tup [d,d]
 | []=>rfl
 | d::r=>by simp[ya r]
def FY (sp_self:FSp):STr:=ay (bI (TB (aq (xP ["tuple", "list"]) (af (ah 1) (af (bh (af (TC (.ty "tuple")) (af (TC (.ty "list")) (ar)))) (ar))))) (ay (bI (TOr (TB (aj rNe (TUn (eS "tuple") (ah 0)) (TUn (eS "tuple") (ah 1)))) (TB (aj rNe (TUn (eS "list") (ah 0)) (TUn (eS "list") (ah 1))))) (aT (TC (.bl false))) (a9)) (aT (iz (aj rEq (aq cQ (af (ah 0) (ar))) (aq cQ (af (ah 1) (ar)))) (aq G6 (af (bG (jK (af (ah 0) (af (ah 1) (ar)))) (dh [0,1]) (dA) (aq sp_self (af (ah 0) (af (ah 1) (ar)))) 2 []) (ar)))))) (a9)) (ay (bI (TB (aj rIs (ah 1) (TC .non))) (aT (aj rIs (ah 0) (TC .non))) (a9)) (ay (bI (TB (TUn (eS "str") (ah 1))) (aT (iz (TUn (eS "str") (ah 0)) (aj rEq (ah 0) (ah 1)))) (a9)) (aT (iz (TUn (eS "int") (ah 0)) (iz (sR (TUn (eS "bool") (ah 0))) (aj rEq (ah 0) (ah 1)))))))
theorem C8 {n:Nat}{ds:List D}{μ:Mu}{Q:DK}(hl:ds.length<=999999)(hp:pls n ds=true)(fin:RT Q (.bl true) μ) :
  tH (dh [0,1]) dA (aq (fY (n+1)) (af (ah 0) (af (ah 1) ar))) [none,none] (X0 (λd e=>D.tup [d,e]) ds ds) μ λx μ1=>gW G6 [x] μ1 (RT Q):=by
 rw[ya]
 refine comp_map (λ_=>.bl true) (by simpa using hl) (λd hd μ' _ N n=>?_) ?_
 ·obtain ⟨x,hx,rfl⟩:=WE.mp hd
  walk_at "go"
  exact ⟨⟨rfl,CS hp hx⟩,n⟩
 ·refine ⟨ds.map λ_=>true,by simp,?_⟩
  have:(ds.map λ_=>true).all id=true:=by simp
  rw[this]
  exact fin
theorem EU (n:Nat):∀ ds μ Q,fY (n+1) ds μ Q->FY (fY n) { nx:=λ_ μ'=>RT Q .non μ',rt:=RT Q } (ini 2 ds) μ:=by
 intro ds μ Q h
 have h2:∃ x,ds=[x,x]/\pl n x=true/\Q (.bl true) μ:=by
  have h:j2 n ds μ Q:=h
  unfold j2 at h
  split at h
  ·obtain ⟨⟨rfl,hp⟩,k⟩:=h;exact ⟨_,rfl,hp,k⟩
  ·exact h.elim
 obtain ⟨x,rfl,hp,k⟩:=h2
 clear h
 walk_at "ini"
 unfold FY
 have fin:RT Q (.bl true) μ:=⟨_,.refl _,k⟩
 cases x with
 | non=>
  walk_at "go"
  refine ⟨by decide,?_⟩
  show kIf false _ _
  walk_at "go"
  exact fin
 | int i=>
  walk_at "go"
  refine ⟨by decide,?_⟩
  show kIf false _ _
  walk_at "go"
  show kIf false _ _
  walk_at "go"
  exact fin
 | str s=>
  walk_at "go"
  refine ⟨by decide,?_⟩
  show kIf false _ _
  walk_at "go"
  have hs:WD s=true:=by cases n<;>simpa[pl] using hp
  show WD s=true/\RT Q (.bl true) μ
  exact ⟨hs,fin⟩
 | tup ds=>
  cases n with
  | zero=>simp[pl] at hp
  | succ n=>
  simp only[pl,Xd,decide_eq_true_eq] at hp
  walk_at "go"
  refine ⟨by decide,?_⟩
  show kIf true _ _
  walk_at "go"
  show kIf false _ (kIf false _ _)
  walk_at "go"
  exact C8 hp.1 hp.2 fin
 | ls ds=>
  cases n with
  | zero=>simp[pl] at hp
  | succ n=>
  simp only[pl,Xd,decide_eq_true_eq] at hp
  walk_at "go"
  refine ⟨by decide,?_⟩
  show kIf true _ _
  walk_at "go"
  show kIf false _ (kIf false _ _)
  walk_at "go"
  exact C8 hp.1 hp.2 fin
 | _=>cases n<;>simp[pl] at hp
abbrev mh:FSp:=fY 6
theorem vP {x y:D}{μ:Mu}{Q:DK}(e:x=y)(h:pl 5 y=true)(k:Q (.bl true) μ):gW mh [x,y] μ Q:=⟨⟨e,h⟩,k⟩
theorem kU {n:Nat}:∀ {ds:List D},(∀ d∈ds,pl n d=true)->pls n ds=true
 | [],_=>rfl
 | d::r,h=>by simp only[pls,Xd];exact ⟨h d WS,kU λx hx=>h x (W5 _ hx)⟩
def rV (w:Wy)(x:Lt)(n:Nat):Lt:=match w.mr with
 | none=>x
 | some i=>if (n:Int) < i then x else { x with mr:=1 }
def d8 (w:Wy)(p:List Lt×List Lt)(y:Lt):List Lt×List Lt:=if w.rm<=(p.1.length:Int) then (p.1,p.2++[y]) else (p.1++[rV w y p.1.length],p.2)
def tk (w:Wy)(xs ys:List Lt):List Lt×List Lt:=ys.foldl (d8 w) (xs,[])
theorem Ru (a b c d e:D):cutD [a,b,c,d,e] none (some 4)=[a,b,c,d]:=rfl
def fg:FSp:=λds μ Q=>kcA ds λwd ds=>kcA ds λld ds=>kcI ds λn ds=>kcN ds (∃ (w:Wy) (x:Lt) (m:Nat),(wd=w.toD/\ld=x.toD/\n=m)/\Q (rV w x m).toD μ)
theorem rP:∀ ds μ Q,fg ds μ Q->ds.length=3:=λ_ _ _ h=>lcA h λ_ _ h=>lcA h λ_ _ h=>lcI h λ_ _ h=>by rw[(ecN h).1];rfl
def mO:STr:=ay (bI (TOr (TB (aj rIs (aj L3.rIx (ah 0) (TC (.int 3))) (TC .non))) (TB (aj rLt (ah 2) (aj L3.rIx (ah 0) (TC (.int 3)))))) (aT (ah 1)) (a9)) (aT (aj aO (TSl (ah 1) (ONo) (ky (TC (.int 4)))) (bh (af (TC (.int 1)) (ar)))))
theorem tM:∀ ds μ Q,fg ds μ Q->mO { nx:=λ_ μ'=>RT Q .non μ',rt:=RT Q } (ini 3 ds) μ:=by
 intro ds μ Q h
 replace h:=ecA h
 obtain ⟨wd,ds,rfl,h⟩:=h
 replace h:=ecA h
 obtain ⟨ld,ds,rfl,h⟩:=h
 replace h:=ecI h
 obtain ⟨n,ds,rfl,h⟩:=h
 replace h:=ecN h
 obtain ⟨rfl,h⟩:=h
 walk_at "ini"
 unfold mO
 walk_at "go"
 obtain ⟨w,x,m,⟨rfl,rfl,rfl⟩,k⟩:=h
 simp only[Wy.toD]
 walk_at "go"
 unfold rV at k
 cases hm:w.mr with
 | none=>
  rw[hm] at k
  simp only[cS]
  walk_at "go"
  exact ⟨_,.refl _,k⟩
 | some i=>
  rw[hm] at k
  simp only[cS]
  walk_at "go"
  refine kif (λh1=>⟨_,.refl _,?_⟩) λh1=>?_
  ·simp only[if_pos h1] at k;exact k
  ·simp only[if_neg h1] at k
   simp only[Lt.toD]
   walk_at "go"
   rw[Ru]
   walk_at "go"
   exact ⟨by show 5<=1000000;decide,_,.refl _,k⟩
def gG:FSp:=λds μ Q=>kcA ds λwd ds=>kcT ds λst ds=>kcT ds λle ds=>kcN ds (∃ (w:Wy) (xs ys:List Lt),(wd=w.toD/\st=ltD xs/\le=ltD ys/\xs.length+ys.length<=900000)/\Q (.tup [.tup (ltD (tk w xs ys).1),.tup (ltD (tk w xs ys).2)]) μ)
theorem wB:∀ ds μ Q,gG ds μ Q->ds.length=3:=λ_ _ _ h=>lcA h λ_ _ h=>lcT h λ_ _ h=>lcT h λ_ _ h=>by rw[(ecN h).1];rfl
def sx:STr:=ay (aN (aq jq (af (ah 1) (ar))) (aw 3)) (ay (aN (lF (ar)) (aw 4)) (ay (iR (eg (ah 2)) (aw 5) (bI (TB (aj rGe (aq cQ (af (ah 3) (ar))) (aj L3.rIx (ah 0) (TC (.int 2))))) (eU (mT (ah 4) (ah 5))) (eU (mT (ah 3) (aq fg (af (ah 0) (af (ah 5) (af (aq cQ (af (ah 3) (ar))) (ar))))))))) (aT (bh (af (aq bu (af (ah 3) (ar))) (af (aq bu (af (ah 4) (ar))) (ar)))))))
theorem xN:∀ ds μ Q,gG ds μ Q->sx { nx:=λ_ μ'=>RT Q .non μ',rt:=RT Q } (ini 6 ds) μ:=by
 intro ds μ Q h
 replace h:=ecA h
 obtain ⟨wd,ds,rfl,h⟩:=h
 replace h:=ecT h
 obtain ⟨st,ds,rfl,h⟩:=h
 replace h:=ecT h
 obtain ⟨le,ds,rfl,h⟩:=h
 replace h:=ecN h
 obtain ⟨rfl,h⟩:=h
 walk_at "ini"
 unfold sx
 walk_at "go"
 obtain ⟨w,xs,ys,⟨rfl,rfl,rfl,hl⟩,k⟩:=h
 intro p hp
 walk_at "go"
 intro q hq
 have qp:q≠p:=λz=>by subst z;rw[aF] at hq;cases hq
 have hqn:μ q=none:=by rw[aS qp] at hq;exact hq
 refine bP (λr ρ μ'=>∃ (a b:List Lt) (rs:List Lt) (v5:Option D),r=ltD rs/\ρ=[some w.toD,some (.tup (ltD xs)),some (.tup (ltD ys)),some (.obj p),some (.obj q),v5]/\μ' p=some (.lst (ltD a))/\μ' q=some (.lst (ltD b))/\Sub μ μ'/\rs.foldl (d8 w) (a,b)=tk w xs ys/\a.length+b.length+rs.length<=900000) ?_ ?_ _ _ _ ⟨xs,[],ys,_,rfl,rfl,by rw[aS (WX qp),aF],aF,(Sub.new hp).trans (Sub.new hq),rfl,by simpa using hl⟩
 ·rintro ρ μ' ⟨a,b,rs,v5,er,rfl,ep,eq,s,e,_⟩
  have:rs=[]:=by cases rs with | nil=>rfl | cons=>cases er
  subst this
  have e:(a,b)=tk w xs ys:=e
  rw[← e] at k
  walk_at "go"
  refine br ep ?_
  walk_at "go"
  refine br eq ?_
  exact ⟨_,s,k⟩
 ·rintro d r ρ μ' N ⟨a,b,rs,v5,er,rfl,ep,eq,s,e,hz⟩ hN
  cases rs with
  | nil=>cases er
  | cons y rs=>
  cases er
  rw[W6] at hz
  rw[Y1] at e
  unfold d8 at e
  simp only[Wy.toD]
  walk_at "go"
  refine br ep ?_
  walk_at "go"
  rw[Ww]
  refine kif (λh1=>?_) λh1=>?_
  ·rw[if_pos h1] at e
   walk_at "go"
   refine br eq ?_
   walk_at "go"
   refine br eq ⟨by simp;omega,hN _ _ ⟨a,b++[y],rs,_,rfl,rfl,by rw[aS (WX qp)];exact ep,by rw[aF];simp[ltD],λz o h=>?_,e,by simp;omega⟩⟩
   rw[aS (λe=>by subst e;rw[hqn] at h;cases h)];exact s z o h
  ·rw[if_neg h1] at e
   walk_at "go"
   refine br ep ?_
   walk_at "go"
   refine br ep ?_
   rw[Ww]
   refine ⟨w,y,a.length,⟨rfl,rfl,rfl⟩,?_⟩
   walk_at "go"
   refine br ep ⟨by simp;omega,hN _ _ ⟨a++[rV w y a.length],b,rs,_,rfl,rfl,by rw[aF];simp[ltD],by rw[aS qp];exact eq,λz o h=>?_,e,by simp;omega⟩⟩
   rw[aS (λe=>by subst e;rw[hp] at h;cases h)];exact s z o h
theorem Vs (w:Wy)(μ:Mu)(Q:DK):L3.rIx w.toD (.int 0) μ Q=Q (.str w.nm) μ:=propext Wx
theorem U8 (w:Wy)(μ:Mu)(Q:DK):L3.rIx w.toD (.int 1) μ Q=Q (.int w.pc) μ:=propext Wx
theorem VA (w:Wy)(μ:Mu)(Q:DK):L3.rIx w.toD (.int 4) μ Q=Q (.str (yX w.tn)) μ:=propext Wx
theorem lt_0 (x:Lt)(μ:Mu)(Q:DK):L3.rIx x.toD (.int 0) μ Q=Q (.str x.nm) μ:=propext Wx
theorem UM (x:Lt)(μ:Mu)(Q:DK):L3.rIx x.toD (.int 1) μ Q=Q (.int x.nu) μ:=propext Wx
theorem Wi (x:Lt)(μ:Mu)(Q:DK):L3.rIx x.toD (.int 2) μ Q=Q (.int x.ag) μ:=propext Wx
theorem V5 (x:Lt)(μ:Mu)(Q:DK):L3.rIx x.toD (.int 3) μ Q=Q (.int x.hp) μ:=propext Wx
theorem Vh (x:Lt)(μ:Mu)(Q:DK):L3.rIx x.toD (.int 4) μ Q=Q (.int x.mr) μ:=propext Wx
theorem VN (xs:List D){k:Int}(k0:0<=k):cutD xs none (some k)=xs.take k.toNat:=by
 have:=vQ xs k.toNat
 rwa [Yo k0] at this
theorem Vp (xs:List D){k:Int}(k0:0<=k):cutD xs (some k) none=xs.drop k.toNat:=by
 have:=mZ xs k.toNat
 rwa [Yo k0] at this
theorem NX (ls:List Lt)(n:Nat):(ltD ls).take n=ltD (ls.take n):=by simp[ltD,zeo]
theorem K5 (ls:List Lt)(n:Nat):(ltD ls).drop n=ltD (ls.drop n):=by simp[ltD,zep]
theorem pR {w:Wy}{a b:List Lt}{y:Lt}(h:w.rm<=(a.length:Int)):d8 w (a,b) y=(a,b++[y]):=by unfold d8;rw[if_pos h]
theorem Cv {w:Wy}{a b:List Lt}{y:Lt}(h:¬ w.rm<=(a.length:Int)):d8 w (a,b) y=(a++[rV w y a.length],b):=by unfold d8;rw[if_neg h]
theorem uT:cS none=.non:=rfl
theorem vh (i:Int):cS (some i)=.int i:=rfl
theorem AW (w:Wy):∀ (ys:List Lt) (a b:List Lt),(ys.foldl (d8 w) (a,b)).1.length+(ys.foldl (d8 w) (a,b)).2.length=a.length+b.length+ys.length
 | [],a,b=>by simp
 | y::ys,a,b=>by
  rw[Y1]
  by_cases h:w.rm<=(a.length:Int)
  ·rw[pR h,AW w ys];simp;omega
  ·rw[Cv h,AW w ys];simp;omega
theorem DA (w:Wy)(y:Lt)(n:Nat):(rV w y n).nm=y.nm:=by
 unfold rV
 split
 ·rfl
 ·split<;>rfl
theorem F5 (w:Wy)(P:Str->Prop):∀ (ys:List Lt) (a b:List Lt),(∀ x∈a,P x.nm)->(∀ x∈b,P x.nm)->(∀ x∈ys,P x.nm)->(∀ x∈(ys.foldl (d8 w) (a,b)).1,P x.nm)/\∀ x∈(ys.foldl (d8 w) (a,b)).2,P x.nm
 | [],a,b,h1,h2,_=>⟨h1,h2⟩
 | y::ys,a,b,h1,h2,h3=>by
  rw[Y1]
  have hy:=h3 y WS
  have hr:∀ x∈ys,P x.nm:=λx hx=>h3 x (W5 _ hx)
  by_cases h:w.rm<=(a.length:Int)
  ·rw[pR h]
   refine F5 w P ys _ _ h1 (λx hx=>?_) hr
   rcases Xr.mp hx with z | z
   ·exact h2 x z
   ·have:x=y:=by simpa using z
    subst this;exact hy
  ·rw[Cv h]
   refine F5 w P ys _ _ (λx hx=>?_) h2 hr
   rcases Xr.mp hx with z | z
   ·exact h1 x z
   ·have:x=rV w y a.length:=by simpa using z
    subst this;rw[DA];exact hy
def Sy:=Jn @Vs <| Jn @U8 <| Jn @VA <| Jn @lt_0 <| Jn @UM <| Jn @Wi <| Jn @V5 <| Jn @Vh <| @TF
local macro_rules | `(tactic| walk_at "go")=>zzS "↓L3.Sy L3.DU ↓L3.zp ↓L3.yj ↓L3.yz ↓L3.xU ↓L3.xh ↓L3.xH ↓L3.ko ↓L3.iK L3.cx L3.bO L3.cj L3.cv L3.cw L3.b9 L3.cM L3.cG L3.bQ L3.cf L3.cc L3.cz L3.cy L3.cL L3.cu L3.cN L3.cq L3.cI L3.cp L3.cP L3.iV L3.uT L3.vh L3.fc List.map_cons List.map_nil List.replicate List.cons_append List.nil_append L3.lk L3.Fd L3.y3 L3.E4 L3.E1 L3.kg L3.fo L3.qH L3.kK L3.ur L3.uC L3.km L3.iw L3.nC L3.nH L3.ke L3.ka L3.kn L3.j3 true_and and_true and_self Bool.not_true Bool.not_false decide_true decide_false Bool.or_true Bool.or_false Bool.true_or Bool.false_or Bool.and_false Bool.false_and Bool.and_true Bool.true_and Int.reduceToNat Int.reducePow Int.reduceNeg Int.reduceSub Int.reduceAdd Int.reduceMul Int.reduceEq Int.reduceLT Int.reduceLE Int.reduceBEq L3.iq L3.fV L3.fL L3.fJ L3.fW L3.fP L3.fR L3.fK if_true if_false Bool.false_eq_true reduceCtorEq decide_eq_true_eq"
def nO (ws os:List Str)(l:Str):Option Str:=match (ws.filter λw=>decide (w∈os)).filter λw=>ltS l w with
 | x::_=>some x
 | []=>(ws.filter λw=>decide (w∈os)).head?
theorem yl {ws os:List Str}{l n:Str}(h:nO ws os l=some n):n∈ws/\n∈os:=by
 unfold nO at h
 have hm:n∈ws.filter λw=>decide (w∈os):=by
  split at h
  ·rename_i x r e
   cases h
   have:n∈(ws.filter λw=>decide (w∈os)).filter λw=>ltS l w:=by rw[e];exact WS
   exact (Xv.mp this).1
  ·exact List.mem_of_head? h
 have:=Xv.mp hm
 exact ⟨this.1,by simpa using this.2⟩
theorem Bx {ws os:List Str}{l w:Str}(h1:w∈ws)(h2:w∈os):∃ n,nO ws os l=some n:=by
 have hm:w∈ws.filter λw=>decide (w∈os):=Xv.mpr ⟨h1,by simpa using h2⟩
 unfold nO
 split
 ·exact ⟨_,rfl⟩
 ·cases e:(ws.filter λw=>decide (w∈os)) with
  | nil=>rw[e] at hm;cases hm
  | cons x r=>exact ⟨x,rfl⟩
theorem Mc (w:Str)(os:List Str):inG (.str w) (os.map .str)=decide (w∈os):=by
 unfold inG
 rw[List.any_map]
 induction os with
 | nil=>simp
 | cons o r ih=>
  rw[YG,ih]
  simp only[Function.comp_apply,kK]
  by_cases h:o=w
  ·simp[h]
  ·simp[h,WX h,eq_comm]
theorem CG {n:Nat}{os:List Str}(h:∀ o∈os,WD o=true):b7 n (os.map .str)=true:=by
 induction os with
 | nil=>rfl
 | cons o r ih=>
  rw[WN,fo,y3,h o WS,ih λx hx=>h x (W5 _ hx)];rfl
theorem xS (os:List Str)(p:Str->Bool):(os.map D.str).filterMap (λd=>match d with
  | .str w=>if p w then some (D.str w) else none
  | _=>none)=(os.filter p).map D.str:=by
 induction os with
 | nil=>rfl
 | cons o r ih=>
  rw[WN,Yn,zac]
  dsimp only
  cases p o with
  | true=>simp[ih]
  | false=>simp[ih]
def fN:FSp:=λds μ Q=>kcA ds λd ds=>kcL ds λos' ds=>kcS ds λl ds=>kcN ds (∃ (ws os:List Str) (n:Str),((d=.tup (ws.map .str)∨d=.ls (ws.map .str))/\os'=os.map .str/\(∀ w∈ws,WD w=true)/\(∀ w∈os,WD w=true)/\ws.length<=900000/\nO ws os l=some n)/\Q (.str n) μ)
theorem tO:∀ ds μ Q,fN ds μ Q->ds.length=3:=λ_ _ _ h=>lcA h λ_ _ h=>lcL h λ_ _ h=>lcS h λ_ _ h=>by rw[(ecN h).1];rfl
def om:STr:=ay (aN (bG (eg (ah 0)) (aw 0) (TB (aj (Nr false) (ah 0) (ah 1))) (ah 0) 1 [1]) (aw 3)) (ay (aN (bG (eg (ah 3)) (aw 0) (TB (aj Rt (ah 0) (ah 1))) (ah 0) 1 [2]) (aw 4)) (aT (lC (TB (aj rGt (aq cQ (af (ah 4) (ar))) (TC (.int 0)))) (aj L3.rIx (ah 4) (TC (.int 0))) (aj L3.rIx (ah 3) (TC (.int 0))))))
theorem ve:∀ ds μ Q,fN ds μ Q->om { nx:=λ_ μ'=>RT Q .non μ',rt:=RT Q } (ini 5 ds) μ:=by
 intro ds μ Q h
 replace h:=ecA h
 obtain ⟨d,ds,rfl,h⟩:=h
 replace h:=ecL h
 obtain ⟨os',ds,rfl,h⟩:=h
 replace h:=ecS h
 obtain ⟨l,ds,rfl,h⟩:=h
 replace h:=ecN h
 obtain ⟨rfl,h⟩:=h
 walk_at "ini"
 unfold om
 walk_at "go"
 obtain ⟨ws,os,n,⟨hd,rfl,h1,h2,hl,hn⟩,k⟩:=h
 have go:∀ d,d=.tup (ws.map .str)∨d=.ls (ws.map .str)->∀ f:List D->Prop,f (ws.map .str)->kS d f:=λd h f hf=>by rcases h with rfl | rfl<;>exact hf
 refine go d hd _ ?_
 refine wD (λd=>match d with
  | .str w=>if decide (w∈os) then some (.str w) else none
  | _=>none) (by rw[Ww];omega) (λd hd μ' _ N n=>?_) ?_
 ·obtain ⟨w,hw,rfl⟩:=WE.mp hd
  walk_at "go"
  rw[CG h2,Mc]
  have:=h1 w hw
  simp only[this,true_and]
  dsimp only at n
  refine kif (λh=>?_) λh=>?_
  ·rw[decide_eq_true h] at n;exact n
  ·rw[decide_eq_false h] at n;exact n
 ·rw[xS ws λw=>decide (w∈os)]
  generalize hth:(ws.filter λw=>decide (w∈os))=th at *
  have lth:th.length<=900000:=by rw[← hth];exact Xu (Yx _ _) hl
  walk_at "go"
  refine wD (λd=>match d with
   | .str w=>if ltS l w then some (.str w) else none
   | _=>none) (by rw[Ww];omega) (λd hd μ' _ N n=>?_) ?_
  ·obtain ⟨w,hw,rfl⟩:=WE.mp hd
   walk_at "go"
   dsimp only at n
   refine Sl (λh=>?_) λh=>?_
   ·rw[h] at n;exact n
   ·rw[h] at n;exact n
  ·rw[xS th λw=>ltS l w]
   unfold nO at hn
   rw[hth] at hn
   walk_at "go"
   cases e:th.filter λw=>ltS l w with
   | nil=>
    rw[e] at hn
    have hn:th.head? = some n:=hn
    cases th with
    | nil=>cases hn
    | cons x r=>
    cases hn
    walk_at "go"
    show kIf false _ _
    walk_at "go"
    exact ⟨_,.refl _,k⟩
   | cons x r=>
    rw[e] at hn
    have hn:some x=some n:=hn
    cases hn
    walk_at "go"
    refine sT (by simp) ?_
    exact ⟨_,.refl _,k⟩
def at1 (n:Str)(st:List Lt):Nat:=st.findIdx λx=>decide (x.nm=n)
def eV (ws:List Str)(p:Int):Nat->List Lt->List Lt->Str->List Lt×List Lt×Str
 | 0,st,out,l=>(out,st,l)
 | f+1,st,out,l=>if 0 < st.length/\(out.length:Int) < p then (match nO ws (st.map Lt.nm) l with
   | some n=>(match st[at1 n st]? with
    | some x=>eV ws p f (st.eraseIdx (at1 n st)) (out++[x]) n
    | none=>(out,st,l))
   | none=>(out,st,l)) else (out,st,l)
theorem Hs {n:Str}{st:List Lt}(h:n∈st.map Lt.nm):at1 n st < st.length:=by
 obtain ⟨x,hx,rfl⟩:=WE.mp h
 exact List.findIdx_lt_length_of_exists ⟨x,hx,by simp⟩
theorem tY {α β:Type}(f:α->β):∀ (l:List α) (i:Nat),(l.map f).eraseIdx i=(l.eraseIdx i).map f
 | [],_=>by simp
 | _::_,0=>rfl
 | a::l,i+1=>by simp[tY f l i]
theorem RP {n:Str}{st:List Lt}(h:n∈st.map Lt.nm):Eo ((st.map Lt.nm).map .str) (.str n)=some (at1 n st):=by
 unfold Eo
 have hl:=Hs h
 rw[ZQ]
 have e1:∀ m (hm:m < ((st.map Lt.nm).map D.str).length),eqD ((st.map Lt.nm).map D.str)[m] (.str n)=decide ((st[m]'(by simpa using hm)).nm=n):=by
  intro m hm
  simp[kK]
 refine ⟨by simpa using hl,?_,λj hj=>?_⟩
 ·rw[e1]
  have hl':(st.findIdx λx=>decide (x.nm=n)) < st.length:=hl
  have:=List.findIdx_getElem (xs:=st) (p:=λx=>decide (x.nm=n)) (w:=hl')
  exact this
 ·rw[e1]
  have:=List.not_of_lt_findIdx (xs:=st) (p:=λx=>decide (x.nm=n)) hj
  simpa using this
theorem Au {ws:List Str}{p:Int}{f:Nat}{st out:List Lt}{l:Str}(h:¬ (0 < st.length/\(out.length:Int) < p)):eV ws p f st out l=(out,st,l):=by
 cases f with
 | zero=>rfl
 | succ f=>unfold eV;rw[if_neg h]
theorem G7 {ws:List Str}{p:Int}{f:Nat}{st out:List Lt}{l n:Str}{x:Lt}(h:0 < st.length/\(out.length:Int) < p)(hn:nO ws (st.map Lt.nm) l=some n)(hx:st[at1 n st]? = some x) :
  eV ws p (f+1) st out l=eV ws p f (st.eraseIdx (at1 n st)) (out++[x]) n:=by
 conv=>lhs;unfold eV
 rw[if_pos h,hn]
 dsimp only
 rw[hx]
theorem Nx {n k:Nat}(h:k < n):L2.ixN n (k:Int)=some k:=by rw[NG,if_pos h]
def nh (ws:List Str)(st:List Lt):Prop:=∀ x∈st,x.nm∈ws
def dZ:FSp:=λds μ Q=>kcA ds λwd ds=>kcA ds λd ds=>kcT ds λst' ds=>kcS ds λl ds=>kcN ds (∃ (w:Wy) (ws:List Str) (st:List Lt),(wd=w.toD/\(d=.tup (ws.map .str)∨d=.ls (ws.map .str))/\st'=ltD st/\(∀ x∈ws,WD x=true)/\nh ws st/\ws.length<=900000/\st.length<=900000)/\
   Q (.tup [.tup (ltD (eV ws w.pc st.length st [] l).1),.tup (ltD (eV ws w.pc st.length st [] l).2.1),.str (eV ws w.pc st.length st [] l).2.2]) μ)
theorem m7:∀ ds μ Q,dZ ds μ Q->ds.length=4:=λ_ _ _ h=>lcA h λ_ _ h=>lcA h λ_ _ h=>lcT h λ_ _ h=>lcS h λ_ _ h=>by rw[(ecN h).1];rfl
def ju:STr:=ay (aN (aq jq (af (ah 2) (ar))) (aw 4)) (ay (aN (lF (ar)) (aw 5)) (ay (aN (ah 3) (aw 6)) (ay (wQ (tL (TB (aj rGt (aq cQ (af (ah 4) (ar))) (TC (.int 0)))) (TB (aj rLt (aq cQ (af (ah 5) (ar))) (aj L3.rIx (ah 0) (TC (.int 1)))))) (ay (aN (iT (ah 4) (aw 0) (dA) (aj L3.rIx (ah 0) (TC (.int 0))) 1 []) (aw 7)) (ay (aN (aq fN (af (ah 1) (af (ah 7) (af (ah 6) (ar))))) (aw 6)) (eU (mT (ah 5) (PV (ah 4) (Ay (ah 7) (ah 6)))))))) (aT (bh (af (aq bu (af (ah 5) (ar))) (af (aq bu (af (ah 4) (ar))) (af (ah 6) (ar)))))))))
theorem oU:∀ ds μ Q,dZ ds μ Q->ju { nx:=λ_ μ'=>RT Q .non μ',rt:=RT Q } (ini 8 ds) μ:=by
 intro ds μ Q h
 replace h:=ecA h
 obtain ⟨wd,ds,rfl,h⟩:=h
 replace h:=ecA h
 obtain ⟨d,ds,rfl,h⟩:=h
 replace h:=ecT h
 obtain ⟨st',ds,rfl,h⟩:=h
 replace h:=ecS h
 obtain ⟨l,ds,rfl,h⟩:=h
 replace h:=ecN h
 obtain ⟨rfl,h⟩:=h
 walk_at "ini"
 unfold ju
 walk_at "go"
 obtain ⟨w,ws,st,⟨rfl,hd,rfl,hw,hs,hl1,hl2⟩,k⟩:=h
 intro p hp
 walk_at "go"
 intro q hq
 have qp:q≠p:=λz=>by subst z;rw[aF] at hq;cases hq
 have hqn:μ q=none:=by rw[aS qp] at hq;exact hq
 walk_at "go"
 refine ⟨λρ μ'=>∃ (a o:List Lt) (n:Str) (v7:Option D) (f:Nat),ρ=[some w.toD,some d,some (.tup (ltD st)),some (.str l),some (.obj p),some (.obj q),some (.str n),v7]/\μ' p=some (.lst (ltD a))/\μ' q=some (.lst (ltD o))/\Sub μ μ'/\eV ws w.pc f a o n=eV ws w.pc st.length st [] l/\a.length<=f/\a.length+o.length<=900000/\nh ws a,
  λ_ μ'=>match μ' p with
   | some (.lst ds)=>ds.length
   | _=>0,⟨st,[],l,_,st.length,rfl,by rw[aS (WX qp),aF],aF,(Sub.new hp).trans (Sub.new hq),rfl,WL _,by simpa using hl2,hs⟩,?_⟩
 rintro ρ μ' ⟨a,o,n,v7,f,rfl,ep,eq,sb,e,hf,hz,ha⟩
 have fin:¬ (0 < a.length/\(o.length:Int) < w.pc)->RT Q (.tup [.tup (ltD o),.tup (ltD a),.str n]) μ':=λhn=>by
  rw[Au hn] at e
  rw[← e] at k
  exact ⟨_,sb,k⟩
 walk_at "go"
 refine br ep ?_
 walk_at "go"
 rw[Ww]
 refine kif (λh1=>?_) λh1=>?_
 rotate_left
 ·refine br eq ?_
  walk_at "go"
  refine br ep ?_
  walk_at "go"
  exact fin λh=>h1 (by have:=h.1;omega)
 walk_at "go"
 refine br eq ?_
 walk_at "go"
 rw[Ww]
 refine kif (λh2=>?_) λh2=>?_
 rotate_left
 ·refine br eq ?_
  walk_at "go"
  refine br ep ?_
  walk_at "go"
  exact fin λh=>h2 h.2
 walk_at "go"
 refine br ep ?_
 refine DX ep (λd=>match d with
  | .tup (x::_)=>x
  | _=>.non) (by rw[Ww];omega) (λd hd μ2 _ N n=>?_) ?_
 ·obtain ⟨x,hx,rfl⟩:=WE.mp hd
  walk_at "go"
  exact n
 have em:(ltD a).map (λd=>match d with
  | .tup (x::_)=>x
  | _=>D.non)=(a.map Lt.nm).map .str:=by rw[WQ,WQ];rfl
 rw[em]
 walk_at "go"
 cases a with
 | nil=>simp at h1
 | cons x0 a0=>
 have h0:=ha x0 WS
 obtain ⟨n2,hn2⟩:=Bx (l:=n) h0 (show x0.nm∈(x0::a0).map Lt.nm from WS)
 generalize hA:x0::a0=A at *
 have hos:∀ z∈A.map Lt.nm,WD z=true:=λz hz=>by
  obtain ⟨y,hy,rfl⟩:=WE.mp hz
  exact hw _ (ha y hy)
 refine ⟨ws,A.map Lt.nm,n2,⟨hd,rfl,hw,hos,hl1,hn2⟩,?_⟩
 walk_at "go"
 have hin:=yl hn2
 have hi:=Hs hin.2
 refine br eq ?_
 walk_at "go"
 refine br ep ?_
 walk_at "go"
 rw[CG hos,hw _ hin.1,RP hin.2]
 simp only[true_and]
 walk_at "go"
 refine ⟨by omega,⟨by omega,by omega⟩,br ep ?_⟩
 rw[Ww,Nx hi]
 walk_at "go"
 obtain ⟨x,hx⟩:∃ x,A[at1 n2 A]? = some x:=⟨A[at1 n2 A],WO hi⟩
 rw[XW,hx]
 walk_at "go"
 refine br (by rw[aS qp];exact eq) ⟨by simp;omega,?_⟩
 cases f with
 | zero=>omega
 | succ f=>
 rw[G7 ⟨by omega,h2⟩ hn2 hx] at e
 have le:(A.eraseIdx (at1 n2 A)).length=A.length - 1:=List.length_eraseIdx_of_lt hi
 refine ⟨⟨A.eraseIdx (at1 n2 A),o++[x],n2,_,f,rfl,?_,?_,?_,e,by omega,by simp;omega,λy hy=>ha y (List.mem_of_mem_eraseIdx hy)⟩,?_⟩
 ·rw[aS (WX qp),aF,tY]
 ·rw[aF];simp[ltD]
 ·intro z u h
  rw[aS (λe=>by subst e;rw[hqn] at h;cases h),aS (λe=>by subst e;rw[hp] at h;cases h)]
  exact sb z u h
 ·rw[aS (WX qp),aF,ep]
  simp[List.length_eraseIdx,hi]
  omega
def eF (w:Wy)(ws:List Str)(st:List Lt)(l:Str):List Lt×List Lt×Str:=if w.tn then eV ws w.pc st.length st [] l else (st.take w.pc.toNat,st.drop w.pc.toNat,OF "")
theorem KD (b:Bool):WD (yX b)=true:=by cases b<;>decide +kernel
theorem He:WD (OF "turns")=true:=by decide +kernel
theorem PQ (b:Bool):decide (yX b=OF "turns")=b:=by cases b<;>decide +kernel
def iZ:FSp:=λds μ Q=>kcA ds λwd ds=>kcA ds λd ds=>kcT ds λst' ds=>kcS ds λl ds=>kcN ds (∃ (w:Wy) (ws:List Str) (st:List Lt),(wd=w.toD/\(w.tn=true->(d=.tup (ws.map .str)∨d=.ls (ws.map .str))/\(∀ x∈ws,WD x=true)/\nh ws st/\ws.length<=900000)/\st'=ltD st/\st.length<=900000/\0<=w.pc)/\
   Q (.tup [.tup (ltD (eF w ws st l).1),.tup (ltD (eF w ws st l).2.1),.str (eF w ws st l).2.2]) μ)
theorem xE:∀ ds μ Q,iZ ds μ Q->ds.length=4:=λ_ _ _ h=>lcA h λ_ _ h=>lcA h λ_ _ h=>lcT h λ_ _ h=>lcS h λ_ _ h=>by rw[(ecN h).1];rfl
def uJ:STr:=ay (bI (TB (aj rEq (aj L3.rIx (ah 0) (TC (.int 4))) (TC (.str "turns")))) (aT (aq dZ (af (ah 0) (af (ah 1) (af (ah 2) (af (ah 3) (ar))))))) (a9)) (aT (bh (af (aq bu (af (TSl (ah 2) (ONo) (ky (aj L3.rIx (ah 0) (TC (.int 1))))) (ar))) (af (aq bu (af (TSl (ah 2) (ky (aj L3.rIx (ah 0) (TC (.int 1)))) (ONo)) (ar))) (af (TC (.str "")) (ar))))))
theorem AQ:∀ ds μ Q,iZ ds μ Q->uJ { nx:=λ_ μ'=>RT Q .non μ',rt:=RT Q } (ini 4 ds) μ:=by
 intro ds μ Q h
 replace h:=ecA h
 obtain ⟨wd,ds,rfl,h⟩:=h
 replace h:=ecA h
 obtain ⟨d,ds,rfl,h⟩:=h
 replace h:=ecT h
 obtain ⟨st',ds,rfl,h⟩:=h
 replace h:=ecS h
 obtain ⟨l,ds,rfl,h⟩:=h
 replace h:=ecN h
 obtain ⟨rfl,h⟩:=h
 walk_at "ini"
 unfold uJ
 walk_at "go"
 obtain ⟨w,ws,st,⟨rfl,ht,rfl,hl,hp⟩,k⟩:=h
 walk_at "go"
 rw[KD,He,PQ]
 unfold eF at k
 refine ⟨⟨rfl,rfl⟩,?_⟩
 cases e:w.tn with
 | true=>
  rw[e,if_pos rfl] at k
  obtain ⟨h1,h2,h3,h4⟩:=ht e
  walk_at "go"
  exact ⟨w,ws,st,⟨rfl,h1,rfl,h2,h3,h4,hl⟩,_,.refl _,k⟩
 | false=>
  rw[e,if_neg (by decide)] at k
  walk_at "go"
  rw[VN _ hp,Vp _ hp,NX,K5]
  exact ⟨_,.refl _,k⟩
def bX:FSp:=λds μ Q=>kcI ds λa ds=>kcI ds λb ds=>kcN ds ((0<=a/\0 < b/\gc b)/\Q (fr (a.fdiv (W8 a b)) (b.fdiv (W8 a b))) μ)
theorem Bj:∀ ds μ Q,bX ds μ Q->ds.length=2:=λ_ _ _ h=>lcI h λ_ _ h=>lcI h λ_ _ h=>by rw[(ecN h).1];rfl
def xK:STr:=ay (pz 2 3 (af (ah 0) (af (ah 1) (ar)))) (ay (wQ (TB (aj rGt (ah 3) (TC (.int 0)))) (pz 2 3 (af (ah 3) (af (aj mP (ah 2) (ah 3)) (ar))))) (aT (bh (af (aj nJ (ah 0) (ah 2)) (af (aj nJ (ah 1) (ah 2)) (ar))))))
theorem D8:∀ ds μ Q,bX ds μ Q->xK { nx:=λ_ μ'=>RT Q .non μ',rt:=RT Q } (ini 4 ds) μ:=by
 intro ds μ Q h
 replace h:=ecI h
 obtain ⟨a,ds,rfl,h⟩:=h
 replace h:=ecI h
 obtain ⟨b,ds,rfl,h⟩:=h
 replace h:=ecN h
 obtain ⟨rfl,h⟩:=h
 walk_at "ini"
 unfold xK
 walk_at "go"
 obtain ⟨⟨a0,b0,b1⟩,k⟩:=h
 refine ⟨λρ μ'=>μ'=μ/\∃ x y:Int,ρ=[some (.int a),some (.int b),some (.int x),some (.int y)]/\0<=x/\0<=y/\W8 x y=W8 a b,mz 3,⟨rfl,a,b,rfl,a0,by omega,rfl⟩,?_⟩
 rintro ρ _ ⟨rfl,x,y,rfl,x0,y0,e⟩
 walk_at "go"
 refine kif (λhy=>?_) λhy=>?_
 ·walk_at "go"
  refine ⟨by omega,⟨_,_,rfl,y0,fm0 hy,?_⟩,?_⟩
  ·rw[wU];exact e
  ·have:=fm1 (a:=x) hy
   have:=fm0 (a:=x) hy
   simp only[mz,lk]
   omega
 ·have hy0:y=0:=by omega
  subst hy0
  rw[zcQ] at e
  have hx:x=(W8 a b:Int):=by omega
  subst hx
  have gp:0 < W8 a b:=Ym a (by omega)
  have gl:(W8 a b:Int)<=b:=Int.gcd_le_right a b0
  have dv:jE (W8 a b:Int):=⟨by omega,by unfold gc at *;omega⟩
  walk_at "go"
  exact ⟨dv,dv,_,.refl _,k⟩
def cK:FSp:=λds μ Q=>kcO ds λb ds=>kcI ds λlo ds=>kcI ds λhi ds=>kcN ds ((Pot μ b/\0<=lo/\lo<=hi/\hi<=60)/\∀ p q μ',FrB lo hi p q->q<=7->dE b μ μ'->Q (fr p q) μ')
theorem sX:∀ ds μ Q,cK ds μ Q->ds.length=3:=λ_ _ _ h=>lcO h λ_ _ h=>lcI h λ_ _ h=>lcI h λ_ _ h=>by rw[(ecN h).1];rfl
def oH:STr:=ay (aN (aj L3.rIx (fM (af (TC (.int 1)) (af (TC (.int 1)) (af (TC (.int 2)) (af (TC (.int 3)) (af (TC (.int 5)) (af (TC (.int 7)) (ar)))))))) (aq aA (af (ah 0) (af (TC (.int 6)) (ar))))) (aw 3)) (aT (aq bX (af (aj aO (aj eJ (ah 1) (ah 3)) (aq aA (af (ah 0) (af (aj aO (aj eJ (aj je (ah 2) (ah 1)) (ah 3)) (TC (.int 1))) (ar))))) (af (ah 3) (ar)))))
theorem wb:∀ ds μ Q,cK ds μ Q->oH { nx:=λ_ μ'=>RT Q .non μ',rt:=RT Q } (ini 4 ds) μ:=by
 intro ds μ Q h
 replace h:=ecO h
 obtain ⟨b,ds,rfl,h⟩:=h
 replace h:=ecI h
 obtain ⟨lo,ds,rfl,h⟩:=h
 replace h:=ecI h
 obtain ⟨hi,ds,rfl,h⟩:=h
 replace h:=ecN h
 obtain ⟨rfl,h⟩:=h
 walk_at "ini"
 unfold oH
 walk_at "go"
 obtain ⟨⟨hP,l0,l1,l2⟩,k⟩:=h
 refine aV hP (by decide) (by decide) λk1 μ1 k10 k11 P1=>?_
 have al:∀ d∈([.int 1,.int 1,.int 2,.int 3,.int 5,.int 7]:List D),IsI 1 7 d:=aH ⟨_,rfl,by decide,by decide⟩ (aH ⟨_,rfl,by decide,by decide⟩ (aH ⟨_,rfl,by decide,by decide⟩ (aH ⟨_,rfl,by decide,by decide⟩ (aH ⟨_,rfl,by decide,by decide⟩ (aH ⟨_,rfl,by decide,by decide⟩ eE)))))
 obtain ⟨_,e1,m,rfl,m0,m1⟩:=eX al k10 k11
 walk_at "go"
 rw[e1]
 walk_at "go"
 have sm:S64 m:=by unfold S64;omega
 have n1:0<=(hi - lo)*m:=YQ (by omega) (by omega)
 have n2:(hi - lo)*m<=60*7:=zec (by omega) (by omega) (by omega) (by decide)
 refine ⟨.inl (.inr sm),.inl (.inr sm),?_⟩
 refine aV P1.pot (by omega) (by omega) λk2 μ2 k20 k21 P2=>?_
 walk_at "go"
 have n3:0<=lo*m:=YQ l0 (by omega)
 have e2:(hi - lo)*m=hi*m - lo*m:=za4 hi lo m
 refine ⟨⟨by omega,by omega,by unfold gc;omega⟩,_,.refl _,k _ _ μ2 (JI (by omega) (by omega) (by omega) (by omega)) ?_ (P1.trans P2)⟩
 obtain ⟨g,p,q,g0,ea,eb,ep,eq,q0,qb,gg⟩:=kb (a:=lo*m+k2) (show 0 < m by omega)
 rw[eq];omega
theorem Ex (w:Wd)(i:Decidable (w.str=OF "still")):@decide (w.str=OF "still") i=decide (w=.still):=by
 have e:(w.str=OF "still")↔w=.still:=by cases w<;>simp[Wd.str,dN,c6,dB,dQ,dr,dM,eC,eN,de,dH,dm,dD,dG,eK,dq,eM,dO,eG,dJ,eL]
 cases i with
 | isTrue h=>exact (decide_eq_true (e.mp h)).symm
 | isFalse h=>exact (decide_eq_false λz=>h (e.mpr z)).symm
theorem FO (w:Wd)(i:Decidable (w.str=OF "step")):@decide (w.str=OF "step") i=decide (w=.step):=by
 have e:(w.str=OF "step")↔w=.step:=by cases w<;>simp[Wd.str,dN,c6,dB,dQ,dr,dM,eC,eN,de,dH,dm,dD,dG,eK,dq,eM,dO,eG,dJ,eL]
 cases i with
 | isTrue h=>exact (decide_eq_true (e.mp h)).symm
 | isFalse h=>exact (decide_eq_false λz=>h (e.mpr z)).symm
theorem Ez (w:Wd)(i:Decidable (w.str=OF "swell")):@decide (w.str=OF "swell") i=decide (w=.swell):=by
 have e:(w.str=OF "swell")↔w=.swell:=by cases w<;>simp[Wd.str,dN,c6,dB,dQ,dr,dM,eC,eN,de,dH,dm,dD,dG,eK,dq,eM,dO,eG,dJ,eL]
 cases i with
 | isTrue h=>exact (decide_eq_true (e.mp h)).symm
 | isFalse h=>exact (decide_eq_false λz=>h (e.mpr z)).symm
theorem F7 (w:Wd)(i:Decidable (w.str=OF "heed")):@decide (w.str=OF "heed") i=decide (w=.heed):=by
 have e:(w.str=OF "heed")↔w=.heed:=by cases w<;>simp[Wd.str,dN,c6,dB,dQ,dr,dM,eC,eN,de,dH,dm,dD,dG,eK,dq,eM,dO,eG,dJ,eL]
 cases i with
 | isTrue h=>exact (decide_eq_true (e.mp h)).symm
 | isFalse h=>exact (decide_eq_false λz=>h (e.mpr z)).symm
theorem Qo (w:Wd):WD w.str=true:=by cases w<;>simp[Wd.str,nF,r9,mW,pY,sy]
theorem Oj {lo hi hi' p q:Int}(h:FrB lo hi p q)(hh:hi<=hi'):FrB lo hi' p q:=⟨h.q0,h.q1,h.g,h.ge,by have:=h.le;have:=WU hh (zbG h.q0);omega⟩
def jw:FSp:=λds μ Q=>kcO ds λb ds=>kcI ds λm ds=>kcN ds ((Pot μ b/\1<=m/\m<=60)/\∀ (R:RN) μ',R.Ok->R.r<=m*R.s->dE b μ μ'->Q R.toD μ')
theorem EC:∀ ds μ Q,jw ds μ Q->ds.length=2:=λ_ _ _ h=>lcO h λ_ _ h=>lcI h λ_ _ h=>by rw[(ecN h).1];rfl
def ly:STr:=ay (aN (aj aO (TC (.int 1)) (aq aA (af (ah 0) (af (TC (.int 5)) (ar))))) (aw 5)) (ay (aN (aq bX (af (aj aO (TC (.int 1)) (aq aA (af (ah 0) (af (aj eJ (TC (.int 2)) (ah 5)) (ar))))) (af (ah 5) (ar)))) (aw 6)) (ay (aN (aq bX (af (aj aO (TC (.int 1)) (aq aA (af (ah 0) (af (ah 5) (ar))))) (af (aj aO (ah 5) (TC (.int 1))) (ar)))) (aw 7)) (ay (bI (TB (aj rEq (ah 2) (TC (.str "still")))) (aT (bh (af (ah 2) (af (ah 3) (ar))))) (a9)) (ay (bI (TB (aj rEq (ah 2) (TC (.str "step")))) (aT (bh (af (ah 2) (af (ah 3) (af (ah 6) (af (ah 7) (af (ah 4) (ar)))))))) (a9)) (ay (bI (TB (aj rEq (ah 2) (TC (.str "swell")))) (aT (bh (af (ah 2) (af (ah 3) (af (aq bX (af (aj aO (aj L3.rIx (ah 6) (TC (.int 0))) (aj L3.rIx (ah 6) (TC (.int 1)))) (af (aj L3.rIx (ah 6) (TC (.int 1))) (ar)))) (af (ah 7) (af (ah 4) (ar)))))))) (a9)) (ay (bI (TB (aj rEq (ah 2) (TC (.str "heed")))) (aT (bh (af (ah 2) (af (ah 3) (af (ah 6) (af (aq bX (af (aj aO (TC (.int 1)) (aq aA (af (ah 0) (af (ah 5) (ar))))) (af (ah 5) (ar)))) (af (ah 4) (ar)))))))) (a9)) (ay (aN (aq aA (af (ah 0) (af (TC (.int 4)) (ar)))) (aw 8)) (aT (bh (af (ah 2) (af (ah 3) (af (ah 6) (af (ah 8) (af (aj aO (ah 8) (aq aA (af (ah 0) (af (TC (.int 5)) (ar))))) (af (ah 4) (ar))))))))))))))))
def CZ:STr:=ay (aN (aj L3.rIx (fM (af (TC (.str "still")) (af (TC (.str "step")) (af (TC (.str "swell")) (af (TC (.str "heed")) (af (TC (.str "calm")) (ar))))))) (aq aA (af (ah 0) (af (TC (.int 5)) (ar))))) (aw 2)) (ay (pz 3 4 (af (aq cK (af (ah 0) (af (TC (.int 1)) (af (ah 1) (ar))))) (af (aq cK (af (ah 0) (af (TC (.int 1)) (af (ah 1) (ar))))) (ar)))) (ay (bI (TB (aj rGt (aj eJ (aj L3.rIx (ah 3) (TC (.int 0))) (aj L3.rIx (ah 4) (TC (.int 1)))) (aj eJ (aj L3.rIx (ah 4) (TC (.int 0))) (aj L3.rIx (ah 3) (TC (.int 1)))))) (pz 3 4 (af (ah 4) (af (ah 3) (ar)))) (a9)) (ly)))
theorem Hc:∀ ds μ Q,jw ds μ Q->CZ { nx:=λ_ μ'=>RT Q .non μ',rt:=RT Q } (ini 9 ds) μ:=by
 intro ds μ Q h
 replace h:=ecO h
 obtain ⟨b,ds,rfl,h⟩:=h
 replace h:=ecI h
 obtain ⟨m,ds,rfl,h⟩:=h
 replace h:=ecN h
 obtain ⟨rfl,h⟩:=h
 walk_at "ini"
 unfold CZ
 walk_at "go"
 obtain ⟨⟨hP,m0,m1⟩,k⟩:=h
 refine aV hP (by decide) (by decide) λk1 μ1 k10 k11 P1=>?_
 have al:∀ d∈([.str "still", .str "step", .str "swell", .str "heed", .str "calm"]:List D),∃ w:Wd,d=.str w.str:=aH ⟨.still,rfl⟩ (aH ⟨.step,rfl⟩ (aH ⟨.swell,rfl⟩ (aH ⟨.heed,rfl⟩ (aH ⟨.calm,rfl⟩ eE))))
 obtain ⟨_,e1,wd,rfl⟩:=eX al k10 k11
 walk_at "go"
 rw[e1]
 walk_at "go"
 refine ⟨⟨P1.pot,by decide,by omega,by omega⟩,λp q μ2 F1 q7 P2=>?_⟩
 walk_at "go"
 refine ⟨⟨P2.pot,by decide,by omega,by omega⟩,λr s μ3 F2 s7 P3=>?_⟩
 have sq:S64 q:=by have:=F1.q0;unfold S64;omega
 have ss:S64 s:=by have:=F2.q0;unfold S64;omega
 simp only[fr]
 walk_at "go"
 refine ⟨.inl (.inr ss),.inl (.inr sq),?_⟩
 have big:∀ (p q r s:Int) (μ3:Mu) (v5 v6 v7 v8:Option D),dE b μ μ3->FrB 1 m p q->FrB 1 m r s->p*s<=r*q->
   ly { nx:=λ_ μ'=>RT Q .non μ',rt:=RT Q } [some (.obj b),some (.int m),some (.str wd.str),some (.tup [.int p,.int q]),some (.tup [.int r,.int s]),v5,v6,v7,v8] μ3:=by
  intro p q r s μ3 v5 v6 v7 v8 P3 F1 F2 wt
  have F1':FrB 1 60 p q:=Oj F1 m1
  have F2':FrB 1 60 r s:=Oj F2 m1
  have rs:r<=m*s:=F2.le
  have ps:p<=m*q:=F1.le
  unfold ly
  walk_at "go"
  refine aV P3.pot (by decide) (by decide) λn μ4 n0 n1 P4=>?_
  walk_at "go"
  refine ⟨.inl (.inl (by unfold S64;decide)),?_⟩
  refine aV P4.pot (by omega) (by omega) λu μ5 u0 u1 P5=>?_
  walk_at "go"
  refine ⟨⟨by omega,by omega,by unfold gc;omega⟩,?_⟩
  have U:=IW (lo:=0) (hi:=2) (a:=1+u) (b:=1+n) (by omega) (by omega) (by omega) (by omega)
  generalize (1+u).fdiv (W8 (1+u) (1+n))=x at *
  generalize (1+n).fdiv (W8 (1+u) (1+n))=y at *
  have y0:=U.q0
  have yb:=U.q1
  have xb:=U.le
  have x0:0 < x:=by have:=U.ab;omega
  have U60:FrA 0 60 x y:=⟨⟨U.q0,U.q1,U.g,U.ge,by omega⟩,U.ab⟩
  walk_at "go"
  refine aV P5.pot (by omega) (by omega) λw μ6 w0 w1 P6=>?_
  walk_at "go"
  refine ⟨⟨by omega,by omega,by unfold gc;omega⟩,?_⟩
  have G:=Tn (hi:=1) (a:=1+w) (b:=1+n+1) (by omega) (by omega) (by omega) (by omega)
  generalize (1+w).fdiv (W8 (1+w) (1+n+1))=a at *
  generalize (1+n+1).fdiv (W8 (1+w) (1+n+1))=c at *
  have G1:=Uv G
  have G2:a < c:=by have:=G.be;omega
  have P36:=P3.trans (P4.trans (P5.trans P6))
  walk_at "go"
  simp only[Ex,FO,Ez,F7,Qo]
  walk_at "go"
  cases wd with
  | still=>
   simp only[reduceCtorEq,decide_true,decide_false]
   walk_at "go"
   have R:RN.Ok ⟨.still,p,q,1,1,1,1,0,0,p,q⟩:=⟨F1',F1',Xp _,II (by decide) (by decide),nofun,II (by decide) (by decide),(λz=>by rcases z with z | z<;>cases z),Xp 0,Xp 0,(show (0:Int)<=60 by decide),λ_=>⟨rfl,rfl⟩⟩
   exact ⟨_,.refl _,k _ μ6 R ps P36⟩
  | step=>
   simp only[reduceCtorEq,decide_true,decide_false]
   walk_at "go"
   have R:RN.Ok ⟨.step,p,q,x,y,a,c,0,0,r,s⟩:=⟨F1',F2',wt,U60,nofun,G1,λ_=>G2,Xp 0,Xp 0,(show (0:Int)<=60 by decide),nofun⟩
   exact ⟨_,.refl _,k _ μ6 R rs P36⟩
  | swell=>
   simp only[reduceCtorEq,decide_true,decide_false,fr]
   walk_at "go"
   refine ⟨⟨by omega,y0,by unfold gc;omega⟩,?_⟩
   have V:=IW (lo:=1) (hi:=60) (a:=x+y) (b:=y) y0 yb (by omega) (by omega)
   generalize (x+y).fdiv (W8 (x+y) y)=x2 at *
   generalize y.fdiv (W8 (x+y) y)=y2 at *
   have v1:=V.ab
   have vq:=V.q0
   have V2:FrA 0 60 x2 y2:=⟨⟨V.q0,V.q1,V.g,by omega,V.le⟩,by omega⟩
   have R:RN.Ok ⟨.swell,p,q,x2,y2,a,c,0,0,r,s⟩:=⟨F1',F2',wt,V2,λ_=>(by show y2 < x2;omega),G1,λ_=>G2,Xp 0,Xp 0,(show (0:Int)<=60 by decide),nofun⟩
   walk_at "go"
   exact ⟨_,.refl _,k _ μ6 R rs P36⟩
  | heed=>
   simp only[reduceCtorEq,decide_true,decide_false]
   walk_at "go"
   refine aV P6.pot (by omega) (by omega) λz μ7 z0 z1 P7=>?_
   walk_at "go"
   refine ⟨⟨by omega,by omega,by unfold gc;omega⟩,?_⟩
   have V:=IW (lo:=0) (hi:=1) (a:=1+z) (b:=1+n) (by omega) (by omega) (by omega) (by omega)
   generalize (1+z).fdiv (W8 (1+z) (1+n))=a2 at *
   generalize (1+n).fdiv (W8 (1+z) (1+n))=c2 at *
   have R:RN.Ok ⟨.heed,p,q,x,y,a2,c2,0,0,r,s⟩:=⟨F1',F2',wt,U60,nofun,V,(λz=>by rcases z with z | z<;>cases z),Xp 0,Xp 0,(show (0:Int)<=60 by decide),nofun⟩
   walk_at "go"
   exact ⟨_,.refl _,k _ μ7 R rs (P36.trans P7)⟩
  | calm=>
   simp only[reduceCtorEq,decide_true,decide_false]
   walk_at "go"
   refine aV P6.pot (by decide) (by decide) λz μ7 z0 z1 P7=>?_
   walk_at "go"
   refine aV P7.pot (by decide) (by decide) λz2 μ8 z20 z21 P8=>?_
   walk_at "go"
   have R:RN.Ok ⟨.calm,p,q,x,y,1,1,z,z+z2,r,s⟩:=⟨F1',F2',wt,U60,nofun,II (by decide) (by decide),(λz=>by rcases z with z | z<;>cases z),z0,(by show z<=z+z2;omega),(by show z+z2<=60;omega),nofun⟩
   exact ⟨_,.refl _,k _ μ8 R rs (P36.trans (P7.trans P8))⟩
 have P13:=P1.trans (P2.trans P3)
 refine kif (λh1=>?_) λh1=>?_
 ·walk_at "go"
  exact big r s p q μ3 _ _ _ _ P13 F2 F1 (by omega)
 ·exact big p q r s μ3 _ _ _ _ P13 F1 F2 (by omega)
abbrev wyD (ws:List Wy):List D:=ws.map Wy.toD
structure Sn where
 nm:Str
 rd:List Str
 bt:Int
 bg:Int
 mn:Option Int
 rl:RN
def Sn.toD (x:Sn):D:=.tup [.str x.nm,.tup (x.rd.map .str),.int x.bt,.int x.bg,cS x.mn,x.rl.toD]
abbrev snD (ss:List Sn):List D:=ss.map Sn.toD
structure Sn.Ok (wn:List Str) (m:Int) (x:Sn):Prop where
 n:WD x.nm=true
 r0:x.rd≠[]
 r:x.rd.Sublist wn
 b0:1<=x.bt
 b1:x.bt<=8
 g0:0<=x.bg
 g1:x.bg<=1000000
 mm:∀ i,x.mn=some i->0<=i/\i<=1000000
 k:x.rl.Ok
 l:x.rl.r<=m*x.rl.s
structure Pn where
 g:Int
 ws:List Wy
 ss:List Sn
def Pn.toD (p:Pn):D:=.tup [.int p.g,.tup (wyD p.ws),.tup (snD p.ss)]
abbrev Pn.wn (p:Pn):List Str:=p.ws.map Wy.nm
abbrev Pn.sn (p:Pn):List Str:=p.ss.map Sn.nm
structure Pn.Ok (m:Int) (p:Pn):Prop where
 g:Gd p.g
 w0:0 < p.ws.length
 w1:p.ws.length<=6
 wd:p.wn.Nodup
 w:∀ x∈p.ws,x.Ok
 s1:p.ss.length<=8
 sd:p.sn.Pairwise λa b=>ltS a b=true
 s:∀ x∈p.ss,x.Ok p.wn m
theorem KR {a b:Str}(h:a.cps.toList=b.cps.toList):a=b:=by
 cases a with | mk x=>cases b with | mk y=>
 congr 1
 exact Array.toList_inj.mp h
theorem Qm {a b:Str}(h1:ltS b a=false)(h2:a≠b):ltS a b=true:=by
 unfold ltS at *
 rw[decide_eq_false_iff_not,zdJ] at h1
 rw[decide_eq_true_eq]
 refine Decidable.byContradiction λh3=>h2 (KR (List.le_antisymm h1 ?_))
 exact zdJ.mp h3
theorem pw_strict {l:List Str}(h:l.Pairwise λa b=>ltS b a=false)(hn:l.Nodup):l.Pairwise λa b=>ltS a b=true:=by
 induction h with
 | nil=>exact .nil
 | @cons a l h1 h2 ih=>
  rw[Xt] at hn
  exact .cons (λb hb=>Qm (h1 b hb) λe=>hn.1 (e ▸ hb)) (ih hn.2)
def mK:FSp:=λds μ Q=>kcO ds λb ds=>kcL ds λns' ds=>kcN ds (∃ ns:List Str,(Pot μ b/\ns'=ns.map .str/\(∀ n∈ns,n∈cH)/\ns.length<=17)/\∀ (ws:List Wy) μ',ws.map Wy.nm=ns->(∀ w∈ws,w.Ok)->dE b μ μ'->Q (.tup (wyD ws)) μ')
theorem DW:∀ ds μ Q,mK ds μ Q->ds.length=2:=λ_ _ _ h=>lcO h λ_ _ h=>lcL h λ_ _ h=>by rw[(ecN h).1];rfl
def Dg:STr:=ay (aN (lF (ar)) (aw 2)) (ay (iR (eg (ah 1)) (aw 3) (ay (aN (aj L3.rIx (fM (af (TC (.int 1)) (af (TC (.int 1)) (af (TC (.int 2)) (af (TC (.int 3)) (af (aj aO (TC (.int 1)) (aq aA (af (ah 0) (af (TC (.int 20)) (ar))))) (ar))))))) (aq aA (af (ah 0) (af (TC (.int 5)) (ar))))) (aw 4)) (ay (aN (aj L3.rIx (fM (af (aj aO (TC (.int 1)) (aq aA (af (ah 0) (af (TC (.int 3)) (ar))))) (af (aj aO (TC (.int 2)) (aq aA (af (ah 0) (af (TC (.int 8)) (ar))))) (af (aj aO (TC (.int 5)) (aq aA (af (ah 0) (af (TC (.int 56)) (ar))))) (ar))))) (aq aA (af (ah 0) (af (TC (.int 3)) (ar))))) (aw 5)) (ay (aN (aj L3.rIx (fM (af (TC .non) (af (aq aA (af (ah 0) (af (aj aO (ah 5) (TC (.int 1))) (ar)))) (af (aq aA (af (ah 0) (af (TC (.int 61)) (ar)))) (ar))))) (aq aA (af (ah 0) (af (TC (.int 3)) (ar))))) (aw 6)) (eU (mT (ah 2) (bh (af (ah 3) (af (ah 4) (af (ah 5) (af (ah 6) (af (aj L3.rIx (fM (af (TC (.str "line")) (af (TC (.str "turns")) (ar)))) (aq aA (af (ah 0) (af (TC (.int 2)) (ar))))) (ar))))))))))))) (aT (aq bu (af (ah 2) (ar)))))
theorem F6:∀ ds μ Q,mK ds μ Q->Dg { nx:=λ_ μ'=>RT Q .non μ',rt:=RT Q } (ini 7 ds) μ:=by
 intro ds μ Q h
 replace h:=ecO h
 obtain ⟨b,ds,rfl,h⟩:=h
 replace h:=ecL h
 obtain ⟨ns',ds,rfl,h⟩:=h
 replace h:=ecN h
 obtain ⟨rfl,h⟩:=h
 walk_at "ini"
 unfold Dg
 walk_at "go"
 obtain ⟨ns,⟨hP,rfl,hn,hl⟩,k⟩:=h
 intro p hp
 have pb:=hP.ne hp
 walk_at "go"
 refine bP (λr ρ μ'=>∃ (ws:List Wy) (rs:List Str) (v3 v4 v5 v6:Option D),r=rs.map .str/\ρ=[some (.obj b),some (.ls (ns.map .str)),some (.obj p),v3,v4,v5,v6]/\μ' p=some (.lst (wyD ws))/\Pot μ' b/\Kp b μ μ'/\(∀ w∈ws,w.Ok)/\ws.map Wy.nm++rs=ns) ?_ ?_ _ _ _ ⟨[],ns,_,_,_,_,rfl,rfl,aF,hP.up pb,Kp.new hp,(λ_ h=>nomatch h),rfl⟩
 ·rintro ρ μ' ⟨ws,rs,v3,v4,v5,v6,er,rfl,ep,P',kp,hw,e⟩
  have:rs=[]:=by cases rs with | nil=>rfl | cons=>cases er
  subst this
  rw[Xi] at e
  walk_at "go"
  exact br ep (K2 P' kp λμ2 P2=>k ws μ2 e hw P2)
 ·rintro d r ρ μ' N ⟨ws,rs,v3,v4,v5,v6,er,rfl,ep,P',kp,hw,e⟩ hN
  cases rs with
  | nil=>cases er
  | cons n rs=>
  cases er
  have hnn:n∈cH:=hn n (by rw[← e];simp)
  have hlen:ws.length<=17:=by have:=congrArg XQ e;simp at this;omega
  walk_at "go"
  refine aV P' (by decide) (by decide) λk1 μ1 k10 k11 P1=>?_
  walk_at "go"
  refine aV P1.pot (by decide) (by decide) λk2 μ2 k20 k21 P2=>?_
  have al:∀ d∈([.int 1,.int 1,.int 2,.int 3,.int (1+k1)]:List D),IsI 1 20 d:=aH ⟨_,rfl,by decide,by decide⟩ (aH ⟨_,rfl,by decide,by decide⟩ (aH ⟨_,rfl,by decide,by decide⟩ (aH ⟨_,rfl,by decide,by decide⟩ (aH ⟨_,rfl,by omega,by omega⟩ eE))))
  obtain ⟨_,e1,pc,rfl,pc0,pc1⟩:=eX al k20 k21
  walk_at "go"
  rw[e1]
  walk_at "go"
  refine aV P2.pot (by decide) (by decide) λk3 μ3 k30 k31 P3=>?_
  walk_at "go"
  refine aV P3.pot (by decide) (by decide) λk4 μ4 k40 k41 P4=>?_
  walk_at "go"
  refine aV P4.pot (by decide) (by decide) λk5 μ5 k50 k51 P5=>?_
  walk_at "go"
  refine aV P5.pot (by decide) (by decide) λk6 μ6 k60 k61 P6=>?_
  have al2:∀ d∈([.int (1+k3),.int (2+k4),.int (5+k5)]:List D),IsI 1 60 d:=aH ⟨_,rfl,by omega,by omega⟩ (aH ⟨_,rfl,by omega,by omega⟩ (aH ⟨_,rfl,by omega,by omega⟩ eE))
  obtain ⟨_,e2,rm,rfl,rm0,rm1⟩:=eX al2 k60 k61
  walk_at "go"
  rw[e2]
  walk_at "go"
  refine aV P6.pot (by omega) (by omega) λk7 μ7 k70 k71 P7=>?_
  walk_at "go"
  refine aV P7.pot (by decide) (by decide) λk8 μ8 k80 k81 P8=>?_
  walk_at "go"
  refine aV P8.pot (by decide) (by decide) λk9 μ9 k90 k91 P9=>?_
  have al3:∀ d∈([.non,.int k7,.int k8]:List D),∃ o:Option Int,d=cS o/\∀ i,o=some i->0<=i/\i<=60:=aH ⟨none,rfl,nofun⟩ (aH ⟨some _,rfl,λi e=>by cases e;omega⟩ (aH ⟨some _,rfl,λi e=>by cases e;omega⟩ eE))
  obtain ⟨_,e3,o,rfl,ho⟩:=eX al3 k90 k91
  walk_at "go"
  rw[e3]
  walk_at "go"
  have P19:=P1.trans (P2.trans (P3.trans (P4.trans (P5.trans (P6.trans (P7.trans (P8.trans P9)))))))
  have ep9:μ9 p=some (.lst (wyD ws)):=by rw[P19.oth p pb];exact ep
  refine br ep9 ?_
  refine aV P9.pot (by decide) (by decide) λk11 μ10 k110 k111 P10=>?_
  have al4:∀ d∈([.str "line", .str "turns"]:List D),∃ t:Bool,d=.str (yX t):=aH ⟨false,rfl⟩ (aH ⟨true,rfl⟩ eE)
  obtain ⟨_,e4,tn,rfl⟩:=eX al4 k110 k111
  walk_at "go"
  rw[e4]
  walk_at "go"
  have ep10:μ10 p=some (.lst (wyD ws)):=by rw[P10.oth p pb];exact ep9
  refine br ep10 ⟨by simp;omega,hN _ _ ⟨ws++[⟨n,pc,rm,o,tn⟩],rs,_,_,_,_,rfl,rfl,?_,P10.pot.up pb,((kp.trans P19.kp).trans P10.kp).put hp,?_,?_⟩⟩
  ·rw[aF];simp[wyD,Wy.toD]
  ·intro x hx
   rcases Xr.mp hx with z | z
   ·exact hw x z
   ·have:x=⟨n,pc,rm,o,tn⟩:=by simpa using z
    subst this
    exact ⟨Ij _ hnn,pc0,pc1,rm0,rm1,ho⟩
  ·rw[← e];simp
theorem sub_snoc {α:Type}{a b:List α}(h:a.Sublist b)(x:α):(a++[x]).Sublist (b++[x]):=h.append (zdf _)
def iG:FSp:=λds μ Q=>kcO ds λb ds=>kcS ds λn ds=>kcT ds λws' ds=>kcI ds λm ds=>kcN ds (∃ ws:List Wy,(Pot μ b/\n∈cH/\ws'=wyD ws/\(0 < ws.length/\ws.length<=17)/\1<=m/\m<=60)/\∀ (x:Sn) μ',x.Ok (ws.map Wy.nm) m->x.nm=n->dE b μ μ'->Q x.toD μ')
theorem zx:∀ ds μ Q,iG ds μ Q->ds.length=4:=λ_ _ _ h=>lcO h λ_ _ h=>lcS h λ_ _ h=>lcT h λ_ _ h=>lcI h λ_ _ h=>by rw[(ecN h).1];rfl
def iI:STr:=ay (aN (aj L3.rIx (fM (af (TC (.int 1)) (af (TC (.int 1)) (af (TC (.int 2)) (af (TC (.int 3)) (af (aj aO (TC (.int 1)) (aq aA (af (ah 0) (af (TC (.int 8)) (ar))))) (ar))))))) (aq aA (af (ah 0) (af (TC (.int 5)) (ar))))) (aw 5)) (ay (aN (aj L3.rIx (fM (af (TC .non) (af (TC .non) (af (aq aA (af (ah 0) (af (TC (.int 4)) (ar)))) (af (aq aA (af (ah 0) (af (TC (.int 40)) (ar)))) (ar)))))) (aq aA (af (ah 0) (af (TC (.int 4)) (ar))))) (aw 6)) (aT (bh (af (ah 1) (af (ah 4) (af (ah 5) (af (aj L3.rIx (fM (af (TC (.int 0)) (af (TC (.int 0)) (af (aq aA (af (ah 0) (af (TC (.int 3)) (ar)))) (af (aq aA (af (ah 0) (af (TC (.int 12)) (ar)))) (ar)))))) (aq aA (af (ah 0) (af (TC (.int 4)) (ar))))) (af (ah 6) (af (aq jw (af (ah 0) (af (ah 3) (ar)))) (ar))))))))))
def uO:STr:=ay (aN (aq bu (af (bG (eg (ah 2)) (aw 0) (TB (aj rEq (aq aA (af (ah 1) (af (TC (.int 2)) (ar)))) (TC (.int 0)))) (aj L3.rIx (ah 0) (TC (.int 0))) 1 [0]) (ar))) (aw 4)) (ay (bI (TB (aj rEq (aq cQ (af (ah 4) (ar))) (TC (.int 0)))) (aN (bh (af (aj L3.rIx (aj L3.rIx (ah 2) (aq aA (af (ah 0) (af (aq cQ (af (ah 2) (ar))) (ar))))) (TC (.int 0))) (ar))) (aw 4)) (a9)) (iI))
theorem AA:∀ ds μ Q,iG ds μ Q->uO { nx:=λ_ μ'=>RT Q .non μ',rt:=RT Q } (ini 7 ds) μ:=by
 intro ds μ Q h
 replace h:=ecO h
 obtain ⟨b,ds,rfl,h⟩:=h
 replace h:=ecS h
 obtain ⟨n,ds,rfl,h⟩:=h
 replace h:=ecT h
 obtain ⟨ws',ds,rfl,h⟩:=h
 replace h:=ecI h
 obtain ⟨m,ds,rfl,h⟩:=h
 replace h:=ecN h
 obtain ⟨rfl,h⟩:=h
 walk_at "ini"
 unfold uO
 walk_at "go"
 obtain ⟨ws,⟨hP,hn,rfl,⟨w0,w1⟩,m0,m1⟩,k⟩:=h
 have rest:∀ (rd:List Str) (μ1:Mu) (v5 v6:Option D),dE b μ μ1->rd≠[]->rd.Sublist (ws.map Wy.nm)->iI { nx:=λ_ μ'=>RT Q .non μ',rt:=RT Q } [some (.obj b),some (.str n),some (.tup (wyD ws)),some (.int m),some (.tup (rd.map .str)),v5,v6] μ1:=by
  intro rd μ0 v5 v6 P0 rd0 rds
  unfold iI
  walk_at "go"
  refine aV P0.pot (by decide) (by decide) λk1 μ1 k10 k11 P1=>?_
  walk_at "go"
  refine aV P1.pot (by decide) (by decide) λk2 μ2 k20 k21 P2=>?_
  have al:∀ d∈([.int 1,.int 1,.int 2,.int 3,.int (1+k1)]:List D),IsI 1 8 d:=aH ⟨_,rfl,by decide,by decide⟩ (aH ⟨_,rfl,by decide,by decide⟩ (aH ⟨_,rfl,by decide,by decide⟩ (aH ⟨_,rfl,by decide,by decide⟩ (aH ⟨_,rfl,by omega,by omega⟩ eE))))
  obtain ⟨_,e1,bt,rfl,bt0,bt1⟩:=eX al k20 k21
  walk_at "go"
  rw[e1]
  walk_at "go"
  refine aV P2.pot (by decide) (by decide) λk3 μ3 k30 k31 P3=>?_
  walk_at "go"
  refine aV P3.pot (by decide) (by decide) λk4 μ4 k40 k41 P4=>?_
  walk_at "go"
  refine aV P4.pot (by decide) (by decide) λk5 μ5 k50 k51 P5=>?_
  have al3:∀ d∈([.non,.non,.int k3,.int k4]:List D),∃ o:Option Int,d=cS o/\∀ i,o=some i->0<=i/\i<=1000000:=aH ⟨none,rfl,nofun⟩ (aH ⟨none,rfl,nofun⟩ (aH ⟨some _,rfl,λi e=>by cases e;omega⟩ (aH ⟨some _,rfl,λi e=>by cases e;omega⟩ eE)))
  obtain ⟨_,e3,o,rfl,ho⟩:=eX al3 k50 k51
  walk_at "go"
  rw[e3]
  walk_at "go"
  refine aV P5.pot (by decide) (by decide) λk6 μ6 k60 k61 P6=>?_
  walk_at "go"
  refine aV P6.pot (by decide) (by decide) λk7 μ7 k70 k71 P7=>?_
  walk_at "go"
  refine aV P7.pot (by decide) (by decide) λk8 μ8 k80 k81 P8=>?_
  have al4:∀ d∈([.int 0,.int 0,.int k6,.int k7]:List D),IsI 0 1000000 d:=aH ⟨_,rfl,by decide,by decide⟩ (aH ⟨_,rfl,by decide,by decide⟩ (aH ⟨_,rfl,by omega,by omega⟩ (aH ⟨_,rfl,by omega,by omega⟩ eE)))
  obtain ⟨_,e4,bg,rfl,bg0,bg1⟩:=eX al4 k80 k81
  walk_at "go"
  rw[e4]
  walk_at "go"
  refine ⟨⟨P8.pot,m0,m1⟩,λR μ9 K L P9=>?_⟩
  walk_at "go"
  exact ⟨_,.refl _,k ⟨n,rd,bt,bg,o,R⟩ μ9 ⟨Ij _ hn,rd0,rds,bt0,bt1,bg0,bg1,ho,K,L⟩ rfl (P0.trans (P1.trans (P2.trans (P3.trans (P4.trans (P5.trans (P6.trans (P7.trans (P8.trans P9)))))))))⟩
 refine zM hP (λr zs=>∃ (rd:List Str) (a c:List Wy),zs=rd.map .str/\r=wyD c/\a++c=ws/\rd.Sublist (a.map Wy.nm)) ⟨[],[],ws,rfl,rfl,rfl,zdf _⟩ (by simp;omega) ?_ ?_
 ·rintro d r zs μ' P' _ ⟨rd,a,c,rfl,er,ea,hs⟩ N hN
  cases c with
  | nil=>cases er
  | cons x c=>
  cases er
  walk_at "go"
  refine aV P' (by decide) (by decide) λk1 μ2 k10 k11 P2=>?_
  walk_at "go"
  refine kif (λ_=>hN (some (.str x.nm)) μ2 ⟨rd++[x.nm],a++[x],c,by simp,rfl,by simp[ea],?_⟩ P2) λ_=>hN none μ2 ⟨rd,a++[x],c,by simp,rfl,by simp[ea],?_⟩ P2
  ·rw[Xf];exact sub_snoc hs _
  ·rw[Xf];exact hs.trans (zbd _ _)
 ·rintro zs μ1 ⟨rd,a,c,rfl,er,ea,hs⟩ P1
  have:c=[]:=by cases c with | nil=>rfl | cons=>cases er
  subst this
  rw[Xi] at ea
  subst ea
  walk_at "go"
  rw[Ww]
  refine kif (λh0=>?_) λh0=>?_
  ·walk_at "go"
   rw[Ww]
   refine aV P1.pot (by omega) (by omega) λk2 μ2 k20 k21 P2=>?_
   have hc:k2.toNat < a.length:=by omega
   walk_at "go"
   rw[LC k20,XW,WO hc]
   walk_at "go"
   simp only[zdR]
   walk_at "go"
   exact rest [a[k2.toNat].nm] μ2 _ _ (P1.trans P2) (by simp) (List.singleton_sublist.mpr (WE.mpr ⟨_,Ye hc,rfl⟩))
  ·exact rest rd μ1 _ _ P1 (λz=>h0 (by rw[z];rfl)) hs
def lH:FSp:=λds μ Q=>kcO ds λb ds=>kcN ds (Pot μ b/\∀ (p:Pn) (m:Int) μ',p.Ok m->(1<=m/\m<=60)->dE b μ μ'->Q p.toD μ')
theorem EM:∀ ds μ Q,lH ds μ Q->ds.length=1:=λ_ _ _ h=>lcO h λ_ _ h=>by rw[(ecN h).1];rfl
def C6:STr:=ay (aN (aj L3.rIx (fM (af (TC (.int 1)) (af (TC (.int 2)) (af (TC (.int 3)) (af (aj aO (TC (.int 1)) (aq aA (af (ah 0) (af (TC (.int 60)) (ar))))) (ar)))))) (aq aA (af (ah 0) (af (TC (.int 4)) (ar))))) (aw 1)) (ay (aN (aq mK (af (ah 0) (af (aq ig (af (ah 0) (af (aj L3.rIx (fM (af (TC (.int 1)) (af (TC (.int 1)) (af (TC (.int 2)) (af (TC (.int 2)) (af (TC (.int 3)) (af (TC (.int 6)) (ar)))))))) (aq aA (af (ah 0) (af (TC (.int 6)) (ar))))) (ar)))) (ar)))) (aw 2)) (ay (aN (aj L3.rIx (fM (af (TC (.int 2)) (af (TC (.int 4)) (af (TC (.int 12)) (af (TC (.int 12)) (af (TC (.int 60)) (ar))))))) (aq aA (af (ah 0) (af (TC (.int 5)) (ar))))) (aw 3)) (ay (aN (aq ig (af (ah 0) (af (aj L3.rIx (fM (af (TC (.int 0)) (af (TC (.int 1)) (af (TC (.int 1)) (af (TC (.int 2)) (af (TC (.int 2)) (af (TC (.int 3)) (af (TC (.int 3)) (af (TC (.int 8)) (ar)))))))))) (aq aA (af (ah 0) (af (TC (.int 8)) (ar))))) (ar)))) (aw 4)) (aT (bh (af (ah 1) (af (ah 2) (af (aq bu (af (bG (eg (aq B8 (af (ah 4) (ar)))) (aw 0) (dA) (aq iG (af (ah 1) (af (ah 0) (af (ah 2) (af (ah 3) (ar)))))) 1 [0,2,3]) (ar))) (ar)))))))))
theorem Kt:∀ ds μ Q,lH ds μ Q->C6 { nx:=λ_ μ'=>RT Q .non μ',rt:=RT Q } (ini 5 ds) μ:=by
 intro ds μ Q h
 replace h:=ecO h
 obtain ⟨b,ds,rfl,h⟩:=h
 replace h:=ecN h
 obtain ⟨rfl,h⟩:=h
 walk_at "ini"
 unfold C6
 walk_at "go"
 obtain ⟨hP,k⟩:=h
 refine aV hP (by decide) (by decide) λk1 μ1 k10 k11 P1=>?_
 walk_at "go"
 refine aV P1.pot (by decide) (by decide) λk2 μ2 k20 k21 P2=>?_
 have al:∀ d∈([.int 1,.int 2,.int 3,.int (1+k1)]:List D),IsI 1 60 d:=aH ⟨_,rfl,by decide,by decide⟩ (aH ⟨_,rfl,by decide,by decide⟩ (aH ⟨_,rfl,by decide,by decide⟩ (aH ⟨_,rfl,by omega,by omega⟩ eE)))
 obtain ⟨_,e1,g,rfl,g0,g1⟩:=eX al k20 k21
 walk_at "go"
 rw[e1]
 walk_at "go"
 refine aV P2.pot (by decide) (by decide) λk3 μ3 k30 k31 P3=>?_
 have al2:∀ d∈([.int 1,.int 1,.int 2,.int 2,.int 3,.int 6]:List D),IsI 1 6 d:=aH ⟨_,rfl,by decide,by decide⟩ (aH ⟨_,rfl,by decide,by decide⟩ (aH ⟨_,rfl,by decide,by decide⟩ (aH ⟨_,rfl,by decide,by decide⟩ (aH ⟨_,rfl,by decide,by decide⟩ (aH ⟨_,rfl,by decide,by decide⟩ eE)))))
 obtain ⟨_,e2,nw,rfl,nw0,nw1⟩:=eX al2 k30 k31
 walk_at "go"
 rw[e2]
 walk_at "go"
 refine ⟨⟨P3.pot,by omega,by omega⟩,λns μ4 ln nd nw' P4=>?_⟩
 walk_at "go"
 refine ⟨ns,⟨P4.pot,rfl,nw',by omega⟩,λws μ5 ew hw P5=>?_⟩
 have lw:(ws.length:Int)=nw:=by have:=congrArg XQ ew;simp at this;omega
 walk_at "go"
 refine aV P5.pot (by decide) (by decide) λk6 μ6 k60 k61 P6=>?_
 have al3:∀ d∈([.int 2,.int 4,.int 12,.int 12,.int 60]:List D),IsI 1 60 d:=aH ⟨_,rfl,by decide,by decide⟩ (aH ⟨_,rfl,by decide,by decide⟩ (aH ⟨_,rfl,by decide,by decide⟩ (aH ⟨_,rfl,by decide,by decide⟩ (aH ⟨_,rfl,by decide,by decide⟩ eE))))
 obtain ⟨_,e3,m,rfl,m0,m1⟩:=eX al3 k60 k61
 walk_at "go"
 rw[e3]
 walk_at "go"
 refine aV P6.pot (by decide) (by decide) λk7 μ7 k70 k71 P7=>?_
 have al4:∀ d∈([.int 0,.int 1,.int 1,.int 2,.int 2,.int 3,.int 3,.int 8]:List D),IsI 0 8 d:=aH ⟨_,rfl,by decide,by decide⟩ (aH ⟨_,rfl,by decide,by decide⟩ (aH ⟨_,rfl,by decide,by decide⟩ (aH ⟨_,rfl,by decide,by decide⟩ (aH ⟨_,rfl,by decide,by decide⟩ (aH ⟨_,rfl,by decide,by decide⟩ (aH ⟨_,rfl,by decide,by decide⟩ (aH ⟨_,rfl,by decide,by decide⟩ eE)))))))
 obtain ⟨_,e4,n8,rfl,n80,n81⟩:=eX al4 k70 k71
 walk_at "go"
 rw[e4]
 walk_at "go"
 refine ⟨⟨P7.pot,by omega,by omega⟩,λsn μ8 ls sd sw P8=>?_⟩
 walk_at "go"
 refine ⟨sn,⟨rfl,by omega⟩,λsn' hp hs=>?_⟩
 have ls':sn'.length=sn.length:=hp.length_eq
 have sd':=pw_strict hs (hp.nodup_iff.mpr sd)
 walk_at "go"
 refine zM P8.pot (λr zs=>∃ (xs:List Sn) (rs:List Str),zs=snD xs/\r=rs.map .str/\xs.map Sn.nm++rs=sn'/\∀ x∈xs,x.Ok (ws.map Wy.nm) m) ⟨[],sn',rfl,rfl,rfl,λ_ h=>nomatch h⟩ (by rw[Ww];omega) ?_ ?_
 ·rintro d r zs μ' P' _ ⟨xs,rs,rfl,er,ex,hx⟩ N hN
  cases rs with
  | nil=>cases er
  | cons n rs=>
  cases er
  have hn:n∈cH:=sw n (hp.mem_iff.mp (by rw[← ex];simp))
  walk_at "go"
  refine ⟨ws,⟨P',hn,rfl,⟨by omega,by omega⟩,m0,m1⟩,λx μ2 X en P2=>hN (some x.toD) μ2 ⟨xs++[x],rs,by simp[snD],rfl,by rw[← ex];simp[en],λy hy=>?_⟩ P2⟩
  rcases Xr.mp hy with z | z
  ·exact hx y z
  ·have:y=x:=by simpa using z
   subst this;exact X
 ·rintro zs μ9 ⟨xs,rs,rfl,er,ex,hx⟩ P9
  have:rs=[]:=by cases rs with | nil=>rfl | cons=>cases er
  subst this
  rw[Xi] at ex
  have lx:xs.length=sn.length:=by have:=congrArg XQ ex;simp at this;omega
  walk_at "go"
  exact ⟨_,.refl _,k ⟨g,ws,xs⟩ m μ9 ⟨⟨g0,g1⟩,(by show 0 < ws.length;omega),(by show ws.length<=6;omega),(by show (ws.map Wy.nm).Nodup;rw[ew];exact nd),hw,(by show xs.length<=8;omega),(by show (xs.map Sn.nm).Pairwise _;rw[ex];exact sd'),hx⟩ ⟨m0,m1⟩ (P1.trans (P2.trans (P3.trans (P4.trans (P5.trans (P6.trans (P7.trans (P8.trans P9))))))))⟩
def eR (a b:Int):D:=fr (a.fdiv (W8 a b)) (b.fdiv (W8 a b))
theorem Ri (a:Int){b:Int}(b0:0 < b):Vl (eR a b) a b:=PZ a b0
theorem JJ {d:D}{a b:Int}(h:Vl d a b):d=eR a b:=h.uniq (Ri a h.b0)
theorem Rc {g:Int}(g0:0 < g):eR 0 g=fr 0 1:=by
 unfold eR
 rw[Int.gcd_zero_left,Int.zero_fdiv]
 have:((g.natAbs:Nat):Int)=g:=by omega
 rw[this,jn g0,Int.ediv_self (by omega)]
abbrev c8 (ns:List Int):List D:=ns.map .int
structure Ws where
 cm:List Lt
 st:List Lt
 la:Str
def Ws.toD (x:Ws):D:=.tup [.tup (ltD x.cm),.tup (ltD x.st),.str x.la]
abbrev wsD (xs:List Ws):List D:=xs.map Ws.toD
structure Ss where
 nm:Str
 du:Option Int
 W:Int
 S:Int
 nx:Int
 lf:Option Int
 ag:List Int
 lo:List Int
 gd:Int
 mk':Int
 wt:Int
def Ss.toD (g:Int)(x:Ss):D:=.tup [.str x.nm,cS x.du,eR x.W g,eR x.S g,.int x.nx,cS x.lf,.tup (c8 x.ag),.tup (c8 x.lo),.int x.gd,.int x.mk',.int x.wt]
abbrev ssD (g:Int)(xs:List Ss):List D:=xs.map (Ss.toD g)
structure St' where
 ws:List Ws
 ss:List Ss
def St'.toD (g:Int)(x:St'):D:=.tup [.tup (wsD x.ws),.tup (ssD g x.ss)]
def Sn.beg (g:Int)(x:Sn):Ss:=⟨x.nm,some x.bg,x.rl.p*g / x.rl.q,0,0,x.mn,[],[],0,0,0⟩
def Pn.beg (p:Pn):St':=⟨p.ws.map λ_=>⟨[],[],OF ""⟩,p.ss.map (Sn.beg p.g)⟩
theorem VX (x:Sn)(μ:Mu)(Q:DK):L3.rIx x.toD (.int 0) μ Q=Q (.str x.nm) μ:=propext Wx
theorem Vc (x:Sn)(μ:Mu)(Q:DK):L3.rIx x.toD (.int 1) μ Q=Q (.tup (x.rd.map .str)) μ:=propext Wx
theorem Vm (x:Sn)(μ:Mu)(Q:DK):L3.rIx x.toD (.int 2) μ Q=Q (.int x.bt) μ:=propext Wx
theorem U6 (x:Sn)(μ:Mu)(Q:DK):L3.rIx x.toD (.int 3) μ Q=Q (.int x.bg) μ:=propext Wx
theorem U0 (x:Sn)(μ:Mu)(Q:DK):L3.rIx x.toD (.int 4) μ Q=Q (cS x.mn) μ:=propext Wx
theorem Vb (x:Sn)(μ:Mu)(Q:DK):L3.rIx x.toD (.int 5) μ Q=Q (x.rl.toD) μ:=propext Wx
theorem UT (x:Pn)(μ:Mu)(Q:DK):L3.rIx x.toD (.int 0) μ Q=Q (.int x.g) μ:=propext Wx
theorem Va (x:Pn)(μ:Mu)(Q:DK):L3.rIx x.toD (.int 1) μ Q=Q (.tup (wyD x.ws)) μ:=propext Wx
theorem Vn (x:Pn)(μ:Mu)(Q:DK):L3.rIx x.toD (.int 2) μ Q=Q (.tup (snD x.ss)) μ:=propext Wx
theorem V0 (x:Ws)(μ:Mu)(Q:DK):L3.rIx x.toD (.int 0) μ Q=Q (.tup (ltD x.cm)) μ:=propext Wx
theorem Vg (x:Ws)(μ:Mu)(Q:DK):L3.rIx x.toD (.int 1) μ Q=Q (.tup (ltD x.st)) μ:=propext Wx
theorem U9 (x:Ws)(μ:Mu)(Q:DK):L3.rIx x.toD (.int 2) μ Q=Q (.str x.la) μ:=propext Wx
theorem VP (g:Int)(x:Ss)(μ:Mu)(Q:DK):L3.rIx (x.toD g) (.int 0) μ Q=Q (.str x.nm) μ:=propext Wx
theorem Vt (g:Int)(x:Ss)(μ:Mu)(Q:DK):L3.rIx (x.toD g) (.int 1) μ Q=Q (cS x.du) μ:=propext Wx
theorem VO (g:Int)(x:Ss)(μ:Mu)(Q:DK):L3.rIx (x.toD g) (.int 2) μ Q=Q (eR x.W g) μ:=propext Wx
theorem VH (g:Int)(x:Ss)(μ:Mu)(Q:DK):L3.rIx (x.toD g) (.int 3) μ Q=Q (eR x.S g) μ:=propext Wx
theorem Wj (g:Int)(x:Ss)(μ:Mu)(Q:DK):L3.rIx (x.toD g) (.int 4) μ Q=Q (.int x.nx) μ:=propext Wx
theorem Wh (g:Int)(x:Ss)(μ:Mu)(Q:DK):L3.rIx (x.toD g) (.int 5) μ Q=Q (cS x.lf) μ:=propext Wx
theorem Vx (g:Int)(x:Ss)(μ:Mu)(Q:DK):L3.rIx (x.toD g) (.int 6) μ Q=Q (.tup (c8 x.ag)) μ:=propext Wx
theorem VY (g:Int)(x:Ss)(μ:Mu)(Q:DK):L3.rIx (x.toD g) (.int 7) μ Q=Q (.tup (c8 x.lo)) μ:=propext Wx
theorem VE (g:Int)(x:Ss)(μ:Mu)(Q:DK):L3.rIx (x.toD g) (.int 8) μ Q=Q (.int x.gd) μ:=propext Wx
theorem UO (g:Int)(x:Ss)(μ:Mu)(Q:DK):L3.rIx (x.toD g) (.int 9) μ Q=Q (.int x.mk') μ:=propext Wx
theorem Tx (g:Int)(x:Ss)(μ:Mu)(Q:DK):L3.rIx (x.toD g) (.int 10) μ Q=Q (.int x.wt) μ:=propext Wx
theorem Vi (g:Int)(x:St')(μ:Mu)(Q:DK):L3.rIx (x.toD g) (.int 0) μ Q=Q (.tup (wsD x.ws)) μ:=propext Wx
theorem VQ (g:Int)(x:St')(μ:Mu)(Q:DK):L3.rIx (x.toD g) (.int 1) μ Q=Q (.tup (ssD g x.ss)) μ:=propext Wx
def SD:=Jn @VX <| Jn @Vc <| Jn @Vm <| Jn @U6 <| Jn @U0 <| Jn @Vb <| Jn @UT <| Jn @Va <| Jn @Vn <| Jn @V0 <| Jn @Vg <| Jn @U9 <| Jn @VP <| Jn @Vt <| Jn @VO <| Jn @VH <| Jn @Wj <| Jn @Wh <| Jn @Vx <| Jn @VY <| Jn @VE <| Jn @UO <| Jn @Tx <| Jn @Vi <| Jn @VQ <| @Sy
local macro_rules | `(tactic| walk_at "go")=>zzS "↓L3.SD L3.DU ↓L3.zp ↓L3.yj ↓L3.yz ↓L3.xU ↓L3.xh ↓L3.xH ↓L3.ko ↓L3.iK L3.cx L3.bO L3.cj L3.cv L3.cw L3.b9 L3.cM L3.cG L3.bQ L3.cf L3.cc L3.cz L3.cy L3.cL L3.cu L3.cN L3.cq L3.cI L3.cp L3.cP L3.iV L3.uT L3.vh L3.fc List.map_cons List.map_nil List.replicate List.cons_append List.nil_append L3.lk L3.Fd L3.y3 L3.E4 L3.E1 L3.kg L3.fo L3.qH L3.kK L3.ur L3.uC L3.km L3.iw L3.nC L3.nH L3.ke L3.ka L3.kn L3.j3 true_and and_true and_self Bool.not_true Bool.not_false decide_true decide_false Bool.or_true Bool.or_false Bool.true_or Bool.false_or Bool.and_false Bool.false_and Bool.and_true Bool.true_and Int.reduceToNat Int.reducePow Int.reduceNeg Int.reduceSub Int.reduceAdd Int.reduceMul Int.reduceEq Int.reduceLT Int.reduceLE Int.reduceBEq L3.iq L3.fV L3.fL L3.fJ L3.fW L3.fP L3.fR L3.fK if_true if_false Bool.false_eq_true reduceCtorEq decide_eq_true_eq"
def gO:FSp:=λds μ Q=>kcA ds λd ds=>kcI ds λg ds=>kcN ds (∃ R:RN,(d=R.toD/\R.Ok/\Gd g)/\Q (.tup [eR (R.p*g / R.q) g,eR 0 g]) μ)
theorem vx:∀ ds μ Q,gO ds μ Q->ds.length=2:=λ_ _ _ h=>lcA h λ_ _ h=>lcI h λ_ _ h=>by rw[(ecN h).1];rfl
def pV:STr:=aT (bh (af (aq eW (af (aj L3.rIx (ah 0) (TC (.int 1))) (af (ah 1) (ar)))) (af (TC (.tup [.int 0,.int 1])) (ar))))
theorem yi:∀ ds μ Q,gO ds μ Q->pV { nx:=λ_ μ'=>RT Q .non μ',rt:=RT Q } (ini 2 ds) μ:=by
 intro ds μ Q h
 replace h:=ecA h
 obtain ⟨d,ds,rfl,h⟩:=h
 replace h:=ecI h
 obtain ⟨g,ds,rfl,h⟩:=h
 replace h:=ecN h
 obtain ⟨rfl,h⟩:=h
 walk_at "ini"
 unfold pV
 walk_at "go"
 obtain ⟨R,⟨rfl,K,g0,g1⟩,k⟩:=h
 obtain ⟨xs,e,e0,e1,e3,e4⟩:=R.tup K.st
 have WB:=K.w.bd (by decide) (by decide)
 rw[e]
 walk_at "go"
 rw[w4,e1]
 walk_at "go"
 refine ⟨R.p,R.q,⟨iU K.w,WB.1.mono (by decide),WB.2.mono (by decide),by omega,by omega⟩,λw V=>?_⟩
 walk_at "go"
 rw[JJ V]
 rw[Rc (show 0 < g by omega)] at k
 exact ⟨_,.refl _,k⟩
def dR:FSp:=λds μ Q=>kcI ds λg ds=>kcA ds λd ds=>kcN ds (∃ x:Sn,(d=x.toD/\x.rl.Ok/\Gd g)/\Q ((x.beg g).toD g) μ)
theorem nA:∀ ds μ Q,dR ds μ Q->ds.length=2:=λ_ _ _ h=>lcI h λ_ _ h=>lcA h λ_ _ h=>by rw[(ecN h).1];rfl
def jr:STr:=ay (aN (aq gO (af (aj L3.rIx (ah 1) (TC (.int 5))) (af (ah 0) (ar)))) (aw 2)) (aT (bh (af (aj L3.rIx (ah 1) (TC (.int 0))) (af (aj L3.rIx (ah 1) (TC (.int 3))) (af (aj L3.rIx (ah 2) (TC (.int 0))) (af (aj L3.rIx (ah 2) (TC (.int 1))) (af (TC (.int 0)) (af (aj L3.rIx (ah 1) (TC (.int 4))) (af (bh (ar)) (af (bh (ar)) (af (TC (.int 0)) (af (TC (.int 0)) (af (TC (.int 0)) (ar))))))))))))))
theorem pE:∀ ds μ Q,dR ds μ Q->jr { nx:=λ_ μ'=>RT Q .non μ',rt:=RT Q } (ini 3 ds) μ:=by
 intro ds μ Q h
 replace h:=ecI h
 obtain ⟨g,ds,rfl,h⟩:=h
 replace h:=ecA h
 obtain ⟨d,ds,rfl,h⟩:=h
 replace h:=ecN h
 obtain ⟨rfl,h⟩:=h
 walk_at "ini"
 unfold jr
 walk_at "go"
 obtain ⟨x,⟨rfl,K,G⟩,k⟩:=h
 walk_at "go"
 refine ⟨x.rl,⟨rfl,K,G⟩,?_⟩
 walk_at "go"
 exact ⟨_,.refl _,k⟩
def jl:FSp:=λds μ Q=>kcA ds λd ds=>kcN ds (∃ p:Pn,(d=p.toD/\(∀ x∈p.ss,x.rl.Ok)/\Gd p.g/\p.ws.length<=900000/\p.ss.length<=900000)/\Q (p.beg.toD p.g) μ)
theorem D4:∀ ds μ Q,jl ds μ Q->ds.length=1:=λ_ _ _ h=>lcA h λ_ _ h=>by rw[(ecN h).1];rfl
def Cy:STr:=ay (aN (aq bu (af (bG (eg (aj L3.rIx (ah 0) (TC (.int 1)))) (aw 0) (dA) (bh (af (bh (ar)) (af (bh (ar)) (af (TC (.str "")) (ar))))) 1 []) (ar))) (aw 1)) (aT (bh (af (ah 1) (af (aq bu (af (bG (eg (aj L3.rIx (ah 0) (TC (.int 2)))) (aw 0) (dA) (aq dR (af (aj L3.rIx (ah 1) (TC (.int 0))) (af (ah 0) (ar)))) 1 [0]) (ar))) (ar)))))
theorem Hj:∀ ds μ Q,jl ds μ Q->Cy { nx:=λ_ μ'=>RT Q .non μ',rt:=RT Q } (ini 2 ds) μ:=by
 intro ds μ Q h
 replace h:=ecA h
 obtain ⟨d,ds,rfl,h⟩:=h
 replace h:=ecN h
 obtain ⟨rfl,h⟩:=h
 walk_at "ini"
 unfold Cy
 walk_at "go"
 obtain ⟨p,⟨rfl,K,G,l1,l2⟩,k⟩:=h
 walk_at "go"
 refine comp_map (λ_=>.tup [.tup [],.tup [],.str ""]) (by rw[Ww];omega) (λd hd μ' _ N n=>?_) ?_
 ·walk_at "go"
  exact n
 ·walk_at "go"
  refine bB p.ss Sn.toD (λx=>(x.beg p.g).toD p.g) rfl (by omega) (λx hx μ' _ N n=>?_) ?_
  ·walk_at "go"
   exact ⟨x,⟨rfl,K x hx,G⟩,n⟩
  ·walk_at "go"
   refine ⟨_,.refl _,?_⟩
   have e1:(wyD p.ws).map (λ_=>D.tup [.tup [],.tup [],.str ""])=wsD p.beg.ws:=by simp[Pn.beg,wsD,wyD,Ws.toD,zdg]
   have e2:p.ss.map (λx=>(x.beg p.g).toD p.g)=ssD p.g p.beg.ss:=by simp[Pn.beg,ssD,zdg]
   rw[e1,e2];exact k
section
open PySem PySem.Spec PyProof.Rows L2
section
variable {prog:W9} {w:Xm} {A:XC} {E:Wv->Wz->Prop} {s:Wz}
abbrev Ke (a c:Int)(acc:Array Wv)(n:Nat):Prop:=ItemsOf (λi v=>∃ t,v=.int (a+i*c) t) acc n
abbrev Kept (s:Wz)(g:Heap):Prop:=∀ b o,s.heap.get? b=some o->g.get? b=some o
structure Rg (s:Wz) (r:Addr) (a b c:Int) (n:Nat):Prop where
 at':∃ t u v,IsRange s.heap r a b c t u v
 sm:zeE a b c=true
 sz:ZJ a b c=n
 le:n<=1048576
theorem run_plain {id:String}{bi:Z0}{args:Args}{R:zds->Wz->Prop}(hp:plainId id=true)(he:entryFor table id=some bi)
  (h:WW (W2 prog w) A.in1 (bi args) (λfin s'=>match fin with | .done f=>R (.ok f) s' | .again c'=>c'.quiet=true/\Za (W2 prog w) A c' R s') (λe s'=>R (.error e) s') s):Za (W2 prog w) A (.builtin id args) R s:=
 zbO he (by rw[zao hp];exact h)
theorem lg {R:zds->Wz->Prop}{r:Addr}{a b c:Int}{n:Nat}(hh:A.handled=none)(G:Rg s r a b c n)
  (hR:∀ (g:Heap) (tk:Nat) (acc:Array Wv) (e:Nat),Kept s g->g.get? s.heap.objs.size=some { cls:=.type "list", dict:=none,data:=.seq acc e,slots:=#[] }->Ke a c acc n->R (.ok (.ret (.ref s.heap.objs.size))) { s with heap:=g,toks:=tk }) :
  Za (W2 prog w) A (.builtin "proto.collect" ⟨[.ref r],[]⟩) R s:=by
 obtain ⟨⟨t,u,v,hr⟩,sm,sz,le⟩:=G
 have l24:n<=2 ^ 24:=by omega
 have ext:=λh0=>wpAny_extend_range (prog:=prog) (w:=w) (A:=A) (R:=R) (s:={ s with heap:=s.heap.push { cls:=.type "list", data:=.seq #[] } }) hh (Wu _ hr) sm sz l24 s.heap.objs.size (.ref s.heap.objs.size) 0 h0 λg tk acc e kp new its=>
  hR g tk acc e (λb o q=>kp b o (WZ (WH q)) (Wu _ q)) new its
 exact run_plain F.plain_proto_collect F.entry_proto_collect (Wr (XD (WC ⟨YK zdh _,run_plain zdh F.entry_list_iadd (ext (WJ _ rfl))⟩)))
theorem sW {Q:List Wv->Wz->Prop}{r:Addr}{a b c:Int}{n:Nat}(hh:A.handled=none)(G:Rg s r a b c n)
  (hQ:∀ (g:Heap) (tk:Nat) (acc:Array Wv),Kept s g->Ke a c acc n->Q acc.toList { s with heap:=g,toks:=tk }):WW (W2 prog w) A (collect (.ref r)) Q E s:=by
 unfold collect
 exact Wr (wpAny_runValue (lg hh G λg tk acc e kp new its=>Wr (wpAny_load new (WC (hQ g tk acc kp its)))))
theorem ny {Q:Wv->Wz->Prop}{r:Addr}{a b c:Int}{n:Nat}(hh:A.handled=none)(G:Rg s r a b c n)
  (hQ:∀ (g:Heap) (tk:Nat) (acc:Array Wv),Kept s g->Ke a c acc n->Q (.ref g.objs.size) { s with heap:=g.push { cls:=.type "tuple", data:=.seq acc },toks:=tk }) :
  WW (W2 prog w) A (zbT (.type "tuple") [.ref r]) Q E s:=by
 have isr:s.TypeIs (.ref r) "range" := let ⟨t,u,v,hr⟩:=G.at';⟨_,hr,rfl⟩
 have fit:n<=sizeLine:=by have:=G.le;rw[zb1];omega
 have made:Za (W2 prog w) A.in1 (.call (.builtin "tuple.__new__") ⟨[.type "tuple", .ref r],[]⟩) (wants (λobj s₁=>s₁.TypeIs obj "tuple" /\ Q obj s₁) E) s:=by
  refine codeAny_of_tree (Wr (zdG (F.newCall_tuple_1 _) (WC ⟨YK zdi _,run_plain zdi F.entry_tuple_new ?_⟩)))
  have u1:=sub_tuple_self
  have u2:=init_tuple_lookup
  have u3:=madeHere_tuple
  wp_walk using wpAny_typeOf isr,sW (A:=A.in1.in1) hh G
  intro g tk acc kp its
  have whole:acc.toList.toArray=acc:=zcf
  have few:acc.toList.toArray.size<=sizeLine:=by rw[whole,its.1];exact fit
  have end':WW (W2 prog w) A.in1.in1 (XI acc.toList.toArray) (λv s'=>wants (λobj s₁=>s₁.TypeIs obj "tuple" /\ Q obj s₁) E (.ok (.ret v)) s') (λe s'=>wants (λobj s₁=>s₁.TypeIs obj "tuple" /\ Q obj s₁) E (.error e) s') { s with heap:=g,toks:=tk }:=by
   unfold XI;exact XD (by rw[whole];exact ⟨⟨_,WJ _ rfl,rfl⟩,hQ g tk acc kp its⟩) few
  exact (show WW _ _ (XI acc.toList.toArray >>= λv=>ret v) _ _ _ from Wr (XO end' (λv s' h=>WC h) λ_ _ h=>h))
 exact callType_codes zcg (F.typeCall_tuple_1 _) F.entry_object_init made λobj s₁ h₁=>⟨h₁.1,zch obj _,object_init_meets zcg.init.lookup zcg.made (by decide) prog w A.in1 _ s₁ ⟨h₁.1,rfl,h₁.2⟩⟩
end
section
variable {X:Cx} {ea eb:W4} {Ta Tb:ETr} {p p2 pos rpos:Pos}
def SY (t:TA):TE:=λσ H Q=>t σ H λvs H1=>∃ i j:Int,vs=[.int i,.int j]/\(-(2 ^ 62)<=i/\i < 2 ^ 62/\-(2 ^ 62)<=j/\j < 2 ^ 62/\(j - i).toNat<=1000000)/\∀ z,H1 z=none->Q (.ref z) (L2.upd H1 z (.tup ((Xh (j - i).toNat).map λ(k:Nat)=>V.int (i+(k:Int)))))
theorem kP:∀ {us:List Wv} {vs:List V},us.length=vs.length->(∀ (j:Nat) u v,us[j]? = some u->vs[j]? = some v->RelV v u)->Vals vs us
 | [],[],_,_=>.nil
 | u::us,v::vs,hl,h=>.cons (h 0 u v rfl rfl) (kP (by simpa using hl) λj a b h1 h2=>h (j+1) a b h1 h2)
theorem Ml {t:TA}(hc:X.calm=true)(hg:Gl X "tuple")(hm:X.mg "tuple" = none)(hgr:Gl X "range")(hmr:X.mg "range" = none)(ha:PA X [ea,eb] t)(hs:WI [ea,eb] X.env=[(false,XG ea X.env),(false,XG eb X.env)]:=by rfl)(hs2:WI [eb] X.env=[(false,XG eb X.env)]:=by rfl)
  (hs0:WI [.Call (.Name "range" p2) [ea,eb] [] rpos] X.env=(false,XG (.Call (.Name "range" p2) [ea,eb] [] rpos) X.env)::WI [] X.env:=by rfl) :
  PE X (.Call (.Name "tuple" p) [.Call (.Name "range" p2) [ea,eb] [] rpos] [] pos) (SY t):=by
 intro pins s σ H Q I h
 refine Call_ (gU I hg hm boot_tuple (Xw ?_ hs0 rfl))
 rw[hs0]
 show WW _ _ (spliced ((false,XG _ X.env)::XM pos (WI [] X.env))) _ _ s
 refine ZC (Call_ (gU I hgr hmr boot_range (Xw (thn (ha rpos pins s σ H _ I h) λus s1 ⟨vs,H1,I1,r1,q1⟩=>?_) (by rw[hs,hs2]) (by rw[hs2];rfl))))
 obtain ⟨i,j,e,⟨h1,h2,h3,h4,h5⟩,q⟩:=q1
 subst e
 cases r1 with | cons r rr=>cases rr with | cons r' rr=>
 cases rr
 obtain ⟨t1,rfl⟩:=r
 obtain ⟨t2,rfl⟩:=r'
 refine call_range_2 (za3 ?_)
 have e2:ZJ i j 1=((j - i).toNat:Nat):=by rw[rangeSize_one];split<;>omega
 refine ny (n:=(j - i).toNat) (I1.ok.hd hc) ⟨⟨_,_,_,zeA ..⟩,small_one h1 h2 h3 h4,e2,by omega⟩ λh' tk acc hk hacc=>?_
 have I2:Inv X pins σ H1 { s1 with heap:=h',toks:=tk }:=I1.kept (t':=tk) λb o e=>hk b o (Wu _ e)
 refine ⟨.ref h'.objs.size,_,I2.laid (t':=tk) (o:=.tup ((Xh (j - i).toNat).map λ(k:Nat)=>V.int (i+(k:Int)))) (λb o e=>Wu _ e) (WL _) ⟨?_,acc.toList,kP ?_ λm u v hu hv=>?_,?_⟩,rfl,q _ (I2.hok.fresh (WL _))⟩
 ·rw[Ww,zdj];exact big (by omega)
 ·rw[Ww,zdj,Zu,hacc.1]
 ·have hu':acc[m]? = some u:=by simpa using hu
  obtain ⟨t3,rfl⟩:=hacc.2 m u hu'
  have hm:m < (j - i).toNat:=by
   have:=(Array.getElem?_eq_some_iff.mp hu').1
   exact hacc.1 ▸ this
  rw[XW,zcp hm] at hv
  cases hv
  exact ⟨t3,by simp⟩
 ·rw[zcf];exact vY.new h' acc
def Ik (Ta Tb:ETr):ETr:=λρ μ Q=>Ta ρ μ λx μ1=>Tb ρ μ1 λy μ2=>kI x λi=>kI y λj=>((-4611686018427387904<=i/\i < 4611686018427387904)/\(-4611686018427387904<=j/\j < 4611686018427387904)/\(j - i).toNat<=1000000)/\Q (.tup (ck i (j - i).toNat)) μ2
theorem Fj {K:Wq}{H:Hp}(i:Int)(n:Nat):DpL K H ((Xh n).map λ(k:Nat)=>V.int (i+(k:Int))) (ck i n):=by
 unfold ck
 generalize Xh n=l
 induction l with
 | nil=>exact .nil
 | cons a l ih=>exact .cons (.int _) ih
theorem LB (hc:X.calm=true)(hg:Gl X "tuple")(hm:X.mg "tuple" = none)(hgr:Gl X "range")(hmr:X.mg "range" = none)(ha:LE X ea Ta)(hb:LE X eb Tb)(hs:WI [ea,eb] X.env=[(false,XG ea X.env),(false,XG eb X.env)]:=by rfl)(hs2:WI [eb] X.env=[(false,XG eb X.env)]:=by rfl)
  (hs0:WI [.Call (.Name "range" p2) [ea,eb] [] rpos] X.env=(false,XG (.Call (.Name "range" p2) [ea,eb] [] rpos) X.env)::WI [] X.env:=by rfl) :
  LE X (.Call (.Name "tuple" p) [.Call (.Name "range" p2) [ea,eb] [] rpos] [] pos) (Ik Ta Tb):=by
 obtain ⟨ta,pa,sa⟩:=ha.ex
 obtain ⟨tb,pb,sb⟩:=hb.ex
 refine ⟨_,Ml hc hg hm hgr hmr (dU pa (dU pb gX hs2) (by rw[hs,hs2])) hs hs2 hs0,λσ H ρ μ Q Q' rl h k=>sa σ H ρ μ _ _ rl h λx H1 d μ1 t1 m1 p1 h1=>sb σ H1 ρ μ1 _ _ (rl.go t1 m1) h1 λy H2 d2 μ2 t2 m2 p2 h2=>?_⟩
 cases p1 with
 | int i=>
  cases p2 with
  | int j=>
   obtain ⟨⟨⟨h3,h4⟩,⟨h5,h6⟩,h7⟩,h8⟩:=h2
   refine ⟨i,j,rfl,⟨by simpa using h3,by simpa using h4,by simpa using h5,by simpa using h6,h7⟩,λz hz=>?_⟩
   have tn:Tk H2 (L2.upd H2 z (.tup ((Xh (j - i).toNat).map λ(k:Nat)=>V.int (i+(k:Int))))):=.new hz
   exact k _ _ _ μ2 ((t1.trans t2).trans tn) (bV m2 hz) (.tup (SqT.of aK) (Fj i _)) h8
  | _=>exact WA h2
 | _=>exact WA h2
end
end
section
open PySem PySem.Spec PyProof.Rows L2
section
variable {prog:W9} {w:Xm} {A:XC} {E:Wv->Wz->Prop} {s:Wz}
theorem sortedHeap_at {g:Heap}{vs:List Wv}{out:Array Wv}{k:Nat}(e:(g.push (zaz "list" vs.toArray k)).get? g.objs.size=some (zaz "list" vs.toArray k)):(∃ n,(zed (g.push (zaz "list" vs.toArray k)) g.objs.size vs out).get? g.objs.size=some (zaz "list" out n))/\∀ b o,g.get? b=some o->(zed (g.push (zaz "list" vs.toArray k)) g.objs.size vs out).get? b=some o:=by
 have lt:g.objs.size < (g.push (zaz "list" vs.toArray k)).objs.size:=by rw[size_push'];omega
 unfold zed
 constructor
 ·have e1:=get?_update_seq e λ_=>#[]
  have e2:∀ o1 o2:Obj,((((g.push (zaz "list" vs.toArray k)).update g.objs.size (zaP λ_=>#[])).push o1).push o2).get? g.objs.size=_:=λo1 o2=>Wu _ (Wu _ e1)
  exact ⟨_,get?_update_seq (e2 _ _) λ_=>out⟩
 ·intro b o hb
  have nb:g.objs.size≠b:=WX (WZ (WH hb))
  exact (XF _ _ nb).trans (Wu _ (Wu _ ((XF _ _ nb).trans (Wu _ hb))))
theorem AN {tp:Addr}{vs:List Wv}{ns:List Int}{Q:Wv->Wz->Prop}(hl:zdD s.heap tp vs.toArray)(hI:Zy vs ns)(few:vs.length < 64)
  (h:∀ (g g1:Heap) (out:Array Wv) (n:Nat) (ns':List Int),Kept s g->(∀ b o,g.get? b=some o->g1.get? b=some o)->g1.get? g.objs.size=some (zaz "list" out n)->Zy out.toList ns'->ns'.Perm ns->ns'.Pairwise (·<=·)->Q (.ref g.objs.size) { s with heap:=g1 }) :
  WW (W2 prog w) A (zbT (.builtin "sorted") [.ref tp]) Q E s:=by
 obtain ⟨ob,e1,e2,ne,e3⟩:=hl
 have fits:vs.toArray.size<=sizeLine:=by rw[WR,zb1];omega
 have rest:∀ g:Heap,(∀ b o,s.heap.get? b=some o->g.get? b=some o)->WW (W2 prog w) A.in1 (do let z ← newList vs;let _ ← zbw [z] (zbT (.builtin "list.sort") [z]);ret z) (λfin s'=>∃ v,fin=.done (.ret v)/\Q v s') E { s with heap:=g }:=λg kp=>by
  have at':(g.push (zaz "list" vs.toArray 0)).get? g.objs.size=some (zaz "list" vs.toArray 0):=WJ _ rfl
  have done:=λout ns' (a1:Zy out.toList ns') (a2:ns'.Perm ns) (a3:ns'.Pairwise (·<=·))=>let ⟨⟨m,e⟩,old⟩:=sortedHeap_at (out:=out) at';h g _ out m ns' kp old e a1 a2 a3
  exact Wr (wpAny_newList (Wr (Y4 (XH slot_list_sort ⟨_,at',rfl⟩ entry_list_sort (list_sort_tree at' hI few λout ns' a1 a2 a3=>⟨_,rfl,WC ⟨_,rfl,done out ns' a1 a2 a3⟩⟩) (args_list_sort _)))))
 refine Calls.call_function_entry (b:=Z0.«sorted») kind_sorted plain_sorted entry_sorted (args_sorted1 _) ?_
 show WW _ _ (do checkCount "sorted" 1 1 1;let xs ← collect (.ref tp);let z ← newList xs;let _ ← zbw [z] (zbT (.builtin "list.sort") [z]);ret z) _ _ s
 exact Wr (WC (Wr (wpAny_collect_seq tp (.inr rfl) e1 e2 e3 (λg kp=>rest g kp) fits)))
end
def QG (K:Wq):List V->Hp->VK->Prop:=λxs H Q=>∃ (p:Addr) (ns:List Int),xs=[.ref p]/\(SqL K H p (ns.map V.int)∨SqT K H p (ns.map V.int))/\ns.length < 64/\∀ ns':List Int,ns'.Perm ns->ns'.Pairwise (·<=·)->∀ z,H z=none->Q (.ref z) (L2.upd H z (.lst (ns'.map V.int)))
theorem Cj {X:Cx}:bU X (.builtin "sorted") (QG X.K):=λpins s σ H xs us Q I rx ⟨p,ns,e1,sq,hl,q⟩=>by
 rcases sq with sq | sq
 ·exact BP pins s σ H xs us Q I rx ⟨p,ns,e1,sq,hl,q⟩
 subst e1
 obtain ⟨u,rfl,ru⟩:=vals1 rx
 cases ru
 obtain ⟨its,rv,pl,hz⟩:=I.tuple sq
 have hi:Zy its ns:=intsAre_of rv
 have hlen:its.length < 64:=by rw[hi.length];exact hl
 refine AN pl hi hlen λg g1 out n ns' kp old e a1 a2 a3=>?_
 have I2:Inv X pins σ H { s with heap:=g }:=I.kept (t':=s.toks) kp
 refine ⟨.ref g.objs.size,_,I2.laid (t':=s.toks) (o:=.lst (ns'.map V.int)) old (WL _) ?_,rfl,q ns' a2 a3 _ (I2.hok.fresh (WL _))⟩
 have z1:ns'.length=ns.length:=a2.length_eq
 exact ⟨by rw[Ww,z1];exact ZR (WV hl (by decide)),out.toList,n,iN a1,by simpa[zaz] using e⟩
def qe:FSp:=λds μ Q=>match ds with
 | [x]=>kS x λxs=>∃ ns:List Int,(xs=ns.map .int/\ns.length < 64)/\∀ ns':List Int,ns'.Perm ns->ns'.Pairwise (·<=·)->Q (.ls (ns'.map .int)) μ
 | _=>False
theorem xI {X:Cx}{e:W4}{x:Str}{p pos:Pos}{At:ATr}(hg:Gl X x)(hm:X.mg x=none)(hv:XR x=some (.builtin "sorted"))(ha:LA X [e] At)(hn:x ≠ "__name__" := by decide)(hdb:(x == ("__debug__" : Str))=false:=by decide)
  (h1:WI [e] X.env=(false,XG e X.env)::WI [] X.env:=by rfl) (h2:(XM pos (WI [] X.env)).any (·.1)=false:=by rfl):LE X (.Call (.Name x p) [e] [] pos) (aq qe At):=by
 obtain ⟨ta,pa,sa⟩:=ha.ex
 refine ⟨_,jk (lT Cj hg hm hv pa hn hdb h1 h2),λσ H ρ μ Q Q' rl h k=>sa σ H ρ μ _ _ rl h λxs H1 ds μ1 t1 m1 p1 h1=>?_⟩
 unfold qe at h1
 split at h1
 ·cases p1 with | cons p1 p2=>
  cases p2
  cases p1 with
  | @ls q xs ds sq l=>
   obtain ⟨ns,⟨rfl,hl⟩,h2⟩:=h1
   have ex:=l.ints_of
   subst ex
   exact ⟨q,ns,rfl,.inl sq.sq,hl,λns' a2 a3 z hz=>gu m1 (DpL.ints ns') (h2 ns' a2 a3) (k.go t1) hz⟩
  | @tup q xs ds sq l=>
   obtain ⟨ns,⟨rfl,hl⟩,h2⟩:=h1
   have ex:=l.ints_of
   subst ex
   exact ⟨q,ns,rfl,.inr sq,hl,λns' a2 a3 z hz=>gu m1 (DpL.ints ns') (h2 ns' a2 a3) (k.go t1) hz⟩
  | _=>exact WA h1
 ·exact h1.elim
theorem EL {X:Cx}(hc:X.calm=true):bU X (.builtin "sum") (λxs H Q=>∃ (p:Addr) (ns:List Int),xs=[.ref p]/\SqL X.K H p (ns.map V.int)/\Q (.int ns.sum) H):=λpins s σ H xs us Q I rx ⟨p,ns,e1,sq,q⟩=>by
 subst e1
 obtain ⟨u,rfl,ru⟩:=vals1 rx
 cases ru
 obtain ⟨its,rv,pl,_⟩:=I.list sq
 obtain ⟨ps,rfl,rfl⟩:=hV (intsAre_of rv)
 have il:s.heap.IsList p (zas ps.toArray):=by
  have:=pl.isList
  simpa[zas] using this
 refine sum_intListG (I.ok.hd hc) il λh' tk t' hk=>?_
 have e:preSum (zdH ps.toArray) ps.toArray.size=(ps.map zd8).sum:=by
  rw[preSum_eq,Z1 (by simp)]
 rw[e]
 exact ⟨.int _,H,I.kept hk,⟨t',rfl⟩,q⟩
def C5:FSp:=λds μ Q=>match ds with
 | [.ls xs]=>∃ ns:List Int,xs=ns.map .int/\Q (.int ns.sum) μ
 | _=>False
theorem Jt {K:Wq}:lq K (λxs H Q=>∃ (p:Addr) (ns:List Int),xs=[.ref p]/\SqL K H p (ns.map V.int)/\Q (.int ns.sum) H) C5:=λH μ xs ds Q Q' m p h k=>by
 unfold C5 at h
 split at h
 ·obtain ⟨ns,rfl,h⟩:=h
  cases p with | cons p1 p2=>
  cases p2
  cases p1 with
  | @ls q xs ds sq l=>
   have ex:=l.ints_of
   subst ex
   exact ⟨q,ns,rfl,sq.sq,k _ H _ μ (.refl H) m (.int _) h⟩
 ·exact h.elim
end
section
open PySem PySem.Spec PyProof.Rows L2
section
variable {prog:W9} {w:Xm} {A:XC} {E:Wv->Wz->Prop} {s:Wz}
theorem GS {tp:Bool}{e it a:Addr}{i:Nat}{xs:Array Wv}{x old:Wv}{Q:Option Wv->Wz->Prop}(en:zbI s.heap e it i old)(li:eA tp s.heap it a i)(se:cE tp s.heap a xs)(hx:xs[i]? = some x)(ne:e≠it)
  (q:∀ g,IsEnumOut g e it ((i:Int)+1) x s.heap.objs.size->eA tp g it a (i+1)->g.get? s.heap.objs.size=some { cls:=.type "tuple", data:=.seq #[.int i s.toks,x] }->
   (∀ c o,c≠e->c≠it->s.heap.get? c=some o->g.get? c=some o)->Q (some (.ref s.heap.objs.size)) { s with heap:=g,toks:=s.toks+1 }):WW (W2 prog w) A (YV (.ref e)) Q E s:=by
 have ty:s.TypeIs (.ref e) "enumerate" := ⟨_,en,rfl⟩
 unfold YV
 refine Wr (Zw (Xl (name:=OF "__next__") ty Y8 (XH Y8 ty zbJ ?_ (zbq _))))
 refine Wr (m:=zaR (.ref e) 2) (Xe en rfl (x:=.ref it) rfl (Wr (m:=W3 (.ref it)) (iO li se hx λg1 li1 k1=>?_)))
 have en1:zbI g1 e it i old:=(k1.2 e ne).trans en
 refine Wr (m:=zaR (.ref e) 3) (Xe (s:={ s with heap:=g1 }) en1 rfl (x:=ZT i) rfl (Wr (m:=zaR (.ref e) 4) (Xe (s:={ s with heap:=g1 }) en1 rfl (x:=.none) rfl (Wr (m:=mkInt i) (wpAny_mkInt ?_)))))
 refine Wr (m:=setField (.ref e) 3 (ZT ((i:Int)+1))) (Xg en1 (by simp) λg2 en2 k2=>?_)
 have en2:zbI g2 e it ((i:Int)+1) old:=en2
 refine Wr (m:=setField (.ref e) 4 .none) (Xg en2 (by simp) λg3 en3 k3=>?_)
 have en3:zbI g3 e it ((i:Int)+1) old:=en3
 refine Wr (m:=newTuple [.int i s.toks,x]) (zb6 ?_)
 have sz:g3.objs.size=s.heap.objs.size:=by rw[k3.1,k2.1,k1.1]
 have en4:zbI (g3.push { cls:=.type "tuple", data:=.seq #[.int i s.toks,x] }) e it ((i:Int)+1) old:=Wu _ en3
 have elt:e < g3.objs.size:=WH en3
 refine Wr (m:=W7 (.ref e)) ?_
 delta W7
 refine Wr (Xe (s:={ s with heap:=g3.push { cls:=.type "tuple", data:=.seq #[.int i s.toks,x] },toks:=s.toks+1 }) en4 rfl (x:=.none) rfl (WC ?_))
 simp only[if_true]
 refine Wr (Yt (Wr (Xe en4 rfl (x:=old) rfl (Wr (Xg en4 (by simp) λg5 en5 k5=>?_)))))
 have en5:zbI g5 e it ((i:Int)+1) x:=en5
 refine Wr (m:=Xo (.ref e) (.ref g3.objs.size)) ?_
 delta Xo
 refine Wr (Xg en5 (by simp) λg6 en6 k6=>?_)
 have en6:IsEnumOut g6 e it ((i:Int)+1) x g3.objs.size:=en6
 refine Xg en6 (by simp) λg7 en7 k7=>?_
 have en7:IsEnumOut g7 e it ((i:Int)+1) x g3.objs.size:=en7
 have up3:∀ c o,c≠e->g3.get? c=some o->g7.get? c=some o:=λc o c1 h=>(k7.2 c c1).trans ((k6.2 c c1).trans ((k5.2 c c1).trans (Wu _ h)))
 have new:g7.get? g3.objs.size=some { cls:=.type "tuple", data:=.seq #[.int i s.toks,x] }:=(k7.2 _ (Yf elt)).trans ((k6.2 _ (Yf elt)).trans ((k5.2 _ (Yf elt)).trans (WJ _ rfl)))
 rw[sz] at en7 new
 have fin:=q g7 en7 (li1.at λo h=>up3 it o (WX ne) ((k3.2 it (WX ne)).trans ((k2.2 it (WX ne)).trans h))) new λc o c1 c2 h=>up3 c o c1 ((k3.2 c c1).trans ((k2.2 c c1).trans ((k1.2 c c2).trans h)))
 rw[← sz] at fin
 exact Wr (Yr (WC ⟨_,rfl,WC fin⟩))
theorem KN {tp:Bool}{e it a:Addr}{i:Nat}{xs:Array Wv}{old:Wv}{Q:Option Wv->Wz->Prop}(hh:A.handled=none)(en:zbI s.heap e it i old)(li:eA tp s.heap it a i)(se:cE tp s.heap a xs)(hx:xs[i]? = none)
  (q:∀ g,zdF it s.heap g->Q none { s with heap:=g }):WW (W2 prog w) A (YV (.ref e)) Q E s:=by
 have ty:s.TypeIs (.ref e) "enumerate" := ⟨_,en,rfl⟩
 unfold YV
 refine Wr (Zw (Xl (name:=OF "__next__") ty Y8 (XH Y8 ty zbJ ?_ (zbq _))))
 refine Wr (m:=zaR (.ref e) 2) (Xe en rfl (x:=.ref it) rfl (Wr (m:=W3 (.ref it)) (vV hh li se hx λg z kp sz=>?_)))
 obtain ⟨o,ho,hc⟩:=sz
 exact Wr (wpAny_isInstance (T := "StopIteration") (b:=true) ⟨o,ho,hc⟩ zb7 (WC (q _ kp)))
theorem Hx (tp:Bool)(a:Addr)(xs:Array Wv):Meets (Z0.«enumerate.__new__» ⟨[.type "enumerate", .ref a],[]⟩) (λ_ R s=>cE tp s.heap a xs/\
   R (.ok (.ret (.ref (s.heap.push (itO tp a)).objs.size))) { s with heap:=(s.heap.push (itO tp a)).push { cls:=.type "enumerate", data:=.fields #[.none,.bool false,.ref s.heap.objs.size,ZT 0,.none,.none] } }):=
 .of_wp λprog w A R s h=>by
  rcases s with ⟨hp,g,d,tk,os⟩
  obtain ⟨h1,h⟩:=h
  have hs0:=sub_enumerate
  have H1:cE tp (zam ⟨hp,g,d,tk,os⟩) a xs:=h1
  wp_walk
  refine wpAny_stack_any λstk=>WC ?_
  split
  ·rename_i c _ _ _ _ _
   cases (c == zbv "enumerate")<;>(wp_walk using AI H1;exact ⟨_,rfl,h⟩)
  ·wp_walk using AI H1
   exact ⟨_,rfl,h⟩
theorem Al {tp:Bool}{a:Addr}{xs:Array Wv}{Q:Wv->Wz->Prop}(h1:cE tp s.heap a xs)
  (q:∀ g,zbI g (s.heap.objs.size+1) s.heap.objs.size 0 .none->eA tp g s.heap.objs.size a 0->(∀ c o,s.heap.get? c=some o->g.get? c=some o)->Q (.ref (s.heap.objs.size+1)) { s with heap:=g }) :
  WW (W2 prog w) A (zbT (.type "enumerate") [.ref a]) Q E s:=by
 refine zc6 F.called_enumerate (by decide) (F.typeCall_enumerate_1 _) (F.newCall_enumerate_1 _) (λobj=>zch obj _) F.entry_enumerate_new (Hx tp a xs) ⟨h1,?_⟩
 have s1:(s.heap.push (itO tp a)).objs.size=s.heap.objs.size+1:=XY ..
 have new:zbI ((s.heap.push (itO tp a)).push { cls:=.type "enumerate", data:=.fields #[.none,.bool false,.ref s.heap.objs.size,ZT 0,.none,.none] }) (s.heap.push (itO tp a)).objs.size s.heap.objs.size 0 .none:=WJ _ rfl
 refine ⟨⟨_,new,rfl⟩,?_⟩
 rw[s1] at new ⊢
 refine q _ new ?_ λc o h=>Wu _ (Wu _ h)
 have z:=Wu { cls:=.type "enumerate", data:=.fields #[.none,.bool false,.ref s.heap.objs.size,ZT 0,.none,.none] } (WJ s.heap (o:=itO tp a) (by cases tp<;>rfl))
 cases tp<;>exact ⟨_,z,rfl,rfl⟩
end
def Itn (tp:Bool)(K:Wq)(a:Addr):It:=
 ⟨λi H=>∃ xs x,Sq tp K H a xs/\xs[i]? = some x,
  λi H v H'=>∃ x p,(∀ xs,Sq tp K H a xs->xs[i]? = some x)/\v=.ref p/\H p=none/\H'=L2.upd H p (.tup [.int i,x]),
  λi H=>∃ xs,Sq tp K H a xs/\xs.length<=i⟩
structure NAt (tp:Bool) (h:Heap) (e it a:Addr) (k:Nat):Prop where
 en:∃ old,zbI h e it k old
 li:eA tp h it a k
theorem J2 {P:W9}{w:Xm}{K:Wq}{es:List W4}{ek:Nat}{ep:Pos}{tp:Bool}{e it a:Addr}(n1:e≠it) :
  Turn P w K (.Tuple es ek ep) (Itn tp K a) [e,it] e (λk h=>NAt tp h e it a k) where
 mem:=by simp
 obj:=λk h S c hc=>by
  obtain ⟨⟨old,en⟩,li⟩:=S
  simp only[WK,WY,or_false] at hc
  rcases hc with rfl | rfl
  ·exact ⟨_,en,λv y=>by cases y⟩
  ·obtain ⟨o,ho,vs,hd⟩:=li.ex;exact ⟨o,ho,λv y=>by rw[hd] at y;cases y⟩
 keep:=λk h g S kp=>by
  obtain ⟨⟨old,en⟩,li⟩:=S
  exact ⟨⟨old,kp e (by simp) _ en⟩,li.at λo q=>kp it (by simp) o q⟩
 item:=by
  intro X hP hw hK hc k pins s σ H E I hf S hg
  subst hP hw hK
  obtain ⟨xs,x,qa,ex⟩:=hg
  obtain ⟨⟨old,en⟩,li⟩:=S
  obtain ⟨ia,ra,sa⟩:=Inv.sq I qa
  obtain ⟨ux,hux,rx⟩:=ra.get ex
  have elt:e < s.heap.objs.size:=WH en
  have fr:H s.heap.objs.size=none:=I.hok.fresh (WL _)
  refine GS en li sa (x:=ux) (by simpa using hux) n1 λg eo li2 new al=>⟨_,rfl,wpAny_letOwnedTupleGo_enum eo λg2 en2 k2=>?_⟩
  have k2:YT e g g2:=k2
  have all:∀ c o,c ∉ [e,it]->s.heap.get? c=some o->g2.get? c=some o:=λc o hc q=>by
   simp only[WK,WY,or_false,not_or] at hc
   exact (k2.2 c hc.1).trans (al c o hc.1 hc.2 q)
  have new2:g2.get? s.heap.objs.size=some { cls:=.type "tuple", data:=.seq #[.int k s.toks,ux] }:=(k2.2 _ (Yf elt)).trans new
  have nfp:∀ c u,H c=some u->c ∉ [e,it]:=λc u q hc=>by rw[(hf c hc).1] at q;cases q
  refine ⟨.ref s.heap.objs.size,L2.upd H s.heap.objs.size (.tup [.int k,x]),?_,rfl,⟨x,_,λxs' q=>by rw[Inv.A8 I q qa];exact ex,rfl,fr,rfl⟩,⟨⟨_,en2⟩,li2.at λo q=>(k2.2 it (WX n1)).trans q⟩,λc hc=>?_⟩
  ·refine L2.Inv.step (s:=s) (H:=H) (H':=L2.upd H s.heap.objs.size (.tup [.int k,x])) (g':=s.gens) (d':=s.drawn) (t':=s.toks+1) (h':=g2) (ch:=[e,it]) I (λc hc=>⟨(hf c hc).2.2.2.1,(hf c hc).2.1,(hf c hc).2.2.2.2.1,(hf c hc).2.2.2.2.2⟩) (λc o _ _ hc q _=>all c o hc q) (λc o _ _ hc q _=>⟨o.slots,all c o hc q⟩) (λc o hc q n=>?_) (λc o hc q=>⟨o,all c o hc q⟩)
    (λc xs q=>?_) (λc o u q=>?_) (λc ps q=>⟨#[],?_⟩) (λm hm=>?_) (λc u q=>?_) I.bare
   ·rw[aJ (WZ (WH q))];exact n
   ·rw[aJ (aZ q fr)];exact q
   ·rw[aJ (aZ q fr)];exact q
   ·rw[aJ (aZ q fr),q];simp
   ·obtain ⟨o,es',ep',ho,r⟩:=hm
    exact ⟨o,es',ep',all _ o (λhc=>(hf _ hc).2.1 rfl) ho,r⟩
   ·by_cases hcT:c=s.heap.objs.size
    ·subst hcT
     rw[aK] at q;cases q
     exact ⟨by show 2<=sizeLine;decide,[.int k s.toks,ux],.cons ⟨s.toks,rfl⟩ (.cons rx .nil),⟨_,new2⟩⟩
    ·rw[aJ hcT] at q
     refine (I.hok c u q).lK (λc' v hc' z=>all c' v ?_ z) (λc' z=>by rw[aJ (aZ z fr)];exact z) λc' xs z=>by rw[aJ (aZ z fr)];exact z
     rcases hc' with rfl | hc'
     ·exact nfp _ _ q
     ·exact nfp _ _ hc'
  ·have hcl:c≠s.heap.objs.size:=by
    simp only[WK,WY,or_false] at hc
    rcases hc with rfl | rfl
    ·exact WZ elt
    ·obtain ⟨o,q,_⟩:=li.ex;exact WZ (WH q)
   rw[aJ hcl];exact (hf c hc).1
 done:=by
  intro X hP hw hK hc k pins s σ H E I hf S hg
  subst hP hw hK
  obtain ⟨xs,qa,he⟩:=hg
  obtain ⟨⟨old,en⟩,li⟩:=S
  obtain ⟨ia,ra,sa⟩:=Inv.sq I qa
  have la:=ra.length
  obtain ⟨f0,f1,f2,f3,f4,f5⟩:=hf it (by simp)
  exact KN (I.ok.hd hc) en li sa (by simp;omega) λg eb=>⟨rfl,I.turned (t':=s.toks) (λb o hb q=>eb b o hb q) f0 f1 f3 f4 f5⟩
 self:=λ_ _ _ _ _ S h=>by
  obtain ⟨⟨old,en⟩,_⟩:=S
  exact zdk en h
def U5 (K:Wq)(t:TA):TI:=λσ H R=>t σ H λvs H1=>∃ (tp:Bool) (a:Addr),vs=[.ref a]/\(∃ xs,Sq tp K H1 a xs)/\R (Itn tp K a) H1
section
variable {X:Cx} {ea:W4} {es:List W4} {ek:Nat} {ep p pos:Pos}
theorem Rq {t:TA}(hg:Gl X "enumerate")(hm:X.mg "enumerate" = none)(ha:PA X [ea] t)(hs:WI [ea] X.env=[(false,XG ea X.env)]:=by rfl) :
  PI X (.Tuple es ek ep) (.Call (.Name "enumerate" p) [ea] [] pos) (U5 X.K t):=by
 intro pins s σ H R I h
 refine Call_ (gU I hg hm boot_enumerate (Xw (thn (ha pos pins s σ H _ I h) λus s1 ⟨vs,H1,I1,r1,q1⟩=>?_) (by rw[hs];rfl) rfl))
 obtain ⟨tp,a,e,⟨xs,qa⟩,q⟩:=q1
 subst e
 cases r1 with | cons r rr=>
 cases rr
 cases (show _=Xa a from r)
 obtain ⟨ia,ra,sa⟩:=Inv.sq I1 qa
 refine Al sa λg en li kp=>zdk en ?_
 refine ⟨s1.heap.objs.size+1,[s1.heap.objs.size+1,s1.heap.objs.size],_,_,H1,rfl,I1.kept (t':=s1.toks) kp,J2 (tp:=tp) (a:=a) (Nat.succ_ne_self _),⟨⟨_,en⟩,li⟩,λc hc=>?_,q⟩
 have hc':s1.heap.objs.size<=c:=by
  simp only[WK,WY,or_false] at hc
  rcases hc with rfl | rfl
  ·exact zal _
  ·exact WL _
 exact I1.AB hc' (I1.hok.fresh hc')
def IV (t:ATr):ATr:=λρ μ Q=>t ρ μ λvs μ1=>match vs with
 | [x]=>kS x λds=>Q (kG ds) μ1
 | _=>False
theorem NR {At:ATr}(hg:Gl X "enumerate")(hm:X.mg "enumerate" = none)(ha:LA X [ea] At)(hs:WI [ea] X.env=[(false,XG ea X.env)]:=by rfl) :
  LI X (.Tuple es ek ep) (.Call (.Name "enumerate" p) [ea] [] pos) (IV At):=by
 obtain ⟨t,pt,st⟩:=ha.ex
 refine ⟨_,Rq hg hm pt hs,λσ H ρ μ Q R rl h k=>st σ H ρ μ _ _ rl h λvs H1 ds μ1 t1 m1 p1 h1=>?_⟩
 split at h1
 case h_2=>exact WA h1
 cases p1 with | cons pa p2=>
 cases p2
 obtain ⟨tp,a,xs,dx,rfl,qa,la,h2⟩:=Bz pa h1
 obtain ⟨a',xs',dx',ea',qa',la',h2⟩:=BX pa h2
 cases ea'
 refine ⟨tp,a,rfl,⟨xs',qa'.sq⟩,k _ H1 _ μ1 t1 m1 ⟨λi H' tk hi=>?_,λi H' v H'' tk hi yv=>?_,λi H' tk hi=>?_⟩ h2⟩
 ·have l1:=la'.length
  rw[uc] at hi
  exact ⟨xs',xs'[i],tk.sq qa',by simp[show i < xs'.length by omega]⟩
 ·obtain ⟨x,q,fx,rfl,fr,rfl⟩:=yv
  have ex:=fx _ (tk.sq qa')
  obtain ⟨d,ed,pd⟩:=la'.get' ex
  have tn:Tk H' (L2.upd H' q (.tup [.int i,x])):=.new fr
  exact ⟨tn,⟨.tup [.int i,d],by rw[ug,ed];rfl,.tup (SqT.of aK) (.cons (.int _) (.cons ((pd.mono tk).mono tn) .nil))⟩,λμ' m'=>bV m' fr⟩
 ·rw[uc] at hi
  exact ⟨xs',tk.sq qa',by rw[la'.length];exact hi⟩
end
end
section
open PySem PySem.Spec PyProof PyProof.Rows L2
section
variable {w:Xm} {prog:W9} {A:XC} {E:Wv->Wz->Prop}
abbrev TM (g:Heap)(b:Addr)(xs:Array Wv):Prop:=∃ n,g.get? b=some { cls:=.type "list", dict:=none,data:=.seq xs n,slots:=#[] }
section
variable {R:zds->Wz->Prop} {I:Addr} {fp wr:List Addr} {n:Nat} {P:Nat->Wv->Prop} {St:Nat->Heap->Prop}
theorem LV (W:Walks prog w A.in1 I fp wr n P St){bt:Nat->Nat->Bool}(cm:CmpOf prog w A.in1 .Gt P bt){S:Addr}(hS:S ∉ fp)(kw:List (Str×Wv)) :
  ∀ (m:Nat) (j:Nat) (s:Wz) (vb:Wv),j+1+m=n->St (j+1) s.heap->P (Z3 bt j) vb->TM s.heap S #[vb,vb]->
  (∀ v g tk,P (Z3 bt (n - 1)) v->(∀ c o,c ∉ wr->c≠S->s.heap.get? c=some o->g.get? c=some o)->R (.ok (.ret v)) { s with heap:=g,toks:=tk })->
  Za (W2 prog w) A (.builtin "max.loop" ⟨[.ref I,.none,.ref S],kw⟩) R s:=by
 have sw:S ∉ wr:=λh=>hS (W.sub _ h)
 have nm:(toString "max" ++ toString ".loop" : String) = "max.loop" := by decide
 intro m
 induction m with
 | zero=>
  intro j s vb en st pb ⟨ep,at'⟩ fin
  refine run_plain Ys zbr ?_
  show WW (W2 prog w) A.in1 (zcm (.ref S) >>= _) _ _ s
  refine Wr (Xk at' rfl ?_)
  show WW (W2 prog w) A.in1 (tryCatch (YV (.ref I)) _ >>= _) _ _ s
  refine Wr (Zh (W.done s _ _ (by rw[← en];exact st) λg tk kp=>?_))
  have at1:=kp S _ sw at'
  show WW (W2 prog w) A.in1 (updateSeq S (λ_=>#[]) >>= _) _ _ _
  refine Wr ?_
  refine Y0 at1 rfl ?_;refine Wr (Yr (WC ?_))
  exact fin vb _ tk (by rw[show n - 1=j by omega];exact pb) λc o c1 c2 e=>(XF _ _ (WX c2)).trans (kp c o c1 e)
 | succ m ih=>
  intro j s vb en st pb ⟨ep,at'⟩ fin
  refine run_plain Ys zbr ?_
  show WW (W2 prog w) A.in1 (zcm (.ref S) >>= _) _ _ s
  refine Wr (Xk at' rfl ?_)
  show WW (W2 prog w) A.in1 (tryCatch (YV (.ref I)) _ >>= _) _ _ s
  refine Wr (Zh (W.item (j+1) s _ _ (by omega) st λv g tk pv st1 kp=>?_))
  have at1:=kp S _ sw at'
  show WW (W2 prog w) A.in1 (tryCatch (zbw [v,v] (richCompare .Gt v vb >>= _)) _ >>= _) _ _ _
  refine Wr (Zh (Y4 (Wr (cm (j+1) (Z3 bt j) v vb _ _ _ pv pb ?_))))
  refine Wr (Y4 (XU (Wr (Yr (WC ?_)))))
  cases better:bt (j+1) (Z3 bt j) with
  | true=>
   rw[if_pos rfl]
   have bst:Z3 bt (j+1)=j+1:=by rw[Z3,if_pos better]
   refine Wr ?_
   refine Y0 at1 rfl ?_
   refine Wr (Yr ?_)
   rw[nm]
   refine WC ⟨YK Ys _,ih (j+1) _ v (by omega) (W.frame _ _ _ st1 λc hc o e=>(XF _ _ (λz:S=c=>hS (by rw[z];exact hc))).trans e) (by rw[bst];exact pv) ⟨_,Y6 _ at1 rfl⟩ λv' g' tk' p' kp'=>?_⟩
   exact fin v' g' tk' p' λc o c1 c2 e=>kp' c o c1 c2 ((XF _ _ (WX c2)).trans (kp c o c1 e))
  | false=>
   rw[if_neg YU]
   have bst:Z3 bt (j+1)=Z3 bt j:=by rw[Z3,if_neg (by rw[better];exact YU)]
   refine Wr (Yr ?_)
   rw[nm]
   exact WC ⟨YK Ys _,ih (j+1) _ vb (by omega) st1 (by rw[bst];exact pb) ⟨_,at1⟩ λv' g' tk' p' kp'=>fin v' g' tk' p' λc o c1 c2 e=>kp' c o c1 c2 (kp c o c1 e)⟩
theorem Kj (W:Walks prog w A.in1 I fp wr n P St){bt:Nat->Nat->Bool}(cm:CmpOf prog w A.in1 .Gt P bt){S:Addr}(hS:S ∉ fp){s:Wz}{nm':Str}{d:Wv}(st:St 0 s.heap)(at0:TM s.heap S #[])
  (f0:n=0->∀ g tk,(∀ c o,c ∉ wr->c≠S->s.heap.get? c=some o->g.get? c=some o)->R (.ok (.ret d)) { s with heap:=g,toks:=tk })
  (f1:∀ v g tk,0 < n->P (Z3 bt (n - 1)) v->(∀ c o,c ∉ wr->c≠S->s.heap.get? c=some o->g.get? c=some o)->R (.ok (.ret v)) { s with heap:=g,toks:=tk }) :
  Za (W2 prog w) A (.builtin "max.loop" ⟨[.ref I,.none,.ref S],[(nm',d)]⟩) R s:=by
 have sw:S ∉ wr:=λh=>hS (W.sub _ h)
 have nm:(toString "max" ++ toString ".loop" : String) = "max.loop" := by decide
 obtain ⟨ep,at'⟩:=at0
 refine run_plain Ys zbr ?_
 show WW (W2 prog w) A.in1 (zcm (.ref S) >>= _) _ _ s
 refine Wr (Xk at' rfl ?_)
 show WW (W2 prog w) A.in1 (tryCatch (YV (.ref I)) _ >>= _) _ _ s
 rcases Nat.eq_zero_or_pos n with hn | hn
 ·refine Wr (Zh (W.done s _ _ (by rw[hn];exact st) λg tk kp=>?_))
  show WW (W2 prog w) A.in1 (rule _ >>= _) _ _ _
  exact Wr (Yt (WC (f0 hn g tk λc o c1 c2 e=>kp c o c1 e)))
 ·refine Wr (Zh (W.item 0 s _ _ hn st λv g tk pv st1 kp=>?_))
  have at1:=kp S _ sw at'
  show WW (W2 prog w) A.in1 (updateSeq S (λ_=>#[v,v]) >>= _) _ _ _
  refine Wr ?_
  refine Y0 at1 rfl ?_
  rw[nm]
  refine WC ⟨YK Ys _,LV W cm hS _ (n - 1) 0 _ v (by omega) (W.frame _ _ _ st1 λc hc o e=>(XF _ _ (λz:S=c=>hS (by rw[z];exact hc))).trans e) pv ⟨_,Y6 _ at1 rfl⟩ λv' g' tk' p' kp'=>?_⟩
  exact f1 v' g' tk' hn p' λc o c1 c2 e=>kp' c o c1 c2 ((XF _ _ (WX c2)).trans (kp c o c1 e))
end
variable {s:Wz}
theorem Ee (a d:Wv):zee "max" ⟨[a],[(OF "default", d)]⟩:=by unfold zee;kernel_rfl
theorem DH (d:Wv):zaG "max" ["key", "default"] 0 ⟨[],[(OF "default", d)]⟩=pure [none,some d]:=by kernel_rfl
theorem Lq {id:String}{bi:Z0}{a:Args}{Q:Wv->Wz->Prop}(hk:builtinKind id=none)(hp:plainId id=true)(hb:entryFor table id=some bi)(ha:zee id a)
  (h:WW (W2 prog w) A.in1 (bi a) (λfin s'=>match fin with
   | .done f=>(match (Except.ok f:zds) with | .ok (.ret v)=>Q v s' | .ok _=>False | .error e=>E e s') | .again c'=>c'.quiet=true/\Za (W2 prog w) A c' (λr s'=>match r with | .ok (.ret v)=>Q v s' | .ok _=>False | .error e=>E e s') s') E s):WW (W2 prog w) A (zbT (.builtin id) a.pos a.kw) Q E s:=by
 refine wpAny_call (codeAny_call_builtin hp hb ?_);simp only[zdz,hk]
 unfold zee at ha
 split<;>rename_i sg
 ·rw[sg] at ha
  have ha':Bind.checkArgs id _ a=pure ():=ha
  rw[show (⟨a.pos,a.kw⟩:Args)=a from rfl,ha']
  exact WC h
 ·exact WC h
theorem Eg {l:Addr}{xs:Array (Int×Tok)}{d:Wv}{Q:Wv->Wz->Prop}(hh:A.handled=none)(hl:s.heap.IsList l (zas xs))
  (f0:xs.size=0->∀ g tk,Kept s g->Q d { s with heap:=g,toks:=tk })
  (f1:∀ v g tk,0 < xs.size->(zas xs)[Z3 (λi j=>decide (zdH xs i > zdH xs j)) (xs.size - 1)]? = some v->Kept s g->Q v { s with heap:=g,toks:=tk }) :
  WW (W2 prog w) A (zbT (.builtin "max") [.ref l] [(OF "default", d)]) Q E s:=by
 have nm:(toString "max" ++ toString ".loop" : String) = "max.loop" := by decide
 refine Lq (a:=⟨[.ref l],[(OF "default", d)]⟩) F.kind_max F.plain_max F.entry_max (Ee _ _) ?_
 show WW (W2 prog w) A.in1 (zaG "max" ["key", "default"] 0 ⟨[],[(OF "default", d)]⟩ >>= _) _ _ s
 refine Wr (zdG (DH d) ?_)
 refine Wr (WC ?_)
 refine Wr (iter_intList hl λs₂ e st hfp hlI=>?_)
 subst e
 refine Wr (XD ?_);rw[nm]
 have W:=zeH (prog:=prog) (w:=w) (A:=A.in1) hh _ l hlI (zas xs)
 have n1:(zas xs).size=xs.size:=by simp[zas]
 have S0:(s.heap.push { cls:=.type "list_iterator", data:=.fields #[.ref l,.int 0 0] }).objs.size ∉ [s.heap.objs.size,l]:=λhm=>YF _ (hfp _ hm)
 have old:∀ g,(∀ c o,c ∉ [s.heap.objs.size]->c≠(s.heap.push { cls:=.type "list_iterator", data:=.fields #[.ref l,.int 0 0] }).objs.size->((s.heap.push { cls:=.type "list_iterator", data:=.fields #[.ref l,.int 0 0] }).push { cls:=.type "list", data:=.seq ([]:List Wv).toArray }).get? c=some o->g.get? c=some o)->Kept s g:=λg kp c o e=>by
  have lt:=WH e
  exact kp c o (λh=>by rw[Yu.mp h] at lt;exact YF _ lt) (by rw[XY];exact WZ (Nat.lt_succ_of_lt lt)) (Wu _ (Wu _ e))
 refine WC ⟨YK Ys _,Kj W (CmpOf.ints_gt (zdH xs) λ_ _=>intItems_at) S0 (W.frame _ _ _ st λc _ o e=>Wu _ e) ⟨_,WJ _ rfl⟩ (λz g tk kp=>?_) λv g tk hn pv kp=>?_⟩
 ·exact f0 (by rw[← n1];exact z) g tk (old g kp)
 ·rw[n1] at hn pv
  exact f1 v g tk hn pv (old g kp)
end
section
variable {X:Cx} {e d:W4} {p pos kp:Pos} {Te Td:ETr}
def UK (K:Wq)(xs:List V)(zs:List V)(H:Hp)(Q:VK):Prop:=∃ (p:Addr) (ns:List Int) (z:V),xs=[.ref p]/\zs=[z]/\SqL K H p (ns.map V.int)/\(ns=[]->Q z H)/\(ns≠[]->∀ M,M∈ns->(∀ a∈ns,a<=M)->Q (.int M) H)
theorem KA {t tk:TA}(hc:X.calm=true)(hg:Gl X "max")(hm:X.mg "max" = none)(ha:PA X [e] t)(hkw:PK X [⟨some (OF "default"),d,kp⟩] tk)(he:XM pos (WI [e] X.env)=(false,XG e X.env)::XM pos (WI [] X.env):=by rfl)(hpl:(XM pos (WI [e] X.env)).any (·.1)=false:=by rfl) :
  PE X (.Call (.Name "max" p) [e] [⟨some (OF "default"),d,kp⟩] pos) (λσ H Q=>t σ H λxs H1=>tk σ H1 λzs H2=>UK X.K xs zs H2 Q):=by
 intro pins s σ H Q I h
 refine ZD (gU I hg hm (u:=.builtin "max") (by rfl) ?_)
 refine callWith_kw (thn (ha pos pins s σ H _ I h) λus s1 ⟨vs,H1,I1,r1,q1⟩=>thn (hkw pos pins s1 σ H1 _ I1 q1) λws s2 ⟨zs,H2,I2,rz,q2⟩=>?_) he hpl rfl rfl
 obtain ⟨q,ns,z,rfl,rfl,sq,k0,k1⟩:=q2
 obtain ⟨u,rfl,ru⟩:=vals1 r1
 cases ru
 obtain ⟨u,rfl,rz1⟩:=vals1 rz
 obtain ⟨its,rv,pl,_⟩:=I2.list sq
 obtain ⟨ps,rfl,rfl⟩:=hV (intsAre_of rv)
 have il:s2.heap.IsList q (zas ps.toArray):=by
  have:=pl.isList
  simpa[zas] using this
 have hs:ps.toArray.size=ps.length:=by simp
 refine Eg (I2.ok.hd hc) il (λz0 g tk kp=>?_) λv g tk hn hv hk=>?_
 ·exact ⟨z,H2,I2.kept kp,rz1,k0 (by rw[hs] at z0;cases ps with | nil=>rfl | cons=>cases z0)⟩
 ·rcases intItems_at hv with ⟨t,rfl⟩
  obtain ⟨b1,b2⟩:=argBest_gt (zdH ps.toArray) (ps.toArray.size - 1)
  generalize Z3 (λi j=>decide (zdH ps.toArray i > zdH ps.toArray j)) (ps.toArray.size - 1)=m at hv b1 b2
  rw[hs] at b1 b2 hn
  have hk':m < (ps.map zd8).length:=by rw[Ww];omega
  refine ⟨.int _,H2,I2.kept hk,⟨t,rfl⟩,k1 (λz=>by rw[zcr.mp z] at hn;cases hn) _ ?_ λa ha=>?_⟩
  ·rw[qL,WO hk']
   exact Ye hk'
  ·obtain ⟨j,hj,rfl⟩:=YL ha
   have:=b2 j (by rw[Ww] at hj;omega)
   rw[qL ps j,WO hj] at this
   exact this
def CU (Te Td:ETr):ETr:=λρ μ Q=>Te ρ μ λx μ1=>Td ρ μ1 λy μ2=>match x with
 | .ls xs=>∃ ns:List Int,xs=ns.map .int/\(ns=[]->Q y μ2)/\(ns≠[]->∀ M,M∈ns->(∀ a∈ns,a<=M)->Q (.int M) μ2)
 | _=>False
theorem Dn (hc:X.calm=true)(hg:Gl X "max")(hm:X.mg "max" = none)(ha:LE X e Te)(hd:LE X d Td)(h1:WI [e] X.env=(false,XG e X.env)::WI [] X.env:=by rfl)(he:XM pos (WI [e] X.env)=(false,XG e X.env)::XM pos (WI [] X.env):=by rfl)(hpl:(XM pos (WI [e] X.env)).any (·.1)=false:=by rfl) :
  LE X (.Call (.Name "max" p) [e] [⟨some (OF "default"),d,kp⟩] pos) (CU Te Td):=by
 obtain ⟨te,pe,se⟩:=ha.ex
 obtain ⟨td,pd,sd⟩:=hd.ex
 refine ⟨_,KA hc hg hm (dU pe gX h1) (NW pd PU) he hpl,λσ H ρ μ Q Q' rl h k=>se σ H ρ μ _ _ rl h λx H1 dx μ1 t1 m1 p1 h1=>sd σ H1 ρ μ1 _ _ (rl.go t1 m1) h1 λy H2 dy μ2 t2 m2 p2 h2=>?_⟩
 cases (p1.mono t2) with
 | @ls q xs ds sq l=>
  obtain ⟨ns,rfl,k0,k1⟩:=h2
  have ex:=l.ints_of
  subst ex
  exact ⟨q,ns,y,rfl,rfl,sq.sq,λz=>k _ H2 _ μ2 (t1.trans t2) m2 p2 (k0 z),λz M h3 h4=>k _ H2 _ μ2 (t1.trans t2) m2 (.int _) (k1 z M h3 h4)⟩
 | _=>exact WA h2
end
end
section
open PySem PySem.Spec PyProof.Rows L2
def uZ (It':ATr)(G:GTr)(tt:TTr)(te:ETr)(n:Nat)(caps:List Nat):ETr:=λρ μ Q=>It' ρ μ λds μ1=>∀ p,μ1 p=none->fF p G tt te (fc ρ n caps) (λμ'=>Q (.obj p) μ') ds (up μ1 p (.lst []))
theorem HW {X:Cx}{tg iter elt:W4}{ifs:List W4}{scope:Scope}{pos spos py:Pos}{y:Str}{iy:Nat}{wi:TI}{g:TG}{tt:TT}{te:TE}{Nc:List Str}{n:Nat}{caps:List Nat}
  (hxe:X.xe=λ_ _=>False) (hcalm:X.calm=true) (hi:PI X tg iter wi)
  (hbody:∀ (cl:List (Str×Addr)) (C:Addr) (s₀:Wz) (H₀:Hp) (ex:List Addr),PG (ba X scope Nc cl C s₀ H₀ ex) tg g/\xi (ba X scope Nc cl C s₀ H₀ ex) ifs tt/\PE (ba X scope Nc cl C s₀ H₀ ex) elt te)
  (hfree:∀ y∈scope.names,y.2=.free->X.env.kindOf y.1=some .cell) (hcell:∀ y∈scope.names,y.2≠.cell) (gk:scope.kind=.function)
  (hnames:∀ y∈scope.names,y.2=.local->scope.names.lookup y.1=some .local) (hlen:Nc.length=n+caps.length)
  (hcap:∀ (j k:Nat),caps[j]? = some k->∃ x,Nc[n+j]? = some x/\X.N[k]? = some x/\scope.names.lookup x=some .free)
  (pgy:PG X (.Name y py) (lI iy))
  (hsw:Yz (.ListComp elt [⟨tg,iter,ifs,0⟩] scope pos) (some (.Name y py)) spos.line X.env=pure true)
  (hs:∀ x,Xs iter X.env x=pure x:=by intro _;rfl) :
  PS X (.Assign [.Name y py] (.ListComp elt [⟨tg,iter,ifs,0⟩] scope pos) spos) (Hk (kT wi g tt te n caps) (lI iy)):=
 yW (Z:=id) hxe hcalm hi hbody hfree hcell gk hnames hlen hcap pgy hsw (λσ H Q h=>⟨_,h,λpins D H5 s5 I5 q=>⟨H5,λ_ h=>h,I5,q⟩⟩) hs
theorem El {K:Wq}{wi:TI}{It':ATr}{G:GTr}{Tt:TTr}{Te:ETr}{n:Nat}{caps:List Nat}(si:OR K wi It'):Sim K (kT wi (mL K n G) (liftT K Tt) (lO K Te) n caps) (uZ It' G Tt Te n caps):=by
 intro σ H ρ μ Q Q' rl h k
 refine si σ H ρ μ _ _ rl h λJ H1 ds μ1 t1 m1 Y h1 D hD=>?_
 have hp:=h1 D (m1.free hD)
 have tD:Tk H1 (L2.upd H1 D (.lst [])):=.new hD
 have mD:bE K (L2.upd H1 D (.lst [])) (up μ1 D (.lst [])):=λa o e=>by
  by_cases ha:a=D
  ·subst ha
   rw[aF] at e;cases e
   exact ⟨[],aK,.nil⟩
  ·rw[aS ha] at e
   exact bV m1 hD a o e
 refine ⟨λi m ys H2=>m=ds.length - i/\i<=ds.length/\Tk H1 H2/\∃ μ2,bE K H2 μ2/\fF D G Tt Te (fc ρ n caps) (λμ'=>Q (.obj D) μ') (ds.drop i) μ2,
  ⟨ds.length,by simp,Ya _,tD,_,mD,by simpa using hp⟩,?_⟩
 rintro i m ys H2 ⟨rfl,hi,t12,μ2,m2,h2⟩
 by_cases hlt:i < ds.length
 ·refine .inr ⟨Y.go i H2 t12 hlt,λys' H'=>Tk H1 H'/\∃ μ',bE K H' μ'/\fF D G Tt Te (fc ρ n caps) (λμ'=>Q (.obj D) μ') (ds.drop (i+1)) μ',λys' H' ⟨t',μ',m',h'⟩=>⟨ds.length - (i+1),by omega,rfl,hlt,t',μ',m',h'⟩,λx H3 y=>?_⟩
  obtain ⟨t23,⟨d,ed,pd⟩,mk⟩:=Y.yld i H2 x H3 t12 hlt y
  have e:ds.drop i=d::ds.drop (i+1):=by
   refine (Yb hlt).trans ?_
   congr 1
   rw[WO hlt] at ed
   exact Xq ed
  rw[e] at h2
  have t13:=t12.trans t23
  have r3:Rl K (kA σ n caps) H3 (fc ρ n caps) μ2:=pM (rl.go (t1.trans t13) (mk _ m2)) n caps
  refine ⟨_,_,d,_,r3,pd,h2,λσ4 H4 ρ4 μ4 t4 r4 kp h4=>⟨⟨kp.1.symm,λj v ej=>?_⟩,_,_,_,r4,h4,λb H5 μ5 t5 m5 h5=>?_⟩⟩
  ·by_cases hj:n<=j
   ·rw[kp.2 j hj];exact ej
   ·obtain ⟨j',k',e1,_⟩:=jF ej
    omega
  ·have t15:=t13.trans (t4.trans t5)
   cases b with
   | false=>exact pw ⟨t15,μ5,m5,h5⟩
   | true=>
    refine pk ⟨_,_,_,r4.go t5 m5,h5,λv H6 d6 μ6 t6 m6 p6 h6=>?_⟩
    obtain ⟨zs,ez,lz,h7⟩:=bN h6
    obtain ⟨xs,ex,lx⟩:=m6 D _ ez
    have t67:Tk H6 (L2.upd H6 D (.lst (xs++[v]))):=.upd (λys z=>by rw[ex] at z;cases z) λo' u z=>by rw[ex] at z;cases z
    refine ⟨xs,ex,by rw[lx.length];exact WV lz (by decide),(t15.trans t6).trans t67,up μ6 D (.lst (zs++[d6])),λa o ea=>?_,h7⟩
    by_cases ha:a=D
    ·subst ha
     rw[aF] at ea;cases ea
     exact ⟨_,aK,(lx.append (.cons p6 .nil)).mono t67⟩
    ·rw[aS ha] at ea
     exact (m6 a _ ea).ne t67 ha
 ·have e:i=ds.length:=by omega
  subst e
  rw[YO] at h2
  exact .inl ⟨Y.stop _ H2 t12 (WL _),k _ _ _ μ2 (t1.trans t12) m2 (.obj _) h2⟩
theorem Ft {X:Cx}{tg elt iter:W4}{Te:ETr}{Tt:TTr}{pos spos py:Pos}{y:Str}{It':ATr}{G:GTr}{ifs:List W4}{scope fsc:Scope}(iy:Nat)(hN:X.N.Nodup)(XN Nc:List Str)(n:Nat)(caps:List Nat)(hxe:X.xe=λ_ _=>False)(hcalm:X.calm=true)(hi:LI X tg iter It')
  (hbody:∀ (cl:List (Str×Addr)) (C:Addr) (s₀:Wz) (H₀:Hp) (ex:List Addr),LGc (ba X scope Nc cl C s₀ H₀ ex) n tg G/\xg (ba X scope Nc cl C s₀ H₀ ex) ifs Tt/\LE (ba X scope Nc cl C s₀ H₀ ex) elt Te)
  (hsc:X.env.scope=fsc) (hXN:X.N=XN) (hok:hE fsc.names XN scope Nc n caps=true)
  (hiy:X.N[iy]? = some y:=by rfl) (hx:Loc X.env.scope y:=by first | exact ZX rfl | exact ZY rfl) (hf:X.fn y=true∨X.env.scope.names.lookup y=some .local:=by first | exact .inl rfl | exact .inr rfl | assumption)
  (hsw:Yz (.ListComp elt [⟨tg,iter,ifs,0⟩] scope pos) (some (.Name y py)) spos.line X.env=pure true:=by rfl)
  (hs:∀ x,Xs iter X.env x=pure x:=by intro _;rfl) :
  LS X (.Assign [.Name y py] (.ListComp elt [⟨tg,iter,ifs,0⟩] scope pos) spos) (aN (uZ It' G Tt Te n caps) (aw iy)):=by
 unfold hE at hok
 simp only[Xd,Zm] at hok
 obtain ⟨⟨⟨h1,h2⟩,h3⟩,h4⟩:=hok
 obtain ⟨wi,pi,si⟩:=hi.ex
 refine ⟨_,HW (g:=mL X.K n G) (tt:=liftT X.K Tt) (te:=lO X.K Te) hxe hcalm pi (λcl C s₀ H₀ ex=>let ⟨h1,h2,h3⟩:=hbody cl C s₀ H₀ ex;⟨h1.pe,h2.pe,h3.pe⟩) (λy hy hf=>?_) (λy hy hf=>?_) (by simpa using h2) (λy hy hf=>?_) (by simpa using h3) (λj k hj=>?_) (iE hN hiy hx hf) hsw hs,λσ H ρ μ E E' rl h k=>El si σ H ρ μ _ _ rl h λv H' d μ' t' m' p' h'=>ir iy σ H' ρ μ' v d _ _ (rl.go t' m') p' h' (k.go t').nx⟩
 ·have:=(h1 y hy).1.1
  show X.env.scope.names.lookup y.1=_
  rw[hsc]
  simpa[hf] using this
 ·have:=(h1 y hy).1.2
  simp[hf] at this
 ·have:=(h1 y hy).2
  simpa[hf] using this
 ·have hl:j < caps.length:=(Xc.mp hj).1
  have:=h4 j (YM.mpr hl)
  rw[hj] at this
  dsimp only at this
  rw[hXN]
  cases e:XN[k]? with
  | none=>rw[e] at this;cases this
  | some x=>
   rw[e] at this
   dsimp only at this
   rw[Xd] at this
   exact ⟨x,by simpa using this.1,rfl,by simpa using this.2⟩
def Bl (ds:List D)(x:D):Nat:=ds.countP λy=>eqD y x
theorem Ih {X:Cx}{pins:List (Addr×Obj)}{σ:L2.St}{H:Hp}{s:Wz}(I:Inv X pins σ H s){dy:D}(oy:okD 38 dy=true):∀ {vs:List V} {ds:List D} {us:List Wv},DpL X.K H vs ds->Vals vs us->b7 38 ds=true->us.countP (lG s.heap (toP dy))=Bl ds dy
 | _,_,_,.nil,.nil,_=>Eq.refl _
 | _,d::ds,u::us,.cons p l,.cons r rs,ok=>by
  have ok':okD 38 d=true/\b7 38 ds=true:=by simpa[b7] using ok
  obtain ⟨as,ra⟩:=dI I p ok'.1 r
  obtain ⟨l1,_⟩:=gD 38 d ok'.1
  have e:lG s.heap (toP dy) u=eqD d dy:=by rw[DB ra l1,mF 38 38 d dy ok'.1 oy]
  unfold Bl
  rw[zdA,zdA,e,Ih I oy l rs ok'.2]
  rfl
theorem Gp {X:Cx}(hu:X.A.units+64 < cLine):MtM X "list.count" (λx vs H Q=>∃ p xs y ds dy,x=.ref p/\vs=[y]/\SqL X.K H p xs/\DpL X.K H xs ds/\Dp X.K H y dy/\b7 38 ds=true/\okD 38 dy=true/\Q (.int (Bl ds dy)) H):=by
 intro pins s σ H x vs v us Q I rx rv h
 obtain ⟨p,xs,y,ds,dy,rfl,rfl,sq,l,py,ok,oy,q⟩:=h
 cases (show v=Xa p from rx)
 obtain ⟨u,rfl,ru⟩:=rv.one
 obtain ⟨its,r,⟨o,n,e,c,hd,hdat⟩,_⟩:=I.list sq
 obtain ⟨bs,rb⟩:=dI I py oy ru
 have he:s.heap.get? p=some ⟨.type "list", none,.seq its.toArray n,o.slots⟩:=by
  rw[e];obtain ⟨c',dd,dt,sl⟩:=o;simp only at c hd hdat;subst c hd hdat;rfl
 have ea:=Ih I oy l r ok
 have fin:Q (.int (its.toArray.toList.countP (lG s.heap (toP dy)):Nat)) H:=by rw[show its.toArray.toList=its from rfl,ea];exact q
 refine zab F.slot_list_count ⟨_,he,rfl⟩ F.entry_list_count (F.args_list_count_2 _ _) (SeqAt.list_countAt p its.toArray n none o.slots u (lG s.heap (toP dy))) ⟨he,(BI I hu l r ok oy rb).1,?_⟩
 exact ⟨.int _,H,I.tok _,⟨_,rfl⟩,fin⟩
def u9 (To Ti:ETr):ETr:=λρ μ Q=>To ρ μ λx μ1=>tJ μ1 x λ_=>Ti ρ μ1 λy μ2=>tJ μ2 x λds=>(b7 38 ds=true/\okD 38 y=true)/\Q (.int (Bl ds y)) μ2
section
variable {X:Cx} {o i:W4} {To Ti:ETr} {apos cpos:Pos}
theorem le_count (hu:X.A.units+64 < cLine)(ho:LE X o To)(hi:LE X i Ti)
  (hbase:Y5 o "count" X.env (XG o X.env)=XG o X.env:=by rfl)
  (hfew:((XM cpos (WI [i] X.env)).all (λx=>!x.1)&&(zaj cpos (YS [] X.env)).all (λx=>x.1.isSome)
   && decide (([i]:List W4).length+([]:List YW).length+(if ([]:List YW).isEmpty then 0 else 1) < 30))=true:=by rfl)
  (hline:(apos.endLine == cpos.line)=true:=by rfl) (hs:WI [i] X.env=(false,XG i X.env)::WI [] X.env:=by rfl) (hplain:(XM cpos (WI [] X.env)).any (·.1)=false:=by rfl) :
  LE X (.Call (.Attribute o "count" apos) [i] [] cpos) (u9 To Ti):=by
 obtain ⟨to,po,so⟩:=ho.ex
 obtain ⟨ti,pi,si⟩:=hi.ex
 refine ⟨_,xu Yi PySem.F.slot_list_count PySem.F.type_list_count (Gp hu) po (dU pi gX hs) hbase hfew hline hs hplain,λσ H ρ μ Q Q' rl h k=>so σ H ρ μ _ _ rl h λx H1 dx μ1 t1 m1 p1 h1=>?_⟩
 obtain ⟨q,xs0,ds0,rfl,sq0,l0,h1⟩:=ma m1 p1 h1
 refine ⟨.inl ⟨rfl,_,sq0⟩,si σ H1 ρ μ1 _ _ (rl.go t1 m1) h1 λy H2 dy μ2 t2 m2 p2 h2=>?_⟩
 obtain ⟨q',xs,ds,eq,sq,l,h2⟩:=ma m2 (p1.mono t2) h2
 cases eq
 obtain ⟨⟨o1,o2⟩,h2⟩:=h2
 exact ⟨q,xs,y,ds,dy,rfl,rfl,sq,l,p2,o1,o2,k _ H2 _ μ2 (t1.trans t2) m2 (.int _) h2⟩
end
end
section
open PySem PySem.Spec PyProof.Rows L2
section
variable {X:Cx} {o i:W4} {To Ti:ETr} {apos cpos:Pos}
theorem Cm (l:Addr)(its:Array Wv)(n:Nat)(q:Addr)(its2:Array Wv)(n2:Nat)(dd:Option Addr)(sl:Array (Option Wv))(h0:¬ (!its.isEmpty&&XX (its.size+its2.size))=true)(h1:its.size<=sizeLine)(h2:its.size+its2.size<=sizeLine+1) :
  Meets (Z0.«list.extend» ⟨[.ref l,.ref q],[]⟩) (λ_ R s=>s.heap.get? l=some { cls:=.type "list", dict:=none,data:=.seq its n,slots:=#[] }/\s.heap.get? q=some { cls:=.type "tuple", dict:=dd,data:=.seq its2 n2,slots:=sl }/\
   R (.ok (.ret Yj)) { s with heap:=s.heap.update l (zaP λx=>x++its2) }):=
 .of_wp λprog w A R s h=>by
  rcases s with ⟨hp,g,d,tk,os⟩
  obtain ⟨hl,hb,h⟩:=h
  have z1:=zbH
  have z2:=zah
  have z3:=zaB
  have z4:=zap
  have z5:=zaq
  have hz':(its++its2).size<=sizeLine+1:=by rw[zde];omega
  wp_walk using (Y0 hl rfl (hz:=h1) (_hz':=hz')),zaC hl,zaC hb
  exact ⟨_,rfl,h⟩
def SI (K:Wq):V->List V->Hp->VK->Prop:=λx vs H Q=>∃ l b xs zs,x=.ref l/\vs=[.ref b]/\H l=some (.lst xs)/\(SqL K H b zs∨SqT K H b zs)/\xs.length+zs.length<=sizeLine/\Q .non (L2.upd H l (.lst (xs++zs)))
theorem L9:MtM X "list.extend" (SI X.K):=by
 intro pins s σ H x vs v us Q I rx rv h
 obtain ⟨l,q,xs,zs,rfl,rfl,hH,hB,hz,qq⟩:=h
 rcases hB with hB | hB
 ·exact PC pins s σ H _ _ v us Q I rx rv ⟨l,q,xs,zs,rfl,rfl,hH,hB,hz,qq⟩
 cases (show v=Xa l from rx)
 obtain ⟨u,rfl,ru⟩:=rv.one
 cases (show u=Xa q from ru)
 obtain ⟨z,its,n,r,hl,e⟩:=I.NZ hH
 obtain ⟨its2,r2,⟨o,e2,c2,n2,dat2⟩,_⟩:=I.tuple hB
 have e2':s.heap.get? q=some ⟨.type "tuple", o.dict,.seq its2.toArray n2,o.slots⟩:=by
  rw[e2];obtain ⟨c',dd,dt,sl⟩:=o;simp only at c2 dat2;subst c2 dat2;rfl
 have hl2:=r2.length
 have hs2:its.toArray.size+its2.toArray.size<=sizeLine:=by rw[WR,WR];omega
 have JH:¬ (!its.toArray.isEmpty&&XX (its.toArray.size+its2.toArray.size))=true:=by
  rw[Ac hs2,zcb];decide
 refine zab zcS ⟨_,e,rfl⟩ zcq (zcc _ _) (Cm l its.toArray n q its2.toArray n2 o.dict o.slots JH (by omega) (by omega)) ⟨e,e2',?_⟩
 refine ⟨.non,_,I.Nb (its':=its++its2) hH e (by simp) (r.append r2) ?_,rfl,qq⟩
 rw[WG];omega
def uD (To Ti:ETr):ETr:=λρ μ Q=>To ρ μ λx μ1=>kObj x λa=>kL μ1 a λ_=>Ti ρ μ1 λy μ2=>EI μ2 y λes=>kL μ2 a λds=>ds.length+es.length<=1000000/\Q .non (up μ2 a (.lst (ds++es)))
theorem Gi {K:Wq}{H:Hp}{μ:Mu}{x:V}{dx:D}{f:List D->Prop}(m:bE K H μ)(p:Dp K H x dx)(h:EI μ dx f):∃ q xs ds,x=.ref q/\(SqL K H q xs∨SqT K H q xs)/\DpL K H xs ds/\f ds:=by
 cases p with
 | tup sq l=>exact ⟨_,_,_,rfl,.inr sq,l,h⟩
 | ls sq l=>exact ⟨_,_,_,rfl,.inl sq.sq,l,h⟩
 | obj q=>
  obtain ⟨ds,e0,h⟩:=bN (show kL μ q _ from h)
  obtain ⟨xs,ex,l⟩:=m q _ e0
  exact ⟨q,xs,ds,rfl,.inl (SqL.of ex),l,h⟩
 | _=>exact WA h
theorem pQ (ho:LE X o To)(hi:LE X i Ti)
  (hbase:Y5 o "extend" X.env (XG o X.env)=XG o X.env:=by rfl)
  (hfew:((XM cpos (WI [i] X.env)).all (λx=>!x.1)&&(zaj cpos (YS [] X.env)).all (λx=>x.1.isSome)
   && decide (([i]:List W4).length+([]:List YW).length+(if ([]:List YW).isEmpty then 0 else 1) < 30))=true:=by rfl)
  (hline:(apos.endLine == cpos.line)=true:=by rfl) (hs:WI [i] X.env=(false,XG i X.env)::WI [] X.env:=by rfl) (hplain:(XM cpos (WI [] X.env)).any (·.1)=false:=by rfl) :
  LE X (.Call (.Attribute o "extend" apos) [i] [] cpos) (uD To Ti):=by
 obtain ⟨to,po,so⟩:=ho.ex
 obtain ⟨ti,pi,si⟩:=hi.ex
 refine ⟨_,xu Yi PySem.F.slot_list_extend PySem.F.type_list_extend L9 po (dU pi gX hs) hbase hfew hline hs hplain,λσ H ρ μ Q Q' rl h k=>so σ H ρ μ _ _ rl h λx H1 dx μ1 t1 m1 p1 h1=>?_⟩
 obtain ⟨q,rfl,h1⟩:=fk p1 h1
 obtain ⟨ds0,e0,h1⟩:=bN h1
 obtain ⟨xs0,ex0,_⟩:=m1 q _ e0
 refine ⟨.inl ⟨rfl,_,SqL.of ex0⟩,si σ H1 ρ μ1 _ _ (rl.go t1 m1) h1 λy H2 dy μ2 t2 m2 p2 h2=>?_⟩
 obtain ⟨q',ys,es,rfl,sq,l',h2⟩:=Gi m2 p2 h2
 obtain ⟨ds,e2,hz,h2⟩:=bN h2
 obtain ⟨xs,ex,l⟩:=m2 q _ e2
 exact ⟨q,q',xs,ys,rfl,rfl,ex,sq,by rw[l.length,l'.length];exact big hz,k _ _ _ _ ((t1.trans t2).trans (lB ex)) (JB m2 ex (l.append l')) .non h2⟩
end
end
theorem Nq (a b:ETr)(ρ:ST)(μ:Mu)(Q:DK):Ik a b ρ μ Q=a ρ μ λx μ1=>b ρ μ1 λy μ2=>kI x λi=>kI y λj=>((-4611686018427387904<=i/\i < 4611686018427387904)/\(-4611686018427387904<=j/\j < 4611686018427387904)/\(j - i).toNat<=1000000)/\Q (.tup (ck i (j - i).toNat)) μ2:=propext Wx
def PL (x y:D)(μ:Mu)(Q:DK):Prop:=match x with
 | .ls xs=>∃ ns:List Int,xs=ns.map .int/\(ns=[]->Q y μ)/\(ns≠[]->∀ M,M∈ns->(∀ a∈ns,a<=M)->Q (.int M) μ)
 | _=>False
theorem Nh (a b:ETr)(ρ:ST)(μ:Mu)(Q:DK):CU a b ρ μ Q=a ρ μ λx μ1=>b ρ μ1 λy μ2=>PL x y μ2 Q:=propext Wx
theorem HQ (a b:ETr)(ρ:ST)(μ:Mu)(Q:DK):u9 a b ρ μ Q=a ρ μ λx μ1=>tJ μ1 x λ_=>b ρ μ1 λy μ2=>tJ μ2 x λds=>(b7 38 ds=true/\okD 38 y=true)/\Q (.int (Bl ds y)) μ2:=propext Wx
theorem Ky (a b:ETr)(ρ:ST)(μ:Mu)(Q:DK):uD a b ρ μ Q=a ρ μ λx μ1=>kObj x λa=>kL μ1 a λ_=>b ρ μ1 λy μ2=>EI μ2 y λes=>kL μ2 a λds=>ds.length+es.length<=1000000/\Q .non (up μ2 a (.lst (ds++es))):=propext Wx
theorem OY (μ:Mu)(ds:List D)(f:List D->Prop):EI μ (.tup ds) f=f ds:=propext Wx
theorem Rj (μ:Mu)(ds:List D)(f:List D->Prop):EI μ (.ls ds) f=f ds:=propext Wx
def ENM (vs:List D)(μ:Mu)(Q:List D->Mu->Prop):Prop:=match vs with
 | [x]=>kS x λds=>Q (kG ds) μ
 | _=>False
theorem ME (t:ATr)(ρ:ST)(μ:Mu)(Q:List D->Mu->Prop):IV t ρ μ Q=t ρ μ λvs μ1=>ENM vs μ1 Q:=propext Wx
theorem Um (x:D)(μ:Mu)(Q:List D->Mu->Prop):ENM [x] μ Q=kS x λds=>Q (kG ds) μ:=propext Wx
def Oy (G:GTr)(tt:TTr)(te:ETr)(ρc:ST)(ds:List D)(μ:Mu)(Q:DK):Prop:=∀ p,μ p=none->fF p G tt te ρc (λμ'=>Q (.obj p) μ') ds (up μ p (.lst []))
theorem FF (it:ATr)(G:GTr)(tt:TTr)(te:ETr)(n:Nat)(caps:List Nat)(ρ:ST)(μ:Mu)(Q:DK):uZ it G tt te n caps ρ μ Q=it ρ μ λds μ1=>Oy G tt te (fc ρ n caps) ds μ1 Q:=propext Wx
theorem J6 (xs:List D)(μ:Mu)(Q:DK):gW qe [.tup xs] μ Q = ∃ ns:List Int,(xs=ns.map .int/\ns.length < 64)/\∀ ns':List Int,ns'.Perm ns->ns'.Pairwise (·<=·)->Q (.ls (ns'.map .int)) μ:=propext Wx
theorem K1 (xs:List D)(μ:Mu)(Q:DK):gW C5 [.ls xs] μ Q = ∃ ns:List Int,xs=ns.map .int/\Q (.int ns.sum) μ:=propext Wx
theorem Ud (o:Option Int)(μ Q):rIs (cS o) .non μ Q=Q (.bl (decide (o=none))) μ:=by cases o<;>simp[rIs,cS]
def mS (ns:List Int):List Int:=ns.mergeSort (λa b=>decide (a<=b))
theorem qu (ns:List Int):(mS ns).Perm ns:=List.mergeSort_perm ..
theorem Kh (ns:List Int):(mS ns).Pairwise (·<=·):=by
 have:=List.pairwise_mergeSort (le:=λa b:Int=>decide (a<=b)) (λa b c h1 h2=>by simp at *;omega) (λa b=>by simp;omega) ns
 exact this.imp λh=>by simpa using h
theorem oN:∀ {a b:List Int},a.Perm b->a.Pairwise (·<=·)->b.Pairwise (·<=·)->a=b
 | [],b,h,_,_=>(List.nil_perm.mp h).symm
 | x::a,[],h,_,_=>absurd h (by simp)
 | x::a,y::b,h,ha,hb=>by
  have ha':=ZG.mp ha
  have hb':=ZG.mp hb
  have hx:x∈y::b:=h.mem_iff.mp WS
  have hy:y∈x::a:=h.mem_iff.mpr WS
  have e:x=y:=by
   rcases WK.mp hx with e | e
   ·exact e
   ·rcases WK.mp hy with e' | e'
    ·exact e'.symm
    ·have h1:=ha'.1 y e'
     have h2:=hb'.1 x e
     omega
  subst e
  rw[oN ((List.perm_cons x).mp h) ha'.2 hb'.2]
theorem zT {a ns:List Int}(h:a.Perm ns)(s:a.Pairwise (·<=·)):a=mS ns:=oN (h.trans (qu ns).symm) s (Kh ns)
theorem ni (ns:List Int):(mS ns).length=ns.length:=(qu ns).length_eq
def own (n:Str)(ls:List Lt):List Lt:=ls.filter λl=>decide (l.nm=n)
def St'.und (x:St')(n:Str):Int:=(x.ws.map λw=>((own n (w.cm++w.st)).length:Int)).sum
def kr (lf:Option Int)(places:Int):Int:=match lf with
 | none=>places
 | some l=>min places l
def rgI (a:Int)(n:Nat):List Int:=(Xh n).map λ(i:Nat)=>a+(i:Int)
theorem TZ (a:Int)(n:Nat):ck a n=(rgI a n).map .int:=by unfold ck rgI;rw[WQ];rfl
def Ss.fill (x:Ss)(pl:Nat):Ss×List Int:=
 let c:=kr x.lf ((pl:Int) - ((x.ag.take pl).length:Int))
 (⟨x.nm,x.du,x.W,x.S,x.nx+c,x.lf.map (· - c),x.ag.drop (x.ag.take pl).length,x.lo,x.gd,x.mk',x.wt⟩,x.ag.take pl++rgI x.nx c.toNat)
def Ss.hd (x:Ss):Hd:=⟨x.gd,x.mk',x.lo.length,x.wt⟩
def Ss.rdy (g:Int)(R:RN)(x:Ss):Ss:=⟨x.nm,x.du,(R.beh g x.W x.S x.hd).1,(R.beh g x.W x.S x.hd).2,x.nx,x.lf,mS (x.ag++x.lo),[],0,0,0⟩
def Ss.bt (g:Int)(s:Sn)(x:Ss)(u:Int):Ss×List Int:=if x.du=some 0 then (x.rdy g s.rl).fill (max 0 ((s.rl.beh g x.W x.S x.hd).1 / g - u)).toNat else (x,[])
def fq (ns:List (List Int)):Nat:=(ns.map XQ).foldr max 0
def uF (ss:List Sn)(ns:List (List Int)):List (Str×Lt):=
 (Xh (fq ns)).flatMap λt=>(WM ss ns).filterMap λp=>p.2[t]?.map λn=>(p.1.rd.headD (OF ""),⟨p.1.nm,n,0,0,0⟩)
def sdD (x:Str×Lt):D:=.tup [.str x.1,x.2.toD]
structure Wt where
 ca:List Lt
 lo:List Lt
 ou:List Lt
 st:List Lt
 la:Str
def Wt.toD (x:Wt):D:=.tup [.tup (ltD x.ca),.tup (ltD x.lo),.tup (ltD x.ou),.tup (ltD x.st),.str x.la]
def pass (w:Wy)(ns:List Str)(k:Ws)(aY:List (Str×Lt)):Wt:=
 let ca:=k.cm++(aY.filter λx=>decide (x.1=w.nm)).map (·.2)
 let h:=tk w k.st ca
 let t:=eF w ns h.1 k.la
 ⟨ca,h.2,t.1,t.2.1,t.2.2⟩
def kx (ss:List Sn):List (L2.Key×D):=ss.map λs=>(.inr s.nm,.tup (s.rd.map .str))
def road (ss:List Sn)(n:Str):List Str:=((ss.find? λs=>decide (s.nm=n)).map Sn.rd).getD []
def dF (ss:List Sn)(l:Lt):Option Str:=(road ss l.nm)[l.hp.toNat+1]?
def xC:Option Str->D
 | none=>.non
 | some s=>.str s
structure Ev where
 wd:Str
 nm:Str
 nu:Int
 wy:Str
def Ev.toD (x:Ev):D:=.tup [.str x.wd,.str x.nm,.int x.nu,.str x.wy]
abbrev evD (xs:List Ev):List D:=xs.map Ev.toD
def evs (ss:List Sn)(w:Wy)(x:Wt):List Ev:=
 (x.ca.zipIdx.map λp=>⟨if (p.2:Int) < (x.ca.length:Int) - x.lo.length then OF "in" else OF "lost", p.1.nm,p.1.nu,w.nm⟩) ++
 x.ou.map λl=>⟨if dF ss l=none then OF "taken" else OF "out", l.nm,l.nu,w.nm⟩
def Lt.qg (x:Lt)(h:Int):Lt:=⟨x.nm,x.nu,x.ag+1,x.hp+h,x.mr⟩
def EX (ss:List Sn)(w:Wy)(x:Wt)(out:List Lt):Ws:=⟨(out.filter λl=>decide (dF ss l=some w.nm)).map (·.qg 1),x.st.map (·.qg 0),x.la⟩
def E2 (s:Sn)(d:Option Int):Option Int:=d.map λi=>if i=0 then s.bt - 1 else i - 1
def sQ (d:Int):List Int->Int
 | []=>d
 | a::r=>(a::r).tail.foldl max a
def oY (s:Sn)(x:Ss)(bD taken:List Lt):Ss:=
 let o:=own s.nm taken
 let m:=(o.map Lt.mr).sum
 ⟨x.nm,E2 s x.du,x.W,x.S,x.nx,x.lf,x.ag,mS (x.lo++(own s.nm bD).map Lt.nu),x.gd+o.length - m,x.mk'+m,max x.wt (sQ 0 (o.map λl=>l.ag - l.hp))⟩
def Pn.bS (p:Pn)(st:St'):List (Ss×List Int):=X0 (λs k=>k.bt p.g s (st.und k.nm)) p.ss st.ss
def Pn.aY (p:Pn)(st:St'):List (Str×Lt):=uF p.ss ((p.bS st).map (·.2))
def Pn.bT (p:Pn)(st:St'):List Wt:=X0 (λw k=>pass w p.sn k (p.aY st)) p.ws st.ws
def Pn.bD (p:Pn)(st:St'):List Lt:=(p.bT st).flatMap Wt.lo
def Pn.out (p:Pn)(st:St'):List Lt:=(p.bT st).flatMap Wt.ou
def Pn.taken (p:Pn)(st:St'):List Lt:=(p.out st).filter λl=>decide (dF p.ss l=none)
def Pn.step (p:Pn)(st:St'):St':=⟨X0 (λw x=>EX p.ss w x (p.out st)) p.ws (p.bT st),X0 (λs b=>oY s b.1 (p.bD st) (p.taken st)) p.ss (p.bS st)⟩
def Pn.evs (p:Pn)(st:St'):List Ev:=(p.aY st).map (λx=>⟨OF "sent", x.2.nm,x.2.nu,x.1⟩)++(X0 (λw x=>L3.evs p.ss w x) p.ws (p.bT st)).flatten
theorem U2 (x:Wt)(μ:Mu)(Q:DK):L3.rIx x.toD (.int 0) μ Q=Q (.tup (ltD x.ca)) μ:=propext Wx
theorem Vu (x:Wt)(μ:Mu)(Q:DK):L3.rIx x.toD (.int 1) μ Q=Q (.tup (ltD x.lo)) μ:=propext Wx
theorem VI (x:Wt)(μ:Mu)(Q:DK):L3.rIx x.toD (.int 2) μ Q=Q (.tup (ltD x.ou)) μ:=propext Wx
theorem Vk (x:Wt)(μ:Mu)(Q:DK):L3.rIx x.toD (.int 3) μ Q=Q (.tup (ltD x.st)) μ:=propext Wx
theorem VJ (x:Wt)(μ:Mu)(Q:DK):L3.rIx x.toD (.int 4) μ Q=Q (.str x.la) μ:=propext Wx
theorem UU (x:Ev)(μ:Mu)(Q:DK):L3.rIx x.toD (.int 0) μ Q=Q (.str x.wd) μ:=propext Wx
theorem U3 (x:Ev)(μ:Mu)(Q:DK):L3.rIx x.toD (.int 1) μ Q=Q (.str x.nm) μ:=propext Wx
theorem Uk (i0 i1:Nat)(x:Str×Lt)(ρ:ST)(μ:Mu)(k:ST->Mu->Prop):dh [i0,i1] (sdD x) ρ μ k=dh [i0,i1] (.tup [.str x.1,x.2.toD]) ρ μ k:=propext Wx
def RN.sh1 (R:RN)(g S:Int)(h:Hd):Int:=if R.idle h then S else R.shr g S h
theorem NO (R:RN)(g W S:Int)(h:Hd):(R.beh g W S h).2=R.sh1 g S h:=by
 unfold RN.beh RN.sh1;split<;>rfl
theorem OT {R:RN}(k:R.Ok){g S:Int}{h:Hd}(H:h.Ok)(g0:0 < g)(S0:0<=S)(S1:S<=g):0<=R.sh1 g S h/\R.sh1 g S h<=g:=by
 unfold RN.sh1
 split
 ·exact ⟨S0,S1⟩
 ·rename_i hn;exact HX k H hn g0 S0 S1
theorem LD {R:RN}(K:R.Ok){g:Int}(g0:0 < g)(x:Int):g<=R.clip g x/\R.clip g x<=R.cap g:=by
 have c2:=Jq K (g:=g) g0
 unfold RN.clip;omega
def SV:=Jn @Nq <| Jn @Nh <| Jn @HQ <| Jn @Ky <| Jn @OY <| Jn @Rj <| Jn @ME <| Jn @Um <| Jn @FF <| Jn @J6 <| Jn @K1 <| Jn @Ud <| Jn @U2 <| Jn @Vu <| Jn @VI <| Jn @Vk <| Jn @VJ <| Jn @UU <| Jn @U3 <| Jn @Uk <| @SD
local macro_rules | `(tactic| walk_at "go")=>zzS "↓L3.SV L3.DU ↓L3.zp ↓L3.yj ↓L3.yz ↓L3.xU ↓L3.xh ↓L3.xH ↓L3.ko ↓L3.iK L3.cx L3.bO L3.cj L3.cv L3.cw L3.b9 L3.cM L3.cG L3.bQ L3.cf L3.cc L3.cz L3.cy L3.cL L3.cu L3.cN L3.cq L3.cI L3.cp L3.cP L3.iV L3.uT L3.vh L3.fc List.map_cons List.map_nil List.replicate List.cons_append List.nil_append L3.lk L3.Fd L3.y3 L3.E4 L3.E1 L3.kg L3.fo L3.qH L3.kK L3.ur L3.uC L3.km L3.iw L3.nC L3.nH L3.ke L3.ka L3.kn L3.j3 true_and and_true and_self Bool.not_true Bool.not_false decide_true decide_false Bool.or_true Bool.or_false Bool.true_or Bool.false_or Bool.and_false Bool.false_and Bool.and_true Bool.true_and Int.reduceToNat Int.reducePow Int.reduceNeg Int.reduceSub Int.reduceAdd Int.reduceMul Int.reduceEq Int.reduceLT Int.reduceLE Int.reduceBEq L3.iq L3.fV L3.fL L3.fJ L3.fW L3.fP L3.fR L3.fK if_true if_false Bool.false_eq_true reduceCtorEq decide_eq_true_eq"
theorem fb {α β:Type}(p:α->Prop) [DecidablePred p] (f:α->β):∀ xs:List α,xs.filterMap (λx=>if p x then some (f x) else none)=(xs.filter λx=>decide (p x)).map f
 | []=>rfl
 | x::r=>by by_cases h:p x<;>simp[h,fb p f r]
theorem Jx {μ:Mu}{Q:DK}(ls:List Lt)(n:Str)(hl:ls.length<=900000)(ok:∀ x∈ls,WD x.nm=true)(hn:WD n=true)(k:Q (.ls (ltD (own n ls))) μ) :
  tH (aw 0) (TB (aj rEq (aj rIx (ah 0) (TC (.int 0))) (ah 1))) (ah 0) [none,some (.str n)] (ltD ls) μ Q:=by
 refine lV ls Lt.toD (λx=>if x.nm=n then some x.toD else none) rfl (by omega) (λx hx μ' _ N nn=>?_) ?_
 ·walk_at "go"
  refine ⟨⟨ok x hx,hn⟩,kif (λh=>?_) (λh=>?_)⟩
  ·rw[if_pos h] at nn;exact nn
  ·rw[if_neg h] at nn;exact nn
 ·rw[fb (λx:Lt=>x.nm=n) Lt.toD];exact k
def Ua (ls:List Lt):Prop:=∀ x∈ls,WD x.nm=true
structure Ws.Ok (w:Ws):Prop where
 n:Ua (w.cm++w.st)
 l:w.cm.length+w.st.length<=900000
def fT:FSp:=λds μ Q=>kcA ds λd ds=>kcS ds λn ds=>kcN ds (∃ (g:Int) (x:St'),(d=x.toD g/\(∀ w∈x.ws,w.Ok)/\WD n=true)/\Q (.int (x.und n)) μ)
theorem tI:∀ ds μ Q,fT ds μ Q->ds.length=2:=λ_ _ _ h=>lcA h λ_ _ h=>lcS h λ_ _ h=>by rw[(ecN h).1];rfl
def nW:STr:=ay (aN (TC (.int 0)) (aw 2)) (ay (iR (eg (aj L3.rIx (ah 0) (TC (.int 0)))) (aw 3) (MT (λm n=>m+n) 2 (aq cQ (af (bG (eg (aj aO (aj L3.rIx (ah 3) (TC (.int 0))) (aj L3.rIx (ah 3) (TC (.int 1))))) (aw 0) (TB (aj rEq (aj L3.rIx (ah 0) (TC (.int 0))) (ah 1))) (ah 0) 1 [1]) (ar))))) (aT (ah 2)))
theorem uV:∀ ds μ Q,fT ds μ Q->nW { nx:=λ_ μ'=>RT Q .non μ',rt:=RT Q } (ini 4 ds) μ:=by
 intro ds μ Q h
 replace h:=ecA h
 obtain ⟨d,ds,rfl,h⟩:=h
 replace h:=ecS h
 obtain ⟨n,ds,rfl,h⟩:=h
 replace h:=ecN h
 obtain ⟨rfl,h⟩:=h
 walk_at "ini"
 unfold nW
 walk_at "go"
 obtain ⟨g,x,⟨rfl,hw,hn⟩,k⟩:=h
 walk_at "go"
 refine bP (λr ρ μ'=>∃ (a c:List Ws) (v3:Option D),r=wsD c/\ρ=[some (x.toD g),some (.str n),some (.int (a.map λw=>((own n (w.cm++w.st)).length:Int)).sum),v3]/\μ'=μ/\a++c=x.ws) ?_ ?_ _ _ _ ⟨[],x.ws,_,rfl,rfl,rfl,rfl⟩
 ·rintro ρ μ' ⟨a,c,v3,er,rfl,rfl,e⟩
  have:c=[]:=by cases c with | nil=>rfl | cons=>cases er
  subst this
  rw[Xi] at e
  subst e
  walk_at "go"
  exact ⟨_,.refl _,k⟩
 ·rintro d r ρ μ' N ⟨a,c,v3,er,rfl,rfl,e⟩ hN
  cases c with
  | nil=>cases er
  | cons w c=>
  cases er
  have ho:=hw w (by rw[← e];simp)
  walk_at "go"
  have hl:=ho.l
  refine ⟨by simp;omega,?_⟩
  rw[← Xf]
  refine Jx (w.cm++w.st) n (by simp;omega) ho.n hn ?_
  walk_at "go"
  refine hN _ _ ⟨a++[w],c,some w.toD,rfl,?_,rfl,by rw[← e];simp⟩
  simp
def gw:FSp:=λds μ Q=>kcA ds λd ds=>kcI ds λn ds=>kcN ds (∃ (g:Int) (x:Ss),d=x.toD g/\Q (.int (kr x.lf n)) μ)
theorem uS:∀ ds μ Q,gw ds μ Q->ds.length=2:=λ_ _ _ h=>lcA h λ_ _ h=>lcI h λ_ _ h=>by rw[(ecN h).1];rfl
def rD:STr:=aT (lC (TB (aj rIs (aj L3.rIx (ah 0) (TC (.int 5))) (TC .non))) (ah 1) (aq uv (af (ah 1) (af (aj L3.rIx (ah 0) (TC (.int 5))) (ar)))))
theorem y8:∀ ds μ Q,gw ds μ Q->rD { nx:=λ_ μ'=>RT Q .non μ',rt:=RT Q } (ini 2 ds) μ:=by
 intro ds μ Q h
 replace h:=ecA h
 obtain ⟨d,ds,rfl,h⟩:=h
 replace h:=ecI h
 obtain ⟨n,ds,rfl,h⟩:=h
 replace h:=ecN h
 obtain ⟨rfl,h⟩:=h
 walk_at "ini"
 unfold rD
 walk_at "go"
 obtain ⟨g,x,rfl,k⟩:=h
 walk_at "go"
 unfold kr at k
 cases e:x.lf with
 | none=>rw[e] at k;exact sT (by simp) ⟨_,.refl _,k⟩
 | some l=>
  rw[e] at k
  refine zU (by simp) ?_
  show gW uv [.int n,.int l] μ _
  walk_at "go"
  exact ⟨_,.refl _,k⟩
theorem ML (g:Int)(x:Ss):cutD [.str x.nm,cS x.du,eR x.W g,eR x.S g,.int x.nx,cS x.lf,.tup (c8 x.ag),.tup (c8 x.lo),.int x.gd,.int x.mk',.int x.wt] none (some 4)=[.str x.nm,cS x.du,eR x.W g,eR x.S g]:=rfl
theorem M8 (g:Int)(x:Ss):cutD [.str x.nm,cS x.du,eR x.W g,eR x.S g,.int x.nx,cS x.lf,.tup (c8 x.ag),.tup (c8 x.lo),.int x.gd,.int x.mk',.int x.wt] (some 7) none=[.tup (c8 x.lo),.int x.gd,.int x.mk',.int x.wt]:=rfl
theorem N6 (g:Int)(x:Ss)(lo hi:Option Int)(μ:Mu)(Q:DK):rSl (x.toD g) lo hi μ Q=Q (.tup (cutD [.str x.nm,cS x.du,eR x.W g,eR x.S g,.int x.nx,cS x.lf,.tup (c8 x.ag),.tup (c8 x.lo),.int x.gd,.int x.mk',.int x.wt] lo hi)) μ:=propext Wx
def gR:FSp:=λds μ Q=>kcA ds λd ds=>kcI ds λn ds=>kcN ds (∃ (g:Int) (x:Ss) (m:Nat),(d=x.toD g/\n=m/\m<=1000/\(-4000000000000000000<=x.nx/\x.nx<=4000000000000000000)/\x.ag.length<=1000/\(∀ l,x.lf=some l->0<=l))/\Q (.tup [(x.fill m).1.toD g,.tup (c8 (x.fill m).2)]) μ)
theorem wm:∀ ds μ Q,gR ds μ Q->ds.length=2:=λ_ _ _ h=>lcA h λ_ _ h=>lcI h λ_ _ h=>by rw[(ecN h).1];rfl
def r8:STr:=ay (aN (TSl (aj L3.rIx (ah 0) (TC (.int 6))) (ONo) (ky (ah 1))) (aw 2)) (ay (aN (aq gw (af (ah 0) (af (aj je (ah 1) (aq cQ (af (ah 2) (ar)))) (ar)))) (aw 3)) (ay (aN (aj L3.rIx (ah 0) (TC (.int 4))) (aw 4)) (ay (aN (lC (TB (aj rIs (aj L3.rIx (ah 0) (TC (.int 5))) (TC .non))) (TC .non) (aj je (aj L3.rIx (ah 0) (TC (.int 5))) (ah 3))) (aw 5)) (ay (aN (aj aO (aj aO (TSl (ah 0) (ONo) (ky (TC (.int 4)))) (bh (af (aj aO (ah 4) (ah 3)) (af (ah 5) (af (TSl (aj L3.rIx (ah 0) (TC (.int 6))) (ky (aq cQ (af (ah 2) (ar)))) (ONo)) (ar)))))) (TSl (ah 0) (ky (TC (.int 7))) (ONo))) (aw 6)) (aT (bh (af (ah 6) (af (aj aO (ah 2) (Ik (ah 4) (aj aO (ah 4) (ah 3)))) (ar)))))))))
theorem zX:∀ ds μ Q,gR ds μ Q->r8 { nx:=λ_ μ'=>RT Q .non μ',rt:=RT Q } (ini 7 ds) μ:=by
 intro ds μ Q h
 replace h:=ecA h
 obtain ⟨d,ds,rfl,h⟩:=h
 replace h:=ecI h
 obtain ⟨n,ds,rfl,h⟩:=h
 replace h:=ecN h
 obtain ⟨rfl,h⟩:=h
 walk_at "ini"
 unfold r8
 walk_at "go"
 obtain ⟨g,x,m,⟨rfl,rfl,hm,⟨n0,n1⟩,ha,hl⟩,k⟩:=h
 simp only[↓N6]
 have c1:cutD (c8 x.ag) none (some (m:Int))=c8 (x.ag.take m):=by rw[vQ];exact zeo.symm
 have c2:∀ L:Nat,cutD (c8 x.ag) (some (L:Int)) none=c8 (x.ag.drop L):=λL=>by rw[mZ];exact zep.symm
 walk_at "go"
 simp only[c1,ML,M8,Ww,c2]
 refine ⟨g,x,rfl,?_⟩
 have tl:(x.ag.take m).length<=m:=by simp;omega
 have e1:(x.fill m).1.toD g=.tup ([.str x.nm,cS x.du,eR x.W g,eR x.S g]++[.int (x.nx+kr x.lf ((m:Int) - ((x.ag.take m).length:Int))),cS (x.lf.map (· - kr x.lf ((m:Int) - ((x.ag.take m).length:Int)))),.tup (c8 (x.ag.drop (x.ag.take m).length))]++[.tup (c8 x.lo),.int x.gd,.int x.mk',.int x.wt]):=rfl
 have e2:c8 (x.fill m).2=c8 (x.ag.take m)++ck x.nx (kr x.lf ((m:Int) - ((x.ag.take m).length:Int))).toNat:=by rw[TZ,← Xf];rfl
 rw[e1,e2] at k
 have c0:0<=kr x.lf ((m:Int) - ((x.ag.take m).length:Int))/\kr x.lf ((m:Int) - ((x.ag.take m).length:Int))<=1000:=by
  unfold kr
  cases e:x.lf with
  | none=>simp only;omega
  | some l=>have:=hl l e;simp only;omega
 generalize kr x.lf ((m:Int) - ((x.ag.take m).length:Int))=c at *
 have e3:(x.nx+c - x.nx).toNat=c.toNat:=by congr 1;omega
 walk_at "go"
 rw[e3]
 cases e:x.lf with
 | none=>
  rw[e] at k
  refine sT rfl ⟨by simp,by simp,⟨⟨by omega,by omega⟩,⟨by omega,by omega⟩,by omega⟩,?_,_,.refl _,k⟩
  rw[cX];omega
 | some l=>
  rw[e] at k
  refine zU nofun ?_
  walk_at "go"
  refine ⟨by simp,by simp,⟨⟨by omega,by omega⟩,⟨by omega,by omega⟩,by omega⟩,?_,_,.refl _,k⟩
  rw[cX];omega
structure Ss.Ok (g:Int) (R:RN) (x:Ss):Prop where
 n:WD x.nm=true
 w0:g<=x.W
 w1:x.W<=R.cap g
 s0:0<=x.S
 s1:x.S<=g
 h:x.hd.Ok
 n0:-4000000000000000000<=x.nx
 n1:x.nx<=4000000000000000000
 a:x.ag.length+x.lo.length<=60
 l:∀ i,x.lf=some i->0<=i
theorem Us (st:St')(n:Str):0<=st.und n:=by
 unfold St'.und
 generalize st.ws=l
 induction l with
 | nil=>simp
 | cons a l ih=>simp only[WN,X4];omega
theorem Np (o:Option Int):eqD (cS o) (.int 0)=decide (o=some 0):=by cases o<;>simp[cS,eqD]
theorem FR {R:RN}(K:R.Ok){g W S:Int}(g0:0 < g)(h:Hd)(w0:g<=W)(w1:W<=R.cap g):g<=(R.beh g W S h).1/\(R.beh g W S h).1<=R.cap g:=by
 unfold RN.beh
 split
 ·exact ⟨w0,w1⟩
 ·exact LD K g0 _
def j8:FSp:=λds μ Q=>kcI ds λg ds=>kcA ds λsd ds=>kcA ds λkd ds=>kcA ds λtd ds=>kcN ds (∃ (s:Sn) (x:Ss) (st:St'),((sd=s.toD/\kd=x.toD g/\td=st.toD g)/\s.rl.Ok/\Gd g/\x.Ok g s.rl/\∀ w∈st.ws,w.Ok)/\Q (.tup [(x.bt g s (st.und x.nm)).1.toD g,.tup (c8 (x.bt g s (st.und x.nm)).2)]) μ)
theorem BD:∀ ds μ Q,j8 ds μ Q->ds.length=4:=λ_ _ _ h=>lcI h λ_ _ h=>lcA h λ_ _ h=>lcA h λ_ _ h=>lcA h λ_ _ h=>by rw[(ecN h).1];rfl
def yd:STr:=ay (bI (TB (aj rNe (aj L3.rIx (ah 2) (TC (.int 1))) (TC (.int 0)))) (aT (bh (af (ah 2) (af (bh (ar)) (ar))))) (a9)) (ay (aN (bh (af (aj L3.rIx (ah 2) (TC (.int 8))) (af (aj L3.rIx (ah 2) (TC (.int 9))) (af (aq cQ (af (aj L3.rIx (ah 2) (TC (.int 7))) (ar))) (af (aj L3.rIx (ah 2) (TC (.int 10))) (ar)))))) (aw 4)) (ay (aN (aq gy (af (aj L3.rIx (ah 1) (TC (.int 5))) (af (ah 0) (af (aj L3.rIx (ah 2) (TC (.int 2))) (af (aj L3.rIx (ah 2) (TC (.int 3))) (af (ah 4) (ar))))))) (aw 5)) (ay (aN (aq bu (af (aq qe (af (aj aO (aj L3.rIx (ah 2) (TC (.int 6))) (aj L3.rIx (ah 2) (TC (.int 7)))) (ar))) (ar))) (aw 6)) (ay (aN (bh (af (aj L3.rIx (ah 2) (TC (.int 0))) (af (aj L3.rIx (ah 2) (TC (.int 1))) (af (aj L3.rIx (ah 5) (TC (.int 0))) (af (aj L3.rIx (ah 5) (TC (.int 1))) (af (aj L3.rIx (ah 2) (TC (.int 4))) (af (aj L3.rIx (ah 2) (TC (.int 5))) (af (ah 6) (af (bh (ar)) (af (TC (.int 0)) (af (TC (.int 0)) (af (TC (.int 0)) (ar))))))))))))) (aw 7)) (aT (aq gR (af (ah 7) (af (aq ua (af (TC (.int 0)) (af (aj je (aq gx (af (aj L3.rIx (ah 5) (TC (.int 0))) (ar))) (aq fT (af (ah 3) (af (aj L3.rIx (ah 2) (TC (.int 0))) (ar))))) (ar)))) (ar)))))))))
theorem DP:∀ ds μ Q,j8 ds μ Q->yd { nx:=λ_ μ'=>RT Q .non μ',rt:=RT Q } (ini 8 ds) μ:=by
 intro ds μ Q h
 replace h:=ecI h
 obtain ⟨g,ds,rfl,h⟩:=h
 replace h:=ecA h
 obtain ⟨sd,ds,rfl,h⟩:=h
 replace h:=ecA h
 obtain ⟨kd,ds,rfl,h⟩:=h
 replace h:=ecA h
 obtain ⟨td,ds,rfl,h⟩:=h
 replace h:=ecN h
 obtain ⟨rfl,h⟩:=h
 walk_at "ini"
 unfold yd
 walk_at "go"
 obtain ⟨s,x,st,⟨⟨rfl,rfl,rfl⟩,K,G,X,hw⟩,k⟩:=h
 obtain ⟨g0,g1⟩:=id G
 have gp:0 < g:=by omega
 walk_at "go"
 refine ⟨by cases x.du<;>rfl,?_⟩
 rw[Np]
 unfold Ss.bt at k
 refine Vo (λhd=>?_) (λhd=>?_)
 ·rw[if_neg hd] at k
  exact ⟨_,.refl _,k⟩
 rw[if_pos hd] at k
 have cl:=Fv K gp
 have xa:=X.a;have w1:=X.w1;have w0:=X.w0
 rw[Ww]
 refine ⟨s.rl,x.W,x.S,x.hd,⟨⟨rfl,rfl⟩,K,X.h,G,⟨Ri _ gp,.of (by omega) (by omega)⟩,Ri _ gp,⟨X.s0,X.s1⟩⟩,λw z Vw Vz=>?_⟩
 have bi:=FR K gp x.hd (S:=x.S) w0 w1
 have e1:=JJ Vw
 have e2:=JJ Vz
 walk_at "go"
 refine ⟨by simp;omega,x.ag++x.lo,⟨by rw[Xf],by simp;omega⟩,λns' pm so=>?_⟩
 have e3:=zT pm so
 walk_at "go"
 refine ⟨_,_,⟨Vw,.of (by omega) (by omega)⟩,?_⟩
 walk_at "go"
 refine ⟨g,st,⟨rfl,hw,X.n⟩,?_⟩
 walk_at "go"
 have u0:=Us st x.nm
 have d60:(s.rl.beh g x.W x.S x.hd).1 / g<=60:=Y7 gp (by omega)
 have hm:max 0 ((s.rl.beh g x.W x.S x.hd).1 / g - st.und x.nm)=((max 0 ((s.rl.beh g x.W x.S x.hd).1 / g - st.und x.nm)).toNat:Int):=by omega
 rw[hm,e1,e2,e3]
 refine ⟨g,x.rdy g s.rl,_,⟨rfl,rfl,by omega,⟨X.n0,X.n1⟩,?_,X.l⟩,⟨_,.refl _,k⟩⟩
 show (mS (x.ag++x.lo)).length<=1000
 rw[ni,WG];omega
theorem Md {ns:List (List Int)}{n:List Int}(h:n∈ns):n.length<=fq ns:=by
 unfold fq
 induction ns with
 | nil=>cases h
 | cons a r ih=>
  rcases WK.mp h with rfl | h
  ·simp only[WN,zbQ];omega
  ·have:=ih h;simp only[WN,zbQ];omega
theorem CL {ns:List (List Int)}{k:Nat}(h:∀ n∈ns,n.length<=k):fq ns<=k:=by
 unfold fq
 induction ns with
 | nil=>simp
 | cons a r ih=>
  have h1:=h a WS
  have h2:=ih λn hn=>h n (W5 _ hn)
  simp only[WN,zbQ];omega
theorem K9 {ns:List (List Int)}{M:Int}(h:M∈ns.map λn=>(n.length:Int))(g:∀ a∈ns.map λn=>(n.length:Int),a<=M):M=fq ns:=by
 obtain ⟨n,hn,rfl⟩:=WE.mp h
 have h1:=Md hn
 have h2:fq ns<=n.length:=CL λm hm=>by have:=g _ (WE.mpr ⟨m,hm,rfl⟩);omega
 omega
def eT (t:Nat)(p:Sn×List Int):Option (Str×Lt):=p.2[t]?.map λn=>(p.1.rd.headD (OF ""),⟨p.1.nm,n,0,0,0⟩)
theorem pW (ss:List Sn)(ns:List (List Int)):uF ss ns=(Xh (fq ns)).flatMap λt=>(WM ss ns).filterMap (eT t):=rfl
abbrev nsD (ns:List (List Int)):List D:=ns.map λn=>.tup (c8 n)
def dk:FSp:=λds μ Q=>kcA ds λsd ds=>kcL ds λnd ds=>kcN ds (∃ (ss:List Sn) (ns:List (List Int)),((sd=.tup (snD ss)/\nd=nsD ns)/\ss.length<=100/\ns.length<=100/\(∀ n∈ns,n.length<=1000)/\∀ s∈ss,s.rd≠[])/\Q (.ls ((uF ss ns).map sdD)) μ)
theorem FH {ns:List (List Int)}{μ:Mu}{Q:DK}(k:Q (.int (fq ns:Nat)) μ):PL (.ls (ns.map λn=>.int (n.length:Int))) (.int 0) μ Q:=by
 refine ⟨ns.map λn=>(n.length:Int),by rw[WQ];rfl,λe=>?_,λ_ M h1 h2=>by rw[K9 h1 h2];exact k⟩
 rw[zcr.mp e] at k
 exact k
theorem EF (ss:List Sn)(ns:List (List Int)):X0 (λd e=>D.tup [d,e]) (snD ss) (nsD ns)=(WM ss ns).map λp=>.tup [p.1.toD,.tup (c8 p.2)]:=by
 simp only[snD,nsD,WM,zdB,zbs]
theorem l5:∀ ds μ Q,dk ds μ Q->ds.length=2:=λ_ _ _ h=>lcA h λ_ _ h=>lcL h λ_ _ h=>by rw[(ecN h).1];rfl
def i6:STr:=ay (aN (lF (ar)) (aw 2)) (ay (iR (fi (CU (bG (eg (ah 1)) (aw 0) (dA) (aq cQ (af (ah 0) (ar))) 1 []) (TC (.int 0)))) (aw 3) (iR (jK (af (ah 0) (af (ah 1) (ar)))) (dh [4,5]) (bI (TB (aj rLt (ah 3) (aq cQ (af (ah 5) (ar))))) (eU (mT (ah 2) (bh (af (aj L3.rIx (aj L3.rIx (ah 4) (TC (.int 1))) (TC (.int 0))) (af (bh (af (aj L3.rIx (ah 4) (TC (.int 0))) (af (aj L3.rIx (ah 5) (ah 3)) (af (TC (.int 0)) (af (TC (.int 0)) (af (TC (.int 0)) (ar))))))) (ar)))))) (a9)))) (aT (wu (ah 2))))
theorem nI:∀ ds μ Q,dk ds μ Q->i6 { nx:=λ_ μ'=>RT Q .non μ',rt:=RT Q } (ini 6 ds) μ:=by
 intro ds μ Q h
 replace h:=ecA h
 obtain ⟨sd,ds,rfl,h⟩:=h
 replace h:=ecL h
 obtain ⟨nd,ds,rfl,h⟩:=h
 replace h:=ecN h
 obtain ⟨rfl,h⟩:=h
 walk_at "ini"
 unfold i6
 walk_at "go"
 obtain ⟨ss,ns,⟨⟨rfl,rfl⟩,hs,hn,h1000,hrd⟩,k⟩:=h
 intro p hp
 walk_at "go"
 refine bB ns (λn=>.tup (c8 n)) (λn=>.int (n.length:Int)) rfl (by omega) (λn hn μ' _ N nn=>?_) ?_
 ·walk_at "go"
  rw[Ww]
  exact nn
 have m1:fq ns<=1000:=CL h1000
 walk_at "go"
 refine FH ?_
 walk_at "go"
 refine ⟨⟨by omega,by omega⟩,?_⟩
 rw[show ((fq ns:Int)).toNat=fq ns from rfl]
 refine bP (λr ρ μ'=>∃ (t:Nat) (acc:List (Str×Lt)) (v3 v4 v5:Option D),r=ck t (fq ns - t)/\t<=fq ns/\ρ=[some (.tup (snD ss)),some (.ls (nsD ns)),some (.obj p),v3,v4,v5]/\acc=(Xh t).flatMap (λt=>(WM ss ns).filterMap (eT t))/\acc.length<=t*100/\μ'=up μ p (.lst (acc.map sdD))) ?_ ?_ _ _ _ ⟨0,[],_,_,_,rfl,by omega,rfl,rfl,by simp,rfl⟩
 ·rintro ρ μ' ⟨t,acc,v3,v4,v5,er,ht,rfl,rfl,_,rfl⟩
  have et:t=fq ns:=by
   cases e:fq ns - t with
   | zero=>omega
   | succ n=>rw[e,oa] at er;cases er
  subst et
  walk_at "go"
  rw[← pW,sM hp]
  exact ⟨_,.refl _,k⟩
 ·rintro d r ρ μ' N ⟨t,acc,v3,v4,v5,er,ht,rfl,ea,la,rfl⟩ hN
  cases e:fq ns - t with
  | zero=>rw[e] at er;cases er
  | succ n=>
  rw[e,oa] at er
  cases er
  walk_at "go"
  rw[EF]
  have lz:(WM ss ns).length<=100:=by simp;omega
  refine bP (λr ρ μ'=>∃ (a c:List (Sn×List Int)) (v4 v5:Option D),r=c.map (λp=>.tup [p.1.toD,.tup (c8 p.2)])/\a++c=WM ss ns/\ρ=[some (.tup (snD ss)),some (.ls (nsD ns)),some (.obj p),some (.int t),v4,v5]/\μ'=up μ p (.lst ((acc++a.filterMap (eT t)).map sdD))) ?_ ?_ _ _ _ ⟨[],WM ss ns,_,_,rfl,rfl,rfl,by simp⟩
  ·rintro ρ μ' ⟨a,c,v4,v5,er,ez,rfl,rfl⟩
   have:c=[]:=by cases c with | nil=>rfl | cons=>cases er
   subst this
   rw[Xi] at ez
   subst ez
   refine hN _ _ ⟨t+1,_,_,_,_,?_,by omega,rfl,?_,?_,rfl⟩
   ·congr 1
    ·omega
   ·rw[ZA,XA,← ea];simp
   ·have:=Yh (eT t) (WM ss ns)
    rw[WG];omega
  ·rintro d r ρ μ' N ⟨a,c,v4,v5,er,ez,rfl,rfl⟩ hN
   cases c with
   | nil=>cases er
   | cons x c=>
   cases er
   obtain ⟨s,own⟩:=x
   have hx:(s,own)∈WM ss ns:=by rw[← ez];simp
   have hs':s∈ss:=(W0 hx).1
   walk_at "go"
   rw[Ww]
   obtain ⟨fw,rw',erd⟩:∃ fw rw',s.rd=fw::rw':=by
    cases e:s.rd with
    | nil=>exact absurd e (hrd s hs')
    | cons a b=>exact ⟨a,b,rfl⟩
   refine kif (λhc=>?_) (λhc=>?_)
   ·have hc':t < own.length:=by omega
    have g1:(zc7 D.str s.rd)[0]? = some (.str fw):=by rw[erd];rfl
    have g2:atD (c8 own) (t:Int)=some (.int own[t]):=by rw[b8];simp[hc']
    have la':=Yh (eT t) a
    have az:a.length<=100:=by have:=congrArg XQ ez;simp at this;omega
    walk_at "go"
    rw[wV,g1]
    walk_at "go"
    rw[g2]
    walk_at "go"
    refine ⟨by simp;omega,hN _ _ ⟨a++[(s,own)],c,_,_,rfl,by rw[← ez];simp,rfl,?_⟩⟩
    have e3:eT t (s,own)=some (fw,⟨s.nm,own[t],0,0,0⟩):=by unfold eT;simp[hc',erd]
    rw[Xz,show [(s,own)].filterMap (eT t)=[(fw,⟨s.nm,own[t],0,0,0⟩)] by simp[e3]]
    simp[sdD,Lt.toD]
   ·have e3:eT t (s,own)=none:=by unfold eT;simp;omega
    refine hN _ _ ⟨a++[(s,own)],c,_,_,rfl,by rw[← ez];simp,rfl,?_⟩
    rw[Xz,show [(s,own)].filterMap (eT t)=[] by simp[e3],Xi]
def kf:FSp:=λds μ Q=>kcA ds λwd ds=>kcT ds λnd ds=>kcA ds λkd ds=>kcL ds λsd ds=>kcN ds (∃ (w:Wy) (ns:List Str) (k:Ws) (aY:List (Str×Lt)),((wd=w.toD/\nd=ns.map .str/\kd=k.toD/\sd=aY.map sdD)/\(WD w.nm=true/\∀ x∈aY,WD x.1=true)/\0<=w.pc/\(∀ n∈ns,WD n=true)/\(∀ l∈k.cm++k.st++aY.map (·.2),l.nm∈ns)/\k.cm.length+k.st.length+aY.length<=900000/\ns.length<=900000)/\Q (pass w ns k aY).toD μ)
theorem DO {μ:Mu}{Q:DK}(aY:List (Str×Lt)){w:Wy}(hl:aY.length<=900000)(ok:∀ x∈aY,WD x.1=true)(hn:WD w.nm=true)(k:Q (.ls (ltD ((aY.filter λx=>decide (x.1=w.nm)).map (·.2)))) μ) :
  tH (dh [0,1]) (TB (aj rEq (ah 0) (aj rIx (ah 2) (TC (.int 0))))) (ah 1) [none,none,some w.toD] (aY.map sdD) μ Q:=by
 refine lV aY sdD (λx=>if x.1=w.nm then some x.2.toD else none) rfl (by omega) (λx hx μ' _ N nn=>?_) ?_
 ·walk_at "go"
  refine ⟨⟨ok x hx,hn⟩,kif (λh=>?_) (λh=>?_)⟩
  ·rw[if_pos h] at nn;exact nn
  ·rw[if_neg h] at nn;exact nn
 ·rw[fb (λx:Str×Lt=>x.1=w.nm) (λx=>x.2.toD)];unfold ltD at k;rw[WQ] at k;exact k
theorem AY:∀ ds μ Q,kf ds μ Q->ds.length=4:=λ_ _ _ h=>lcA h λ_ _ h=>lcT h λ_ _ h=>lcA h λ_ _ h=>lcL h λ_ _ h=>by rw[(ecN h).1];rfl
def yE:STr:=ay (aN (aj aO (aj L3.rIx (ah 2) (TC (.int 0))) (aq bu (af (bG (eg (ah 3)) (dh [0,1]) (TB (aj rEq (ah 0) (aj L3.rIx (ah 2) (TC (.int 0))))) (ah 1) 2 [0]) (ar)))) (aw 4)) (ay (aN (aq gG (af (ah 0) (af (aj L3.rIx (ah 2) (TC (.int 1))) (af (ah 4) (ar))))) (aw 5)) (ay (aN (aq iZ (af (ah 0) (af (ah 1) (af (aj L3.rIx (ah 5) (TC (.int 0))) (af (aj L3.rIx (ah 2) (TC (.int 2))) (ar)))))) (aw 6)) (aT (bh (af (ah 4) (af (aj L3.rIx (ah 5) (TC (.int 1))) (af (aj L3.rIx (ah 6) (TC (.int 0))) (af (aj L3.rIx (ah 6) (TC (.int 1))) (af (aj L3.rIx (ah 6) (TC (.int 2))) (ar))))))))))
theorem D1:∀ ds μ Q,kf ds μ Q->yE { nx:=λ_ μ'=>RT Q .non μ',rt:=RT Q } (ini 7 ds) μ:=by
 intro ds μ Q h
 replace h:=ecA h
 obtain ⟨wd,ds,rfl,h⟩:=h
 replace h:=ecT h
 obtain ⟨nd,ds,rfl,h⟩:=h
 replace h:=ecA h
 obtain ⟨kd,ds,rfl,h⟩:=h
 replace h:=ecL h
 obtain ⟨sd,ds,rfl,h⟩:=h
 replace h:=ecN h
 obtain ⟨rfl,h⟩:=h
 walk_at "ini"
 unfold yE
 walk_at "go"
 obtain ⟨w,ns,x,aY,⟨⟨rfl,rfl,rfl,rfl⟩,⟨hw,hs⟩,pc,hn,hl,len,len2⟩,k⟩:=h
 walk_at "go"
 refine DO aY (by omega) hs hw ?_
 walk_at "go"
 have lf:=Yx (λx:Str×Lt=>decide (x.1=w.nm)) aY
 refine ⟨by simp only[Ww];omega,?_⟩
 rw[← Xf]
 generalize hca:x.cm++(aY.filter λx=>decide (x.1=w.nm)).map (·.2)=ca
 have lca:ca.length<=x.cm.length+aY.length:=by rw[← hca];simp only[WG,Ww];omega
 have nca:∀ l∈ca,l.nm∈ns:=λl h=>by
  rw[← hca] at h
  rcases Xr.mp h with h | h
  ·exact hl l (by simp[h])
  ·obtain ⟨y,hy,rfl⟩:=WE.mp h
   exact hl y.2 (Xb _ (WE.mpr ⟨y,(Xv.mp hy).1,rfl⟩))
 refine ⟨w,x.st,ca,⟨rfl,rfl,rfl,by omega⟩,?_⟩
 walk_at "go"
 have ln:=AW w ca x.st []
 have nn:=F5 w (λn=>n∈ns) ca x.st [] (λl h=>hl l (by simp[h])) (λl h=>nomatch h) nca
 refine ⟨w,ns,(tk w x.st ca).1,⟨rfl,λ_=>⟨.inl rfl,hn,nn.1,len2⟩,rfl,?_,pc⟩,?_⟩
 ·unfold tk;simp only[zaw] at ln;omega
 ·walk_at "go"
  subst hca
  exact ⟨_,.refl _,k⟩
theorem Fu {ss:List Sn}{n:Str}(h:n∈ss.map Sn.nm):cF (kx ss) (.inr n)=some (.tup ((road ss n).map .str)):=by
 unfold cF kx road
 induction ss with
 | nil=>cases h
 | cons s r ih=>
  by_cases e:s.nm=n
  ·simp[e]
  ·have h':n∈r.map Sn.nm:=by
    rcases WK.mp h with z | z
    ·exact absurd z.symm e
    ·exact z
   have:=ih h'
   simp only[WN,XB]
   have e1:decide ((Zk s.nm:L2.Key)=Zk n)=false:=by simp[e]
   have e2:decide (s.nm=n)=false:=by simp[e]
   rw[e1,e2]
   exact this
def cR:FSp:=λds μ Q=>kcO ds λr ds=>kcA ds λld ds=>kcN ds (∃ (ss:List Sn) (l:Lt),(ld=l.toD/\μ r=some (.dct (kx ss))/\l.nm∈ss.map Sn.nm/\0<=l.hp)/\Q (xC (dF ss l)) μ)
theorem qo:∀ ds μ Q,cR ds μ Q->ds.length=2:=λ_ _ _ h=>lcO h λ_ _ h=>lcA h λ_ _ h=>by rw[(ecN h).1];rfl
def mG:STr:=ay (aN (bK (ah 0) (aj L3.rIx (ah 1) (TC (.int 0)))) (aw 2)) (aT (lC (TB (aj rLt (aj aO (aj L3.rIx (ah 1) (TC (.int 3))) (TC (.int 1))) (aq cQ (af (ah 2) (ar))))) (aj L3.rIx (ah 2) (aj aO (aj L3.rIx (ah 1) (TC (.int 3))) (TC (.int 1)))) (TC .non)))
theorem sY:∀ ds μ Q,cR ds μ Q->mG { nx:=λ_ μ'=>RT Q .non μ',rt:=RT Q } (ini 3 ds) μ:=by
 intro ds μ Q h
 replace h:=ecO h
 obtain ⟨r,ds,rfl,h⟩:=h
 replace h:=ecA h
 obtain ⟨ld,ds,rfl,h⟩:=h
 replace h:=ecN h
 obtain ⟨rfl,h⟩:=h
 walk_at "ini"
 unfold mG
 walk_at "go"
 obtain ⟨ss,l,⟨rfl,er,hl,h0⟩,k⟩:=h
 walk_at "go"
 refine SM er (Od (Fu hl) ?_)
 obtain ⟨h,eh⟩:=ZO h0
 have e1:dF ss l=(road ss l.nm)[h+1]?:=by unfold dF;rw[eh];rfl
 rw[e1] at k
 walk_at "go"
 rw[Ww]
 refine kif (λhc=>?_) (λhc=>?_)
 ·have hc':h+1 < (road ss l.nm).length:=by omega
  rw[WO hc'] at k
  refine Od (d:=.str (road ss l.nm)[h+1]) ?_ ⟨_,.refl _,k⟩
  rw[eh,show ((h:Int)+1)=((h+1:Nat):Int) by omega,b8]
  simp[hc']
 ·rw[List.getElem?_eq_none (by omega)] at k
  exact ⟨_,.refl _,k⟩
theorem LN (ls:List Lt):kG (ltD ls)=ls.zipIdx.map λp=>.tup [.int (p.2:Nat),p.1.toD]:=by
 refine List.ext_getElem? λi=>?_
 rw[ug]
 simp[List.getElem?_zipIdx]
 cases ls[i]? <;> rfl
theorem Cz (o:Option Str)(μ:Mu)(Q:DK):rIs (xC o) .non μ Q=Q (.bl (decide (o=none))) μ:=by cases o<;>simp[rIs,xC]
def evA (w:Wy)(n:Int)(p:Lt×Nat):Ev:=⟨if (p.2:Int) < n then OF "in" else OF "lost", p.1.nm,p.1.nu,w.nm⟩
def evB (ss:List Sn)(w:Wy)(l:Lt):Ev:=⟨if dF ss l=none then OF "taken" else OF "out", l.nm,l.nu,w.nm⟩
theorem PB (ss:List Sn)(w:Wy)(x:Wt):evs ss w x=x.ca.zipIdx.map (evA w ((x.ca.length:Int) - x.lo.length))++x.ou.map (evB ss w):=rfl
def fS:FSp:=λds μ Q=>kcA ds λwd ds=>kcO ds λr ds=>kcA ds λtd ds=>kcN ds (∃ (w:Wy) (ss:List Sn) (x:Wt),((wd=w.toD/\td=x.toD)/\μ r=some (.dct (kx ss))/\(∀ l∈x.ou,l.nm∈ss.map Sn.nm/\0<=l.hp)/\x.ca.length+x.ou.length<=900000)/\Q (.ls (evD (evs ss w x))) μ)
theorem tR:∀ ds μ Q,fS ds μ Q->ds.length=3:=λ_ _ _ h=>lcA h λ_ _ h=>lcO h λ_ _ h=>lcA h λ_ _ h=>by rw[(ecN h).1];rfl
def nP:STr:=ay (aN (lF (ar)) (aw 3)) (ay (iR (IV (af (aj L3.rIx (ah 2) (TC (.int 0))) (ar))) (dh [4,5]) (ay (aN (lC (TB (aj rLt (ah 4) (aj je (aq cQ (af (aj L3.rIx (ah 2) (TC (.int 0))) (ar))) (aq cQ (af (aj L3.rIx (ah 2) (TC (.int 1))) (ar)))))) (TC (.str "in")) (TC (.str "lost"))) (aw 6)) (eU (mT (ah 3) (bh (af (ah 6) (af (aj L3.rIx (ah 5) (TC (.int 0))) (af (aj L3.rIx (ah 5) (TC (.int 1))) (af (aj L3.rIx (ah 0) (TC (.int 0))) (ar)))))))))) (ay (iR (eg (aj L3.rIx (ah 2) (TC (.int 2)))) (aw 5) (ay (aN (lC (TB (aj rIs (aq cR (af (ah 1) (af (ah 5) (ar)))) (TC .non))) (TC (.str "taken")) (TC (.str "out"))) (aw 6)) (eU (mT (ah 3) (bh (af (ah 6) (af (aj L3.rIx (ah 5) (TC (.int 0))) (af (aj L3.rIx (ah 5) (TC (.int 1))) (af (aj L3.rIx (ah 0) (TC (.int 0))) (ar)))))))))) (aT (wu (ah 3)))))
theorem wG:∀ ds μ Q,fS ds μ Q->nP { nx:=λ_ μ'=>RT Q .non μ',rt:=RT Q } (ini 7 ds) μ:=by
 intro ds μ Q h
 replace h:=ecA h
 obtain ⟨wd,ds,rfl,h⟩:=h
 replace h:=ecO h
 obtain ⟨r,ds,rfl,h⟩:=h
 replace h:=ecA h
 obtain ⟨td,ds,rfl,h⟩:=h
 replace h:=ecN h
 obtain ⟨rfl,h⟩:=h
 walk_at "ini"
 unfold nP
 walk_at "go"
 obtain ⟨w,ss,x,⟨⟨rfl,rfl⟩,er,ho,hl⟩,k⟩:=h
 intro p hp
 have npr:r≠p:=λz=>by rw[z,hp] at er;cases er
 walk_at "go"
 rw[LN]
 refine bP (λrr ρ μ'=>∃ (a c:List (Lt×Nat)) (v4 v5 v6:Option D),rr=c.map (λp=>.tup [.int (p.2:Nat),p.1.toD])/\a++c=x.ca.zipIdx/\ρ=[some w.toD,some (.obj r),some x.toD,some (.obj p),v4,v5,v6]/\μ'=up μ p (.lst (evD (a.map (evA w ((x.ca.length:Int) - x.lo.length)))))) ?_ ?_ _ _ _ ⟨[],x.ca.zipIdx,_,_,_,rfl,rfl,rfl,rfl⟩
 ·rintro ρ μ' ⟨a,c,v4,v5,v6,er',ez,rfl,rfl⟩
  have:c=[]:=by cases c with | nil=>rfl | cons=>cases er'
  subst this
  rw[Xi] at ez
  subst ez
  walk_at "go"
  refine bP (λrr ρ μ'=>∃ (a c:List Lt) (v4 v5 v6:Option D),rr=ltD c/\a++c=x.ou/\ρ=[some w.toD,some (.obj r),some x.toD,some (.obj p),v4,v5,v6]/\μ'=up μ p (.lst (evD (x.ca.zipIdx.map (evA w ((x.ca.length:Int) - x.lo.length))++a.map (evB ss w))))) ?_ ?_ _ _ _ ⟨[],x.ou,_,_,_,rfl,rfl,rfl,by simp⟩
  ·rintro ρ μ' ⟨a,c,v4,v5,v6,er',ez,rfl,rfl⟩
   have:c=[]:=by cases c with | nil=>rfl | cons=>cases er'
   subst this
   rw[Xi] at ez
   subst ez
   walk_at "go"
   rw[sM hp,← PB]
   exact ⟨_,.refl _,k⟩
  ·rintro d rr ρ μ' N ⟨a,c,v4,v5,v6,er',ez,rfl,rfl⟩ hN
   cases c with
   | nil=>cases er'
   | cons l c=>
   cases er'
   have hl':=ho l (by rw[← ez];simp)
   have la:a.length<=x.ou.length:=by rw[← ez];simp
   walk_at "go"
   refine ⟨ss,l,⟨rfl,by rw[aS npr];exact er,hl'.1,hl'.2⟩,?_⟩
   walk_at "go"
   rw[Cz]
   walk_at "go"
   have fin:∀ wd,wd=(if dF ss l=none then OF "taken" else OF "out")->(evD (x.ca.zipIdx.map (evA w ((x.ca.length:Int) - x.lo.length))++a.map (evB ss w))).length < 1000000/\N [some w.toD,some (.obj r),some x.toD,some (.obj p),v4,some l.toD,some (.str wd)] (up μ p (.lst (evD (x.ca.zipIdx.map (evA w ((x.ca.length:Int) - x.lo.length))++a.map (evB ss w))++[.tup [.str wd,.str l.nm,.int l.nu,.str w.nm]]))):=λwd e=>by
    refine ⟨by simp;omega,hN _ _ ⟨a++[l],c,_,_,_,rfl,by rw[← ez];simp,rfl,?_⟩⟩
    simp[evB,Ev.toD,e]
   refine kif (λh=>?_) (λh=>?_)
   ·walk_at "go"
    exact fin _ (by rw[if_pos h])
   ·walk_at "go"
    exact fin _ (by rw[if_neg h])
 ·rintro d rr ρ μ' N ⟨a,c,v4,v5,v6,er',ez,rfl,rfl⟩ hN
  cases c with
  | nil=>cases er'
  | cons y c=>
  cases er'
  obtain ⟨l,i⟩:=y
  have la:a.length<=x.ca.length:=by have:=congrArg XQ ez;simp at this;omega
  walk_at "go"
  simp only[Ww]
  have fin:∀ wd,wd=(if (i:Int) < (x.ca.length:Int) - x.lo.length then OF "in" else OF "lost")->(evD (a.map (evA w ((x.ca.length:Int) - x.lo.length)))).length < 1000000/\N [some w.toD,some (.obj r),some x.toD,some (.obj p),some (.int i),some l.toD,some (.str wd)] (up μ p (.lst (evD (a.map (evA w ((x.ca.length:Int) - x.lo.length)))++[.tup [.str wd,.str l.nm,.int l.nu,.str w.nm]]))):=λwd e=>by
   refine ⟨by simp;omega,hN _ _ ⟨a++[(l,i)],c,_,_,_,rfl,by rw[← ez];simp,rfl,?_⟩⟩
   simp[evA,Ev.toD,e]
  refine kif (λh=>?_) (λh=>?_)
  ·walk_at "go"
   have:=fin _ (by rw[if_pos h])
   simpa using this
  ·walk_at "go"
   have:=fin _ (by rw[if_neg h])
   simpa using this
def mj:FSp:=λds μ Q=>kcA ds λld ds=>kcI ds λh ds=>kcN ds (∃ l:Lt,ld=l.toD/\Q (l.qg h).toD μ)
theorem HV:∀ ds μ Q,mj ds μ Q->ds.length=2:=λ_ _ _ h=>lcA h λ_ _ h=>lcI h λ_ _ h=>by rw[(ecN h).1];rfl
def FQ:STr:=aT (bh (af (aj L3.rIx (ah 0) (TC (.int 0))) (af (aj L3.rIx (ah 0) (TC (.int 1))) (af (aj aO (aj L3.rIx (ah 0) (TC (.int 2))) (TC (.int 1))) (af (aj aO (aj L3.rIx (ah 0) (TC (.int 3))) (ah 1)) (af (aj L3.rIx (ah 0) (TC (.int 4))) (ar)))))))
theorem Lc:∀ ds μ Q,mj ds μ Q->FQ { nx:=λ_ μ'=>RT Q .non μ',rt:=RT Q } (ini 2 ds) μ:=by
 intro ds μ Q h
 replace h:=ecA h
 obtain ⟨ld,ds,rfl,h⟩:=h
 replace h:=ecI h
 obtain ⟨h0,ds,rfl,h⟩:=h
 replace h:=ecN h
 obtain ⟨rfl,h⟩:=h
 walk_at "ini"
 unfold FQ
 walk_at "go"
 obtain ⟨l,rfl,k⟩:=h
 walk_at "go"
 exact ⟨_,.refl _,k⟩
theorem Ly (o:Option Str)(n:Str):eqD (xC o) (.str n)=decide (o=some n):=by cases o<;>simp[xC,eqD]
theorem Mb (o:Option Str)(h:∀ n,o=some n->WD n=true):okD 40 (xC o)=true:=by
 cases o with
 | none=>rfl
 | some n=>simpa[xC,okD] using h n rfl
def fH:FSp:=λds μ Q=>kcA ds λwd ds=>kcO ds λr ds=>kcA ds λtd ds=>kcO ds λo ds=>kcN ds (∃ (w:Wy) (ss:List Sn) (x:Wt) (out:List Lt),((wd=w.toD/\td=x.toD)/\(μ r=some (.dct (kx ss))/\μ o=some (.lst (ltD out)))/\(∀ l∈out,l.nm∈ss.map Sn.nm/\0<=l.hp)/\(WD w.nm=true/\∀ s∈ss,∀ n∈s.rd,WD n=true)/\out.length<=900000/\x.st.length<=900000)/\Q (EX ss w x out).toD μ)
theorem Nu {ss:List Sn}(h:∀ s∈ss,∀ n∈s.rd,WD n=true){l:Lt}{n:Str}(e:dF ss l=some n):WD n=true:=by
 unfold dF road at e
 cases f:ss.find? λs=>decide (s.nm=l.nm) with
 | none=>rw[f] at e;simp at e
 | some s=>
  rw[f] at e
  exact h s (zaZ f) n (Ze e)
theorem tU:∀ ds μ Q,fH ds μ Q->ds.length=4:=λ_ _ _ h=>lcA h λ_ _ h=>lcO h λ_ _ h=>lcA h λ_ _ h=>lcO h λ_ _ h=>by rw[(ecN h).1];rfl
def oG:STr:=ay (aN (iT (ah 3) (aw 0) (TB (aj rEq (aq cR (af (ah 1) (af (ah 0) (ar)))) (aj L3.rIx (ah 2) (TC (.int 0))))) (aq mj (af (ah 0) (af (TC (.int 1)) (ar)))) 1 [1,0]) (aw 4)) (aT (bh (af (aq bu (af (ah 4) (ar))) (af (aq bu (af (bG (eg (aj L3.rIx (ah 2) (TC (.int 3)))) (aw 0) (dA) (aq mj (af (ah 0) (af (TC (.int 0)) (ar)))) 1 []) (ar))) (af (aj L3.rIx (ah 2) (TC (.int 4))) (ar))))))
theorem vB:∀ ds μ Q,fH ds μ Q->oG { nx:=λ_ μ'=>RT Q .non μ',rt:=RT Q } (ini 5 ds) μ:=by
 intro ds μ Q h
 replace h:=ecA h
 obtain ⟨wd,ds,rfl,h⟩:=h
 replace h:=ecO h
 obtain ⟨r,ds,rfl,h⟩:=h
 replace h:=ecA h
 obtain ⟨td,ds,rfl,h⟩:=h
 replace h:=ecO h
 obtain ⟨o,ds,rfl,h⟩:=h
 replace h:=ecN h
 obtain ⟨rfl,h⟩:=h
 walk_at "ini"
 unfold oG
 walk_at "go"
 obtain ⟨w,ss,x,out,⟨⟨rfl,rfl⟩,⟨er,eo⟩,ho,⟨hw,hs⟩,l1,l2⟩,k⟩:=h
 refine br eo ?_
 refine kq out Lt.toD (λl=>if dF ss l=some w.nm then some (l.qg 1).toD else none) rfl eo (by omega) (λl hl μ' sb N nn=>?_) ?_
 ·walk_at "go"
  refine ⟨ss,l,⟨rfl,sb _ _ er,(ho l hl).1,(ho l hl).2⟩,?_⟩
  walk_at "go"
  rw[Ly]
  refine ⟨⟨Mb _ λn e=>Nu hs e,hw⟩,kif (λh=>?_) (λh=>?_)⟩
  ·rw[if_pos h] at nn
   exact ⟨l,rfl,nn⟩
  ·rw[if_neg h] at nn;exact nn
 ·rw[fb (λl:Lt=>dF ss l=some w.nm) (λl=>(l.qg 1).toD)]
  walk_at "go"
  refine bB x.st Lt.toD (λl=>(l.qg 0).toD) rfl (by omega) (λl hl μ' sb N nn=>?_) ?_
  ·walk_at "go"
   exact ⟨l,rfl,nn⟩
  ·walk_at "go"
   refine ⟨_,.refl _,?_⟩
   unfold EX Ws.toD ltD at k
   simp only[WQ] at k
   exact k
def fO:FSp:=λds μ Q=>kcA ds λsd ds=>kcA ds λd ds=>kcN ds (∃ (s:Sn) (o:Option Int),(sd=s.toD/\d=cS o)/\Q (cS (E2 s o)) μ)
theorem tQ:∀ ds μ Q,fO ds μ Q->ds.length=2:=λ_ _ _ h=>lcA h λ_ _ h=>lcA h λ_ _ h=>by rw[(ecN h).1];rfl
def nV:STr:=ay (bI (TB (aj rIs (ah 1) (TC .non))) (aT (TC .non)) (a9)) (aT (lC (TB (aj rEq (ah 1) (TC (.int 0)))) (aj je (aj L3.rIx (ah 0) (TC (.int 2))) (TC (.int 1))) (aj je (ah 1) (TC (.int 1)))))
theorem u5:∀ ds μ Q,fO ds μ Q->nV { nx:=λ_ μ'=>RT Q .non μ',rt:=RT Q } (ini 2 ds) μ:=by
 intro ds μ Q h
 replace h:=ecA h
 obtain ⟨sd,ds,rfl,h⟩:=h
 replace h:=ecA h
 obtain ⟨d,ds,rfl,h⟩:=h
 replace h:=ecN h
 obtain ⟨rfl,h⟩:=h
 walk_at "ini"
 unfold nV
 obtain ⟨s,o,⟨rfl,rfl⟩,k⟩:=h
 cases o with
 | none=>
  simp only[cS]
  walk_at "go"
  exact ⟨_,.refl _,k⟩
 | some i=>
  simp only[cS]
  walk_at "go"
  by_cases h:i=0
  ·refine sT h ⟨_,.refl _,?_⟩
   have e:E2 s (some i)=some (s.bt - 1):=by simp[E2,h]
   rw[e] at k;exact k
  ·refine zU h ⟨_,.refl _,?_⟩
   have e:E2 s (some i)=some (i - 1):=by simp[E2,h]
   rw[e] at k;exact k
theorem xw {d M:Int}{ns:List Int}(ne:ns≠[])(h:M∈ns)(g:∀ a∈ns,a<=M):sQ d ns=M:=by
 have key:∀ (l:List Int) (a:Int),(∀ b∈a::l,b<=M)->M∈a::l->l.foldl max a=M:=by
  intro l
  induction l with
  | nil=>intro a h1 h2;simp at h2;exact h2.symm
  | cons b l ih=>
   intro a h1 h2
   rw[Y1]
   refine ih (max a b) (λc hc=>?_) ?_
   ·rcases WK.mp hc with rfl | hc
    ·have:=h1 a (by simp);have:=h1 b (by simp);omega
    ·exact h1 c (by simp[hc])
   ·have ha:=h1 a (by simp);have hb:=h1 b (by simp)
    rcases WK.mp h2 with e | h2
    ·have:max a b=M:=by omega
     rw[this];simp
    ·rcases WK.mp h2 with e | h2
     ·have:max a b=M:=by omega
      rw[this];simp
     ·simp[h2]
 cases ns with
 | nil=>exact absurd rfl ne
 | cons a l=>exact key l a g h
theorem Q7 {ns:List Int}{μ:Mu}{Q:DK}(k:Q (.int (sQ 0 ns)) μ):PL (.ls (ns.map .int)) (.int 0) μ Q:=by
 refine ⟨ns,rfl,λe=>?_,λne M h1 h2=>by rw[xw ne h1 h2] at k;exact k⟩
 rw[e] at k;exact k
theorem HL (g:Int)(x:Ss):cutD [.str x.nm,cS x.du,eR x.W g,eR x.S g,.int x.nx,cS x.lf,.tup (c8 x.ag),.tup (c8 x.lo),.int x.gd,.int x.mk',.int x.wt] (some 2) (some 7)=[eR x.W g,eR x.S g,.int x.nx,cS x.lf,.tup (c8 x.ag)]:=rfl
def dX:FSp:=λds μ Q=>kcA ds λsd ds=>kcA ds λkd ds=>kcO ds λlo ds=>kcL ds λtk ds=>kcN ds (∃ (g:Int) (s:Sn) (x:Ss) (bD taken:List Lt),((sd=s.toD/\kd=x.toD g/\tk=ltD taken)/\μ lo=some (.lst (ltD bD))/\(WD s.nm=true/\(∀ l∈bD,WD l.nm=true)/\∀ l∈taken,WD l.nm=true)/\(bD.length<=900000/\taken.length<=900000)/\x.lo.length+(own s.nm bD).length < 64)/\Q ((oY s x bD taken).toD g) μ)
theorem mX:∀ ds μ Q,dX ds μ Q->ds.length=4:=λ_ _ _ h=>lcA h λ_ _ h=>lcA h λ_ _ h=>lcO h λ_ _ h=>lcL h λ_ _ h=>by rw[(ecN h).1];rfl
def jQ:STr:=ay (aN (iT (ah 2) (aw 0) (TB (aj rEq (aj L3.rIx (ah 0) (TC (.int 0))) (aj L3.rIx (ah 1) (TC (.int 0))))) (aj L3.rIx (ah 0) (TC (.int 1))) 1 [0]) (aw 4)) (ay (aN (bG (eg (ah 3)) (aw 0) (TB (aj rEq (aj L3.rIx (ah 0) (TC (.int 0))) (aj L3.rIx (ah 1) (TC (.int 0))))) (ah 0) 1 [0]) (aw 5)) (ay (aN (aq C5 (af (bG (eg (ah 5)) (aw 0) (dA) (aj L3.rIx (ah 0) (TC (.int 4))) 1 []) (ar))) (aw 6)) (ay (aN (CU (bG (eg (ah 5)) (aw 0) (dA) (aj je (aj L3.rIx (ah 0) (TC (.int 2))) (aj L3.rIx (ah 0) (TC (.int 3)))) 1 []) (TC (.int 0))) (aw 7)) (ay (aN (bh (af (aj je (aj aO (aj L3.rIx (ah 1) (TC (.int 8))) (aq cQ (af (ah 5) (ar)))) (ah 6)) (af (aj aO (aj L3.rIx (ah 1) (TC (.int 9))) (ah 6)) (af (aq ua (af (aj L3.rIx (ah 1) (TC (.int 10))) (af (ah 7) (ar)))) (ar))))) (aw 8)) (ay (aN (bh (af (aj L3.rIx (ah 1) (TC (.int 0))) (af (aq fO (af (ah 0) (af (aj L3.rIx (ah 1) (TC (.int 1))) (ar)))) (ar)))) (aw 9)) (aT (aj aO (aj aO (aj aO (ah 9) (TSl (ah 1) (ky (TC (.int 2))) (ky (TC (.int 7))))) (bh (af (aq bu (af (aq qe (af (aj aO (aj L3.rIx (ah 1) (TC (.int 7))) (aq bu (af (ah 4) (ar)))) (ar))) (ar))) (ar)))) (ah 8))))))))
theorem pH:∀ ds μ Q,dX ds μ Q->jQ { nx:=λ_ μ'=>RT Q .non μ',rt:=RT Q } (ini 10 ds) μ:=by
 intro ds μ Q h
 replace h:=ecA h
 obtain ⟨sd,ds,rfl,h⟩:=h
 replace h:=ecA h
 obtain ⟨kd,ds,rfl,h⟩:=h
 replace h:=ecO h
 obtain ⟨lo,ds,rfl,h⟩:=h
 replace h:=ecL h
 obtain ⟨tk,ds,rfl,h⟩:=h
 replace h:=ecN h
 obtain ⟨rfl,h⟩:=h
 walk_at "ini"
 unfold jQ
 walk_at "go"
 obtain ⟨g,s,x,bD,taken,⟨⟨rfl,rfl,rfl⟩,el,⟨hn,h1,h2⟩,⟨l1,l2⟩,h64⟩,k⟩:=h
 refine br el ?_
 refine kq bD Lt.toD (λl=>if l.nm=s.nm then some (.int l.nu) else none) rfl el (by omega) (λl hl μ' sb N nn=>?_) ?_
 ·walk_at "go"
  refine ⟨⟨h1 l hl,hn⟩,kif (λh=>?_) (λh=>?_)⟩
  ·rw[if_pos h] at nn;exact nn
  ·rw[if_neg h] at nn;exact nn
 rw[fb (λl:Lt=>l.nm=s.nm) (λl=>D.int l.nu)]
 walk_at "go"
 refine lV taken Lt.toD (λl=>if l.nm=s.nm then some l.toD else none) rfl (by omega) (λl hl μ' sb N nn=>?_) ?_
 ·walk_at "go"
  refine ⟨⟨h2 l hl,hn⟩,kif (λh=>?_) (λh=>?_)⟩
  ·rw[if_pos h] at nn;exact nn
  ·rw[if_neg h] at nn;exact nn
 rw[fb (λl:Lt=>l.nm=s.nm) Lt.toD]
 have lo2:=Yx (λl:Lt=>decide (l.nm=s.nm)) taken
 walk_at "go"
 refine bB (own s.nm taken) Lt.toD (λl=>.int l.mr) rfl (by unfold own;omega) (λl hl μ' sb N nn=>?_) ?_
 ·walk_at "go"
  exact nn
 walk_at "go"
 refine ⟨(own s.nm taken).map Lt.mr,by rw[WQ];rfl,?_⟩
 walk_at "go"
 refine bB (own s.nm taken) Lt.toD (λl=>.int (l.ag - l.hp)) rfl (by unfold own;omega) (λl hl μ' sb N nn=>?_) ?_
 ·walk_at "go"
  exact nn
 walk_at "go"
 rw[show (own s.nm taken).map (λl=>D.int (l.ag - l.hp))=((own s.nm taken).map λl=>l.ag - l.hp).map .int by rw[WQ];rfl]
 refine Q7 ?_
 simp only[↓N6]
 walk_at "go"
 simp only[HL]
 refine ⟨s,x.du,⟨rfl,rfl⟩,?_⟩
 unfold own at h64
 have eo:(List.filter (λx:Lt=>decide (x.nm=s.nm)) bD).map (λl=>D.int l.nu)=((own s.nm bD).map Lt.nu).map .int:=by unfold own;rw[WQ];rfl
 refine ⟨by simp,by simp only[Ww];omega,x.lo++(own s.nm bD).map Lt.nu,⟨by rw[eo,Xf],by unfold own;rw[WG,Ww];exact h64⟩,λns' pm so=>?_⟩
 rw[zT pm so]
 refine ⟨by simp,by simp,_,.refl _,?_⟩
 have e:(oY s x bD taken).toD g=_:=rfl
 unfold oY Ss.toD own at k
 simp only[Ww]
 exact k
theorem JG {kvs:List (L2.Key×D)}{k:L2.Key}{d:D}(h:k ∉ kvs.map (·.1)):putD kvs k d=kvs++[(k,d)]:=by
 unfold putD
 refine if_neg λz=>?_
 obtain ⟨x,hx,e⟩:=Zn.mp z
 exact h (WE.mpr ⟨x,hx,by simpa using e⟩)
theorem uo:∀ (more kvs:List (L2.Key×D)),((kvs++more).map (·.1)).Nodup->jj kvs more=kvs++more
 | [],kvs,_=>by simp[jj]
 | (k,d)::r,kvs,h=>by
  have h1:k ∉ kvs.map (·.1):=λz=>by
   rw[Xf,WN,zdd] at h
   exact h.2.2 k z k (by simp) rfl
  show jj (putD kvs k d) r=_
  rw[JG h1,uo r _ (by simpa using h)]
  simp
theorem E9 {ss:List Sn}(h:(ss.map Sn.nm).Nodup):jj [] (kx ss)=kx ss:=by
 refine uo _ [] ?_
 rw[Zz]
 unfold kx
 rw[WQ]
 have:(ss.map ((λx:L2.Key×D=>x.1) ∘ λs=>((.inr s.nm,.tup (s.rd.map .str)):L2.Key×D)))=(ss.map Sn.nm).map Zk:=by rw[WQ];rfl
 rw[this]
 exact zdl _ (λa b (hab:a≠b) (z:Zk a=Zk b)=>hab (zez z)) h
theorem uq {α β:Type}(f:α->D)(g:β->D)(xs:List α)(ys:List β):X0 (λd e=>D.tup [d,e]) (xs.map f) (ys.map g)=(WM xs ys).map λy=>.tup [f y.1,g y.2]:=by
 simp only[WM,zdB,zbs]
theorem An {α:Type}{G:GTr}{te:ETr}{ρc:ST}{ds:List D}{μ:Mu}{Q:DK}(xs:List α)(t:α->D)(h:α->D)(hds:ds=xs.map t)(hl:xs.length<=999999)
  (step:∀ x∈xs,∀ μ',Sub μ μ'->∀ (N:DK),N (h x) μ'->G (t x) ρc μ' λρ1 μ1=>te ρ1 μ1 N)
  (k:∀ p,μ p=none->Q (.obj p) (up μ p (.lst (xs.map h)))):Oy G dA te ρc ds μ Q:=by
 subst hds
 intro p hp
 suffices go:∀ (r done:List α),done++r=xs->fF p G dA te ρc (λμ'=>Q (.obj p) μ') (r.map t) (up μ p (.lst (done.map h))) from go xs [] rfl
 intro r
 induction r with
 | nil=>
  intro done e
  rw[Xi] at e;subst e
  exact k p hp
 | cons d r ih=>
  intro done e
  have hd:d∈xs:=by rw[← e];simp
  have lf:(done.map h).length < 1000000:=by
   have:=congrArg XQ e
   simp at this ⊢;omega
  refine step d hd _ (Sub.new hp) _ (br aF ⟨lf,?_⟩)
  rw[iq]
  have:=ih (done++[d]) (by rw[← e];simp)
  rw[Xf] at this
  exact this
theorem wI {β:Type}(f:Wt->List β)(zs:List (Wy×Wt)):(zs.flatMap λy=>f y.2)=(zs.map (·.2)).flatMap f:=by rw[List.flatMap_map]
def btD (g:Int)(b:Ss×List Int):D:=.tup [b.1.toD g,.tup (c8 b.2)]
theorem cT {α β γ:Type}(f:α->β->γ)(xs:List α)(ys:List β):X0 f xs ys=(WM xs ys).map λp=>f p.1 p.2:=by
 simp[WM,zbs]
structure Ls (p:Pn) (st:St'):Prop where
 g:Gd p.g
 sd:p.sn.Nodup
 sl:p.ss.length<=100
 wl:p.ws.length<=100
 sn:∀ n∈p.sn,WD n=true
 rl:∀ s∈p.ss,s.rl.Ok/\s.rd≠[]/\∀ n∈s.rd,WD n=true
 wy:∀ w∈p.ws,WD w.nm=true/\0<=w.pc
 ws:∀ w∈st.ws,w.Ok
 ss:∀ y∈WM p.ss st.ss,y.2.Ok p.g y.1.rl
 nb:∀ b∈p.bS st,b.2.length<=1000
 se:∀ x∈p.aY st,WD x.1=true/\x.2.nm∈p.sn
 sz:(p.aY st).length<=100000
 wz:∀ w∈st.ws,(∀ l∈w.cm++w.st,l.nm∈p.sn)/\w.cm.length+w.st.length<=700000
 go:∀ x∈p.bT st,x.ca.length+x.ou.length<=900000/\x.st.length<=900000
 ou:∀ l∈p.out st,l.nm∈p.sn/\0<=l.hp
 lo:∀ l∈p.bD st,l.nm∈p.sn
 oz:(p.out st).length<=900000
 lz:(p.bD st).length<=900000
 ez:(p.evs st).length<=900000
 lt:∀ y∈WM p.ss (p.bS st),y.2.1.lo.length+(own y.1.nm (p.bD st)).length < 64
def eZ:FSp:=λds μ Q=>kcA ds λpd ds=>kcA ds λsd ds=>kcN ds (∃ (p:Pn) (st:St'),((pd=p.toD/\sd=st.toD p.g)/\Ls p st)/\Q (.tup [(p.step st).toD p.g,.ls (evD (p.evs st))]) μ)
theorem xG:∀ ds μ Q,eZ ds μ Q->ds.length=2:=λ_ _ _ h=>lcA h λ_ _ h=>lcA h λ_ _ h=>by rw[(ecN h).1];rfl
def uE:STr:=ay (aN (aj L3.rIx (ah 0) (TC (.int 2))) (aw 2)) (ay (aN (aq bu (af (bG (eg (ah 2)) (aw 0) (dA) (aj L3.rIx (ah 0) (TC (.int 0))) 1 []) (ar))) (aw 3)) (ay (aN (aq Dm (af (bG (eg (ah 2)) (aw 0) (dA) (bh (af (aj L3.rIx (ah 0) (TC (.int 0))) (af (aj L3.rIx (ah 0) (TC (.int 1))) (ar)))) 1 []) (ar))) (aw 4)) (ay (aN (bG (jK (af (ah 2) (af (aj L3.rIx (ah 1) (TC (.int 1))) (ar)))) (dh [0,1]) (dA) (aq j8 (af (aj L3.rIx (ah 3) (TC (.int 0))) (af (ah 0) (af (ah 1) (af (ah 2) (ar)))))) 2 [1,0]) (aw 5)) (ay (aN (aq dk (af (ah 2) (af (bG (eg (ah 5)) (dh [0,1]) (dA) (ah 1) 2 []) (ar)))) (aw 6)) (ay (aN (bG (jK (af (aj L3.rIx (ah 0) (TC (.int 1))) (af (aj L3.rIx (ah 1) (TC (.int 0))) (ar)))) (dh [0,1]) (dA) (aq kf (af (ah 0) (af (ah 2) (af (ah 1) (af (ah 3) (ar)))))) 2 [3,6]) (aw 7)) (ay (aN (uZ (eg (ah 6)) (dh [0,1]) (dA) (bh (af (TC (.str "sent")) (af (aj L3.rIx (ah 1) (TC (.int 0))) (af (aj L3.rIx (ah 1) (TC (.int 1))) (af (ah 0) (ar)))))) 2 []) (aw 8)) (ay (aN (lF (ar)) (aw 9)) (ay (aN (lF (ar)) (aw 10)) (ay (iR (jK (af (aj L3.rIx (ah 0) (TC (.int 1))) (af (ah 7) (ar)))) (dh [11,12]) (ay (eU (uD (ah 8) (aq fS (af (ah 11) (af (ah 4) (af (ah 12) (ar))))))) (ay (eU (uD (ah 9) (aj L3.rIx (ah 12) (TC (.int 1))))) (eU (uD (ah 10) (aj L3.rIx (ah 12) (TC (.int 2)))))))) (ay (aN (iT (ah 10) (aw 0) (TB (aj rIs (aq cR (af (ah 1) (af (ah 0) (ar)))) (TC .non))) (ah 0) 1 [4]) (aw 13)) (ay (aN (bG (jK (af (aj L3.rIx (ah 0) (TC (.int 1))) (af (ah 7) (ar)))) (dh [0,1]) (dA) (aq fH (af (ah 0) (af (ah 2) (af (ah 1) (af (ah 3) (ar)))))) 2 [4,10]) (aw 14)) (ay (aN (bG (jK (af (ah 2) (af (ah 5) (ar)))) (dh [0,1]) (dA) (aq dX (af (ah 0) (af (aj L3.rIx (ah 1) (TC (.int 0))) (af (ah 2) (af (ah 3) (ar)))))) 2 [9,13]) (aw 15)) (aT (bh (af (bh (af (aq bu (af (ah 14) (ar))) (af (aq bu (af (ah 15) (ar))) (ar)))) (af (wu (ah 8)) (ar)))))))))))))))))
theorem Cr:∀ ds μ Q,eZ ds μ Q->uE { nx:=λ_ μ'=>RT Q .non μ',rt:=RT Q } (ini 16 ds) μ:=by
 intro ds μ Q h
 replace h:=ecA h
 obtain ⟨pd,ds,rfl,h⟩:=h
 replace h:=ecA h
 obtain ⟨sd,ds,rfl,h⟩:=h
 replace h:=ecN h
 obtain ⟨rfl,h⟩:=h
 walk_at "ini"
 unfold uE
 walk_at "go"
 obtain ⟨p,st,⟨⟨rfl,rfl⟩,R⟩,k⟩:=h
 have sl:=R.sl
 walk_at "go"
 refine bB p.ss Sn.toD (λs=>.str s.nm) rfl (by omega) (λs hs μ' sb N nn=>?_) ?_
 ·walk_at "go"
  exact nn
 walk_at "go"
 refine bB p.ss Sn.toD (λs=>.tup [.str s.nm,.tup (s.rd.map .str)]) rfl (by omega) (λs hs μ' sb N nn=>?_) ?_
 ·walk_at "go"
  exact nn
 walk_at "go"
 refine ⟨kx p.ss,by unfold kx;rw[WQ];rfl,by unfold kx;rw[Ww];omega,λr hr=>?_⟩
 rw[E9 R.sd]
 walk_at "go"
 rw[uq]
 have lz:∀ {α β:Type} (xs:List α) (ys:List β),(WM xs ys).length<=xs.length:=λxs ys=>by simp;omega
 refine bB (WM p.ss st.ss) (λy=>.tup [y.1.toD,y.2.toD p.g]) (λy=>btD p.g (y.2.bt p.g y.1 (st.und y.2.nm))) rfl (by have:=lz p.ss st.ss;omega) (λy hy μ' sb N nn=>?_) ?_
 ·walk_at "go"
  exact ⟨y.1,y.2,st,⟨⟨rfl,rfl,rfl⟩,(R.rl _ (W0 hy).1).1,R.g,R.ss y hy,R.ws⟩,nn⟩
 have eb:(WM p.ss st.ss).map (λy=>btD p.g (y.2.bt p.g y.1 (st.und y.2.nm)))=(p.bS st).map (btD p.g):=by unfold Pn.bS;rw[cT,WQ];rfl
 have lb:(p.bS st).length<=100:=by unfold Pn.bS;rw[XJ];omega
 rw[eb]
 walk_at "go"
 refine bB (p.bS st) (btD p.g) (λb=>.tup (c8 b.2)) rfl (by omega) (λb hb μ' sb N nn=>?_) ?_
 ·unfold btD
  walk_at "go"
  exact nn
 walk_at "go"
 refine ⟨p.ss,(p.bS st).map (·.2),⟨⟨rfl,by unfold nsD;rw[WQ];rfl⟩,sl,by rw[Ww];exact lb,λn hn=>?_,λs hs=>(R.rl s hs).2.1⟩,?_⟩
 ·obtain ⟨b,hb,rfl⟩:=WE.mp hn
  exact R.nb b hb
 rw[show uF p.ss ((p.bS st).map (·.2))=p.aY st from rfl]
 have sz:=R.sz
 have wl:=R.wl
 walk_at "go"
 rw[uq]
 refine bB (WM p.ws st.ws) (λy=>.tup [y.1.toD,y.2.toD]) (λy=>(pass y.1 p.sn y.2 (p.aY st)).toD) rfl (by have:=lz p.ws st.ws;omega) (λy hy μ' sb N nn=>?_) ?_
 ·walk_at "go"
  have hw:=R.wy _ (W0 hy).1
  have hk:=R.wz _ (W0 hy).2
  have len2:p.sn.length<=900000:=by unfold Pn.sn;rw[Ww];omega
  refine ⟨y.1,p.sn,y.2,p.aY st,⟨⟨rfl,by unfold Pn.sn;rw[WQ];rfl,rfl,rfl⟩,⟨hw.1,λx hx=>(R.se x hx).1⟩,hw.2,R.sn,λl hl=>?_,by have:=hk.2;omega,len2⟩,nn⟩
  rcases Xr.mp hl with hl | hl
  ·exact hk.1 l hl
  ·obtain ⟨x,hx,rfl⟩:=WE.mp hl
   exact (R.se x hx).2
 have ew:(WM p.ws st.ws).map (λy=>(pass y.1 p.sn y.2 (p.aY st)).toD)=(p.bT st).map Wt.toD:=by unfold Pn.bT;rw[cT,WQ];rfl
 rw[ew]
 walk_at "go"
 refine An (p.aY st) sdD (λx=>(⟨OF "sent", x.2.nm,x.2.nu,x.1⟩:Ev).toD) rfl (by omega) (λx hx μ' sb N nn=>?_) (λe he=>?_)
 ·walk_at "go"
  exact nn
 walk_at "go"
 intro l hl o ho
 walk_at "go"
 rw[uq]
 have er0:up μ r (.dct (kx p.ss)) r=some (.dct (kx p.ss)):=aF
 generalize hμr:up μ r (.dct (kx p.ss))=μr at *
 have nre:r≠e:=λz=>by rw[← z,er0] at he;cases he
 have nel:e≠l:=λz=>by rw[← z,aF] at hl;cases hl
 have nlo:l≠o:=λz=>by rw[← z,aF] at ho;cases ho
 have hl':μr l=none:=by rw[aS (WX nel)] at hl;exact hl
 have ho1:up μr e (.lst ((p.aY st).map λx=>(⟨OF "sent", x.2.nm,x.2.nu,x.1⟩:Ev).toD)) o=none:=by rw[aS (WX nlo)] at ho;exact ho
 have neo:e≠o:=λz=>by rw[← z,aF] at ho1;cases ho1
 have ho':μr o=none:=by rw[aS (WX neo)] at ho1;exact ho1
 have nrl:r≠l:=λz=>by rw[← z,er0] at hl';cases hl'
 have nro:r≠o:=λz=>by rw[← z,er0] at ho';cases ho'
 have og:=R.go;have oe:=R.ez;have oz:=R.oz;have olz:=R.lz
 have Tr:∀ {a},a∈WM p.ws (p.bT st)->a.2∈p.bT st:=λh=>(W0 h).2
 have lw:(p.bT st).length<=p.ws.length:=by unfold Pn.bT;rw[XJ];omega
 have zw:(WM p.ws (p.bT st)).map (·.2)=p.bT st:=by
  rw[List.map_snd_zip];exact lw
 refine bP (λrr ρ μ'=>∃ (a c:List (Wy×Wt)) (v11 v12 v13 v14 v15:Option D),rr=c.map (λy=>.tup [y.1.toD,y.2.toD])/\a++c=WM p.ws (p.bT st)/\
  ρ=[some p.toD,some (st.toD p.g),some (.tup (snD p.ss)),some (.tup (p.ss.map λs=>.str s.nm)),some (.obj r),some (.ls ((p.bS st).map (btD p.g))),some (.ls ((p.aY st).map sdD)),some (.ls ((p.bT st).map Wt.toD)),some (.obj e),some (.obj l),some (.obj o),v11,v12,v13,v14,v15]/\
  (μ' e=some (.lst (evD ((p.aY st).map (λx=>⟨OF "sent", x.2.nm,x.2.nu,x.1⟩)++a.flatMap λy=>evs p.ss y.1 y.2)))/\μ' l=some (.lst (ltD (a.flatMap λy=>y.2.lo)))/\μ' o=some (.lst (ltD (a.flatMap λy=>y.2.ou))))/\∀ b,b≠e->b≠l->b≠o->μ' b=μr b) ?_ ?_ _ _ _
  ⟨[],WM p.ws (p.bT st),_,_,_,_,_,rfl,rfl,rfl,⟨?_,?_,?_⟩,λb h1 h2 h3=>?_⟩
 rotate_left 2
 ·rw[aS neo,aS nel,aF];simp
 ·rw[aS nlo,aF];rfl
 ·rw[aF];rfl
 ·rw[aS h3,aS h2,aS h1]
 ·rintro ρ μ' ⟨a,c,v11,v12,v13,v14,v15,er',ez,rfl,⟨ee,el,eo⟩,eq⟩
  have:c=[]:=by cases c with | nil=>rfl | cons=>cases er'
  subst this
  rw[Xi] at ez
  subst ez
  have el':μ' l=some (.lst (ltD (p.bD st))):=by rw[el,wI,zw];rfl
  have eo':μ' o=some (.lst (ltD (p.out st))):=by rw[eo,wI,zw];rfl
  have ee':μ' e=some (.lst (evD (p.evs st))):=by rw[ee];unfold Pn.evs;rw[cT];congr 3
  have er1:μ' r=some (.dct (kx p.ss)):=by rw[eq r nre nrl nro];exact er0
  have hnm:∀ {n},n∈p.sn->n∈p.ss.map Sn.nm:=λh=>h
  walk_at "go"
  refine br eo' ?_
  refine kq (p.out st) Lt.toD (λl=>if dF p.ss l=none then some l.toD else none) rfl eo' (by omega) (λy hy μ2 sb N nn=>?_) ?_
  ·walk_at "go"
   refine ⟨p.ss,y,⟨rfl,sb _ _ er1,hnm (R.ou y hy).1,(R.ou y hy).2⟩,?_⟩
   show rIs (xC (dF p.ss y)) .non μ2 _
   rw[Cz]
   walk_at "go"
   refine kif (λh=>?_) (λh=>?_)
   ·rw[if_pos h] at nn;exact nn
   ·rw[if_neg h] at nn;exact nn
  rw[fb (λl:Lt=>dF p.ss l=none) Lt.toD]
  rw[show (p.out st).filter (λl=>decide (dF p.ss l=none))=p.taken st from rfl]
  walk_at "go"
  rw[uq]
  refine bB (WM p.ws (p.bT st)) (λy=>.tup [y.1.toD,y.2.toD]) (λy=>(EX p.ss y.1 y.2 (p.out st)).toD) rfl (by have:=lz p.ws (p.bT st);omega) (λy hy μ2 sb N nn=>?_) ?_
  ·walk_at "go"
   have h1:=R.wy _ (W0 hy).1
   exact ⟨y.1,p.ss,y.2,p.out st,⟨⟨rfl,rfl⟩,⟨sb _ _ er1,sb _ _ eo'⟩,λx hx=>⟨hnm (R.ou x hx).1,(R.ou x hx).2⟩,⟨h1.1,λs hs=>(R.rl s hs).2.2⟩,R.oz,(R.go _ (Tr hy)).2⟩,nn⟩
  have e1:(WM p.ws (p.bT st)).map (λy=>(EX p.ss y.1 y.2 (p.out st)).toD)=wsD (p.step st).ws:=by unfold Pn.step wsD;simp only;rw[cT,WQ];rfl
  rw[e1]
  walk_at "go"
  rw[uq]
  have lt1:(p.taken st).length<=900000:=by have:=Yx (λl:Lt=>decide (dF p.ss l=none)) (p.out st);unfold Pn.taken;omega
  refine bB (WM p.ss (p.bS st)) (λy=>.tup [y.1.toD,btD p.g y.2]) (λy=>(oY y.1 y.2.1 (p.bD st) (p.taken st)).toD p.g) rfl (by have:=lz p.ss (p.bS st);omega) (λy hy μ2 sb N nn=>?_) ?_
  ·unfold btD
   walk_at "go"
   have hs:=(W0 hy).1
   refine ⟨p.g,y.1,y.2.1,p.bD st,p.taken st,⟨⟨rfl,rfl,rfl⟩,sb _ _ el',⟨R.sn _ (WE.mpr ⟨_,hs,rfl⟩),λx hx=>R.sn _ (R.lo x hx),λx hx=>R.sn _ (R.ou x (Xv.mp hx).1).1⟩,⟨R.lz,lt1⟩,R.lt y hy⟩,nn⟩
  have e2:(WM p.ss (p.bS st)).map (λy=>(oY y.1 y.2.1 (p.bD st) (p.taken st)).toD p.g)=ssD p.g (p.step st).ss:=by unfold Pn.step ssD;simp only;rw[cT,WQ];rfl
  rw[e2]
  walk_at "go"
  refine br ee' ?_
  refine ⟨μ,λb ob hb=>?_,k⟩
  have nb:∀ z,μr z=none->b≠z:=λz hz w=>by
   rw[w] at hb
   rw[← hμr] at hz
   by_cases hzr:z=r
   ·rw[hzr,hr] at hb;cases hb
   ·rw[aS hzr,hb] at hz;cases hz
  have n1:=nb e he
  have n2:=nb l hl'
  have n3:=nb o ho'
  unfold dn
  rw[if_neg n1,eq b n1 n2 n3,← hμr,aS (λw=>by rw[w,hr] at hb;cases hb)]
  exact hb
 ·rintro d rr ρ μ' N ⟨a,c,v11,v12,v13,v14,v15,er',ez,rfl,⟨ee,el,eo⟩,eq⟩ hN
  cases c with
  | nil=>cases er'
  | cons y c=>
  cases er'
  have hy:y∈WM p.ws (p.bT st):=by rw[← ez];simp
  have hyw:=Tr hy
  have er1:μ' r=some (.dct (kx p.ss)):=by rw[eq r nre nrl nro];exact er0
  walk_at "go"
  refine br ee ?_
  have hou:∀ x∈y.2.ou,x.nm∈p.ss.map Sn.nm/\0<=x.hp:=λx hx=>R.ou x (YR.mpr ⟨_,hyw,hx⟩)
  refine ⟨y.1,p.ss,y.2,⟨⟨rfl,rfl⟩,er1,hou,(og _ hyw).1⟩,?_⟩
  walk_at "go"
  have za:a++y::c=WM p.ws (p.bT st):=ez
  have le1:(evD ((p.aY st).map (λx=>⟨OF "sent", x.2.nm,x.2.nu,x.1⟩)++a.flatMap λy=>evs p.ss y.1 y.2)).length+(evD (evs p.ss y.1 y.2)).length<=1000000:=by
   have:(p.evs st).length=(p.aY st).length+((a++y::c).flatMap λy=>evs p.ss y.1 y.2).length:=by
    unfold Pn.evs;rw[cT,za,WG,Ww];rfl
   rw[XA,YD,WG,WG] at this
   simp only[Ww,WG];omega
  have ll1:(ltD (a.flatMap λy=>y.2.lo)).length+(ltD y.2.lo).length<=1000000:=by
   have:(p.bD st).length=((a++y::c).flatMap λy=>y.2.lo).length:=by unfold Pn.bD;rw[za,wI,zw]
   rw[XA,YD,WG,WG] at this
   simp only[Ww];omega
  have lo1:(ltD (a.flatMap λy=>y.2.ou)).length+(ltD y.2.ou).length<=1000000:=by
   have:(p.out st).length=((a++y::c).flatMap λy=>y.2.ou).length:=by unfold Pn.out;rw[za,wI,zw]
   rw[XA,YD,WG,WG] at this
   simp only[Ww];omega
  refine br ee ⟨le1,?_⟩
  walk_at "go"
  refine br (by rw[aS (WX nel)];exact el) (br (by rw[aS (WX nel)];exact el) ⟨ll1,?_⟩)
  walk_at "go"
  refine br (by rw[aS (WX nlo),aS (WX neo)];exact eo) (br (by rw[aS (WX nlo),aS (WX neo)];exact eo) ⟨lo1,?_⟩)
  refine hN _ _ ⟨a++[y],c,_,_,_,_,_,rfl,by rw[← ez];simp,rfl,⟨?_,?_,?_⟩,λb h1 h2 h3=>?_⟩
  ·rw[aS neo,aS nel,aF,XA];simp
  ·rw[aS nlo,aF,XA];simp
  ·rw[aF,XA];simp
  ·rw[aS h3,aS h2,aS h1,eq b h1 h2 h3]
theorem qP {α:Type}{f g:α->Nat}:∀ {l:List α},(∀ x∈l,f x<=g x)->(l.map f).sum<=(l.map g).sum
 | [],_=>WL _
 | a::r,h=>by
  have h1:=h a WS
  have h2:=qP (l:=r) λx hx=>h x (W5 _ hx)
  simp only[WN,X4];omega
theorem b6 {α:Type}(f g:α->Nat):∀ l:List α,(l.map λx=>f x+g x).sum=(l.map f).sum+(l.map g).sum
 | []=>rfl
 | a::r=>by have:=b6 f g r;simp only[WN,X4];omega
theorem kc {α:Type}{f:α->Nat}{k:Nat}:∀ {l:List α},(∀ x∈l,f x<=k)->(l.map f).sum<=l.length*k
 | [],_=>by simp
 | a::r,h=>by
  have h1:=h a WS
  have h2:=kc (l:=r) λx hx=>h x (W5 _ hx)
  simp only[WN,X4,W6,Nat.succ_mul];omega
theorem kW {α:Type}{f:α->Nat}:∀ {l:List α} {x:α},x∈l->f x<=(l.map f).sum
 | a::r,x,h=>by
  simp only[WN,X4]
  rcases WK.mp h with rfl | h
  ·omega
  ·have:=kW (f:=f) h;omega
theorem nK {κ:Type} [DecidableEq κ] (a:κ):∀ {ks:List κ},ks.Nodup->(ks.map λk=>if a=k then 1 else 0).sum<=1
 | [],_=>by simp
 | k::r,h=>by
  have h':=Xt.mp h
  simp only[WN,X4]
  by_cases e:a=k
  ·have:(r.map λk=>if a=k then 1 else 0).sum=0:=by
    have:∀ l:List κ,a ∉ l->(l.map λk=>if a=k then 1 else 0).sum=0:=by
     intro l
     induction l with
     | nil=>intro _;rfl
     | cons b l ih=>
      intro hl
      simp only[WK,not_or] at hl
      simp[hl.1,ih hl.2]
    exact this r (by rw[e];exact h'.1)
   rw[if_pos e,this];exact WL 1
  ·rw[if_neg e];have:=nK a h'.2;omega
theorem split_le {α κ:Type} [DecidableEq κ] (f:α->κ){ks:List κ}(nd:ks.Nodup):∀ xs:List α,(ks.map λk=>(xs.filter λx=>decide (f x=k)).length).sum<=xs.length
 | []=>by
  have:∀ l:List κ,(l.map λ_=>0).sum=0:=λl=>by induction l<;>simp_all
  simpa using this ks
 | x::r=>by
  have h1:=split_le f nd r
  have h2:=nK (f x) nd
  have e:(ks.map λk=>((x::r).filter λx=>decide (f x=k)).length)=ks.map λk=>(if f x=k then 1 else 0)+(r.filter λx=>decide (f x=k)).length:=by
   refine Xn λk _=>?_
   by_cases z:f x=k<;>simp[z];omega
  rw[e,b6,W6];omega
theorem A9 (ns:List Str):∀ ls:List Lt,(∀ l∈ls,l.nm∈ns)->ls.length<=(ns.map λn=>(own n ls).length).sum
 | [],_=>by simp
 | x::r,h=>by
  have h1:=A9 ns r λl hl=>h l (W5 _ hl)
  have hx:=h x WS
  have e:(ns.map λn=>(own n (x::r)).length)=ns.map λn=>(if x.nm=n then 1 else 0)+(own n r).length:=by
   refine Xn λk _=>?_
   unfold own
   by_cases z:x.nm=k<;>simp[z];omega
  have h2:1<=(ns.map λn=>if x.nm=n then 1 else 0).sum:=by
   have:=kW (f:=λn=>if x.nm=n then 1 else 0) hx
   simpa using this
  rw[e,b6,W6];omega
theorem vt (n:Str)(ls:List Lt):(own n ls).length=(ls.map Lt.nm).count n:=by
 unfold own
 induction ls with
 | nil=>rfl
 | cons x r ih=>by_cases z:x.nm=n<;>simp[z,ih]
theorem pP (n:Str)(a b:List Lt):(own n (a++b)).length=(own n a).length+(own n b).length:=by unfold own;simp
theorem rX:∀ {l:List Lt} {i:Nat} (h:i < l.length),([l[i]]++l.eraseIdx i).Perm l
 | x::r,0,_=>.refl _
 | x::r,i+1,h=>by
  have:=rX (l:=r) (i:=i) (by simpa using h)
  simp only[List.getElem_cons_succ,List.eraseIdx_cons_succ]
  exact (List.Perm.swap x _ _).trans (this.cons x)
theorem p9 (ws:List Str)(p:Int):∀ (f:Nat) (st out:List Lt) (l:Str),((eV ws p f st out l).1++(eV ws p f st out l).2.1).Perm (out++st)
 | 0,st,out,l=>.refl _
 | f+1,st,out,l=>by
  unfold eV
  split
  ·split
   ·rename_i n _
    split
    ·rename_i x e
     refine (p9 ws p f _ _ _).trans ?_
     obtain ⟨hi,rfl⟩:=Xc.mp e
     rw[zdm]
     exact zbX _ (rX hi)
    ·exact .refl _
   ·exact .refl _
  ·exact .refl _
theorem jO (w:Wy)(ws:List Str)(st:List Lt)(l:Str):((eF w ws st l).1++(eF w ws st l).2.1).Perm st:=by
 unfold eF
 split
 ·exact p9 ..
 ·simp only[List.take_append_drop];exact .refl _
theorem pL (w:Wy):∀ (ys a b:List Lt),(((ys.foldl (d8 w) (a,b)).1++(ys.foldl (d8 w) (a,b)).2).map Lt.nm).Perm ((a++b++ys).map Lt.nm)
 | [],a,b=>by simp
 | y::r,a,b=>by
  rw[Y1]
  by_cases h:w.rm<=(a.length:Int)
  ·rw[pR h]
   refine (pL w r a (b++[y])).trans (by simp)
  ·rw[Cv h]
   refine (pL w r (a++[rV w y a.length]) b).trans ?_
   simp only[Xf,WN,ZW,DA,zdm]
   refine zbX _ ?_
   exact (List.perm_middle (l₁:=zc7 Lt.nm b)).symm
def Lt.In (sn:List Str)(l:Lt):Prop:=l.nm∈sn/\0<=l.hp/\0<=l.mr/\l.mr<=1
theorem NJ {sn:List Str}{w:Wy}{x:Lt}(n:Nat)(h:x.In sn):(rV w x n).In sn:=by
 unfold rV
 split
 ·exact h
 ·split
  ·exact h
  ·exact ⟨h.1,h.2.1,(show (0:Int)<=1 by decide),Xp 1⟩
theorem Bt {sn:List Str}(w:Wy):∀ (ys a b:List Lt),(∀ l∈a,l.In sn)->(∀ l∈b,l.In sn)->(∀ l∈ys,l.In sn)->(∀ l∈(ys.foldl (d8 w) (a,b)).1,l.In sn)/\∀ l∈(ys.foldl (d8 w) (a,b)).2,l.In sn
 | [],a,b,h1,h2,_=>⟨h1,h2⟩
 | y::r,a,b,h1,h2,h3=>by
  rw[Y1]
  have hy:=h3 y WS
  have hr:∀ l∈r,l.In sn:=λl hl=>h3 l (W5 _ hl)
  by_cases h:w.rm<=(a.length:Int)
  ·rw[pR h]
   refine Bt w r a (b++[y]) h1 (λl hl=>?_) hr
   rcases Xr.mp hl with hl | hl
   ·exact h2 l hl
   ·rw[Yu.mp hl];exact hy
  ·rw[Cv h]
   refine Bt w r _ b (λl hl=>?_) h2 hr
   rcases Xr.mp hl with hl | hl
   ·exact h1 l hl
   ·rw[Yu.mp hl];exact NJ _ hy
theorem JT (w:Wy)(ns:List Str)(k:Ws)(aY:List (Str×Lt))(n:Str):(own n (pass w ns k aY).lo).length+(own n (pass w ns k aY).ou).length+(own n (pass w ns k aY).st).length=(own n (pass w ns k aY).ca).length+(own n k.st).length:=by
 have h1:=(pL w (pass w ns k aY).ca k.st []).count_eq n
 have h2:=((jO w ns (tk w k.st (pass w ns k aY).ca).1 k.la).map Lt.nm).count_eq n
 simp only[Xf,List.count_append,← vt] at h1 h2
 have e1:(pass w ns k aY).lo=(tk w k.st (pass w ns k aY).ca).2:=rfl
 have e2:(pass w ns k aY).ou=(eF w ns (tk w k.st (pass w ns k aY).ca).1 k.la).1:=rfl
 have e3:(pass w ns k aY).st=(eF w ns (tk w k.st (pass w ns k aY).ca).1 k.la).2.1:=rfl
 rw[e1,e2,e3]
 unfold tk at *
 have:(own n ([]:List Lt)).length=0:=rfl
 omega
theorem Jm (w:Wy)(ns:List Str)(k:Ws)(aY:List (Str×Lt)):(pass w ns k aY).lo.length+(pass w ns k aY).ou.length+(pass w ns k aY).st.length=(pass w ns k aY).ca.length+k.st.length:=by
 have h1:=(pL w (pass w ns k aY).ca k.st []).length_eq
 have h2:=(jO w ns (tk w k.st (pass w ns k aY).ca).1 k.la).length_eq
 simp only[Ww,WG,zaw] at h1 h2
 have e1:(pass w ns k aY).lo=(tk w k.st (pass w ns k aY).ca).2:=rfl
 have e2:(pass w ns k aY).ou=(eF w ns (tk w k.st (pass w ns k aY).ca).1 k.la).1:=rfl
 have e3:(pass w ns k aY).st=(eF w ns (tk w k.st (pass w ns k aY).ca).1 k.la).2.1:=rfl
 rw[e1,e2,e3]
 unfold tk at *
 omega
theorem Mq {sn:List Str}{w:Wy}{ns:List Str}{k:Ws}{aY:List (Str×Lt)}(hk:∀ l∈k.cm++k.st,l.In sn)(hs:∀ x∈aY,x.2.In sn):(∀ l∈(pass w ns k aY).ca,l.In sn)/\(∀ l∈(pass w ns k aY).lo,l.In sn)/\(∀ l∈(pass w ns k aY).ou,l.In sn)/\∀ l∈(pass w ns k aY).st,l.In sn:=by
 have hca:∀ l∈(pass w ns k aY).ca,l.In sn:=λl hl=>by
  rcases Xr.mp (show l∈k.cm++(aY.filter λx=>decide (x.1=w.nm)).map (·.2) from hl) with hl | hl
  ·exact hk l (by simp[hl])
  ·obtain ⟨x,hx,rfl⟩:=WE.mp hl
   exact hs x (Xv.mp hx).1
 have ht:=Bt w (pass w ns k aY).ca k.st [] (λl hl=>hk l (by simp[hl])) (λl hl=>nomatch hl) hca
 have hp:=jO w ns (tk w k.st (pass w ns k aY).ca).1 k.la
 refine ⟨hca,ht.2,λl hl=>ht.1 l (hp.mem_iff.mp (YB _ hl)),λl hl=>ht.1 l (hp.mem_iff.mp (Xb _ hl))⟩
theorem Kx {lf:Option Int}{k:Int}(k0:0<=k)(hl:∀ i,lf=some i->0<=i):0<=kr lf k/\kr lf k<=k/\∀ i,lf.map (· - kr lf k)=some i->0<=i:=by
 cases lf with
 | none=>exact ⟨k0,Xp _,λi h=>by cases h⟩
 | some l=>
  have:=hl l rfl
  refine ⟨?_,?_,λi h=>?_⟩
  ·show 0<=min k l;omega
  ·show min k l<=k;omega
  ·have e:l - min k l=i:=by simpa[kr] using h
   omega
theorem Nm (a:Int)(n:Nat):(rgI a n).length=n:=by unfold rgI;simp
structure Fills (x:Ss) (pl:Nat) (b:Ss×List Int):Prop where
 same:b.1.nm=x.nm/\b.1.du=x.du/\b.1.W=x.W/\b.1.S=x.S/\b.1.lo=x.lo/\b.1.gd=x.gd/\b.1.mk'=x.mk'/\b.1.wt=x.wt
 few:b.2.length<=pl
 all:b.1.ag.length+b.2.length<=max x.ag.length pl
 n0:x.nx<=b.1.nx
 n1:b.1.nx<=x.nx+pl
 l:∀ i,b.1.lf=some i->0<=i
theorem NN {x:Ss}(pl:Nat)(hl:∀ i,x.lf=some i->0<=i):Fills x pl (x.fill pl):=by
 have tl:(x.ag.take pl).length=min pl x.ag.length:=Z9
 obtain ⟨c0,c1,c2⟩:=Kx (lf:=x.lf) (k:=(pl:Int) - ((x.ag.take pl).length:Int)) (by omega) hl
 have e1:(x.fill pl).1.ag.length=x.ag.length - (x.ag.take pl).length:=by show (x.ag.drop _).length=_;rw[zaa]
 have e2:(x.fill pl).2.length=(x.ag.take pl).length+(kr x.lf ((pl:Int) - ((x.ag.take pl).length:Int))).toNat:=by show (x.ag.take pl++rgI _ _).length=_;rw[WG,Nm]
 have e3:(x.fill pl).1.nx=x.nx+kr x.lf ((pl:Int) - ((x.ag.take pl).length:Int)):=rfl
 refine ⟨⟨rfl,rfl,rfl,rfl,rfl,rfl,rfl,rfl⟩,by omega,by omega,by omega,by omega,c2⟩
structure SsI (g:Int) (R:RN) (n:Nat) (x:Ss):Prop where
 w0:g<=x.W
 w1:x.W<=R.cap g
 s0:0<=x.S
 s1:x.S<=g
 g0:0<=x.gd
 g1:x.gd<=60*n
 m0:0<=x.mk'
 m1:x.mk'<=60*n
 t0:0<=x.wt
 n0:0<=x.nx
 n1:x.nx<=60*n
 l:∀ i,x.lf=some i->0<=i
theorem SsI.ok {g:Int}{R:RN}{n:Nat}{x:Ss}(h:SsI g R n x)(hn:n<=10000)(nm:WD x.nm=true)(a:x.ag.length+x.lo.length<=60):x.Ok g R:=by
 have:=h.g1;have:=h.m1;have:=h.n1
 exact ⟨nm,h.w0,h.w1,h.s0,h.s1,⟨h.g0,(show x.gd<=1000000 by omega),h.m0,(show x.mk'<=1000000 by omega),(show (0:Int)<=(x.lo.length:Int) by omega),(show (x.lo.length:Int)<=1000000 by omega),h.t0⟩,by have:=h.n0;omega,by omega,a,h.l⟩
structure Dw (g:Int) (R:RN) (n:Nat) (u:Int) (x:Ss) (b:Ss×List Int):Prop where
 nm:b.1.nm=x.nm
 i:SsI g R (n+1) b.1
 g:b.1.gd<=60*n
 m:b.1.mk'<=60*n
 few:b.2.length<=60
 all:u+(b.2.length:Int)+(b.1.ag.length:Int)+(b.1.lo.length:Int)<=60
theorem Uy {p:Int}{s:Sn}{n:Nat}{x:Ss}{u:Int}(K:s.rl.Ok)(g0:0 < p)(h:SsI p s.rl n x)(hd:x.hd.Ok)(u0:0<=u)(a:u+(x.ag.length:Int)+(x.lo.length:Int)<=60):Dw p s.rl n u x (x.bt p s u):=by
 unfold Ss.bt
 have i:=h
 split
 ·have bi:=FR K g0 x.hd (S:=x.S) h.w0 h.w1
  have bs:=OT K hd g0 h.s0 h.s1
  rw[← NO s.rl p x.W x.S x.hd] at bs
  have cl:=Fv K g0
  have d60:(s.rl.beh p x.W x.S x.hd).1 / p<=60:=Y7 g0 (by omega)
  generalize hpl:(max 0 ((s.rl.beh p x.W x.S x.hd).1 / p - u)).toNat=pl
  have F:=NN (x:=x.rdy p s.rl) pl h.l
  have la:(x.rdy p s.rl).ag.length=x.ag.length+x.lo.length:=by show (mS _).length=_;rw[ni,WG]
  obtain ⟨e1,e2,e3,e4,e5,e6,e7,e8⟩:=F.same
  have f1:=F.few;have f2:=F.all;have f3:=F.n0;have f4:=F.n1
  have ex:(x.rdy p s.rl).nx=x.nx:=rfl
  have elo:((x.rdy p s.rl).fill pl).1.lo.length=0:=by rw[e5];rfl
  have:=h.n0;have:=h.n1
  have z6:((x.rdy p s.rl).fill pl).1.gd=0:=e6
  have z7:((x.rdy p s.rl).fill pl).1.mk'=0:=e7
  have z8:((x.rdy p s.rl).fill pl).1.wt=0:=e8
  refine ⟨e1,⟨?_,?_,?_,?_,by omega,by omega,by omega,by omega,by omega,by omega,by omega,F.l⟩,by omega,by omega,by omega,by omega⟩
  ·rw[e3];exact bi.1
  ·rw[e3];exact bi.2
  ·rw[e4];exact bs.1
  ·rw[e4];exact bs.2
 ·have:=h.g1;have:=h.m1;have:=h.n1
  exact ⟨rfl,⟨h.w0,h.w1,h.s0,h.s1,h.g0,(show x.gd<=60*((n+1:Nat):Int) by omega),h.m0,(show x.mk'<=60*((n+1:Nat):Int) by omega),h.t0,h.n0,(show x.nx<=60*((n+1:Nat):Int) by omega),h.l⟩,h.g1,h.m1,by simp,by simpa using a⟩
theorem JC {ss:List Sn}{ns:List (List Int)}{x:Str×Lt}(h:x∈uF ss ns):∃ s∈ss,∃ n,x=(s.rd.headD (OF ""),⟨s.nm,n,0,0,0⟩):=by
 rw[pW] at h
 obtain ⟨t,_,h⟩:=YR.mp h
 obtain ⟨y,hy,e⟩:=zaL.mp h
 unfold eT at e
 cases q:y.2[t]? with
 | none=>rw[q] at e;cases e
 | some n=>
  rw[q] at e
  cases e
  exact ⟨y.1,(W0 hy).1,n,rfl⟩
theorem yD (n:Str)(t:Nat):∀ zs:List (Sn×List Int),(own n ((zs.filterMap (eT t)).map (·.2))).length<=(zs.map λy=>if n=y.1.nm then 1 else 0).sum
 | []=>by simp[own]
 | y::r=>by
  have ih:=yD n t r
  simp only[WN,X4]
  cases e:eT t y with
  | none=>rw[zbe e];omega
  | some z=>
   rw[zbf e,WN]
   have ez:z.2.nm=y.1.nm:=by
    unfold eT at e
    cases q:y.2[t]? with
    | none=>rw[q] at e;cases e
    | some k=>rw[q] at e;cases e;rfl
   unfold own at *
   by_cases h:n=y.1.nm
   ·rw[if_pos h]
    rw[zac]
    split
    ·rw[W6];omega
    ·omega
   ·rw[if_neg h,zbt (by rw[ez];simp;exact λz=>h z.symm)];omega
theorem uN (n:Str)(t L:Nat)(hL:L<=t):∀ zs:List (Sn×List Int),(∀ y∈zs,y.1.nm=n->y.2.length<=L)->(own n ((zs.filterMap (eT t)).map (·.2))).length=0
 | [],_=>rfl
 | y::r,h=>by
  have ih:=uN n t L hL r λy hy=>h y (W5 _ hy)
  cases e:eT t y with
  | none=>rw[zbe e];exact ih
  | some z=>
   rw[zbf e,WN]
   unfold eT at e
   cases q:y.2[t]? with
   | none=>rw[q] at e;cases e
   | some k=>
    rw[q] at e;cases e
    have hlt:=(Xc.mp q).1
    have ne:¬ y.1.nm=n:=λz=>by have:=h y WS z;omega
    unfold own at *
    rw[zbt (by simpa using ne)]
    exact ih
theorem me {α:Type}(n:Str)(f:α->List Lt):∀ xs:List α,(own n (xs.flatMap f)).length=(xs.map λx=>(own n (f x)).length).sum
 | []=>rfl
 | x::r=>by rw[YD,pP,me n f r];rfl
theorem LJ (L:Nat):∀ M:Nat,((Xh M).map λt=>if t < L then 1 else 0).sum<=L
 | 0=>by simp
 | M+1=>by
  have key:∀ M:Nat,((Xh M).map λt=>if t < L then 1 else 0).sum=min M L:=by
   intro M
   induction M with
   | zero=>simp
   | succ M ih=>
    rw[ZA,Xf,zdS,ih]
    simp only[WN,ZW,X4,List.sum_nil]
    split<;>omega
  rw[key];omega
theorem Dd {α β:Type}:∀ (xs:List α) (ys:List β),((WM xs ys).map (·.1)) <+: xs
 | [],_=>by simp
 | x::r,[]=>by simp
 | x::r,y::s=>by simpa using Dd r s
theorem FW {ss:List Sn}{ns:List (List Int)}(nd:(ss.map Sn.nm).Nodup)(n:Str)(L:Nat)(h:∀ y∈WM ss ns,y.1.nm=n->y.2.length<=L):(own n ((uF ss ns).map (·.2))).length<=L:=by
 rw[pW,List.map_flatMap,me]
 refine Xu (qP (g:=λt=>if t < L then 1 else 0) λt _=>?_) (LJ L _)
 split
 ·refine Xu (yD n t _) ?_
  have e:((WM ss ns).map λy=>if n=y.1.nm then 1 else 0)=((WM ss ns).map (·.1.nm)).map λk=>if n=k then 1 else 0:=by rw[WQ];rfl
  rw[e]
  refine nK n ?_
  have e2:(WM ss ns).map (·.1.nm)=((WM ss ns).map (·.1)).map Sn.nm:=by rw[WQ];rfl
  rw[e2]
  exact nd.sublist (((Dd ss ns).sublist).map Sn.nm)
 ·rw[uN n t L (by omega) _ h];exact WL 0
def St'.jo (x:St')(n:Str):Nat:=(x.ws.map λw=>(own n (w.cm++w.st)).length).sum
theorem SR (x:St')(n:Str):x.und n=(x.jo n:Int):=by
 unfold St'.und St'.jo
 induction x.ws with
 | nil=>rfl
 | cons a l ih=>simp only[WN,X4,ih];omega
structure cY (p:Pn) (m:Int) (n:Nat) (st:St'):Prop where
 K:p.Ok m
 lw:st.ws.length=p.ws.length
 nm:st.ss.map Ss.nm=p.sn
 lt:∀ w∈st.ws,∀ l∈w.cm++w.st,l.In p.sn
 ss:∀ y∈WM p.ss st.ss,SsI p.g y.1.rl n y.2
 cn:∀ x∈st.ss,(st.jo x.nm:Int)+(x.ag.length:Int)+(x.lo.length:Int)<=60
theorem D3 {ns:List Str}(h:ns.Pairwise λa b=>ltS a b=true):ns.Nodup:=h.imp λ{a b} h e=>by
 subst e
 have:¬ a.cps.toList < a.cps.toList:=List.lt_irrefl _
 simp[ltS,this] at h
theorem l7 {α β:Type}{f:α->List β}{k:Nat}{l:List α}(h:∀ x∈l,(f x).length<=k):(l.flatMap f).length<=l.length*k:=by
 rw[List.length_flatMap];exact kc h
theorem mY {α β:Type}{f:α->β}{a b:α}:∀ {l:List α},(l.map f).Nodup->a∈l->b∈l->f a=f b->a=b
 | x::r,h,ha,hb,e=>by
  have h':=Xt.mp h
  rcases WK.mp ha with ea | ha
  ·rcases WK.mp hb with eb | hb
   ·rw[ea,eb]
   ·exact absurd (WE.mpr ⟨b,hb,by rw[← e,ea]⟩:f x∈r.map f) h'.1
  ·rcases WK.mp hb with eb | hb
   ·exact absurd (WE.mpr ⟨a,ha,by rw[e,eb]⟩:f x∈r.map f) h'.1
   ·exact mY h'.2 ha hb e
section
variable {p:Pn} {m:Int} {n:Nat} {st:St'} (I:cY p m n st)
include I
theorem cY.sd:p.sn.Nodup:=D3 I.K.sd
theorem cY.ls:st.ss.length=p.ss.length:=by have:=congrArg XQ I.nm;simpa using this
theorem cY.znm {y:Sn×Ss}(h:y∈WM p.ss st.ss):y.2.nm=y.1.nm:=by
 obtain ⟨i,hi,e⟩:=YL h
 have h1:i < p.ss.length:=by simp at hi;omega
 have h2:i < st.ss.length:=by simp at hi;omega
 have e1:=congrArg (λl=>l[i]?) I.nm
 simp[h1,h2] at e1
 rw[← e]
 simpa using e1
theorem cY.snm {a:Str}(h:a∈p.sn):∃ x∈st.ss,x.nm=a:=by rw[← I.nm] at h;obtain ⟨x,hx,e⟩:=WE.mp h;exact ⟨x,hx,e⟩
theorem cY.Sr {a:Str}(h:a∈p.sn):st.jo a<=60:=by
 obtain ⟨x,hx,rfl⟩:=I.snm h
 have:=I.cn x hx;omega
theorem cY.snl:p.sn.length<=8:=by unfold Pn.sn;rw[Ww];exact I.K.s1
theorem cY.MQ {w:Ws}(h:w∈st.ws):w.cm.length+w.st.length<=480:=by
 have h1:=A9 p.sn (w.cm++w.st) λl hl=>(I.lt w h l hl).1
 have h2:(p.sn.map λa=>(own a (w.cm++w.st)).length).sum<=p.sn.length*60:=kc λa ha=>by
  have:=I.Sr ha
  have:=kW (f:=λw:Ws=>(own a (w.cm++w.st)).length) h
  unfold St'.jo at *;omega
 have:=I.snl
 rw[WG] at h1;omega
theorem cY.sok {a:Str}(h:a∈p.sn):WD a=true:=by
 obtain ⟨s,hs,rfl⟩:=WE.mp h
 exact (I.K.s s hs).n
theorem cY.xok (hn:n<=10000){y:Sn×Ss}(h:y∈WM p.ss st.ss):y.2.Ok p.g y.1.rl:=by
 have hx:=(W0 h).2
 have c:=I.cn _ hx
 refine (I.ss y h).ok hn (I.sok ?_) (by omega)
 rw[I.znm h];exact WE.mpr ⟨_,(W0 h).1,rfl⟩
theorem cY.bt (hn:n<=10000){y:Sn×Ss}(h:y∈WM p.ss st.ss):Dw p.g y.1.rl n (st.jo y.2.nm) y.2 (y.2.bt p.g y.1 (st.und y.2.nm)):=by
 have hx:=(W0 h).2
 have hs:=(W0 h).1
 have c:=I.cn _ hx
 rw[SR]
 exact Uy (I.K.s _ hs).k (by have:=I.K.g.1;omega) (I.ss y h) (I.xok hn h).h (by omega) c
theorem cY.VL (hn:n<=10000){b:Ss×List Int}(h:b∈p.bS st):∃ y∈WM p.ss st.ss,b=y.2.bt p.g y.1 (st.und y.2.nm)/\Dw p.g y.1.rl n (st.jo y.2.nm) y.2 b:=by
 unfold Pn.bS at h
 rw[cT] at h
 obtain ⟨y,hy,rfl⟩:=WE.mp h
 exact ⟨y,hy,rfl,I.bt hn hy⟩
theorem cY.nb (hn:n<=10000){b:Ss×List Int}(h:b∈p.bS st):b.2.length<=60:=by obtain ⟨y,_,_,B⟩:=I.VL hn h;exact B.few
theorem cY.zb {y:Sn×(Ss×List Int)}(h:y∈WM p.ss (p.bS st)):∃ x,(y.1,x)∈WM p.ss st.ss/\y.2=x.bt p.g y.1 (st.und x.nm):=by
 obtain ⟨i,hi,e⟩:=YL h
 have h1:i < p.ss.length:=by simp at hi;omega
 have h2:i < st.ss.length:=by have:=I.ls;omega
 refine ⟨st.ss[i],?_,?_⟩
 ·have:i < (WM p.ss st.ss).length:=by simp;omega
  have hm:=Ye this
  rw[zai] at hm
  rw[← e];simpa using hm
 ·rw[← e]
  simp[Pn.bS]
theorem cY.zs {y:Sn×List Int}(h:y∈WM p.ss ((p.bS st).map (·.2))):∃ b,(y.1,b)∈WM p.ss (p.bS st)/\y.2=b.2:=by
 rw[zcU] at h
 obtain ⟨z,hz,rfl⟩:=WE.mp h
 exact ⟨z.2,hz,rfl⟩
theorem cY.N4 (hn:n<=10000){x:Ss}{s:Sn}(h:(s,x)∈WM p.ss st.ss):(own s.nm ((p.aY st).map (·.2))).length<=(x.bt p.g s (st.und x.nm)).2.length:=by
 refine FW I.sd s.nm _ λy hy e=>?_
 obtain ⟨b,hb,e2⟩:=I.zs hy
 obtain ⟨x',hx',e3⟩:=I.zb hb
 have e3':b=x'.bt p.g y.1 (st.und x'.nm):=e3
 have es:y.1=s:=mY (f:=Sn.nm) I.sd (W0 hx').1 (W0 h).1 e
 have ex:x'=x:=by
  refine mY (f:=Ss.nm) (by rw[I.nm];exact I.sd) (W0 hx').2 (W0 h).2 ?_
  have n1:x'.nm=y.1.nm:=I.znm hx'
  have n2:x.nm=s.nm:=I.znm h
  rw[n1,n2];exact e
 rw[e2,e3',es,ex]
 exact WL _
theorem cY.Vq {s:Sn}(h:s∈p.ss):∃ x,(s,x)∈WM p.ss st.ss:=by
 obtain ⟨i,hi,e⟩:=YL h
 have h2:i < st.ss.length:=by have:=I.ls;omega
 have:i < (WM p.ss st.ss).length:=by simp;omega
 have hm:=Ye this
 rw[zai] at hm
 exact ⟨_,by rw[← e];exact hm⟩
theorem cY.vJ {x:Str×Lt}(h:x∈p.aY st):x.2.In p.sn/\WD x.1=true:=by
 obtain ⟨s,hs,k,rfl⟩:=JC h
 have hk:=I.K.s s hs
 refine ⟨⟨WE.mpr ⟨s,hs,rfl⟩,Xp 0,Xp 0,(show (0:Int)<=1 by decide)⟩,?_⟩
 cases e:s.rd with
 | nil=>exact absurd e hk.r0
 | cons a r=>
  have:a∈p.wn:=hk.r.subset (by rw[e];simp)
  obtain ⟨w,hw,rfl⟩:=WE.mp this
  exact (I.K.w w hw).n
theorem cY.Ia (hn:n<=10000):(p.aY st).length<=480:=by
 have h1:=A9 p.sn ((p.aY st).map (·.2)) λl hl=>by obtain ⟨x,hx,rfl⟩:=WE.mp hl;exact (I.vJ hx).1.1
 have h2:(p.sn.map λa=>(own a ((p.aY st).map (·.2))).length).sum<=p.sn.length*60:=kc λa ha=>by
  obtain ⟨s,hs,rfl⟩:=WE.mp ha
  obtain ⟨x,hx⟩:=I.Vq hs
  exact Xu (I.N4 hn hx) (I.bt hn hx).few
 have:=I.snl
 rw[Ww] at h1;omega
theorem cY.Ig {x:Wt}(h:x∈p.bT st):∃ y∈WM p.ws st.ws,x=pass y.1 p.sn y.2 (p.aY st):=by
 unfold Pn.bT at h
 rw[cT] at h
 obtain ⟨y,hy,rfl⟩:=WE.mp h
 exact ⟨y,hy,rfl⟩
theorem cY.B5 {x:Wt}(h:x∈p.bT st):(∀ l∈x.ca,l.In p.sn)/\(∀ l∈x.lo,l.In p.sn)/\(∀ l∈x.ou,l.In p.sn)/\∀ l∈x.st,l.In p.sn:=by
 obtain ⟨y,hy,rfl⟩:=I.Ig h
 exact Mq (I.lt _ (W0 hy).2) λx hx=>(I.vJ hx).1
theorem cY.xp (hn:n<=10000){x:Wt}(h:x∈p.bT st):x.ca.length<=960/\x.lo.length+x.ou.length+x.st.length<=1440:=by
 obtain ⟨y,hy,rfl⟩:=I.Ig h
 have h1:=I.MQ (W0 hy).2
 have h2:=I.Ia hn
 have h3:=Jm y.1 p.sn y.2 (p.aY st)
 have h4:(pass y.1 p.sn y.2 (p.aY st)).ca.length<=y.2.cm.length+(p.aY st).length:=by
  show (y.2.cm++((p.aY st).filter λx=>decide (x.1=y.1.nm)).map (·.2)).length<=_
  rw[WG,Ww]
  have:=Yx (λx:Str×Lt=>decide (x.1=y.1.nm)) (p.aY st)
  omega
 omega
theorem cY.wl:(p.bT st).length<=6:=by unfold Pn.bT;rw[XJ];have:=I.K.w1;omega
end
theorem D2 {α:Type}(a b:α->Bool)(l:List α):(l.filter a).filter b=(l.filter b).filter a:=by
 rw[ZH,ZH];congr 1;funext x;exact Bool.and_comm ..
theorem Mj (n:Str)(q:Str×Lt->Bool)(l:List (Str×Lt)):(own n ((l.filter q).map (·.2))).length=((l.filter λx=>decide (x.2.nm=n)).filter q).length:=by
 unfold own
 rw[zbR,Ww,← D2]
 rfl
theorem yt (n:Str)(h:Int)(l:List Lt):(own n (l.map (·.qg h))).length=(own n l).length:=by
 rw[vt,vt,WQ];rfl
theorem qB {α β γ:Type}(P:α×β->γ):∀ (xs:List α) (ys:List β),WM xs ((WM xs ys).map P)=(WM xs ys).map λy=>(y.1,P y)
 | [],_=>by simp
 | x::r,[]=>by simp
 | x::r,y::s=>by simp[qB P r s]
theorem wC {α β:Type}:∀ {xs:List α} {ys:List β},xs.length<=ys.length->(WM xs ys).map (·.1)=xs
 | [],_,_=>by simp
 | x::r,[],h=>by simp at h
 | x::r,y::s,h=>by simp[wC (xs:=r) (ys:=s) (by simpa using h)]
theorem wq {α β:Type}:∀ {xs:List α} {ys:List β},ys.length<=xs.length->(WM xs ys).map (·.2)=ys
 | _,[],_=>by simp
 | [],y::s,h=>by simp at h
 | x::r,y::s,h=>by simp[wq (xs:=r) (ys:=s) (by simpa using h)]
theorem EJ (q:Lt->Bool)(n:Str)(l:List Lt):(own n (l.filter q)).length+(own n (l.filter λx=>!q x)).length=(own n l).length:=by
 unfold own
 induction l with
 | nil=>rfl
 | cons x r ih=>by_cases h1:q x<;>by_cases h2:x.nm=n<;>simp[h1,h2] at ih ⊢ <;> omega
theorem IK {p:Pn}{st:St'}(nd:p.wn.Nodup)(lw:st.ws.length=p.ws.length)(a:Str) :
  (p.step st).jo a+(own a (p.taken st)).length+(own a (p.bD st)).length<=st.jo a+(own a ((p.aY st).map (·.2))).length:=by
 generalize hZ:WM p.ws st.ws=Z
 have z1:Z.map (·.1)=p.ws:=by rw[← hZ];exact wC (by omega)
 have z2:Z.map (·.2)=st.ws:=by rw[← hZ];exact wq (by omega)
 let P:Wy×Ws->Wt:=λy=>pass y.1 p.sn y.2 (p.aY st)
 have ew:p.bT st=Z.map P:=by unfold Pn.bT;rw[cT,hZ]
 have el:(own a (p.bD st)).length=(Z.map λy=>(own a (P y).lo).length).sum:=by unfold Pn.bD;rw[me,ew,WQ];rfl
 have eo:(own a (p.out st)).length=(Z.map λy=>(own a (P y).ou).length).sum:=by unfold Pn.out;rw[me,ew,WQ];rfl
 have e3:(Z.map λy=>(own a (P y).lo).length).sum+(Z.map λy=>(own a (P y).ou).length).sum+(Z.map λy=>(own a (P y).st).length).sum=(Z.map λy=>(own a (P y).ca).length).sum+(Z.map λy=>(own a y.2.st).length).sum:=by
  rw[← b6,← b6,← b6]
  congr 1
  exact Xn λy _=>JT y.1 p.sn y.2 (p.aY st) a
 have e4:(Z.map λy=>(own a (P y).ca).length).sum<=(Z.map λy=>(own a y.2.cm).length).sum+(own a ((p.aY st).map (·.2))).length:=by
  have:(Z.map λy=>(own a (P y).ca).length)=Z.map λy=>(own a y.2.cm).length+(((p.aY st).filter λx=>decide (x.2.nm=a)).filter λx=>decide (x.1=y.1.nm)).length:=by
   refine Xn λy _=>?_
   show (own a (y.2.cm++((p.aY st).filter λx=>decide (x.1=y.1.nm)).map (·.2))).length=_
   rw[pP,Mj]
  rw[this,b6]
  have h2:=split_le (f:=λx:Str×Lt=>x.1) nd ((p.aY st).filter λx=>decide (x.2.nm=a))
  have h3:(Z.map λy=>(((p.aY st).filter λx=>decide (x.2.nm=a)).filter λx=>decide (x.1=y.1.nm)).length)=(p.wn.map λk=>(((p.aY st).filter λx=>decide (x.2.nm=a)).filter λx=>decide (x.1=k)).length):=by
   unfold Pn.wn;rw[← z1,WQ,WQ];rfl
  rw[h3]
  have h4:(own a ((p.aY st).map (·.2))).length=((p.aY st).filter λx=>decide (x.2.nm=a)).length:=by
   unfold own;rw[zbR,Ww];rfl
  omega
 have e5:st.jo a=(Z.map λy=>(own a y.2.cm).length).sum+(Z.map λy=>(own a y.2.st).length).sum:=by
  unfold St'.jo
  rw[← z2,WQ,← b6]
  congr 1
  exact Xn λy _=>pP ..
 have e6:(p.step st).jo a=(Z.map λy=>(own a ((p.out st).filter λl=>decide (dF p.ss l=some y.1.nm))).length).sum+(Z.map λy=>(own a (P y).st).length).sum:=by
  unfold St'.jo Pn.step
  simp only
  rw[cT,ew,← hZ,qB,hZ,WQ,WQ,← b6]
  congr 1
  refine Xn λy _=>?_
  show (own a (((p.out st).filter λl=>decide (dF p.ss l=some y.1.nm)).map (·.qg 1)++(P y).st.map (·.qg 0))).length=_
  rw[pP,yt,yt]
 have e7:(Z.map λy=>(own a ((p.out st).filter λl=>decide (dF p.ss l=some y.1.nm))).length).sum<=(own a ((p.out st).filter λl=>!decide (dF p.ss l=none))).length:=by
  have nd2:(p.wn.map some).Nodup:=zdl _ (λa b (h:a≠b) (z:some a=some b)=>h (Xq z)) nd
  have h2:=split_le (f:=dF p.ss) nd2 (own a ((p.out st).filter λl=>!decide (dF p.ss l=none)))
  rw[WQ] at h2
  have h3:(Z.map λy=>(own a ((p.out st).filter λl=>decide (dF p.ss l=some y.1.nm))).length)=p.wn.map ((λk=>((own a ((p.out st).filter λl=>!decide (dF p.ss l=none))).filter λx=>decide (dF p.ss x=k)).length) ∘ some):=by
   unfold Pn.wn
   rw[← z1,WQ,WQ]
   refine Xn λy _=>?_
   unfold own
   simp only[Function.comp,ZH]
   congr 2
   funext x
   by_cases h1:x.nm=a<;>cases h:dF p.ss x<;>simp[h1]
  rw[h3];exact h2
 have e8:=EJ (λl=>decide (dF p.ss l=none)) a (p.out st)
 have e9:(own a (p.taken st)).length=(own a ((p.out st).filter λl=>decide (dF p.ss l=none))).length:=rfl
 omega
theorem nj:∀ {l:List Lt},(∀ x∈l,0<=x.mr/\x.mr<=1)->0<=(l.map Lt.mr).sum/\(l.map Lt.mr).sum<=(l.length:Int)
 | [],_=>by simp
 | x::r,h=>by
  have h1:=h x WS
  have h2:=nj (l:=r) λx hx=>h x (W5 _ hx)
  simp only[WN,X4,W6];omega
section
variable {p:Pn} {m:Int} {n:Nat} {st:St'} (I:cY p m n st) (hn:n<=10000)
include I
theorem cY.xA {l:Lt}(h:l∈p.out st):l.In p.sn:=by
 obtain ⟨x,hx,hl⟩:=YR.mp h
 exact (I.B5 hx).2.2.1 l hl
theorem cY.QH {l:Lt}(h:l∈p.bD st):l.In p.sn:=by
 obtain ⟨x,hx,hl⟩:=YR.mp h
 exact (I.B5 hx).2.1 l hl
include hn
theorem cY.cons {s:Sn}{b:Ss×List Int}(h:(s,b)∈WM p.ss (p.bS st)):b.1.nm=s.nm/\SsI p.g s.rl (n+1) b.1/\b.1.gd<=60*n/\b.1.mk'<=60*n/\
  ((p.step st).jo s.nm:Int)+((own s.nm (p.taken st)).length:Int)+((own s.nm (p.bD st)).length:Int)+(b.1.ag.length:Int)+(b.1.lo.length:Int)<=60:=by
 obtain ⟨x,hx,e⟩:=I.zb h
 have e':b=x.bt p.g s (st.und x.nm):=e
 have B:Dw p.g s.rl n (st.jo x.nm) x (x.bt p.g s (st.und x.nm)):=I.bt hn hx
 have nm:x.nm=s.nm:=I.znm hx
 have c:=IK (p:=p) (st:=st) I.K.wd I.lw s.nm
 have d:(own s.nm ((p.aY st).map (·.2))).length<=(x.bt p.g s (st.und x.nm)).2.length:=I.N4 hn hx
 have a:=B.all
 rw[← e'] at B d a
 rw[nm] at a
 exact ⟨B.nm.trans nm,B.i,B.g,B.m,by omega⟩
theorem cY.rd:Ls p st:=by
 have w1:=I.K.w1;have s1:=I.K.s1
 have wl:=I.wl
 have sl:=I.Ia hn
 have lo:=l7 (f:=Wt.lo) (k:=1440) (l:=p.bT st) λx hx=>by have:=(I.xp hn hx).2;omega
 have ou:=l7 (f:=Wt.ou) (k:=1440) (l:=p.bT st) λx hx=>by have:=(I.xp hn hx).2;omega
 refine ⟨I.K.g,I.sd,by omega,by omega,λa ha=>I.sok ha,λs hs=>⟨(I.K.s s hs).k,(I.K.s s hs).r0,λa ha=>?_⟩,λw hw=>⟨(I.K.w w hw).n,by have:=(I.K.w w hw).p0;omega⟩,λw hw=>⟨λl hl=>I.sok (I.lt w hw l hl).1,by have:=I.MQ hw;omega⟩,
  λy hy=>I.xok hn hy,λb hb=>by have:=I.nb hn hb;omega,λx hx=>⟨(I.vJ hx).2,(I.vJ hx).1.1⟩,by omega,λw hw=>⟨λl hl=>(I.lt w hw l hl).1,by have:=I.MQ hw;omega⟩,λx hx=>by have:=I.xp hn hx;omega,
  λl hl=>⟨(I.xA hl).1,(I.xA hl).2.1⟩,λl hl=>(I.QH hl).1,?_,?_,?_,λy hy=>?_⟩
 ·have:a∈p.wn:=(I.K.s s hs).r.subset ha
  obtain ⟨w,hw,rfl⟩:=WE.mp this
  exact (I.K.w w hw).n
 ·show ((p.bT st).flatMap Wt.ou).length<=_;omega
 ·show ((p.bT st).flatMap Wt.lo).length<=_;omega
 ·unfold Pn.evs
  rw[WG,Ww,cT]
  have h2:(WM p.ws (p.bT st)).length<=6:=by simp;omega
  have h3:=l7 (f:=λy:Wy×Wt=>evs p.ss y.1 y.2) (k:=2400) (l:=WM p.ws (p.bT st)) λy hy=>by
   have:=I.xp hn (W0 hy).2
   show (y.2.ca.zipIdx.map _++y.2.ou.map _).length<=_
   rw[WG,Ww,Ww,zcV];omega
  rw[zbu] at h3
  omega
 ·have:=(I.cons hn (s:=y.1) (b:=y.2) hy).2.2.2.2
  omega
theorem cY.next:cY p m (n+1) (p.step st):=by
 have lwt:(p.bT st).length=p.ws.length:=by unfold Pn.bT;rw[XJ];have:=I.lw;omega
 have lb:(p.bS st).length=p.ss.length:=by unfold Pn.bS;rw[XJ];have:=I.ls;omega
 have es:(p.step st).ss=(WM p.ss (p.bS st)).map λy=>oY y.1 y.2.1 (p.bD st) (p.taken st):=by unfold Pn.step;simp only;rw[cT]
 have key:∀ y∈WM p.ss (p.bS st),(oY y.1 y.2.1 (p.bD st) (p.taken st)).nm=y.1.nm:=λy hy=>(I.cons hn (s:=y.1) (b:=y.2) hy).1
 refine ⟨I.K,?_,?_,λw hw l hl=>?_,λy hy=>?_,λx hx=>?_⟩
 ·unfold Pn.step;simp only;rw[XJ];omega
 ·rw[es,WQ]
  have:(WM p.ss (p.bS st)).map (Ss.nm ∘ λy=>oY y.1 y.2.1 (p.bD st) (p.taken st))=(WM p.ss (p.bS st)).map (Sn.nm ∘ (·.1)):=Xn λy hy=>key y hy
  rw[this,← WQ,wC (by omega)]
 ·unfold Pn.step at hw
  simp only at hw
  rw[cT] at hw
  obtain ⟨y,hy,rfl⟩:=WE.mp hw
  rcases Xr.mp hl with hl | hl
  ·obtain ⟨z,hz,rfl⟩:=WE.mp (show l∈((p.out st).filter λl=>decide (dF p.ss l=some y.1.nm)).map (·.qg 1) from hl)
   have h:=I.xA (Xv.mp hz).1
   exact ⟨h.1,(show 0<=z.hp+1 by have:=h.2.1;omega),h.2.2⟩
  ·obtain ⟨z,hz,rfl⟩:=WE.mp (show l∈y.2.st.map (·.qg 0) from hl)
   have h:=(I.B5 (W0 hy).2).2.2.2 z hz
   exact ⟨h.1,(show 0<=z.hp+0 by have:=h.2.1;omega),h.2.2⟩
 ·rw[es,qB] at hy
  obtain ⟨z,hz,rfl⟩:=WE.mp hy
  obtain ⟨h1,h2,h3,h4,h5⟩:=I.cons hn (s:=z.1) (b:=z.2) hz
  have mk:=nj (l:=own z.1.nm (p.taken st)) λl hl=>by
   have:=I.xA (Xv.mp (Xv.mp hl).1).1
   exact this.2.2
  have g0:=h2.g0;have m0:=h2.m0;have t0:=h2.t0
  refine ⟨h2.w0,h2.w1,h2.s0,h2.s1,?_,?_,?_,?_,?_,h2.n0,h2.n1,h2.l⟩
  ·show 0<=z.2.1.gd+((own z.1.nm (p.taken st)).length:Int) - ((own z.1.nm (p.taken st)).map Lt.mr).sum;omega
  ·show z.2.1.gd+((own z.1.nm (p.taken st)).length:Int) - ((own z.1.nm (p.taken st)).map Lt.mr).sum<=60*((n+1:Nat):Int);omega
  ·show 0<=z.2.1.mk'+((own z.1.nm (p.taken st)).map Lt.mr).sum;omega
  ·show z.2.1.mk'+((own z.1.nm (p.taken st)).map Lt.mr).sum<=60*((n+1:Nat):Int);omega
  ·show 0<=max z.2.1.wt _;omega
 ·rw[es] at hx
  obtain ⟨z,hz,rfl⟩:=WE.mp hx
  obtain ⟨h1,h2,h3,h4,h5⟩:=I.cons hn (s:=z.1) (b:=z.2) hz
  rw[key z hz]
  have e:(oY z.1 z.2.1 (p.bD st) (p.taken st)).lo.length=z.2.1.lo.length+(own z.1.nm (p.bD st)).length:=by
   show (mS (z.2.1.lo++(own z.1.nm (p.bD st)).map Lt.nu)).length=_
   rw[ni,WG,Ww]
  have e2:(oY z.1 z.2.1 (p.bD st) (p.taken st)).ag=z.2.1.ag:=rfl
  rw[e,e2];omega
end
theorem Nw {p:Pn}{m:Int}(K:p.Ok m):cY p m 0 p.beg:=by
 have g1:=K.g.1
 have nm:∀ s:Sn,(Sn.beg p.g s).nm=s.nm:=λs=>rfl
 have und:∀ a,p.beg.jo a=0:=λa=>by
  unfold St'.jo Pn.beg
  simp only[WQ]
  have:∀ l:List Wy,(l.map λ_=>0).sum=0:=λl=>by induction l<;>simp_all
  exact this p.ws
 refine ⟨K,by simp[Pn.beg],by unfold Pn.beg;simp only[WQ];rfl,λw hw l hl=>?_,λy hy=>?_,λx hx=>?_⟩
 ·unfold Pn.beg at hw
  obtain ⟨_,_,rfl⟩:=WE.mp hw
  cases hl
 ·have hy':y∈WM p.ss (p.ss.map (Sn.beg p.g)):=hy
  rw[zcU] at hy'
  obtain ⟨z,hz,rfl⟩:=WE.mp hy'
  have e:z.2=z.1:=by
   have:∀ (l:List Sn) (z:Sn×Sn),z∈WM l l->z.2=z.1:=by
    intro l
    induction l with
    | nil=>intro z hz;simp at hz
    | cons a l ih=>
     intro z hz
     rcases WK.mp (by simpa using hz) with e | h
     ·rw[e]
     ·exact ih z h
   exact this _ z hz
  have hk:=K.s z.1 (W0 hz).1
  have R:=hk.k
  have q0:=R.w.q0;have s0:=R.t.q0
  show SsI p.g z.1.rl 0 (Sn.beg p.g z.2)
  rw[e]
  refine ⟨?_,?_,Xp 0,(show (0:Int)<=p.g by omega),Xp 0,Xp 0,Xp 0,Xp 0,Xp 0,Xp 0,Xp 0,λi hi=>(hk.mm i hi).1⟩
  ·show p.g<=z.1.rl.p*p.g / z.1.rl.q
   rw[X8 q0]
   have:=WU R.w.ge (show 0<=p.g by omega)
   rw[zcd,XZ z.1.rl.q] at this
   exact this
  ·show z.1.rl.p*p.g / z.1.rl.q<=z.1.rl.r*p.g / z.1.rl.s
   rw[X8 s0]
   generalize hW:z.1.rl.p*p.g / z.1.rl.q=W
   have h1:W*z.1.rl.q<=z.1.rl.p*p.g:=by rw[← hW];exact zbP _ (by omega)
   have h2:=WU h1 (show 0<=z.1.rl.s by omega)
   have h3:=WU R.wt (show 0<=p.g by omega)
   refine Zi (a:=z.1.rl.q) ?_ q0
   calc W*z.1.rl.s*z.1.rl.q=W*z.1.rl.q*z.1.rl.s:=by ac_rfl
    _<=z.1.rl.p*p.g*z.1.rl.s:=h2
    _=z.1.rl.p*z.1.rl.s*p.g:=by ac_rfl
    _<=z.1.rl.r*z.1.rl.q*p.g:=h3
    _=z.1.rl.r*p.g*z.1.rl.q:=by ac_rfl
 ·have hx':x∈p.ss.map (Sn.beg p.g):=hx
  obtain ⟨s,hs,rfl⟩:=WE.mp hx'
  rw[und]
  show ((0:Nat):Int)+((0:Nat):Int)+((0:Nat):Int)<=60
  decide
def spD (is:List Nat):List (L2.Key×D):=is.map λi:Nat=>(.inl (i:Int),.bl true)
def VC (cs:List Int)(t l u:Int)(c:Addr):List (L2.Key×D):=[(.inr (OF "cells"),.ls (cs.map .int)),(.inr (OF "turn"),.int t),(.inr (OF "left"),.int l),(.inr (OF "used"),.int u),(.inr (OF "spent"),.obj c)]
structure Pq (μ:Mu) (b c:Addr) (n:Nat):Prop where
 ne:b≠c
 ex:∃ (cs:List Int) (t l u:Int) (is:List Nat),μ b=some (.dct (VC cs t l u c))/\μ c=some (.dct (spD is))/\(0<=t/\t<=n)/\is.Nodup/\(∀ i∈is,i < cs.length)/\cs.length<=63
structure Ct (b c:Addr) (n:Nat) (μ μ':Mu):Prop where
 p:Pq μ' b c n
 o:∀ a,a≠b->a≠c->μ' a=μ a
theorem Pq.mono {μ:Mu}{b c:Addr}{n m:Nat}(h:Pq μ b c n)(k:n<=m):Pq μ b c m:=by
 obtain ⟨ne,cs,t,l,u,is,e1,e2,⟨t0,t1⟩,r⟩:=h
 exact ⟨ne,cs,t,l,u,is,e1,e2,⟨t0,by omega⟩,r⟩
theorem Ct.mono {μ μ':Mu}{b c:Addr}{n m:Nat}(h:Ct b c n μ μ')(k:n<=m):Ct b c m μ μ':=⟨h.p.mono k,h.o⟩
theorem Ct.trans {b c:Addr}{μ μ1 μ2:Mu}{n m:Nat}(h:Ct b c n μ μ1)(k:Ct b c m μ1 μ2):Ct b c m μ μ2:=⟨k.p,λa h1 h2=>(k.o a h1 h2).trans (h.o a h1 h2)⟩
theorem Pq.nb {μ:Mu}{b c a:Addr}{n:Nat}(h:Pq μ b c n)(e:μ a=none):a≠b/\a≠c:=by
 obtain ⟨_,cs,t,l,u,is,e1,e2,_⟩:=h
 exact ⟨(λz=>by subst z;rw[e1] at e;cases e),(λz=>by subst z;rw[e2] at e;cases e)⟩
theorem Pq.up {μ:Mu}{b c a:Addr}{o:MO}{n:Nat}(h:Pq μ b c n)(k:a≠b/\a≠c):Pq (up μ a o) b c n:=by
 obtain ⟨ne,cs,t,l,u,is,e1,e2,r⟩:=h
 exact ⟨ne,cs,t,l,u,is,by rw[aS k.1.symm];exact e1,by rw[aS k.2.symm];exact e2,r⟩
section
variable (cs:List Int) (t l u x:Int) (c:Addr)
end
section
variable {G:GTr} {tt:TTr} {te:ETr} {ρc:ST} {ds:List D} {μ:Mu} {Q:DK} {b c:Addr} {n m:Nat}
end
def nxF (ss:List Ss)(n:Str):Int:=((ss.find? λx=>decide (x.nm=n)).map Ss.nx).getD 0
def Lt.lw (f:Str->Int)(l:Lt):Lt:=⟨l.nm,l.nu - f l.nm,l.ag,l.hp,l.mr⟩
def Ws.lw (f:Str->Int)(w:Ws):Ws:=⟨w.cm.map (Lt.lw f),w.st.map (Lt.lw f),w.la⟩
def Ss.lk (x:Ss):Ss:=⟨x.nm,x.du,x.W,x.S,0,x.lf,x.ag.map (· - x.nx),x.lo.map (· - x.nx),x.gd,x.mk',x.wt⟩
def St'.lk (st:St'):St':=⟨st.ws.map (Ws.lw (nxF st.ss)),st.ss.map Ss.lk⟩
def Lt.mv (f:Str->Int)(l:Lt):Lt:=⟨l.nm,l.nu+f l.nm,l.ag,l.hp,l.mr⟩
def Ws.mv (f:Str->Int)(w:Ws):Ws:=⟨w.cm.map (Lt.mv f),w.st.map (Lt.mv f),w.la⟩
def Ss.mv (f:Str->Int)(x:Ss):Ss:=⟨x.nm,x.du,x.W,x.S,x.nx+f x.nm,x.lf,x.ag.map (· + f x.nm),x.lo.map (· + f x.nm),x.gd,x.mk',x.wt⟩
def St'.mv (f:Str->Int)(st:St'):St':=⟨st.ws.map (Ws.mv f),st.ss.map (Ss.mv f)⟩
structure StL (st:St'):Prop where
 nd:(st.ss.map Ss.nm).Nodup
 sn:∀ x∈st.ss,WD x.nm=true
 lt:∀ w∈st.ws,∀ l∈w.cm++w.st,l.nm∈st.ss.map Ss.nm
 la:∀ w∈st.ws,WD w.la=true
 z1:st.ws.length<=100/\st.ss.length<=100
 z2:∀ w∈st.ws,w.cm.length<=10000/\w.st.length<=10000
 z3:∀ x∈st.ss,x.ag.length<=10000/\x.lo.length<=10000
theorem N2 (ss:List Ss):(ss.map Ss.lk).map Ss.nm=ss.map Ss.nm:=by rw[WQ];rfl
theorem OD (f:Str->Int)(ss:List Ss):(ss.map (Ss.mv f)).map Ss.nm=ss.map Ss.nm:=by rw[WQ];rfl
theorem StL.lk {st:St'}(h:StL st):StL st.lk:=by
 refine ⟨by show ((st.ss.map Ss.lk).map Ss.nm).Nodup;rw[N2];exact h.nd,λx hx=>?_,λw hw l hl=>?_,λw hw=>?_,?_,λw hw=>?_,λx hx=>?_⟩
 ·obtain ⟨y,hy,rfl⟩:=WE.mp hx
  exact h.sn y hy
 ·obtain ⟨v,hv,rfl⟩:=WE.mp hw
  show l.nm∈(st.ss.map Ss.lk).map Ss.nm
  rw[N2]
  have hl:l∈v.cm.map (Lt.lw (nxF st.ss))++v.st.map (Lt.lw (nxF st.ss)):=hl
  rw[← Xf] at hl
  obtain ⟨k,hk,rfl⟩:=WE.mp hl
  exact h.lt v hv k hk
 ·obtain ⟨v,hv,rfl⟩:=WE.mp hw
  exact h.la v hv
 ·show (st.ws.map (Ws.lw (nxF st.ss))).length<=100/\(st.ss.map Ss.lk).length<=100
  rw[Ww,Ww];exact h.z1
 ·obtain ⟨v,hv,rfl⟩:=WE.mp hw
  show (v.cm.map _).length<=_/\(v.st.map _).length<=_
  rw[Ww,Ww];exact h.z2 v hv
 ·obtain ⟨y,hy,rfl⟩:=WE.mp hx
  show (y.ag.map _).length<=_/\(y.lo.map _).length<=_
  rw[Ww,Ww];exact h.z3 y hy
theorem StL.mv {st:St'}(f:Str->Int)(h:StL st):StL (st.mv f):=by
 refine ⟨by show ((st.ss.map (Ss.mv f)).map Ss.nm).Nodup;rw[OD];exact h.nd,λx hx=>?_,λw hw l hl=>?_,λw hw=>?_,?_,λw hw=>?_,λx hx=>?_⟩
 ·obtain ⟨y,hy,rfl⟩:=WE.mp hx
  exact h.sn y hy
 ·obtain ⟨v,hv,rfl⟩:=WE.mp hw
  show l.nm∈(st.ss.map (Ss.mv f)).map Ss.nm
  rw[OD]
  have hl:l∈v.cm.map (Lt.mv f)++v.st.map (Lt.mv f):=hl
  rw[← Xf] at hl
  obtain ⟨k,hk,rfl⟩:=WE.mp hl
  exact h.lt v hv k hk
 ·obtain ⟨v,hv,rfl⟩:=WE.mp hw
  exact h.la v hv
 ·show (st.ws.map (Ws.mv f)).length<=100/\(st.ss.map (Ss.mv f)).length<=100
  rw[Ww,Ww];exact h.z1
 ·obtain ⟨v,hv,rfl⟩:=WE.mp hw
  show (v.cm.map _).length<=_/\(v.st.map _).length<=_
  rw[Ww,Ww];exact h.z2 v hv
 ·obtain ⟨y,hy,rfl⟩:=WE.mp hx
  show (y.ag.map _).length<=_/\(y.lo.map _).length<=_
  rw[Ww,Ww];exact h.z3 y hy
theorem Gs (o:Option Int)(n:Nat):pl n (cS o)=true:=by cases o<;>cases n<;>rfl
theorem GA (a b:Int)(n:Nat):pl (n+1) (eR a b)=true:=by
 unfold eR fr
 cases n<;>simp[pl,pls]
theorem HC (ns:List Int)(h:ns.length<=999999)(n:Nat):pl (n+1) (.tup (c8 ns))=true:=by
 have e:pls n (c8 ns)=true:=kU λd hd=>by
  obtain ⟨i,_,rfl⟩:=WE.mp hd
  cases n<;>rfl
 simp only[pl,Ww,decide_eq_true h,e];rfl
theorem G8 {ls:List Lt}(h:∀ l∈ls,WD l.nm=true)(hl:ls.length<=999999)(n:Nat):pl (n+2) (.tup (ltD ls))=true:=by
 have e:pls (n+1) (ltD ls)=true:=kU λd hd=>by
  obtain ⟨l,hl,rfl⟩:=WE.mp hd
  have:=h l hl
  cases n<;>simp[Lt.toD,pl,pls,this]
 simp only[pl,Ww,decide_eq_true hl,e];rfl
theorem T5 {st:St'}(h:StL st)(g:Int):pl 5 (st.toD g)=true:=by
 have nm:∀ n∈st.ss.map Ss.nm,WD n=true:=λn hn=>by
  obtain ⟨x,hx,rfl⟩:=WE.mp hn
  exact h.sn x hx
 have e1:pls 3 (wsD st.ws)=true:=kU λd hd=>by
  obtain ⟨w,hw,rfl⟩:=WE.mp hd
  have z:=h.z2 w hw
  have a:=G8 (ls:=w.cm) (λl hl=>nm _ (h.lt w hw l (YB _ hl))) (by omega) 0
  have b:=G8 (ls:=w.st) (λl hl=>nm _ (h.lt w hw l (Xb _ hl))) (by omega) 0
  have c:=h.la w hw
  show (true&&(pl 2 (.tup (ltD w.cm))&&(pl 2 (.tup (ltD w.st))&&(WD w.la&&true))))=true
  rw[a,b,c];rfl
 have e2:pls 3 (ssD g st.ss)=true:=kU λd hd=>by
  obtain ⟨x,hx,rfl⟩:=WE.mp hd
  have z:=h.z3 x hx
  show (true&&(WD x.nm&&(pl 2 (cS x.du)&&(pl 2 (eR x.W g)&&(pl 2 (eR x.S g)&&(true&&(pl 2 (cS x.lf)&&(pl 2 (.tup (c8 x.ag))&&(pl 2 (.tup (c8 x.lo))&&true)))))))))=true
  rw[h.sn x hx,Gs,Gs,GA,GA,HC _ (by omega),HC _ (by omega)];rfl
 have z:=h.z1
 show (true&&((decide ((wsD st.ws).length<=999999)&&pls 3 (wsD st.ws))&&((decide ((ssD g st.ss).length<=999999)&&pls 3 (ssD g st.ss))&&true)))=true
 rw[Ww,Ww,decide_eq_true (by omega),decide_eq_true (by omega),e1,e2];rfl
def Pn.run (p:Pn):Nat->St'
 | 0=>p.beg
 | n+1=>p.step (p.run n)
def Pn.rows (p:Pn)(n:Nat):List D:=(Xh n).map λi=>.ls (evD (p.evs (p.run i)))
theorem Pn.dW {p:Pn}{m:Int}(K:p.Ok m):∀ n:Nat,n<=10000->cY p m n (p.run n)
 | 0,_=>Nw K
 | n+1,h=>(p.dW K n (by omega)).next (by omega)
theorem zy (ws:List Str)(p:Int):∀ (f:Nat) (st out:List Lt) (l:Str),(eV ws p f st out l).2.2=l∨(eV ws p f st out l).2.2∈ws
 | 0,_,_,_=>.inl rfl
 | f+1,st,out,l=>by
  unfold eV
  split
  ·split
   ·rename_i n hn
    split
    ·rename_i x _
     rcases zy ws p f (st.eraseIdx (at1 n st)) (out++[x]) n with e | e
     ·rw[e];exact .inr (yl hn).1
     ·exact .inr e
    ·exact .inl rfl
   ·exact .inl rfl
  ·exact .inl rfl
theorem DJ (w:Wy)(ws:List Str)(st:List Lt)(l:Str)(hl:WD l=true)(hw:∀ n∈ws,WD n=true):WD (eF w ws st l).2.2=true:=by
 unfold eF
 split
 ·rcases zy ws w.pc st.length st [] l with e | e
  ·rw[e];exact hl
  ·exact hw _ e
 ·show WD (OF "")=true
  decide +kernel
theorem GZ {p:Pn}{m:Int}(K:p.Ok m):∀ n:Nat,n<=10000->∀ w∈(p.run n).ws,WD w.la=true
 | 0,_,w,hw=>by
  obtain ⟨_,_,rfl⟩:=WE.mp hw
  show WD (OF "")=true
  decide +kernel
 | n+1,h,w,hw=>by
  have I:=p.dW K n (by omega)
  have ih:=GZ K n (by omega)
  have hw:w∈X0 (λw x=>EX p.ss w x (p.out (p.run n))) p.ws (p.bT (p.run n)):=hw
  rw[cT] at hw
  obtain ⟨y,hy,rfl⟩:=WE.mp hw
  show WD y.2.la=true
  obtain ⟨z,hz,e⟩:=I.Ig (W0 hy).2
  rw[e]
  exact DJ _ _ _ _ (ih _ (W0 hz).2) λn hn=>I.sok hn
theorem Lx {p:Pn}{m:Int}(K:p.Ok m){n:Nat}(h:n<=10000):StL (p.run n):=by
 have I:=p.dW K n h
 have s1:=K.s1
 have w1:=K.w1
 refine ⟨by rw[I.nm];exact I.sd,λx hx=>?_,λw hw l hl=>?_,GZ K n h,⟨by rw[I.lw];omega,by rw[I.ls];omega⟩,λw hw=>?_,λx hx=>?_⟩
 ·exact I.sok (by rw[← I.nm];exact WE.mpr ⟨x,hx,rfl⟩)
 ·rw[I.nm];exact (I.lt w hw l hl).1
 ·have:=I.MQ hw;omega
 ·have:=I.cn x hx;omega
def Wt.mv (f:Str->Int)(x:Wt):Wt:=⟨x.ca.map (Lt.mv f),x.lo.map (Lt.mv f),x.ou.map (Lt.mv f),x.st.map (Lt.mv f),x.la⟩
abbrev Ev.mv (f:Str->Int)(x:Ev):Ev:=⟨x.wd,x.nm,x.nu+f x.nm,x.wy⟩
theorem Ss.Ok.mv {g:Int}{R:RN}{x:Ss}(f:Str->Int)(h:x.Ok g R)(a:-4000000000000000000<=x.nx+f x.nm/\x.nx+f x.nm<=4000000000000000000):(x.mv f).Ok g R:=by
 have e:(x.mv f).hd=x.hd:=by unfold Ss.hd Ss.mv;simp
 exact ⟨h.n,h.w0,h.w1,h.s0,h.s1,by rw[e];exact h.h,a.1,a.2,by unfold Ss.mv;simp only[Ww];exact h.a,h.l⟩
theorem Gu:∀ s∈[OF "sent", OF "in", OF "lost", OF "taken", OF "out"],WD s=true:=by decide +kernel
theorem Of {p:Pn}{st:St'}(R:Ls p st):∀ e∈p.evs st,WD e.wd=true/\e.nm∈p.sn/\WD e.wy=true:=by
 intro e he
 unfold Pn.evs at he
 rcases Xr.mp he with h | h
 ·obtain ⟨x,hx,rfl⟩:=WE.mp h
  have:=R.se x hx
  exact ⟨Gu _ (by simp),this.2,this.1⟩
 ·rw[cT] at h
  obtain ⟨l,hl,he'⟩:=List.mem_flatten.mp h
  obtain ⟨⟨w,x⟩,hy,rfl⟩:=WE.mp hl
  have hw:=(R.wy w (W0 hy).1).1
  have hx:=(W0 hy).2
  rcases Xr.mp he' with h | h
  ·obtain ⟨z,hz,rfl⟩:=WE.mp h
   have hz1:z.1∈x.ca:=List.fst_mem_of_mem_zipIdx hz
   refine ⟨Gu _ (by split<;>simp),?_,hw⟩
   unfold Pn.bT at hx
   rw[cT] at hx
   obtain ⟨⟨w',k⟩,hk,rfl⟩:=WE.mp hx
   rcases Xr.mp (show z.1∈k.cm++((p.aY st).filter λx=>decide (x.1=w'.nm)).map (·.2) from hz1) with h | h
   ·exact (R.wz k (W0 hk).2).1 _ (YB _ h)
   ·obtain ⟨s,hs,e⟩:=WE.mp h
    rw[← e]
    exact (R.se s (Xv.mp hs).1).2
  ·obtain ⟨l,hl,rfl⟩:=WE.mp h
   exact ⟨Gu _ (by split<;>simp),(R.ou l (YR.mpr ⟨x,hx,hl⟩)).1,hw⟩
theorem cY.nx {p:Pn}{m:Int}{n:Nat}{st:St'}(I:cY p m n st):∀ x∈st.ss,0<=x.nx/\x.nx<=60*n:=by
 intro x hx
 obtain ⟨i,hi,e⟩:=YL hx
 have h1:i < p.ss.length:=by rw[← I.ls];exact hi
 have:(p.ss[i],st.ss[i])∈WM p.ss st.ss:=by
  rw[← zai (h:=by simp;omega)];exact Ye ..
 have h:=I.ss _ this
 rw[← e]
 exact ⟨h.n0,h.n1⟩
def cW (w n:Str)(es:List Ev):Nat:=(es.filter λe=>decide (e.wd=w)&&decide (e.nm=n)).length
theorem lu (w n:Str)(a b:List Ev):cW w n (a++b)=cW w n a+cW w n b:=by unfold cW;rw[zaV,WG]
theorem PF (w n:Str)(e:Ev):cW w n [e]=if e.wd=w/\e.nm=n then 1 else 0:=by
 unfold cW
 by_cases h1:e.wd=w<;>by_cases h2:e.nm=n<;>simp[h1,h2]
theorem LM {α:Type}(w n:Str)(f:α->List Ev)(l:List α):cW w n (l.flatMap f)=(l.map λx=>cW w n (f x)).sum:=by
 induction l with
 | nil=>rfl
 | cons x r ih=>rw[YD,lu,ih,WN];rfl
structure Tt where
 nm:Str
 s:Int
 t:Int
 l:Int
 m:Int
def Tt.toD (x:Tt):D:=.tup [.str x.nm,.int x.s,.int x.t,.int x.l,.int x.m]
abbrev ttD (xs:List Tt):List D:=xs.map Tt.toD
abbrev vS:Str:=OF "sent"
abbrev vT:Str:=OF "taken"
abbrev vL:Str:=OF "lost"
def mir (x y:Ss):Int:=if x.du=some 0 then y.mk' else y.mk' - x.mk'
def KZ (es:List Ev)(r:Tt)(x y:Ss):Tt:=⟨r.nm,r.s+cW vS r.nm es,r.t+cW vT r.nm es,r.l+cW vL r.nm es,r.m+mir x y⟩
def CP (rows:List Tt)(old new:List Ss)(es:List Ev):List Tt:=(WM rows (WM old new)).map λy=>KZ es y.1 y.2.1 y.2.2
def Pn.tot (p:Pn):Nat->List Tt
 | 0=>p.ss.map λs=>⟨s.nm,0,0,0,0⟩
 | n+1=>CP (p.tot n) (p.run n).ss (p.run (n+1)).ss (p.evs (p.run n))
def Pn.evT (p:Pn)(n:Nat):List Ev:=(Xh n).flatMap λt=>p.evs (p.run t)
def Pn.mkT (p:Pn)(nm:Str)(n:Nat):Int:=((Xh n).map λt=>((own nm (p.taken (p.run t))).map Lt.mr).sum).sum
theorem xm (p:Pn)(n:Nat):p.evT (n+1)=p.evT n++p.evs (p.run n):=by unfold Pn.evT;rw[ZA,XA];simp
theorem zR (p:Pn)(nm:Str)(n:Nat):p.mkT nm (n+1)=p.mkT nm n+((own nm (p.taken (p.run n))).map Lt.mr).sum:=by unfold Pn.mkT;rw[ZA,Xf,zdS];simp
def Pn.tw (p:Pn)(n:Nat)(s:Sn):Tt:=⟨s.nm,cW vS s.nm (p.evT n),cW vT s.nm (p.evT n),cW vL s.nm (p.evT n),p.mkT s.nm n⟩
theorem Q1 (p:Pn)(st:St')(s:Sn)(x:Ss):mir x (oY s (x.bt p.g s (st.und x.nm)).1 (p.bD st) (p.taken st))=((own s.nm (p.taken st)).map Lt.mr).sum:=by
 unfold mir
 show (if x.du=some 0 then (x.bt p.g s (st.und x.nm)).1.mk'+((own s.nm (p.taken st)).map Lt.mr).sum else (x.bt p.g s (st.und x.nm)).1.mk'+((own s.nm (p.taken st)).map Lt.mr).sum - x.mk')=_
 unfold Ss.bt
 by_cases h:x.du=some 0
 ·rw[if_pos h,if_pos h]
  show (0:Int)+_=_
  omega
 ·rw[if_neg h,if_neg h]
  show x.mk'+_ - x.mk'=_
  omega
theorem qf {p:Pn}{m:Int}(K:p.Ok m):∀ n:Nat,n<=1000->p.tot n=p.ss.map (p.tw n)
 | 0,_=>by
  show p.ss.map _=_
  refine Xn λs _=>?_
  rfl
 | n+1,h=>by
  have I:=p.dW K n (by omega)
  have l1:(p.run n).ss.length=p.ss.length:=by have:=congrArg XQ I.nm;simpa[Pn.sn] using this
  show CP (p.tot n) (p.run n).ss (p.step (p.run n)).ss (p.evs (p.run n))=_
  rw[qf K n (by omega)]
  unfold CP Pn.step
  simp only
  refine List.ext_getElem ?_ λi h1 h2=>?_
  ·simp[Pn.bS];omega
  ·simp only[List.getElem_map,zai,List.getElem_zipWith,Pn.bS]
   unfold KZ
   rw[Q1]
   unfold Pn.tw
   simp only[xm,lu,zR]
   congr 1<;>omega
theorem Il {p:Pn}{m:Int}{n:Nat}{st:St'}(I:cY p m n st)(hn:n<=10000):(p.evs st).length<=14880:=by
 have w1:=I.K.w1
 have sl:=I.Ia hn
 unfold Pn.evs
 rw[WG,Ww,cT]
 have h2:(WM p.ws (p.bT st)).length<=6:=by simp;omega
 have h3:=l7 (f:=λy:Wy×Wt=>evs p.ss y.1 y.2) (k:=2400) (l:=WM p.ws (p.bT st)) λy hy=>by
  have:=I.xp hn (W0 hy).2
  show (y.2.ca.zipIdx.map _++y.2.ou.map _).length<=_
  rw[WG];rw[Ww,Ww,zcV];omega
 rw[zbu] at h3
 omega
theorem IS (p:Pn)(st:St')(lw:st.ws.length=p.ws.length)(n:Str):cW vT n (p.evs st)=(own n (p.taken st)).length:=by
 have n1:vS≠vT:=by decide +kernel
 have n2:OF "in" ≠ vT:=by decide +kernel
 have n3:OF "lost" ≠ vT:=by decide +kernel
 have n4:OF "out" ≠ vT:=by decide +kernel
 have zero:∀ {α:Type} (f:α->Ev) (l:List α),(∀ x∈l,(f x).wd≠vT)->cW vT n (l.map f)=0:=λf l h=>by
  unfold cW
  rw[List.length_eq_zero_iff,List.filter_eq_nil_iff]
  intro e he
  obtain ⟨x,hx,rfl⟩:=WE.mp he
  simp[h x hx]
 unfold Pn.evs
 rw[lu,zero _ _ λx _=>n1,cT,← zbu,LM]
 unfold Pn.taken Pn.out
 have z2:(WM p.ws (p.bT st)).map (·.2)=p.bT st:=wq (by unfold Pn.bT;rw[XJ];omega)
 have e:p.bT st=(WM p.ws (p.bT st)).map (·.2):=z2.symm
 have main:∀ zs:List (Wy×Wt),(zs.map λy=>cW vT n (evs p.ss y.1 y.2)).sum=(own n (((zs.map (·.2)).flatMap Wt.ou).filter λl=>decide (dF p.ss l=none))).length:=λzs=>by
  induction zs with
  | nil=>rfl
  | cons y r ih=>
   rw[WN,X4,ih,WN,YD,zaV]
   unfold own
   rw[zaV,WG]
   congr 1
   show cW vT n (y.2.ca.zipIdx.map _++y.2.ou.map _)=_
   rw[lu,zero _ _ λx _=>?_,zdn]
   ·unfold cW
    rw[zbR,Ww,ZH]
    congr 1
    refine List.filter_congr λl _=>?_
    by_cases h:dF p.ss l=none
    ·simp[h]
    ·simp[h,n4]
   ·dsimp only
    split
    ·exact n2
    ·exact n3
 rw[main,← e]
 omega
theorem zd {p:Pn}{m:Int}(K:p.Ok m)(nm:Str)(a:Nat):∀ b:Nat,a+b<=1000->0<=p.mkT nm (a+b) - p.mkT nm a/\p.mkT nm (a+b) - p.mkT nm a<=((cW vT nm (p.evT (a+b)):Nat):Int) - (cW vT nm (p.evT a):Nat)
 | 0,_=>by simp
 | b+1,h=>by
  have ih:=zd K nm a b (by omega)
  have I:=p.dW K (a+b) (by omega)
  have mk:=nj (l:=own nm (p.taken (p.run (a+b)))) λl hl=>by
   have:=I.xA (Xv.mp (Xv.mp hl).1).1
   exact this.2.2
  rw[show a+(b+1)=(a+b)+1 by omega,zR,xm,lu,IS p _ I.lw]
  omega
theorem Gm {κ:Type} [DecidableEq κ] (kvs:List (κ×D))(k j:κ)(d:D):cF (putD kvs k d) j=if j=k then some d else cF kvs j:=by
 unfold putD cF
 by_cases hk:(kvs.any λkv=>decide (kv.1=k))=true
 ·rw[if_pos hk]
  induction kvs with
  | nil=>simp at hk
  | cons y r ih=>
   rw[WN,XB,XB]
   by_cases h1:y.1=k
   ·rw[if_pos h1]
    by_cases h2:j=k
    ·rw[if_pos h2,h1,h2];simp
    ·rw[if_neg h2]
     have h3:¬ y.1=j:=λz=>h2 (z.symm.trans h1)
     simp only[h3,decide_false]
     by_cases h4:(r.any λkv=>decide (kv.1=k))=true
     ·have:=ih h4
      rw[if_neg h2] at this
      exact this
     ·have:r.map (λkv=>if kv.1=k then (kv.1,d) else kv)=r:=by
       refine (Xn λz hz=>?_).trans (List.map_id r)
       rw[if_neg λw=>h4 (Zn.mpr ⟨z,hz,by simpa using w⟩)];rfl
      rw[this]
   ·rw[if_neg h1]
    have h4:(r.any λkv=>decide (kv.1=k))=true:=by
     rw[YG] at hk
     simpa[h1] using hk
    by_cases h2:y.1=j
    ·have h3:¬ j=k:=λz=>h1 (h2.trans z)
     rw[if_neg h3]
     simp[h2]
    ·simp only[h2,decide_false]
     exact ih h4
 ·rw[if_neg hk,List.find?_append]
  by_cases h2:j=k
  ·subst h2
   rw[if_pos rfl]
   have:(kvs.find? λkv=>decide (kv.1=j))=none:=List.find?_eq_none.mpr λy hy z=>hk (Zn.mpr ⟨y,hy,z⟩)
   rw[this];simp
  ·rw[if_neg h2]
   have h3:¬ k=j:=λz=>h2 z.symm
   cases kvs.find? λkv=>decide (kv.1=j) with
   | none=>simp[h3]
   | some y=>simp
theorem RI {κ:Type} [DecidableEq κ] (kvs:List (κ×D))(k:κ)(d:D):(putD kvs k d).length<=kvs.length+1:=by
 unfold putD
 split<;>simp
section
open PySem PySem.Spec PyProof.Rows L2
end
section
open PySem PySem.Spec PyProof.Rows L2
section
variable {X:Cx} {a b c d:W4} {ta tb tc td:TE} {Ta Tb Tc Td:ETr} {pos:Pos} {o1 o2 o3:zdX} {r1 r2 r3:L2.R2} {R1 R2 R3:DR2}
end
end
section
open PySem PySem.Spec PyProof.Rows L2
section
variable {X:Cx} {tg a b:W4} {Ta Tb:ETr} {pos:Pos}
end
end
section
open PySem PySem.Spec PyProof.Rows L2
end
section
open PySem PySem.Spec PyProof.Rows L2
def up1 (n:Nat):Nat:=if 97<=n/\n<=122 then n - 32 else n
section
variable {X:Cx} {o i:W4} {apos cpos:Pos}
end
end
section
open PySem PySem.Spec PyProof PyProof.Rows L2
section
variable {X:Cx} {o:W4} {apos cpos pos p:Pos} {x:Str}
end
end
section
open PySem PySem.Spec PyProof.Rows L2
end
section
open PySem PySem.Spec PyProof.Rows L2
section
variable {X:Cx} {i o:W4} {pos:Pos} {Ti To:ETr}
end
end
section
open PySem PySem.Spec PyProof.Rows L2
def gJ (h:Heap)(T:Addr)(x y w:Wv):Prop:=h.get? T=some { cls:=.type "tuple", data:=.seq #[x,y,w] }
section
variable {prog:W9} {w:Xm} {A:XC} {E:Wv->Wz->Prop} {s:Wz}
theorem wM {T:Addr}{a b c x:Wv}{k:Nat}{Q:Unit->Wz->Prop}(hT:gJ s.heap T a b c)
  (h:∀ g,g.get? T=some { cls:=.type "tuple", data:=.seq ((#[a,b,c]:Array Wv).setIfInBounds k x) }->YT T s.heap g->Q () { s with heap:=g }) :
  WW (W2 prog w) A (updateSeq T (λv=>v.setIfInBounds k x)) Q E s:=by
 have e:=Y6 (λo=>o.mapSeq λv=>v.setIfInBounds k x) hT rfl
 exact Y0 hT rfl (h _ (by rw[e];simp[zaP]) (zaD ..))
structure Zp3 (z ti to i j l a b c:Addr):Prop where
 nd:[z,ti,to,i,j,l].Nodup
 na:a ∉ [z,to,i,j,l]
 nb:b ∉ [z,to,i,j,l]
 nc:c ∉ [z,to,i,j,l]
structure La (h:Heap) (z ti to i j l a b c:Addr) (k:Nat):Prop where
 zz:Xy h z ti to .none
 zt:gJ h ti (.ref i) (.ref j) (.ref l)
 zo:∃ u v q,gJ h to u v q
 zi:eA true h i a k
 zj:eA true h j b k
 zl:eA true h l c k
theorem DL {z ti to i j l a b c:Addr}{k:Nat}{xs ys ws:Array Wv}{x y v':Wv}{Q:Option Wv->Wz->Prop}(Z:Zp3 z ti to i j l a b c)(S:La s.heap z ti to i j l a b c k)(ha:cE true s.heap a xs)(hb:cE true s.heap b ys)(hc:cE true s.heap c ws)(hx:xs[k]? = some x)(hy:ys[k]? = some y)(hw:ws[k]? = some v')
  (q:∀ g,Xy g z ti to (ZT s.heap.objs.size)->gJ g ti (.ref i) (.ref j) (.ref l)->gJ g to x y v'->eA true g i a (k+1)->eA true g j b (k+1)->eA true g l c (k+1)->gJ g s.heap.objs.size x y v'->
   (∀ d o,d≠z->d≠to->d≠i->d≠j->d≠l->s.heap.get? d=some o->g.get? d=some o)->Q (some (.ref s.heap.objs.size)) { s with heap:=g }):WW (W2 prog w) A (YV (.ref z)) Q E s:=by
 obtain ⟨zz,zt,⟨u,v,p,zo⟩,zi,zj,zl⟩:=S
 obtain ⟨nd,na,nb,nc⟩:=Z
 simp only[Xt,WK,WY,or_false,not_or] at nd na nb nc
 obtain ⟨⟨n1,n2,n3,n4,m1⟩,⟨n5,n6,n7,m2⟩,⟨n8,n9,m3⟩,⟨n10,m4⟩,m5,_⟩:=nd
 obtain ⟨a1,a2,a3,a4,a5⟩:=na
 obtain ⟨b1,b2,b3,b4,b5⟩:=nb
 obtain ⟨c1,c2,c3,c4,c5⟩:=nc
 have hT:s.TypeIs (.ref z) "zip" := ⟨_,zz,rfl⟩
 unfold YV
 refine Wr (Zw (Xl (name:=OF "__next__") hT Yl (XH Yl hT zae ?_ (ZZ _))))
 refine Wr (m:=zaR (.ref z) 2) (Xe zz rfl (x:=.bool false) rfl ?_)
 refine Wr (m:=zaR (.ref z) 3) (Xe zz rfl (x:=.ref ti) rfl (Wr (Xk zt rfl (Wr (m:=W7 (.ref z)) ?_))))
 delta W7
 refine Wr (Xe zz rfl (x:=.none) rfl (WC ?_))
 simp only[if_true]
 refine Wr (Yt (Wr (Xe zz rfl (x:=.ref to) rfl (Wr (Xg zz (by simp) λg1 zz1 k1=>Wr ?_)))))
 have zz1:Xy g1 z ti to .ellipsis:=zz1
 simp only[zay,zaf,zaS,YY]
 refine Wr (Wr (YI (Wr (m:=W3 (.ref i)) (iO (s:={ s with heap:=g1 }) (zi.at λo e=>(k1.2 i (WX n3)).trans e) (ha.at λo e=>(k1.2 a a1).trans e) hx λg2 zi2 k2=>WC ?_))))
 have zo2:gJ g2 to u v p:=(k2.2 to n8).trans ((k1.2 to (WX n2)).trans zo)
 refine Wr (Xk zo2 rfl (Wr (wM zo2 λg3 zo3 k3=>Wr (Yr (WC ?_)))))
 have zo3:gJ g3 to x v p:=zo3
 have g13:∀ d o,d≠z->d≠to->d≠i->s.heap.get? d=some o->g3.get? d=some o:=λd o d1 d2 d3 e=>(k3.2 d d2).trans ((k2.2 d d3).trans ((k1.2 d d1).trans e))
 refine Wr (Wr (YI (Wr (m:=W3 (.ref j)) (iO (s:={ s with heap:=g3 }) (zj.at λo e=>g13 j o (WX n4) (WX n9) (WX n10) e) (hb.at λo e=>g13 b o b1 b2 b3 e) hy λg4 zj4 k4=>WC ?_))))
 have zo4:gJ g4 to x v p:=(k4.2 to n9).trans zo3
 refine Wr (Xk zo4 rfl (Wr (wM zo4 λg5 zo5 k5=>Wr (Yr (WC ?_)))))
 have zo5:gJ g5 to x y p:=zo5
 have g15:∀ d o,d≠z->d≠to->d≠i->d≠j->s.heap.get? d=some o->g5.get? d=some o:=λd o d1 d2 d3 d4 e=>(k5.2 d d2).trans ((k4.2 d d4).trans (g13 d o d1 d2 d3 e))
 refine Wr (Wr (YI (Wr (m:=W3 (.ref l)) (iO (s:={ s with heap:=g5 }) (zl.at λo e=>g15 l o (WX m1) (WX m3) (WX m4) (WX m5) e) (hc.at λo e=>g15 c o c1 c2 c3 c4 e) hw λg6 zl6 k6=>WC ?_))))
 have zo6:gJ g6 to x y p:=(k6.2 to m3).trans zo5
 refine Wr (Xk zo6 rfl (Wr (wM zo6 λg7 zo7 k7=>Wr (Yr (WC (WC ?_))))))
 have zo7:gJ g7 to x y v':=zo7
 refine Wr (Xk zo7 rfl (Wr (zb6 (Wr (m:=Xo (.ref z) (.ref g7.objs.size)) ?_))))
 have sz:g7.objs.size=s.heap.objs.size:=by rw[k7.1,k6.1,k5.1,k4.1,k3.1,k2.1,k1.1]
 have zz7:Xy g7 z ti to .ellipsis:=(k7.2 z n2).trans ((k6.2 z m1).trans ((k5.2 z n2).trans ((k4.2 z n4).trans ((k3.2 z n2).trans ((k2.2 z n3).trans zz1)))))
 have zlt:z < g7.objs.size:=WH zz7
 delta Xo
 have zz8:Xy (g7.push { cls:=.type "tuple", data:=.seq #[x,y,v'] }) z ti to .ellipsis:=Wu _ zz7
 refine Wr (Xg zz8 (by simp) λg8 zz9 k8=>?_)
 have zz9:Xy g8 z ti to (ZT g7.objs.size):=zz9
 refine Xg zz9 (by simp) λg9 Mk k9=>WC ⟨_,rfl,WC ?_⟩
 have up7:∀ d o,d≠z->g7.get? d=some o->g9.get? d=some o:=λd o d1 e=>(k9.2 d d1).trans ((k8.2 d d1).trans (Wu _ e))
 have TU:gJ g9 g7.objs.size x y v':=(k9.2 _ (Yf zlt)).trans ((k8.2 _ (Yf zlt)).trans (WJ _ rfl))
 have Mk:Xy g9 z ti to (ZT g7.objs.size):=Mk
 rw[sz] at Mk TU
 have all:∀ d o,d≠z->d≠to->d≠i->d≠j->d≠l->s.heap.get? d=some o->g9.get? d=some o:=λd o d1 d2 d3 d4 d5 e=>up7 d o d1 ((k7.2 d d2).trans ((k6.2 d d5).trans (g15 d o d1 d2 d3 d4 e)))
 have fin:=q g9 Mk (all ti _ (WX n1) n5 n6 n7 m2 zt) (up7 to _ (WX n2) zo7)
  (zi2.at λo e=>up7 i o (WX n3) ((k7.2 i (WX n8)).trans ((k6.2 i m4).trans ((k5.2 i (WX n8)).trans ((k4.2 i n10).trans ((k3.2 i (WX n8)).trans e))))))
  (zj4.at λo e=>up7 j o (WX n4) ((k7.2 j (WX n9)).trans ((k6.2 j m5).trans ((k5.2 j (WX n9)).trans e))))
  (zl6.at λo e=>up7 l o (WX m1) ((k7.2 l (WX m3)).trans e)) TU all
 rw[← sz] at fin
 exact fin
theorem JE {z ti to i j l a b c:Addr}{k:Nat}{xs ys ws:Array Wv}{Q:Option Wv->Wz->Prop}(hh:A.handled=none)(Z:Zp3 z ti to i j l a b c)(S:La s.heap z ti to i j l a b c k)(ha:cE true s.heap a xs)(hx:xs[k]? = none)
  (q:∀ g,(∀ d o,d≠z->d≠to->d≠i->d≠j->d≠l->s.heap.get? d=some o->g.get? d=some o)->Q none { s with heap:=g }):WW (W2 prog w) A (YV (.ref z)) Q E s:=by
 obtain ⟨zz,zt,⟨u,v,p,zo⟩,zi,zj,zl⟩:=S
 obtain ⟨nd,na,nb,nc⟩:=Z
 simp only[Xt,WK,WY,or_false,not_or] at nd na
 obtain ⟨⟨n1,n2,n3,n4,m1⟩,_⟩:=nd
 obtain ⟨a1,_⟩:=na
 have hT:s.TypeIs (.ref z) "zip" := ⟨_,zz,rfl⟩
 unfold YV
 refine Wr (Zw (Xl (name:=OF "__next__") hT Yl (XH Yl hT zae ?_ (ZZ _))))
 refine Wr (m:=zaR (.ref z) 2) (Xe zz rfl (x:=.bool false) rfl ?_)
 refine Wr (m:=zaR (.ref z) 3) (Xe zz rfl (x:=.ref ti) rfl (Wr (Xk zt rfl (Wr (m:=W7 (.ref z)) ?_))))
 delta W7
 refine Wr (Xe zz rfl (x:=.none) rfl (WC ?_))
 simp only[if_true]
 refine Wr (Yt (Wr (Xe zz rfl (x:=.ref to) rfl (Wr (Xg zz (by simp) λg1 zz1 k1=>Wr ?_)))))
 have zz1:Xy g1 z ti to .ellipsis:=zz1
 simp only[zay,zaf,zaS,YY]
 refine Wr (Wr (YI (Wr (m:=W3 (.ref i)) ?_)))
 refine vV (s:={ s with heap:=g1 }) hh (zi.at λo e=>(k1.2 i (WX n3)).trans e) (ha.at λo e=>(k1.2 a a1).trans e) hx λg2 e k2 he2=>?_
 obtain ⟨oe,ge,ce⟩:=he2
 have zz2:Xy g2 z ti to .ellipsis:=k2 z _ n3 zz1
 have ez:e≠z:=λy=>by subst y;rw[zz2] at ge;cases ge;simp at ce
 refine Xg zz2 (by simp) λg3 _ k3=>?_
 refine Wr <| wpAny_isInstance (T := "StopIteration") (b:=true) ⟨oe,(k3.2 e ez).trans ge,ce⟩ zb7 ?_
 exact WC (q g3 λd o d1 _ d3 _ _ y=>(k3.2 d d1).trans (k2 d o d3 ((k1.2 d d1).trans y)))
abbrev yg1 (h:Heap)(a:Addr):Heap:=h.push (itO true a)
abbrev yg2 (h:Heap)(a b:Addr):Heap:=(yg1 h a).push (itO true b)
abbrev yg3 (h:Heap)(a b c:Addr):Heap:=(yg2 h a b).push (itO true c)
abbrev yg4 (h:Heap)(a b c:Addr):Heap:=(yg3 h a b c).push { cls:=.type "tuple", data:=.seq #[.ref h.objs.size,.ref (yg1 h a).objs.size,.ref (yg2 h a b).objs.size] }
abbrev yg5 (h:Heap)(a b c:Addr):Heap:=(yg4 h a b c).push { cls:=.type "tuple", data:=.seq #[.none,.none,.none] }
abbrev yg6 (h:Heap)(a b c:Addr):Heap:=(yg5 h a b c).push { cls:=.type "zip", data:=.fields #[.none,.bool false,.bool false,.ref (yg3 h a b c).objs.size,.ref (yg4 h a b c).objs.size] }
theorem Ec (a b c:Addr)(xs ys ws:Array Wv):Meets (Z0.«zip.__new__» ⟨[.type "zip", .ref a,.ref b,.ref c],[]⟩) (λ_ R s=>cE true s.heap a xs/\cE true s.heap b ys/\cE true s.heap c ws/\R (.ok (.ret (.ref (yg5 s.heap a b c).objs.size))) { s with heap:=yg6 s.heap a b c }):=
 .of_wp λprog w A R s h=>by
  rcases s with ⟨hp,g,d,tk,os⟩
  obtain ⟨h1,h2,h3,h⟩:=h
  have hs0:=zej
  have H1:cE true (zam ⟨hp,g,d,tk,os⟩) a xs:=h1
  have H2:cE true (zam ⟨hp.push (itO true a),g,d,tk,os⟩) b ys:=cE.at h2 λo e=>Wu _ e
  have H3:cE true (zam ⟨(hp.push (itO true a)).push (itO true b),g,d,tk,os⟩) c ws:=cE.at h3 λo e=>Wu _ (Wu _ e)
  wp_walk using AI H1,AI H2,AI H3
  exact ⟨_,rfl,h⟩
theorem NP (a b c:Wv):checkTypeCall "zip" { pos:=[a,b,c] }=pure ():=by kernel_rfl
theorem NH (a b c:Wv):zdz "zip.__new__" { pos:=[zbv "zip", a,b,c] }=pure ():=by kernel_rfl
theorem KO (a b c d:Wv):zee "object.__init__" { pos:=[a,b,c,d] }:=by unfold zee;kernel_rfl
theorem E7 {a b c:Addr}{xs ys ws:Array Wv}{Q:Wv->Wz->Prop}(h1:cE true s.heap a xs)(h2:cE true s.heap b ys)(h3:cE true s.heap c ws)
  (q:∀ g,La g (s.heap.objs.size+5) (s.heap.objs.size+3) (s.heap.objs.size+4) s.heap.objs.size (s.heap.objs.size+1) (s.heap.objs.size+2) a b c 0->(∀ d o,s.heap.get? d=some o->g.get? d=some o)->Q (.ref (s.heap.objs.size+5)) { s with heap:=g }) :
  WW (W2 prog w) A (zbT (.type "zip") [.ref a,.ref b,.ref c]) Q E s:=by
 refine zc6 F.called_zip (by decide) (NP _ _ _) (NH _ _ _) (λobj=>KO obj _ _ _) zdO (Ec a b c xs ys ws) ⟨h1,h2,h3,?_⟩
 have s1:(yg1 s.heap a).objs.size=s.heap.objs.size+1:=XY ..
 have s2:(yg2 s.heap a b).objs.size=s.heap.objs.size+2:=by rw[XY,s1]
 have s3:(yg3 s.heap a b c).objs.size=s.heap.objs.size+3:=by rw[XY,s2]
 have s4:(yg4 s.heap a b c).objs.size=s.heap.objs.size+4:=by rw[XY,s3]
 have s5:(yg5 s.heap a b c).objs.size=s.heap.objs.size+5:=by rw[XY,s4]
 have up1:∀ (d:Addr) (o ob:Obj) (h:Heap),h.get? d=some o->(h.push ob).get? d=some o:=λd o ob h e=>Wu _ e
 have p6:(yg6 s.heap a b c).get? (yg5 s.heap a b c).objs.size=some _:=WJ _ rfl
 have p5:(yg6 s.heap a b c).get? (yg4 s.heap a b c).objs.size=some _:=up1 _ _ _ _ (WJ _ rfl)
 have p4:(yg6 s.heap a b c).get? (yg3 s.heap a b c).objs.size=some _:=up1 _ _ _ _ (up1 _ _ _ _ (WJ _ rfl))
 have p3:(yg6 s.heap a b c).get? (yg2 s.heap a b).objs.size=some (itO true c):=up1 _ _ _ _ (up1 _ _ _ _ (up1 _ _ _ _ (WJ _ rfl)))
 have p2:(yg6 s.heap a b c).get? (yg1 s.heap a).objs.size=some (itO true b):=up1 _ _ _ _ (up1 _ _ _ _ (up1 _ _ _ _ (up1 _ _ _ _ (WJ _ rfl))))
 have p1:(yg6 s.heap a b c).get? s.heap.objs.size=some (itO true a):=up1 _ _ _ _ (up1 _ _ _ _ (up1 _ _ _ _ (up1 _ _ _ _ (up1 _ _ _ _ (WJ _ rfl)))))
 have i1:eA true (yg6 s.heap a b c) s.heap.objs.size a 0:=⟨_,p1,rfl,rfl⟩
 have i2:eA true (yg6 s.heap a b c) (yg1 s.heap a).objs.size b 0:=⟨_,p2,rfl,rfl⟩
 have i3:eA true (yg6 s.heap a b c) (yg2 s.heap a b).objs.size c 0:=⟨_,p3,rfl,rfl⟩
 show _/\_
 rw[s3,s4,s5] at p6
 rw[s1,s2,s3] at p4
 rw[s4] at p5
 rw[s1] at i2
 rw[s2] at i3
 rw[s5]
 exact ⟨⟨_,p6,rfl⟩,q _ ⟨p6,p4,⟨_,_,_,p5⟩,i1,i2,i3⟩ λd o e=>up1 _ _ _ _ (up1 _ _ _ _ (up1 _ _ _ _ (up1 _ _ _ _ (up1 _ _ _ _ (up1 _ _ _ _ e)))))⟩
end
def Tw (K:Wq)(a b c:Addr):It:=
 ⟨λi H=>∃ xs ys ws x y w,(SqT K H a xs/\SqT K H b ys/\SqT K H c ws)/\xs[i]? = some x/\ys[i]? = some y/\ws[i]? = some w,
  λi H v H'=>∃ x y w p,((∀ xs,SqT K H a xs->xs[i]? = some x)/\(∀ ys,SqT K H b ys->ys[i]? = some y)/\∀ ws,SqT K H c ws->ws[i]? = some w)/\v=.ref p/\H p=none/\H'=L2.upd H p (.tup [x,y,w]),
  λi H=>∃ xs,SqT K H a xs/\xs.length<=i⟩
theorem Ey {P:W9}{w:Xm}{K:Wq}{es:List W4}{ek:Nat}{ep:Pos}{z ti to i j l a b c:Addr}(Z:Zp3 z ti to i j l a b c) :
  Turn P w K (.Tuple es ek ep) (Tw K a b c) [z,ti,to,i,j,l] z (λk h=>La h z ti to i j l a b c k) where
 mem:=by simp
 obj:=λk h S d hd=>by
  obtain ⟨zz,zt,⟨u,v,p,zo⟩,zi,zj,zl⟩:=S
  have it:∀ {e f:Addr},eA true h e f k->∃ o,h.get? e=some o/\∀ v,o.data≠.cell v:=λq=>by obtain ⟨o,e,vs,d⟩:=q.ex;exact ⟨o,e,λv y=>by rw[d] at y;cases y⟩
  simp only[WK,WY,or_false] at hd
  rcases hd with rfl | rfl | rfl | rfl | rfl | rfl
  ·exact ⟨_,zz,λv y=>by cases y⟩
  ·exact ⟨_,zt,λv y=>by cases y⟩
  ·exact ⟨_,zo,λv y=>by cases y⟩
  ·exact it zi
  ·exact it zj
  ·exact it zl
 keep:=λk h g S kp=>by
  obtain ⟨zz,zt,⟨u,v,p,zo⟩,zi,zj,zl⟩:=S
  exact ⟨kp z (by simp) _ zz,kp ti (by simp) _ zt,⟨u,v,p,kp to (by simp) _ zo⟩,zi.at λo e=>kp i (by simp) o e,zj.at λo e=>kp j (by simp) o e,zl.at λo e=>kp l (by simp) o e⟩
 item:=by
  intro X hP hw hK hc k pins s σ H E I hf S hg
  subst hP hw hK
  obtain ⟨xs,ys,ws,x,y,w',⟨qa,qb,qc⟩,ex,ey,ew⟩:=hg
  obtain ⟨ia,ra,sa,_⟩:=I.tuple qa
  obtain ⟨ib,rb,sb,_⟩:=I.tuple qb
  obtain ⟨ic,rc,sc,_⟩:=I.tuple qc
  obtain ⟨ux,hux,rx⟩:=ra.get ex
  obtain ⟨uy,huy,ry⟩:=rb.get ey
  obtain ⟨uw,huw,rw'⟩:=rc.get ew
  refine DL Z S sa sb sc (x:=ux) (y:=uy) (v':=uw) (by simpa using hux) (by simpa using huy) (by simpa using huw) λg zz zt zo zi zj zl new al=>⟨_,rfl,zaW zz λg2 zz2 k2=>?_⟩
  have nd:=Z.nd
  simp only[Xt,WK,WY,or_false,not_or] at nd
  obtain ⟨⟨n1,n2,n3,n4,n5⟩,_⟩:=nd
  have zlt:z < s.heap.objs.size:=WH S.zz
  have fr:H s.heap.objs.size=none:=I.hok.fresh (WL _)
  have new2:gJ g2 s.heap.objs.size ux uy uw:=(k2.2 _ (Yf zlt)).trans new
  have all:∀ d o,d ∉ [z,ti,to,i,j,l]->s.heap.get? d=some o->g2.get? d=some o:=λd o hd e=>by
   simp only[WK,WY,or_false,not_or] at hd
   exact (k2.2 d hd.1).trans (al d o hd.1 hd.2.2.1 hd.2.2.2.1 hd.2.2.2.2.1 hd.2.2.2.2.2 e)
  have nfp:∀ d u,H d=some u->d ∉ [z,ti,to,i,j,l]:=λd u e hd=>by rw[(hf d hd).1] at e;cases e
  refine ⟨.ref s.heap.objs.size,L2.upd H s.heap.objs.size (.tup [x,y,w']),?_,rfl,⟨x,y,w',_,⟨λxs' q=>by rw[I.ix q qa];exact ex,λys' q=>by rw[I.ix q qb];exact ey,λws' q=>by rw[I.ix q qc];exact ew⟩,rfl,fr,rfl⟩,⟨zz2,(k2.2 ti (WX n1)).trans zt,⟨_,_,_,(k2.2 to (WX n2)).trans zo⟩,zi.at λo e=>(k2.2 i (WX n3)).trans e,zj.at λo e=>(k2.2 j (WX n4)).trans e,zl.at λo e=>(k2.2 l (WX n5)).trans e⟩,λd hd=>?_⟩
  ·refine L2.Inv.step (s:=s) (H:=H) (H':=L2.upd H s.heap.objs.size (.tup [x,y,w'])) (g':=s.gens) (d':=s.drawn) (t':=s.toks) (h':=g2) (ch:=[z,ti,to,i,j,l]) I (λd hd=>⟨(hf d hd).2.2.2.1,(hf d hd).2.1,(hf d hd).2.2.2.2.1,(hf d hd).2.2.2.2.2⟩) (λd o _ _ hd e _=>all d o hd e) (λd o _ _ hd e _=>⟨o.slots,all d o hd e⟩) (λd o hd e n=>?_) (λd o hd e=>⟨o,all d o hd e⟩)
    (λd xs e=>?_) (λd o u e=>?_) (λd ps e=>⟨#[],?_⟩) (λm hm=>?_) (λd u e=>?_) I.bare
   ·rw[aJ (WZ (WH e))];exact n
   ·rw[aJ (aZ e fr)];exact e
   ·rw[aJ (aZ e fr)];exact e
   ·rw[aJ (aZ e fr),e];simp
   ·obtain ⟨o,es',ep',ho,r⟩:=hm
    exact ⟨o,es',ep',all _ o (λhd=>(hf _ hd).2.1 rfl) ho,r⟩
   ·by_cases hdT:d=s.heap.objs.size
    ·subst hdT
     rw[aK] at e;cases e
     exact ⟨by show 3<=sizeLine;decide,[ux,uy,uw],.cons rx (.cons ry (.cons rw' .nil)),⟨_,new2⟩⟩
    ·rw[aJ hdT] at e
     refine (I.hok d u e).lK (λd' v hd' q=>all d' v ?_ q) (λd' q=>by rw[aJ (aZ q fr)];exact q) λd' xs q=>by rw[aJ (aZ q fr)];exact q
     rcases hd' with rfl | hd'
     ·exact nfp _ _ e
     ·exact nfp _ _ hd'
  ·have hdl:d≠s.heap.objs.size:=by
    obtain ⟨zz,zt,⟨u,v,p,zo⟩,zi,zj,zl⟩:=S
    have it:∀ {e f:Addr},eA true s.heap e f k->e≠s.heap.objs.size:=λq=>by obtain ⟨o,e,_⟩:=q.ex;exact WZ (WH e)
    simp only[WK,WY,or_false] at hd
    rcases hd with rfl | rfl | rfl | rfl | rfl | rfl
    ·exact WZ (WH zz)
    ·exact WZ (WH zt)
    ·exact WZ (WH zo)
    ·exact it zi
    ·exact it zj
    ·exact it zl
   rw[aJ hdl];exact (hf d hd).1
 done:=by
  intro X hP hw hK hc k pins s σ H E I hf S hg
  subst hP hw hK
  obtain ⟨xs,qa,he⟩:=hg
  obtain ⟨ia,ra,sa,_⟩:=I.tuple qa
  have la:=ra.length
  refine JE (ys:=#[]) (ws:=#[]) (I.ok.hd hc) Z S sa (by simp;omega) λg al=>⟨rfl,?_⟩
  have all:∀ d o,d ∉ [z,ti,to,i,j,l]->s.heap.get? d=some o->g.get? d=some o:=λd o hd e=>by
   simp only[WK,WY,or_false,not_or] at hd
   exact al d o hd.1 hd.2.2.1 hd.2.2.2.1 hd.2.2.2.2.1 hd.2.2.2.2.2 e
  have nfp:∀ d u,H d=some u->d ∉ [z,ti,to,i,j,l]:=λd u e hd=>by rw[(hf d hd).1] at e;cases e
  refine L2.Inv.step (s:=s) (H:=H) (H':=H) (g':=s.gens) (d':=s.drawn) (t':=s.toks) (h':=g) (ch:=[z,ti,to,i,j,l]) I (λd hd=>⟨(hf d hd).2.2.2.1,(hf d hd).2.1,(hf d hd).2.2.2.2.1,(hf d hd).2.2.2.2.2⟩) (λd o _ _ hd e _=>all d o hd e) (λd o _ _ hd e _=>⟨o.slots,all d o hd e⟩) (λd o hd e n=>n) (λd o hd e=>⟨o,all d o hd e⟩)
   (λd xs e=>e) (λd o u e=>e) (λd ps e=>⟨#[],by rw[e];simp⟩) (λm hm=>?_) (λd u e=>?_) I.bare
  ·obtain ⟨o,es',ep',ho,r⟩:=hm
   exact ⟨o,es',ep',all _ o (λhd=>(hf _ hd).2.1 rfl) ho,r⟩
  ·refine (I.hok d u e).lK (λd' v hd' q=>all d' v ?_ q) (λd' q=>q) λd' xs q=>q
   rcases hd' with rfl | hd'
   ·exact nfp _ _ e
   ·exact nfp _ _ hd'
 self:=λ_ _ _ _ _ S h=>zag S.zz h
theorem Qs (n a b c:Nat)(ha:a < n)(hb:b < n)(hc:c < n):Zp3 (n+5) (n+3) (n+4) n (n+1) (n+2) a b c:=by
 have no:∀ d:Nat,d < n->d ∉ ([n+5,n+4,n,n+1,n+2]:List Nat):=λd h=>by
  simp only[WK,WY,or_false,not_or]
  omega
 refine ⟨?_,no a ha,no b hb,no c hc⟩
 show ([n+5,n+3,n+4,n,n+1,n+2]:List Nat).Nodup
 simp only[Xt,WK,WY,or_false,not_or,zb5,and_true,not_false_eq_true]
 and_intros<;>omega
def Sx (K:Wq)(t:TA):TI:=λσ H R=>t σ H λvs H1=>∃ (a b c:Addr),vs=[.ref a,.ref b,.ref c]/\((∃ xs,SqT K H1 a xs)/\(∃ ys,SqT K H1 b ys)/\∃ ws,SqT K H1 c ws)/\R (Tw K a b c) H1
section
variable {X:Cx} {ea eb ec:W4} {es:List W4} {ek:Nat} {ep p pos:Pos}
theorem Mm {t:TA}(hg:Gl X "zip")(hm:X.mg "zip" = none)(ha:PA X [ea,eb,ec] t)(hs:WI [ea,eb,ec] X.env=(false,XG ea X.env)::WI [eb,ec] X.env:=by rfl)(hs2:(XM pos (WI [eb,ec] X.env)).any (·.1)=false:=by rfl) :
  PI X (.Tuple es ek ep) (.Call (.Name "zip" p) [ea,eb,ec] [] pos) (Sx X.K t):=by
 intro pins s σ H R I h
 refine Call_ (gU I hg hm boot_zip (Xw (thn (ha pos pins s σ H _ I h) λus s1 ⟨vs,H1,I1,r1,a,b,c,e,⟨⟨xs,qa⟩,⟨ys,qb⟩,ws,qc⟩,q⟩=>?_) hs hs2))
 subst e
 cases r1 with | cons r rr=>cases rr with | cons r' rr=>cases rr with | cons r'' rr=>
 cases rr
 cases (show _=Xa a from r)
 cases (show _=Xa b from r')
 cases (show _=Xa c from r'')
 obtain ⟨ia,ra,sa,_⟩:=I1.tuple qa
 obtain ⟨ib,rb,sb,_⟩:=I1.tuple qb
 obtain ⟨ic,rc,sc,_⟩:=I1.tuple qc
 have lt:∀ {d:Addr} {its:Array Wv},cE true s1.heap d its->d < s1.heap.objs.size:=λh=>by obtain ⟨o,e,_⟩:=h;exact WH e
 have ge:∀ d∈([s1.heap.objs.size+5,s1.heap.objs.size+3,s1.heap.objs.size+4,s1.heap.objs.size,s1.heap.objs.size+1,s1.heap.objs.size+2]:List Nat),s1.heap.objs.size<=d:=λd h=>by
  simp only[WK,WY,or_false] at h
  omega
 refine E7 (xs:=ia.toArray) (ys:=ib.toArray) (ws:=ic.toArray) sa sb sc λg S kp=>zag S.zz ⟨s1.heap.objs.size+5,[s1.heap.objs.size+5,s1.heap.objs.size+3,s1.heap.objs.size+4,s1.heap.objs.size,s1.heap.objs.size+1,s1.heap.objs.size+2],_,_,H1,rfl,I1.kept (t':=s1.toks) kp,Ey (Qs _ _ _ _ (lt sa) (lt sb) (lt sc)),S,λd hd=>?_,q⟩
 exact I1.AB (ge d hd) (I1.hok.fresh (ge d hd))
def oB (ds es fs:List D):List D:=(WM ds (WM es fs)).map λy=>.tup [y.1,y.2.1,y.2.2]
def IY (t:ATr):ATr:=λρ μ Q=>t ρ μ λvs μ1=>match vs with
 | [.tup ds,.tup es,.tup fs]=>(es.length=ds.length/\fs.length=ds.length)/\Q (oB ds es fs) μ1
 | _=>False
theorem uG {ds es fs:List D}(h:es.length=ds.length/\fs.length=ds.length):(oB ds es fs).length=ds.length:=by
 unfold oB
 rw[Ww,zaA,zaA]
 omega
theorem Hy {ds es fs:List D}{i:Nat}{d e f:D}(h1:ds[i]? = some d)(h2:es[i]? = some e)(h3:fs[i]? = some f):(oB ds es fs)[i]? = some (.tup [d,e,f]):=by
 unfold oB
 rw[XW,za0 (z:=(d,e,f)) |>.mpr ⟨h1,za0 (z:=(e,f)) |>.mpr ⟨h2,h3⟩⟩]
 rfl
theorem LL {At:ATr}(hg:Gl X "zip")(hm:X.mg "zip" = none)(ha:LA X [ea,eb,ec] At)
  (hs:WI [ea,eb,ec] X.env=(false,XG ea X.env)::WI [eb,ec] X.env:=by rfl) (hs2:(XM pos (WI [eb,ec] X.env)).any (·.1)=false:=by rfl) :
  LI X (.Tuple es ek ep) (.Call (.Name "zip" p) [ea,eb,ec] [] pos) (IY At):=by
 obtain ⟨t,pt,st⟩:=ha.ex
 refine ⟨_,Mm hg hm pt hs hs2,λσ H ρ μ Q R rl h k=>st σ H ρ μ _ _ rl h λvs H1 ds μ1 t1 m1 p1 h1=>?_⟩
 split at h1
 case h_2=>exact WA h1
 rename_i dx dy dz
 cases p1 with | cons pa p2=>cases p2 with | cons pb p3=>cases p3 with | cons pc p4=>
 cases p4
 cases pa with
 | @tup a xs _ qa la=>
 cases pb with
 | @tup b ys _ qb lb=>
 cases pc with
 | @tup c ws _ qc lc=>
 obtain ⟨hl,h3⟩:=h1
 have l1:=la.length
 have l2:=lb.length
 have l3:=lc.length
 refine ⟨a,b,c,rfl,⟨⟨xs,qa⟩,⟨ys,qb⟩,ws,qc⟩,k _ H1 _ μ1 t1 m1 ⟨λi H' tk hi=>?_,λi H' v H'' tk hi yv=>?_,λi H' tk hi=>?_⟩ h3⟩
 ·rw[uG hl] at hi
  exact ⟨xs,ys,ws,xs[i],ys[i],ws[i],⟨tk.sqT qa,tk.sqT qb,tk.sqT qc⟩,by simp[show i < xs.length by omega],by simp[show i < ys.length by omega],by simp[show i < ws.length by omega]⟩
 ·obtain ⟨x,y,w,q,⟨fx,fy,fw⟩,rfl,fr,rfl⟩:=yv
  obtain ⟨d,ed,pd⟩:=la.get' (fx _ (tk.sqT qa))
  obtain ⟨e,ee,pe⟩:=lb.get' (fy _ (tk.sqT qb))
  obtain ⟨f,ef,pf⟩:=lc.get' (fw _ (tk.sqT qc))
  have tn:Tk H' (L2.upd H' q (.tup [x,y,w])):=.new fr
  exact ⟨tn,⟨.tup [d,e,f],Hy ed ee ef,.tup (SqT.of aK) (.cons ((pd.mono tk).mono tn) (.cons ((pe.mono tk).mono tn) (.cons ((pf.mono tk).mono tn) .nil)))⟩,λμ' m'=>bV m' fr⟩
 ·rw[uG hl] at hi
  exact ⟨xs,tk.sqT qa,by omega⟩
end
end
theorem UR (x:Tt)(μ:Mu)(Q:DK):L3.rIx x.toD (.int 0) μ Q=Q (.str x.nm) μ:=propext Wx
theorem Wb (x:Tt)(μ:Mu)(Q:DK):L3.rIx x.toD (.int 1) μ Q=Q (.int x.s) μ:=propext Wx
theorem Vf (x:Tt)(μ:Mu)(Q:DK):L3.rIx x.toD (.int 2) μ Q=Q (.int x.t) μ:=propext Wx
theorem UP (x:Tt)(μ:Mu)(Q:DK):L3.rIx x.toD (.int 3) μ Q=Q (.int x.l) μ:=propext Wx
theorem VM (x:Tt)(μ:Mu)(Q:DK):L3.rIx x.toD (.int 4) μ Q=Q (.int x.m) μ:=propext Wx
def k3t (vs:List D)(f:List D->List D->List D->Prop):Prop:=match vs with
 | [.tup ds,.tup es,.tup fs]=>f ds es fs
 | _=>False
theorem Se (ds es fs:List D)(f:List D->List D->List D->Prop):k3t [.tup ds,.tup es,.tup fs] f=f ds es fs:=propext Wx
theorem NB (t:ATr)(ρ:ST)(μ:Mu)(Q:List D->Mu->Prop):IY t ρ μ Q=t ρ μ λvs μ1=>k3t vs λds es fs=>(es.length=ds.length/\fs.length=ds.length)/\Q (oB ds es fs) μ1:=propext Wx
theorem FU {α β γ:Type}(f:α->D)(g:β->D)(h:γ->D)(xs:List α)(ys:List β)(zs:List γ):oB (xs.map f) (ys.map g) (zs.map h)=(WM xs (WM ys zs)).map λy=>.tup [f y.1,g y.2.1,h y.2.2]:=by
 unfold oB
 rw[zew,zew,WQ]
 rfl
section
open PySem PySem.Spec PyProof.Rows L2
section
variable {X:Cx} {es:List W4} {is:List Nat} {pos:Pos}
end
end
section
open PySem PySem.Spec PyProof.Rows L2
def kDT (μ:Mu)(a:Addr)(f:List (List Key×D)->Prop):Prop:=match μ a with
 | some (.dcT kvs)=>f kvs
 | _=>False
def kTK:List D->(List Key->Prop)->Prop
 | [],f=>f []
 | d::r,f=>tG d λk=>kTK r λks=>f (k::ks)
theorem uU {μ:Mu}{a:Addr}{f:List (List Key×D)->Prop}(h:kDT μ a f):∃ ds,μ a=some (.dcT ds)/\f ds:=by
 unfold kDT at h
 split at h
 ·rename_i kvs e;exact ⟨kvs,e,h⟩
 ·exact h.elim
theorem nG {μ:Mu}{a:Addr}{f:List (List Key×D)->Prop}{ds:List (List Key×D)}(e:μ a=some (.dcT ds))(h:f ds):kDT μ a f:=by
 unfold kDT;rw[e];exact h
theorem vC {K:Wq}{H:Hp}:∀ {vs:List V} {ds:List D} {f:List Key->Prop},DpL K H vs ds->kTK ds f->∃ ks:List Key,vs=ks.map kV/\f ks
 | _,_,_,.nil,h=>⟨[],rfl,h⟩
 | _,_,_,.cons p l,h=>by
  obtain ⟨k,rfl,h⟩:=mN p h
  obtain ⟨ks,rfl,h⟩:=vC l h
  exact ⟨k::ks,rfl,h⟩
theorem B2 {H:Hp}{q:Addr}{u:HO}{xs:List (List Key×V)}(ex:H q=some (.dT xs)):Tk H (L2.upd H q u):=
 .upd (λys z=>by rw[ex] at z;cases z) λo' w z=>by rw[ex] at z;cases z
theorem Pa {K:Wq}{H:Hp}{μ:Mu}{q:Addr}{xs ys:List (List Key×V)}{ds:List (List Key×D)}(m:bE K H μ)(ex:H q=some (.dT xs))(l:DpK K H ys ds):bE K (L2.upd H q (.dT ys)) (up μ q (.dcT ds)):=λz y ez=>by
 by_cases zq:z=q
 ·subst zq
  rw[aF] at ez;cases ez
  exact ⟨ys,aK,l.mono (B2 ex)⟩
 ·rw[aS zq] at ez
  exact (m z _ ez).ne (B2 ex) zq
section
variable {X:Cx} {o e value:W4} {es:List W4} {To Te:ETr} {Ta:ATr} {pos tpos ppos apos cpos:Pos} {x1:Nat}
def Ap:ETr:=λρ μ Q=>∀ p,μ p=none->Q (.obj p) (up μ p (.dcT []))
theorem Mf:LE X (.Dict [] [] pos) Ap:=⟨_,Ib,λσ H ρ μ Q Q' rl h k p hp=>k _ _ _ (up μ p (.dcT [])) (.new hp) (λz y ez=>by
 by_cases zq:z=p
 ·subst zq
  rw[aF] at ez;cases ez
  exact ⟨[],aK,.nil⟩
 ·rw[aS zq] at ez
  exact bV rl.mu hp z y ez) (.obj p) (h p (rl.mu.free hp))⟩
def BA (To:ETr)(Ta:ATr)(Te:ETr):STr:=λE ρ μ=>Te ρ μ λv μ1=>To ρ μ1 λx μ2=>Ta ρ μ2 λds μ3=>ds.length<=1000/\kObj x λa=>kDT μ3 a λkvs=>kTK ds λk=>kvs.length < 1000000/\E.nx ρ (up μ3 a (.dcT (putD kvs k v)))
theorem Hv (hu:X.A.units+64 < cLine)(ho:LE X o To)(hi:LA X es Ta)(he:LE X value Te)(hs:Yz value (some (.Subscript o (.Tuple es x1 ppos) tpos)) pos.line X.env=pure false:=by rfl) :
  LS X (.Assign [.Subscript o (.Tuple es x1 ppos) tpos] value pos) (BA To Ta Te):=by
 obtain ⟨to,po,so⟩:=ho.ex
 obtain ⟨ta,pa,sa⟩:=hi.ex
 obtain ⟨te,pe,se⟩:=he.ex
 refine ⟨_,Dk (hu1 hu) po (BJ pa) pe hs,λσ H ρ μ E E' rl h k=>se σ H ρ μ _ _ rl h λv H1 dv μ1 t1 m1 p1 h1=>so σ H1 ρ μ1 _ _ (rl.go t1 m1) h1 λx H2 dx μ2 t2 m2 p2 h2=>
  sa σ H2 ρ μ2 _ _ (rl.go (t1.trans t2) m2) h2 λvs H3 ds μ3 t3 m3 l3 h3=>?_⟩
 obtain ⟨hl,h3⟩:=h3
 refine ⟨by rw[l3.length];exact Xu hl (by decide),λb hb=>?_⟩
 obtain ⟨q,rfl,h3⟩:=fk p2 h3
 obtain ⟨kvs,e0,h3⟩:=uU h3
 obtain ⟨kk,rfl,h3⟩:=vC l3 h3
 obtain ⟨xs,ex,l⟩:=m3 q _ e0
 have t4:Tk H3 (L2.upd H3 b (.tup (kk.map kV))):=.new hb
 have ex':L2.upd H3 b (.tup (kk.map kV)) q=some (.dT xs):=by rw[aJ (λz=>by rw[z,hb] at ex;cases ex)];exact ex
 have t5:=t4.trans (B2 (u:=.dT (putK xs kk v)) ex')
 have t15:=t1.trans (t2.trans (t3.trans t5))
 refine ⟨q,_,rfl,tT.t ex' aK (by rw[l.length];exact WV h3.1 (by decide)),k.nx _ _ ρ _ t15 (rl.go t15 (Pa (bV m3 hb) ex' ((l.put kk (p1.mono (t2.trans t3))).mono t4))) h3.2⟩
def j6 (To:ETr)(Ta:ATr)(Te:ETr):ETr:=λρ μ Q=>To ρ μ λx μ1=>kObj x λa=>kDT μ1 a λ_=>Ta ρ μ1 λds μ2=>ds.length<=1000/\Te ρ μ2 λz μ3=>kDT μ3 a λkvs=>kTK ds λk=>Q ((cF kvs k).getD z) μ3
theorem j4 (hu:X.A.units+64 < cLine)(ho:LE X o To)(hi:LA X es Ta)(he:LE X e Te)(m:M2 X o "get" apos (.Tuple es x1 ppos) e cpos:=by exact ⟨rfl,rfl,rfl,rfl⟩) :
  LE X (.Call (.Attribute o "get" apos) [.Tuple es x1 ppos,e] [] cpos) (j6 To Ta Te):=by
 obtain ⟨to,po,so⟩:=ho.ex
 obtain ⟨ta,pa,sa⟩:=hi.ex
 obtain ⟨te,pe,se⟩:=he.ex
 refine ⟨_,Hf (hu1 hu) po (BJ pa) pe m,λσ H ρ μ Q Q' rl h k=>so σ H ρ μ _ _ rl h λx H1 dx μ1 t1 m1 p1 h1=>?_⟩
 obtain ⟨q,rfl,h1⟩:=fk p1 h1
 obtain ⟨kvs0,e0,h1⟩:=uU h1
 obtain ⟨xs0,ex0,l0⟩:=m1 q _ e0
 refine ⟨q,rfl,.inr ⟨_,.inl ex0⟩,sa σ H1 ρ μ1 _ _ (rl.go t1 m1) h1 λvs H2 ds μ2 t2 m2 l2 h2=>?_⟩
 obtain ⟨hl,h2⟩:=h2
 refine ⟨by rw[l2.length];exact Xu hl (by decide),λb hb=>?_⟩
 have t3:Tk H2 (L2.upd H2 b (.tup vs)):=.new hb
 refine se σ _ ρ μ2 _ _ ((rl.go t1 m1).go (t2.trans t3) (bV m2 hb)) h2 λz H3 dz μ3 t4 m3 p3 h3=>?_
 obtain ⟨kvs,e3,h3⟩:=uU h3
 obtain ⟨kk,rfl,h3⟩:=vC l2 h3
 obtain ⟨xs,ex,l⟩:=m3 q _ e3
 have eb:H3 b=some (.tup (kk.map kV)):=t4.tup b _ aK
 refine ⟨_,m8.t ex eb,?_⟩
 have tt:=t1.trans (t2.trans (t3.trans t4))
 rcases l.look kk with ⟨a,b⟩ | ⟨v,d,a,b,pv⟩
 ·rw[b];rw[a] at h3
  exact k _ H3 _ μ3 tt m3 p3 h3
 ·rw[b];rw[a] at h3
  exact k _ H3 _ μ3 tt m3 pv h3
end
end
section
open PySem PySem.Spec PyProof.Rows L2
section
variable {X:Cx} {e:W4} {es:List W4} {gs:List GTr} {G:GTr} {pos:Pos}
end
section
variable {X:Cx} {o a value:W4} {lo hi:Option W4} {To Ta Te:ETr} {Tl Th:OTr} {pos tpos p2 spos:Pos}
end
end
theorem Iu (ρ:ST)(μ:Mu)(Q:DK):Ap ρ μ Q = ∀ p,μ p=none->Q (.obj p) (up μ p (.dcT [])):=propext Wx
theorem FI (a:ETr)(b:ATr)(e:ETr)(nx:ST->Mu->Prop)(rt:DK)(bk ct:ST->Mu->Prop)(ρ:ST)(μ:Mu):BA a b e ⟨nx,rt,bk,ct⟩ ρ μ=e ρ μ λv μ1=>a ρ μ1 λx μ2=>b ρ μ2 λds μ3=>ds.length<=1000/\kObj x λa=>kDT μ3 a λkvs=>kTK ds λk=>kvs.length < 1000000/\nx ρ (up μ3 a (.dcT (putD kvs k v))):=propext Wx
theorem EH (a:ETr)(b:ATr)(e:ETr)(ρ:ST)(μ:Mu)(Q:DK):j6 a b e ρ μ Q=a ρ μ λx μ1=>kObj x λa=>kDT μ1 a λ_=>b ρ μ1 λds μ2=>ds.length<=1000/\e ρ μ2 λz μ3=>kDT μ3 a λkvs=>kTK ds λk=>Q ((cF kvs k).getD z) μ3:=propext Wx
theorem UE (f:List L2.Key->Prop):kTK [] f=f []:=propext Wx
theorem Sb (d:D)(r:List D)(f:List L2.Key->Prop):kTK (d::r) f=tG d λk=>kTK r λks=>f (k::ks):=propext Wx
theorem QI {μ:Mu}{a:Addr}{kvs:List (List L2.Key×D)}{f:List (List L2.Key×D)->Prop}:kDT (up μ a (.dcT kvs)) a f=f kvs:=by unfold kDT;rw[aF]
end L3
namespace Kk
local macro_rules | `(tactic| walk_at "ln")=>`(tactic| (intro ds μ Q h;split at h;rfl;exact h.elim))
open PySem L3
def Vy:=Jn @Iu <| Jn @FI <| Jn @EH <| Jn @UE <| Jn @Sb <| Jn @QI <| Jn @UR <| Jn @Wb <| Jn @Vf <| Jn @UP <| Jn @VM <| Jn @NB <| Jn @Se <| @SV
local macro_rules | `(tactic| walk_at "go")=>zzS "↓Kk.Vy L3.DU ↓L3.zp ↓L3.yj ↓L3.yz ↓L3.xU ↓L3.xh ↓L3.xH ↓L3.ko ↓L3.iK L3.cx L3.bO L3.cj L3.cv L3.cw L3.b9 L3.cM L3.cG L3.bQ L3.cf L3.cc L3.cz L3.cy L3.cL L3.cu L3.cN L3.cq L3.cI L3.cp L3.cP L3.iV L3.uT L3.vh L3.fc List.map_cons List.map_nil List.replicate List.cons_append List.nil_append L3.lk L3.Fd L3.y3 L3.E4 L3.E1 L3.kg L3.fo L3.qH L3.kK L3.ur L3.uC L3.km L3.iw L3.nC L3.nH L3.ke L3.ka L3.kn L3.j3 true_and and_true and_self Bool.not_true Bool.not_false decide_true decide_false Bool.or_true Bool.or_false Bool.true_or Bool.false_or Bool.and_false Bool.false_and Bool.and_true Bool.true_and Int.reduceToNat Int.reducePow Int.reduceNeg Int.reduceSub Int.reduceAdd Int.reduceMul Int.reduceEq Int.reduceLT Int.reduceLE Int.reduceBEq L3.iq L3.fV L3.fL L3.fJ L3.fW L3.fP L3.fR L3.fK if_true if_false Bool.false_eq_true reduceCtorEq decide_eq_true_eq"
local macro_rules | `(tactic| walk_at "ok")=>`(tactic| (simp only[L3.jE,L3.MulOk,L3.S64,L3.gc,L3.sC] at *;omega))
local macro_rules | `(tactic| walk_at "ini")=>`(tactic| simp only[ini,List.map,List.length,List.replicate,Nat.reduceSub,Nat.reduceAdd,Nat.sub_self,List.cons_append,List.nil_append,List.append_nil])
def p7:FSp:=λds μ Q=>kcA ds λd ds=>kcI ds λn ds=>kcN ds (∃ (p:Pn) (m:Int) (j:Nat),(d=p.toD/\p.Ok m/\n=j/\j<=1000)/\Q (.tup [(p.run j).toD p.g,.ls (p.rows j)]) μ)
theorem Mg:∀ ds μ Q,p7 ds μ Q->ds.length=2:=λ_ _ _ h=>lcA h λ_ _ h=>lcI h λ_ _ h=>by rw[(ecN h).1];rfl
def OA:STr:=ay (aN (aq L3.jl (af (ah 0) (ar))) (aw 2)) (ay (aN (lF (ar)) (aw 3)) (ay (iR (fi (ah 1)) (aw 4) (ay (aN (aq L3.eZ (af (ah 0) (af (ah 2) (ar)))) (aw 5)) (ay (aN (aj L3.rIx (ah 5) (TC (.int 0))) (aw 2)) (eU (mT (ah 3) (aj L3.rIx (ah 5) (TC (.int 1)))))))) (aT (bh (af (ah 2) (af (wu (ah 3)) (ar)))))))
theorem R5:∀ ds μ Q,p7 ds μ Q->OA { nx:=λ_ μ'=>RT Q .non μ',rt:=RT Q } (ini 6 ds) μ:=by
 intro ds μ Q h
 replace h:=ecA h
 obtain ⟨d,ds,rfl,h⟩:=h
 replace h:=ecI h
 obtain ⟨n,ds,rfl,h⟩:=h
 replace h:=ecN h
 obtain ⟨rfl,h⟩:=h
 walk_at "ini"
 unfold OA
 walk_at "go"
 obtain ⟨p,m,j,⟨rfl,K,rfl,hj⟩,k⟩:=h
 have w1:=K.w1
 have s1:=K.s1
 refine ⟨p,⟨rfl,λx hx=>(K.s x hx).k,K.g,by omega,by omega⟩,?_⟩
 walk_at "go"
 intro q hq
 walk_at "go"
 refine ⟨⟨by omega,by omega⟩,?_⟩
 rw[Zb]
 refine bP (λr ρ μ'=>∃ (i:Nat) (v4 v5:Option D),i+r.length=j/\ρ=[some p.toD,some (.int j),some ((p.run i).toD p.g),some (.obj q),v4,v5]/\μ'=up μ q (.lst (p.rows i))) ?_ ?_ _ _ _ ⟨0,_,_,by rw[cX];omega,rfl,rfl⟩
 ·rintro ρ μ' ⟨i,v4,v5,e,rfl,rfl⟩
  have e:i=j:=by simpa using e
  subst e
  walk_at "go"
  rw[sM hq]
  exact ⟨_,.refl _,k⟩
 ·rintro d r ρ μ' N ⟨i,v4,v5,e,rfl,rfl⟩ hN
  rw[W6] at e
  have I:=p.dW K i (by omega)
  walk_at "go"
  refine ⟨p,p.run i,⟨⟨rfl,rfl⟩,I.rd (by omega)⟩,?_⟩
  walk_at "go"
  refine ⟨by unfold Pn.rows;simp;omega,hN _ _ ⟨i+1,_,_,by omega,rfl,?_⟩⟩
  unfold Pn.rows
  rw[ZA,Xf]
  rfl
def cJ:FSp:=λds μ Q=>kcA ds λod ds=>kcA ds λnd ds=>kcN ds (∃ (g:Int) (x y:Ss),(od=x.toD g/\nd=y.toD g)/\Q (.int (mir x y)) μ)
theorem kz:∀ ds μ Q,cJ ds μ Q->ds.length=2:=λ_ _ _ h=>lcA h λ_ _ h=>lcA h λ_ _ h=>by rw[(ecN h).1];rfl
def gA:STr:=aT (lC (TB (aj rEq (aj L3.rIx (ah 0) (TC (.int 1))) (TC (.int 0)))) (aj L3.rIx (ah 1) (TC (.int 9))) (aj je (aj L3.rIx (ah 1) (TC (.int 9))) (aj L3.rIx (ah 0) (TC (.int 9)))))
theorem lA:∀ ds μ Q,cJ ds μ Q->gA { nx:=λ_ μ'=>RT Q .non μ',rt:=RT Q } (ini 2 ds) μ:=by
 intro ds μ Q h
 replace h:=ecA h
 obtain ⟨od,ds,rfl,h⟩:=h
 replace h:=ecA h
 obtain ⟨nd,ds,rfl,h⟩:=h
 replace h:=ecN h
 obtain ⟨rfl,h⟩:=h
 walk_at "ini"
 unfold gA
 walk_at "go"
 obtain ⟨g,x,y,⟨rfl,rfl⟩,k⟩:=h
 unfold mir at k
 walk_at "go"
 cases e:x.du with
 | none=>
  rw[e] at k
  exact ⟨rfl,⟨_,.refl _,k⟩⟩
 | some i=>
  rw[e] at k
  refine ⟨rfl,?_⟩
  rw[show cS (some i)=.int i from rfl,qH]
  by_cases h:i=0
  ·subst h
   exact sT rfl ⟨_,.refl _,k⟩
  ·rw[if_neg (λz=>h (by injection z))] at k
   exact zU h ⟨_,.refl _,k⟩
theorem Rm (i0 i1 i2 i3:Nat)(x:Ev)(ρ:ST)(μ:Mu)(k:ST->Mu->Prop):dh [i0,i1,i2,i3] x.toD ρ μ k=dh [i0,i1,i2,i3] (.tup [.str x.wd,.str x.nm,.int x.nu,.str x.wy]) ρ μ k:=propext Wx
def dS:FSp:=λds μ Q=>kcT ds λxs ds=>kcA ds λsd ds=>kcA ds λtd ds=>kcN ds (∃ (g:Int) (rows:List Tt) (st st':St') (es:List Ev),((xs=ttD rows/\sd=st.toD g/\td=.tup [st'.toD g,.ls (evD es)])/\(st.ss.length=rows.length/\st'.ss.length=rows.length)/\es.length<=900000/\rows.length<=1000)/\Q (.tup (ttD (CP rows st.ss st'.ss es))) μ)
theorem nB:∀ ds μ Q,dS ds μ Q->ds.length=3:=λ_ _ _ h=>lcT h λ_ _ h=>lcA h λ_ _ h=>lcA h λ_ _ h=>by rw[(ecN h).1];rfl
def jJ:STr:=ay (aN (Ap) (aw 3)) (ay (iR (eg (aj L3.rIx (ah 2) (TC (.int 1)))) (dh [4,5,6,7]) (BA (ah 3) (af (ah 4) (af (ah 5) (ar))) (aj aO (j6 (ah 3) (af (ah 4) (af (ah 5) (ar))) (TC (.int 0))) (TC (.int 1))))) (ay (aN (lF (ar)) (aw 8)) (ay (iR (IY (af (ah 0) (af (aj L3.rIx (ah 1) (TC (.int 1))) (af (aj L3.rIx (aj L3.rIx (ah 2) (TC (.int 0))) (TC (.int 1))) (ar))))) (dh [9,10,11]) (ay (aN (aj L3.rIx (ah 9) (TC (.int 0))) (aw 5)) (ay (aN (aj aO (aj L3.rIx (ah 9) (TC (.int 1))) (j6 (ah 3) (af (TC (.str "sent")) (af (ah 5) (ar))) (TC (.int 0)))) (aw 12)) (ay (aN (aj aO (aj L3.rIx (ah 9) (TC (.int 2))) (j6 (ah 3) (af (TC (.str "taken")) (af (ah 5) (ar))) (TC (.int 0)))) (aw 13)) (ay (aN (aj aO (aj L3.rIx (ah 9) (TC (.int 3))) (j6 (ah 3) (af (TC (.str "lost")) (af (ah 5) (ar))) (TC (.int 0)))) (aw 14)) (eU (mT (ah 8) (bh (af (ah 5) (af (ah 12) (af (ah 13) (af (ah 14) (af (aj aO (aj L3.rIx (ah 9) (TC (.int 4))) (aq cJ (af (ah 10) (af (ah 11) (ar))))) (ar)))))))))))))) (aT (aq bu (af (ah 8) (ar)))))))
theorem pD:∀ ds μ Q,dS ds μ Q->jJ { nx:=λ_ μ'=>RT Q .non μ',rt:=RT Q } (ini 15 ds) μ:=by
 intro ds μ Q h
 replace h:=ecT h
 obtain ⟨xs,ds,rfl,h⟩:=h
 replace h:=ecA h
 obtain ⟨sd,ds,rfl,h⟩:=h
 replace h:=ecA h
 obtain ⟨td,ds,rfl,h⟩:=h
 replace h:=ecN h
 obtain ⟨rfl,h⟩:=h
 walk_at "ini"
 unfold jJ
 walk_at "go"
 obtain ⟨g,rows,st,st',es,⟨⟨rfl,rfl,rfl⟩,⟨l1,l2⟩,el,rl⟩,k⟩:=h
 intro q hq
 walk_at "go"
 refine bP (λr ρ μ'=>∃ (dn rs:List Ev) (kvs:List (List L2.Key×D)) (v4 v5 v6 v7:Option D),r=evD rs/\dn++rs=es/\ρ=[some (.tup (ttD rows)),some (st.toD g),some (.tup [st'.toD g,.ls (evD es)]),some (.obj q),v4,v5,v6,v7,none,none,none,none,none,none,none]/\μ'=up μ q (.dcT kvs)/\kvs.length<=dn.length/\∀ w n,(cF kvs [.inr w,.inr n]).getD (.int 0)=.int (cW w n dn)) ?_ ?_ _ _ _ ⟨[],es,[],_,_,_,_,rfl,rfl,rfl,rfl,WL _,λ_ _=>rfl⟩
 rotate_left
 ·rintro d r ρ μ' N ⟨dn,rs,kvs,v4,v5,v6,v7,er,ee,rfl,rfl,kl,T⟩ hN
  cases rs with
  | nil=>cases er
  | cons e rs=>
  cases er
  have ll:dn.length+(rs.length+1)=es.length:=by rw[← ee];simp
  rw[Rm]
  walk_at "go"
  rw[T]
  walk_at "go"
  refine ⟨(show 2<=1000 by decide),(show 2<=1000 by decide),by omega,hN _ _ ⟨dn++[e],rs,_,_,_,_,_,rfl,by rw[← ee];simp,rfl,rfl,?_,λw n=>?_⟩⟩
  ·have:=RI kvs [Zk e.wd,Zk e.nm] (.int ((cW e.wd e.nm dn:Nat)+1))
   rw[WG]
   exact Xu this (by simp;omega)
  ·rw[Gm,lu,PF]
   by_cases h:e.wd=w/\e.nm=n
   ·rw[if_pos (by rw[h.1,h.2]),if_pos h,h.1,h.2]
    rfl
   ·rw[if_neg (λz=>h ⟨by injection (zcJ z).1 with z;exact z.symm,by injection (zcJ (zcJ z).2).1 with z;exact z.symm⟩),if_neg h,T]
    rfl
 ·rintro ρ μ' ⟨dn,rs,kvs,v4,v5,v6,v7,er,ee,rfl,rfl,kl,T⟩
  cases rs with
  | cons _ _=>cases er
  | nil=>
  rw[Xi] at ee
  subst ee
  walk_at "go"
  intro t ht
  have qt:q≠t:=λz=>by rw[← z,aF] at ht;cases ht
  walk_at "go"
  refine ⟨⟨by rw[Ww,Ww];exact l1,by rw[Ww,Ww];exact l2⟩,?_⟩
  unfold ttD ssD
  rw[FU]
  refine bP (λr ρ μ'=>∃ (a c:List (Tt×Ss×Ss)) (v5 v9 v10 v11 v12 v13 v14:Option D),r=c.map (λy=>.tup [y.1.toD,y.2.1.toD g,y.2.2.toD g])/\a++c=WM rows (WM st.ss st'.ss)/\ρ=[some (.tup (ttD rows)),some (st.toD g),some (.tup [st'.toD g,.ls (evD dn)]),some (.obj q),v4,v5,v6,v7,some (.obj t),v9,v10,v11,v12,v13,v14]/\μ'=up (up μ q (.dcT kvs)) t (.lst (ttD (a.map λy=>KZ dn y.1 y.2.1 y.2.2)))) ?_ ?_ _ _ _ ⟨[],WM rows (WM st.ss st'.ss),_,_,_,_,_,_,_,rfl,rfl,rfl,rfl⟩
  ·rintro ρ μ' ⟨a,c,v5,v9,v10,v11,v12,v13,v14,er,ea,rfl,rfl⟩
   cases c with
   | cons _ _=>cases er
   | nil=>
   rw[Xi] at ea
   subst ea
   walk_at "go"
   exact ⟨μ,(Sub.new hq).trans (Sub.new ht),k⟩
  ·rintro d r ρ μ' N ⟨a,c,v5,v9,v10,v11,v12,v13,v14,er,ea,rfl,rfl⟩ hN
   cases c with
   | nil=>cases er
   | cons y c=>
   cases er
   obtain ⟨r1,x,x'⟩:=y
   have al:a.length+(c.length+1)<=1000:=by
    have:=congrArg XQ ea
    rw[WG,W6,zaA] at this
    omega
   have eq:∀ ob:MO,up (up μ q (.dcT kvs)) t ob q=some (.dcT kvs):=λob=>by rw[aS qt,aF]
   have two:2<=1000:=by decide
   walk_at "go"
   refine nG (eq _) ⟨two,nG (eq _) ?_⟩
   rw[T]
   walk_at "go"
   refine nG (eq _) ⟨two,nG (eq _) ?_⟩
   rw[T]
   walk_at "go"
   refine nG (eq _) ⟨two,nG (eq _) ?_⟩
   rw[T]
   walk_at "go"
   refine ⟨g,x,x',⟨rfl,rfl⟩,?_⟩
   walk_at "go"
   refine ⟨by rw[Ww,Ww];omega,hN _ _ ⟨a++[(r1,x,x')],c,_,_,_,_,_,_,_,rfl,by rw[← ea];simp,rfl,?_⟩⟩
   rw[Xf]
   simp[ttD,Tt.toD,KZ]
def di:FSp:=λds μ Q=>kcA ds λd ds=>kcN ds (∃ (p:Pn) (m:Int),(d=p.toD/\p.Ok m)/\Q (.tup [(p.run 0).toD p.g,.tup (ttD (p.tot 0))]) μ)
theorem mR:∀ ds μ Q,di ds μ Q->ds.length=1:=λ_ _ _ h=>lcA h λ_ _ h=>by rw[(ecN h).1];rfl
def jd:STr:=aT (bh (af (aq L3.jl (af (ah 0) (ar))) (af (aq bu (af (bG (eg (aj L3.rIx (ah 0) (TC (.int 2)))) (aw 0) (dA) (bh (af (aj L3.rIx (ah 0) (TC (.int 0))) (af (TC (.int 0)) (af (TC (.int 0)) (af (TC (.int 0)) (af (TC (.int 0)) (ar))))))) 1 []) (ar))) (ar))))
theorem mV:∀ ds μ Q,di ds μ Q->jd { nx:=λ_ μ'=>RT Q .non μ',rt:=RT Q } (ini 1 ds) μ:=by
 intro ds μ Q h
 replace h:=ecA h
 obtain ⟨d,ds,rfl,h⟩:=h
 replace h:=ecN h
 obtain ⟨rfl,h⟩:=h
 walk_at "ini"
 unfold jd
 walk_at "go"
 obtain ⟨p,m,⟨rfl,K⟩,k⟩:=h
 have w1:=K.w1
 have s1:=K.s1
 refine ⟨p,⟨rfl,λx hx=>(K.s x hx).k,K.g,by omega,by omega⟩,?_⟩
 walk_at "go"
 refine bB p.ss Sn.toD (λs=>(⟨s.nm,0,0,0,0⟩:Tt).toD) rfl (by omega) (λs hs μ' sb N nn=>?_) ?_
 ·walk_at "go"
  exact nn
 walk_at "go"
 rw[show ttD (p.tot 0)=p.ss.map λs=>(⟨s.nm,0,0,0,0⟩:Tt).toD from WQ] at k
 exact ⟨_,.refl _,k⟩
def fj:FSp:=λds μ Q=>kcA ds λd ds=>kcA ds λcd ds=>kcN ds (∃ (p:Pn) (m:Int) (n:Nat),(d=p.toD/\cd=.tup [(p.run n).toD p.g,.tup (ttD (p.tot n))]/\p.Ok m/\n+1<=1000)/\Q (.tup [(p.run (n+1)).toD p.g,.tup (ttD (p.tot (n+1)))]) μ)
theorem sf:∀ ds μ Q,fj ds μ Q->ds.length=2:=λ_ _ _ h=>lcA h λ_ _ h=>lcA h λ_ _ h=>by rw[(ecN h).1];rfl
def lM:STr:=ay (aN (aq L3.eZ (af (ah 0) (af (aj L3.rIx (ah 1) (TC (.int 0))) (ar)))) (aw 2)) (aT (bh (af (aj L3.rIx (ah 2) (TC (.int 0))) (af (aq dS (af (aj L3.rIx (ah 1) (TC (.int 1))) (af (aj L3.rIx (ah 1) (TC (.int 0))) (af (ah 2) (ar))))) (ar)))))
theorem tK:∀ ds μ Q,fj ds μ Q->lM { nx:=λ_ μ'=>RT Q .non μ',rt:=RT Q } (ini 3 ds) μ:=by
 intro ds μ Q h
 replace h:=ecA h
 obtain ⟨d,ds,rfl,h⟩:=h
 replace h:=ecA h
 obtain ⟨cd,ds,rfl,h⟩:=h
 replace h:=ecN h
 obtain ⟨rfl,h⟩:=h
 walk_at "ini"
 unfold lM
 walk_at "go"
 obtain ⟨p,m,n,⟨rfl,rfl,K,hn⟩,k⟩:=h
 have I:=p.dW K n (by omega)
 have I1:=p.dW K (n+1) (by omega)
 have s1:=K.s1
 have tl:(p.tot n).length=p.ss.length:=by rw[qf K n (by omega),Ww]
 have sl:∀ st:St',st.ss.map Ss.nm=p.sn->st.ss.length=p.ss.length:=λst e=>by have:=congrArg XQ e;simpa[Pn.sn] using this
 have ez:=(I.rd (by omega)).ez
 walk_at "go"
 refine ⟨p,p.run n,⟨⟨rfl,rfl⟩,I.rd (by omega)⟩,?_⟩
 walk_at "go"
 refine ⟨p.g,p.tot n,p.run n,p.run (n+1),p.evs (p.run n),⟨⟨rfl,rfl,rfl⟩,⟨by rw[tl];exact sl _ I.nm,by rw[tl];exact sl _ I1.nm⟩,by omega,by omega⟩,?_⟩
 walk_at "go"
 exact ⟨_,.refl _,k⟩
theorem F9 {p:Pn}{st:St'}(R:Ls p st)(k:Nat):pl (k+2) (.ls (evD (p.evs st)))=true:=by
 simp only[pl,Xd,decide_eq_true_eq]
 refine ⟨by rw[Ww];have:=R.ez;omega,kU λd hd=>?_⟩
 obtain ⟨e,he,rfl⟩:=WE.mp hd
 have h:=Of R e he
 have nn:=R.sn _ h.2.1
 simp[Ev.toD,pl,pls,h.1,nn,h.2.2]
theorem NU {p:Pn}{m:Int}(K:p.Ok m){n:Nat}(hn:n<=900):pl 5 (.ls (p.rows n))=true:=by
 simp only[pl,Xd,decide_eq_true_eq]
 refine ⟨by unfold Pn.rows;simp;omega,kU λd hd=>?_⟩
 obtain ⟨t,ht,rfl⟩:=WE.mp hd
 have:t < n:=by simpa using ht
 exact F9 ((p.dW K t (by omega)).rd (by omega)) 2
theorem zW (p:Pn)(f c:Nat):p.rows (f+c)=p.rows f++(zci f c).map λt=>.ls (evD (p.evs (p.run t))):=by
 unfold Pn.rows
 rw[Zj,← zat,Xf,zdn,← Zj]
theorem yh (p:Pn)(f:Nat):(p.rows f).length=f:=by unfold Pn.rows;simp
def btw (p:Pn)(f c:Nat):List Ev:=(zci f c).flatMap λt=>p.evs (p.run t)
theorem xW (p:Pn)(f c:Nat):btw p f (c+1)=btw p f c++p.evs (p.run (f+c)):=by
 unfold btw
 rw[← zat,XA]
 simp
theorem MU (p:Pn)(f c:Nat):p.evT (f+c)=p.evT f++btw p f c:=by
 unfold Pn.evT btw
 rw[Zj,← zat,XA,zdn,← Zj]
theorem vn {p:Pn}{m:Int}(K:p.Ok m)(f:Nat):∀ c:Nat,f+c<=900->(btw p f c).length<=c*14880
 | 0,_=>by simp[btw]
 | c+1,h=>by
  have ih:=vn K f c (by omega)
  have:=Il (p.dW K (f+c) (by omega)) (by omega)
  rw[xW,WG]
  omega
theorem w8 {α:Type}:∀ l:List α,WM l l=l.map λx=>(x,x)
 | []=>rfl
 | x::r=>by rw[List.zip_cons_cons,w8 r];rfl
theorem EO (w nm:Str)(B:List Ev):Bl (B.filterMap λe=>if e.nm=nm then some (D.str e.wd) else none) (.str w)=cW w nm B:=by
 unfold Bl cW
 induction B with
 | nil=>rfl
 | cons e r ih=>
  rw[Yn]
  by_cases h:e.nm=nm
  ·rw[if_pos h]
   by_cases h2:e.wd=w
   ·simp[h,h2,kK,ih]
   ·simp[h,h2,kK,ih]
  ·rw[if_neg h]
   simp[h,ih]
theorem J1 {nm:Str}{B:List Ev}(h:∀ e∈B,WD e.wd=true/\WD e.nm=true):b7 38 (B.filterMap λe=>if e.nm=nm then some (D.str e.wd) else none)=true:=by
 induction B with
 | nil=>rfl
 | cons e r ih=>
  have ih:=ih λx hx=>h x (W5 _ hx)
  rw[Yn]
  by_cases q:e.nm=nm
  ·rw[if_pos q]
   simp only
   rw[fo,y3,(h e WS).1,ih];rfl
  ·rw[if_neg q]
   exact ih
def fX:FSp:=λds μ Q=>kcA ds λd ds=>kcI ds λj ds=>kcN ds (∃ (p:Pn) (m:Int) (N:Nat),(d=p.toD/\j=N/\p.Ok m/\N<=900)/\Q (.tup (ttD (p.tot N))) μ)
theorem AJ:∀ ds μ Q,fX ds μ Q->ds.length=2:=λ_ _ _ h=>lcA h λ_ _ h=>lcI h λ_ _ h=>by rw[(ecN h).1];rfl
def xx:STr:=ay (aN (aq di (af (ah 0) (ar))) (aw 2)) (ay (iR (fi (ah 1)) (aw 3) (aN (aq fj (af (ah 0) (af (ah 2) (ar)))) (aw 2))) (aT (aj L3.rIx (ah 2) (TC (.int 1)))))
theorem Ei:∀ ds μ Q,fX ds μ Q->xx { nx:=λ_ μ'=>RT Q .non μ',rt:=RT Q } (ini 4 ds) μ:=by
 intro ds μ Q h
 replace h:=ecA h
 obtain ⟨d,ds,rfl,h⟩:=h
 replace h:=ecI h
 obtain ⟨j,ds,rfl,h⟩:=h
 replace h:=ecN h
 obtain ⟨rfl,h⟩:=h
 walk_at "ini"
 unfold xx
 walk_at "go"
 obtain ⟨p,m,N,⟨rfl,rfl,K,hN⟩,k⟩:=h
 refine ⟨p,m,⟨rfl,K⟩,?_⟩
 walk_at "go"
 refine ⟨⟨by omega,by omega⟩,?_⟩
 rw[Zb]
 refine bP (λr ρ μ'=>∃ (i:Nat) (v3:Option D),i+r.length=N/\ρ=[some p.toD,some (.int N),some (.tup [(p.run i).toD p.g,.tup (ttD (p.tot i))]),v3]/\μ'=μ) ?_ ?_ _ _ _ ⟨0,_,by rw[cX];omega,rfl,rfl⟩
 ·rintro ρ μ' ⟨i,v3,e,rfl,rfl⟩
  have e:i=N:=by simpa using e
  subst e
  walk_at "go"
  exact ⟨_,.refl _,k⟩
 ·rintro d r ρ μ' N' ⟨i,v3,e,rfl,rfl⟩ hN'
  rw[W6] at e
  walk_at "go"
  refine ⟨p,m,i,⟨rfl,rfl,K,by omega⟩,?_⟩
  walk_at "go"
  exact hN' _ _ ⟨i+1,_,by omega,rfl,rfl⟩
abbrev iW:FSp:=L3.aA
def qz:STr:=ay (bI (tL (TB (aj rGt (bK (ah 0) (TC (.str "left"))) (TC (.int 0)))) (TB (aj rLt (bK (ah 0) (TC (.str "given"))) (TC (.int 60))))) (ay (mw (λm n=>m+n) (ah 0) (TC (.str "given")) (TC (.int 1))) (ay (aN (aj mP (bK (ah 0) (TC (.str "left"))) (ah 1)) (aw 3)) (ay (i7 (ah 0) (TC (.str "left")) (aj nJ (bK (ah 0) (TC (.str "left"))) (ah 1))) (aT (ah 3))))) (a9)) (ay (i7 (ah 0) (TC (.str "seed")) (aq L3.iM (af (bK (ah 0) (TC (.str "seed"))) (af (bK (ah 0) (TC (.str "many"))) (ar))))) (aT (aj mP (aj nJ (bK (ah 0) (TC (.str "seed"))) (TC (.int 7))) (ah 1))))
def zQ:STr:=ay (mw (λm n=>m+n) (ah 0) (TC (.str "many")) (TC (.int 1))) (ay (bI (tL (TOr (TB (aj rEq (bK (ah 0) (TC (.str "left"))) (TC (.int 0)))) (TB (aj rEq (bK (ah 0) (TC (.str "given"))) (TC (.int 60))))) (TB (aj rLt (bK (ah 0) (TC (.str "at"))) (aq cQ (af (bK (ah 0) (TC (.str "cells"))) (ar)))))) (ay (aN (aq zE (af (aj L3.rIx (bK (ah 0) (TC (.str "cells"))) (bK (ah 0) (TC (.str "at")))) (ar))) (aw 2)) (ay (mw (λm n=>m+n) (ah 0) (TC (.str "at")) (TC (.int 1))) (ay (i7 (ah 0) (TC (.str "left")) (aj eJ (ah 2) (aq AL (af (aj rGe (ah 2) (aj IA (TC (.int 10)) (TC (.int 18)))) (ar))))) (ay (i7 (ah 0) (TC (.str "given")) (TC (.int 0))) (i7 (ah 0) (TC (.str "seed")) (aq L3.iM (af (aj aO (bK (ah 0) (TC (.str "seed"))) (ah 2)) (af (bK (ah 0) (TC (.str "many"))) (ar))))))))) (a9)) (qz))
theorem tP:∀ ds μ Q,iW ds μ Q->ds.length=2:=L3.E8
theorem uW:∀ ds μ Q,iW ds μ Q->zQ { nx:=λ_ μ'=>RT Q .non μ',rt:=RT Q } (ini 4 ds) μ:=L3.Iq
abbrev iL:FSp:=L3.jw
def qv:STr:=ay (aN (aj aO (TC (.int 1)) (aq L3.aA (af (ah 0) (af (TC (.int 5)) (ar))))) (aw 5)) (ay (aN (aq L3.bX (af (aj aO (TC (.int 1)) (aq L3.aA (af (ah 0) (af (aj eJ (TC (.int 2)) (ah 5)) (ar))))) (af (ah 5) (ar)))) (aw 6)) (ay (aN (aq L3.bX (af (aj aO (TC (.int 1)) (aq L3.aA (af (ah 0) (af (ah 5) (ar))))) (af (aj aO (ah 5) (TC (.int 1))) (ar)))) (aw 7)) (ay (bI (TB (aj rEq (ah 2) (TC (.str "still")))) (aT (bh (af (ah 2) (af (ah 3) (ar))))) (a9)) (ay (bI (TB (aj rEq (ah 2) (TC (.str "step")))) (aT (bh (af (ah 2) (af (ah 3) (af (ah 6) (af (ah 7) (af (ah 4) (ar)))))))) (a9)) (ay (bI (TB (aj rEq (ah 2) (TC (.str "swell")))) (aT (bh (af (ah 2) (af (ah 3) (af (aq L3.bX (af (aj aO (aj L3.rIx (ah 6) (TC (.int 0))) (aj L3.rIx (ah 6) (TC (.int 1)))) (af (aj L3.rIx (ah 6) (TC (.int 1))) (ar)))) (af (ah 7) (af (ah 4) (ar)))))))) (a9)) (ay (bI (TB (aj rEq (ah 2) (TC (.str "heed")))) (aT (bh (af (ah 2) (af (ah 3) (af (ah 6) (af (aq L3.bX (af (aj aO (TC (.int 1)) (aq L3.aA (af (ah 0) (af (ah 5) (ar))))) (af (ah 5) (ar)))) (af (ah 4) (ar)))))))) (a9)) (ay (aN (aq L3.aA (af (ah 0) (af (TC (.int 4)) (ar)))) (aw 8)) (aT (bh (af (ah 2) (af (ah 3) (af (ah 6) (af (ah 8) (af (aj aO (ah 8) (aq L3.aA (af (ah 0) (af (TC (.int 5)) (ar))))) (af (ah 4) (ar))))))))))))))))
def yk:STr:=ay (aN (aj L3.rIx (fM (af (TC (.str "still")) (af (TC (.str "step")) (af (TC (.str "swell")) (af (TC (.str "heed")) (af (TC (.str "calm")) (ar))))))) (aq L3.aA (af (ah 0) (af (TC (.int 5)) (ar))))) (aw 2)) (ay (pz 3 4 (af (aq L3.cK (af (ah 0) (af (TC (.int 1)) (af (ah 1) (ar))))) (af (aq L3.cK (af (ah 0) (af (TC (.int 1)) (af (ah 1) (ar))))) (ar)))) (ay (bI (TB (aj rGt (aj eJ (aj L3.rIx (ah 3) (TC (.int 0))) (aj L3.rIx (ah 4) (TC (.int 1)))) (aj eJ (aj L3.rIx (ah 4) (TC (.int 0))) (aj L3.rIx (ah 3) (TC (.int 1)))))) (pz 3 4 (af (ah 4) (af (ah 3) (ar)))) (a9)) (qv)))
theorem sV:∀ ds μ Q,iL ds μ Q->ds.length=2:=L3.EC
theorem wO:∀ ds μ Q,iL ds μ Q->yk { nx:=λ_ μ'=>RT Q .non μ',rt:=RT Q } (ini 9 ds) μ:=L3.Hc
abbrev f9:FSp:=L3.iG
def nz:STr:=ay (aN (aj L3.rIx (fM (af (TC (.int 1)) (af (TC (.int 1)) (af (TC (.int 2)) (af (TC (.int 3)) (af (aj aO (TC (.int 1)) (aq L3.aA (af (ah 0) (af (TC (.int 8)) (ar))))) (ar))))))) (aq L3.aA (af (ah 0) (af (TC (.int 5)) (ar))))) (aw 5)) (ay (aN (aj L3.rIx (fM (af (TC .non) (af (TC .non) (af (aq L3.aA (af (ah 0) (af (TC (.int 4)) (ar)))) (af (aq L3.aA (af (ah 0) (af (TC (.int 40)) (ar)))) (ar)))))) (aq L3.aA (af (ah 0) (af (TC (.int 4)) (ar))))) (aw 6)) (aT (bh (af (ah 1) (af (ah 4) (af (ah 5) (af (aj L3.rIx (fM (af (TC (.int 0)) (af (TC (.int 0)) (af (aq L3.aA (af (ah 0) (af (TC (.int 3)) (ar)))) (af (aq L3.aA (af (ah 0) (af (TC (.int 12)) (ar)))) (ar)))))) (aq L3.aA (af (ah 0) (af (TC (.int 4)) (ar))))) (af (ah 6) (af (aq L3.jw (af (ah 0) (af (ah 3) (ar)))) (ar))))))))))
def tS:STr:=ay (aN (aq bu (af (bG (eg (ah 2)) (aw 0) (TB (aj rEq (aq L3.aA (af (ah 1) (af (TC (.int 2)) (ar)))) (TC (.int 0)))) (aj L3.rIx (ah 0) (TC (.int 0))) 1 [0]) (ar))) (aw 4)) (ay (bI (TB (aj rEq (aq cQ (af (ah 4) (ar))) (TC (.int 0)))) (aN (bh (af (aj L3.rIx (aj L3.rIx (ah 2) (aq L3.aA (af (ah 0) (af (aq cQ (af (ah 2) (ar))) (ar))))) (TC (.int 0))) (ar))) (aw 4)) (a9)) (nz))
theorem o6:∀ ds μ Q,f9 ds μ Q->ds.length=4:=L3.zx
theorem sO:∀ ds μ Q,f9 ds μ Q->tS { nx:=λ_ μ'=>RT Q .non μ',rt:=RT Q } (ini 7 ds) μ:=L3.AA
abbrev cU:Nat->FSp:=L3.fY
abbrev l4:FSp:=L3.mh
def oO (sp_self:FSp):STr:=ay (bI (TB (aq (xP ["tuple", "list"]) (af (ah 1) (af (bh (af (TC (.ty "tuple")) (af (TC (.ty "list")) (ar)))) (ar))))) (ay (bI (TOr (TB (aj rNe (TUn (eS "tuple") (ah 0)) (TUn (eS "tuple") (ah 1)))) (TB (aj rNe (TUn (eS "list") (ah 0)) (TUn (eS "list") (ah 1))))) (aT (TC (.bl false))) (a9)) (aT (iz (aj rEq (aq cQ (af (ah 0) (ar))) (aq cQ (af (ah 1) (ar)))) (aq G6 (af (bG (jK (af (ah 0) (af (ah 1) (ar)))) (dh [0,1]) (dA) (aq sp_self (af (ah 0) (af (ah 1) (ar)))) 2 []) (ar)))))) (a9)) (ay (bI (TB (aj rIs (ah 1) (TC .non))) (aT (aj rIs (ah 0) (TC .non))) (a9)) (ay (bI (TB (TUn (eS "str") (ah 1))) (aT (iz (TUn (eS "str") (ah 0)) (aj rEq (ah 0) (ah 1)))) (a9)) (aT (iz (TUn (eS "int") (ah 0)) (iz (sR (TUn (eS "bool") (ah 0))) (aj rEq (ah 0) (ah 1)))))))
theorem oW:∀ n ds μ Q,cU n ds μ Q->ds.length=2:=L3.Ce
theorem qD (n:Nat):∀ ds μ Q,cU (n+1) ds μ Q->oO (cU n) { nx:=λ_ μ'=>RT Q .non μ',rt:=RT Q } (ini 2 ds) μ:=L3.EU n
abbrev gY:FSp:=L3.gY
theorem we:∀ ds μ Q,gY ds μ Q->ds.length=1:=L3.we
def HY:STr:=ay (aN (aq L3.pO (af (ah 0) (ar))) (aw 1)) (ay (aN (aq L3.lH (af (ah 1) (ar))) (aw 2)) (ay (pz 3 4 (af (aq L3.aA (af (ah 1) (af (TC (.int 31)) (ar)))) (af (aq L3.aA (af (ah 1) (af (TC (.int 30)) (ar)))) (ar)))) (ay (aN (aq p7 (af (ah 2) (af (ah 3) (ar)))) (dh [5,6])) (ay (aN (aq p7 (af (ah 2) (af (aj aO (ah 3) (ah 4)) (ar)))) (dh [7,8])) (ay (bI (uY (TB (aq L3.mh (af (TSl (ah 8) (ONo) (ky (ah 3))) (af (ah 6) (ar)))))) (aT (TC (.bl false))) (a9)) (ay (aN (lF (ar)) (aw 9)) (ay (iR (eg (TSl (ah 8) (ky (ah 3)) (ONo))) (aw 10) (ay (aN (aq L3.eZ (af (ah 2) (af (ah 5) (ar)))) (dh [5,11])) (ay (bI (uY (TB (aq L3.mh (af (ah 11) (af (ah 10) (ar)))))) (aT (TC (.bl false))) (a9)) (eU (uD (ah 9) (ah 10)))))) (ay (bI (uY (TB (aq L3.mh (af (ah 5) (af (ah 7) (ar)))))) (aT (TC (.bl false))) (a9)) (ay (iR (jK (af (aq fX (af (ah 2) (af (ah 3) (ar)))) (af (aq fX (af (ah 2) (af (aj aO (ah 3) (ah 4)) (ar)))) (ar)))) (dh [12,13]) (ay (aN (iT (ah 9) (aw 0) (TB (aj rEq (aj L3.rIx (ah 0) (TC (.int 1))) (aj L3.rIx (ah 1) (TC (.int 0))))) (aj L3.rIx (ah 0) (TC (.int 0))) 1 [12]) (aw 14)) (ay (bI (TB (aj rNe (bG (fi (TC (.int 3))) (aw 0) (dA) (aj je (aj L3.rIx (ah 1) (aj aO (ah 0) (TC (.int 1)))) (aj L3.rIx (ah 2) (aj aO (ah 0) (TC (.int 1))))) 1 [13,12]) (bG (eg (bh (af (TC (.str "sent")) (af (TC (.str "taken")) (af (TC (.str "lost")) (ar)))))) (aw 0) (dA) (u9 (ah 1) (ah 0)) 1 [14]))) (aT (TC (.bl false))) (a9)) (bI (TOr (TB (aj rNe (aj L3.rIx (ah 12) (TC (.int 0))) (aj L3.rIx (ah 13) (TC (.int 0))))) (uY (TB (lr rLe rLe (TC (.int 0)) (aj je (aj L3.rIx (ah 13) (TC (.int 4))) (aj L3.rIx (ah 12) (TC (.int 4)))) (u9 (ah 14) (TC (.str "taken"))))))) (aT (TC (.bl false))) (a9))))) (aT (aj rEq (aq cQ (af (aq fX (af (ah 2) (af (ah 3) (ar)))) (ar))) (aq cQ (af (aj L3.rIx (ah 2) (TC (.int 2))) (ar))))))))))))))
theorem Rb:∀ ds μ Q,gY ds μ Q->HY { nx:=λ_ μ'=>RT Q .non μ',rt:=RT Q } (ini 15 ds) μ:=by
 intro ds μ Q h
 replace h:=ecL h
 obtain ⟨_,ds,rfl,h⟩:=h
 replace h:=ecN h
 obtain ⟨rfl,h⟩:=h
 obtain ⟨⟨ns,rfl,hn⟩,k⟩:=h
 walk_at "ini"
 unfold HY
 walk_at "go"
 refine ⟨⟨ns,rfl⟩,λb μ1 hb P1 _=>?_⟩
 walk_at "go"
 refine ⟨P1,λp m μ2 K M P2=>?_⟩
 have s1:=K.s1
 walk_at "go"
 refine aV P2.pot (by decide) (by decide) λf μ3 f0 f1 P3=>?_
 obtain ⟨f,rfl⟩:∃ j:Nat,f=(j:Int):=⟨f.toNat,by omega⟩
 walk_at "go"
 refine aV P3.pot (by decide) (by decide) λc μ4 c0 c1 P4=>?_
 obtain ⟨c,rfl⟩:∃ j:Nat,c=(j:Int):=⟨c.toNat,by omega⟩
 clear P1 P2 P3 P4
 walk_at "go"
 refine ⟨p,m,f,⟨rfl,K,rfl,by omega⟩,?_⟩
 walk_at "go"
 refine ⟨p,m,f+c,⟨rfl,K,by omega,by omega⟩,?_⟩
 walk_at "go"
 have e1:cutD (p.rows (f+c)) none (some (f:Int))=p.rows f:=by
  rw[vQ,zW]
  exact List.take_left' (yh p f)
 have e2:cutD (p.rows (f+c)) (some (f:Int)) none=(zci f c).map λt=>.ls (evD (p.evs (p.run t))):=by
  rw[mZ,zW]
  exact List.drop_left' (yh p f)
 refine vP (by rw[e1]) (NU K (by omega)) ?_
 walk_at "go"
 intro q hq
 rw[e2]
 refine bP (λr ρ μ'=>∃ (n j:Nat) (v10 v11:Option D),r=(zci (f+n) j).map (λt=>.ls (evD (p.evs (p.run t))))/\n+j=c/\ρ=[some (.ls (ns.map .int)),some (.obj b),some p.toD,some (.int f),some (.int c),some ((p.run (f+n)).toD p.g),some (.ls (p.rows f)),some ((p.run (f+c)).toD p.g),some (.ls (p.rows (f+c))),some (.obj q),v10,v11,none,none,none]/\μ'=up μ4 q (.lst (evD (btw p f n)))) ?_ ?_ _ _ _ ⟨0,c,_,_,rfl,by omega,rfl,rfl⟩
 rotate_left
 ·rintro d r ρ μ' N ⟨n,j,v10,v11,er,en,rfl,rfl⟩ hN
  cases j with
  | zero=>cases er
  | succ j=>
  rw[zdC,WN] at er
  cases er
  have I:=p.dW K (f+n) (by omega)
  have R:=I.rd (by omega)
  have bl:=vn K f n (by omega)
  have el:=Il I (by omega)
  walk_at "go"
  refine ⟨p,p.run (f+n),⟨⟨rfl,rfl⟩,R⟩,?_⟩
  walk_at "go"
  refine vP rfl (F9 R 3) ?_
  walk_at "go"
  refine ⟨by rw[Ww,Ww];omega,hN _ _ ⟨n+1,j,_,_,rfl,by omega,rfl,?_⟩⟩
  rw[xW]
  unfold evD
  rw[Xf]
 ·rintro ρ μ' ⟨n,j,v10,v11,er,en,rfl,rfl⟩
  have:j=0:=by cases j with | zero=>rfl | succ j=>rw[zdC] at er;cases er
  subst this
  have en:n=c:=by omega
  subst en
  walk_at "go"
  refine vP rfl (T5 (Lx K (by omega)) p.g) ?_
  walk_at "go"
  refine ⟨p,m,f,⟨rfl,rfl,K,by omega⟩,?_⟩
  walk_at "go"
  refine ⟨p,m,f+n,⟨rfl,by omega,K,by omega⟩,?_⟩
  walk_at "go"
  have dif:∀ w nm,((cW w nm (p.evT (f+n)):Nat):Int) - (cW w nm (p.evT f):Nat)=(cW w nm (btw p f n):Nat):=λw nm=>by rw[MU,lu];omega
  have mk:=λnm=>zd K nm f n (by omega)
  have bok:∀ e∈btw p f n,WD e.wd=true/\WD e.nm=true:=λe he=>by
   obtain ⟨t,ht,h⟩:=YR.mp he
   have tn:=List.mem_range'_1.mp ht
   have R:=(p.dW K t (by omega)).rd (by omega)
   have:=Of R e h
   exact ⟨this.1,R.sn _ this.2.1⟩
  have bl:=vn K f n (by omega)
  rw[qf K f (by omega),qf K (f+n) (by omega)]
  generalize btw p f n=B at *
  unfold ttD
  rw[WQ,WQ,uq,show WM p.ss p.ss=p.ss.map λs=>(s,s) from w8 _,WQ]
  have qk:∀ μ',Sub (up μ4 q (.lst (evD B))) μ'->μ' q=some (.lst (B.map Ev.toD)):=λμ' h=>h _ _ aF
  refine bP (λr ρ μ'=>∃ (rs:List Sn) (v12 v13 v14:Option D),r=rs.map (λs=>.tup [(p.tw f s).toD,(p.tw (f+n) s).toD])/\(∀ s∈rs,s∈p.ss)/\ρ=[some (.ls (ns.map .int)),some (.obj b),some p.toD,some (.int f),some (.int n),some ((p.run (f+n)).toD p.g),some (.ls (p.rows f)),some ((p.run (f+n)).toD p.g),some (.ls (p.rows (f+n))),some (.obj q),v10,v11,v12,v13,v14]/\μ'=up μ4 q (.lst (evD B))) ?_ ?_ _ _ _ ⟨p.ss,_,_,_,rfl,λ_ h=>h,rfl,rfl⟩
  ·rintro ρ μ' ⟨rs,v12,v13,v14,er,hs,rfl,rfl⟩
   cases rs with
   | cons _ _=>cases er
   | nil=>
   walk_at "go"
   refine ⟨p,m,f,⟨rfl,rfl,K,by omega⟩,?_⟩
   walk_at "go"
   rw[decide_eq_true (by rw[qf K f (by omega)];simp)]
   exact ⟨_,.refl _,k _⟩
  ·rintro d r ρ μ' N ⟨rs,v12,v13,v14,er,hs,rfl,rfl⟩ hN
   cases rs with
   | nil=>cases er
   | cons s rs=>
   cases er
   have sk:=(K.s s (hs s WS)).n
   walk_at "go"
   refine kq B Ev.toD (λe=>if e.nm=s.nm then some (.str e.wd) else none) rfl aF (by omega) (λe he μ1 sb N m=>?_) ?_
   ·walk_at "go"
    refine ⟨⟨(bok e he).2,sk⟩,?_⟩
    by_cases h:e.nm=s.nm
    ·rw[if_pos h] at m
     exact sT h m
    ·rw[if_neg h] at m
     exact zU h m
   walk_at "go"
   have wo:=J1 (nm:=s.nm) bok
   have wc:=λw=>EO w s.nm B
   generalize (B.filterMap λe=>if e.nm=s.nm then some (D.str e.wd) else none)=W at *
   have ks:∀ w∈[vS,vT,vL],WD w=true:=by decide +kernel
   refine bB [((0:Int),(cW vS s.nm B:Int)),(1,(cW vT s.nm B:Int)),(2,(cW vL s.nm B:Int))] (λy=>.int y.1) (λy=>.int y.2) rfl (show 3<=999999 by decide) (λy hy μ1 sb N nn=>?_) ?_
   ·simp only[WK,WY,or_false] at hy
    rcases hy with rfl | rfl | rfl
    ·walk_at "go"
     rw[show (p.tw (f+n) s).s - (p.tw f s).s=(cW vS s.nm B:Int) from dif vS s.nm]
     exact nn
    ·walk_at "go"
     rw[show (p.tw (f+n) s).t - (p.tw f s).t=(cW vT s.nm B:Int) from dif vT s.nm]
     exact nn
    ·walk_at "go"
     rw[show (p.tw (f+n) s).l - (p.tw f s).l=(cW vL s.nm B:Int) from dif vL s.nm]
     exact nn
   refine bB [(vS,(cW vS s.nm B:Int)),(vT,(cW vT s.nm B:Int)),(vL,(cW vL s.nm B:Int))] (λy=>.str y.1) (λy=>.int y.2) rfl (show 3<=999999 by decide) (λy hy μ1 sb N nn=>?_) ?_
   ·simp only[WK,WY,or_false] at hy
    rcases hy with rfl | rfl | rfl <;>
    ·walk_at "go"
     refine ⟨⟨wo,ks _ (by simp)⟩,?_⟩
     rw[wc]
     exact nn
   walk_at "go"
   refine ⟨⟨sk,sk⟩,Jf rfl ?_⟩
   have mk':=mk s.nm
   rw[dif] at mk'
   refine sT mk'.1 ⟨⟨wo,ks _ (by simp)⟩,Jf (by rw[wc];exact mk'.2) ?_⟩
   exact hN _ _ ⟨rs,_,_,_,rfl,λy hy=>hs y (W5 _ hy),rfl,rfl⟩
theorem nv (ns:List Int)(h:ns.length<=63)(μ:Mu):gY [.ls (ns.map .int)] μ (λd _=>d=.bl true):=L3.nv ns h μ
end Kk
namespace Kk
open PySem L2 L3
theorem SO {α:Type}{us:List α}(h:us.length=1):∃ x0,us=[x0]:=match us,h with | [x0],_=>⟨x0,rfl⟩
theorem Uw {α:Type}{us:List α}(h:us.length=2):∃ x0 x1,us=[x0,x1]:=match us,h with | [x0,x1],_=>⟨x0,x1,rfl⟩
theorem Ui {α:Type}{us:List α}(h:us.length=3):∃ x0 x1 x2,us=[x0,x1,x2]:=match us,h with | [x0,x1,x2],_=>⟨x0,x1,x2,rfl⟩
theorem Ul {α:Type}{us:List α}(h:us.length=4):∃ x0 x1 x2 x3,us=[x0,x1,x2,x3]:=match us,h with | [x0,x1,x2,x3],_=>⟨x0,x1,x2,x3,rfl⟩
theorem T9 {α:Type}{us:List α}(h:us.length=5):∃ x0 x1 x2 x3 x4,us=[x0,x1,x2,x3,x4]:=match us,h with | [x0,x1,x2,x3,x4],_=>⟨x0,x1,x2,x3,x4,rfl⟩
def top (i:Nat):Stmt:=PySem.Challenge.pw_swellways_k33_whole_runs_in_pieces.main.body.getD i (.Pass ⟨0,0,0,0⟩)
abbrev oP:Stmt:=top 33
abbrev GU:Stmt:=top 34
abbrev HU:Stmt:=top 35
abbrev CF:Stmt:=top 36
abbrev Cu:Stmt:=top 37
abbrev GJ:Stmt:=top 38
abbrev qw:Stmt:=top 39
abbrev yp:Stmt:=top 40
abbrev xB:Stmt:=top 45
abbrev qW:Stmt:=top 46
abbrev uI:Stmt:=top 47
abbrev jH:Stmt:=top 48
abbrev oE:Stmt:=top 49
abbrev CD:Stmt:=top 50
abbrev HR:Stmt:=top 51
abbrev rG:Stmt:=top 52
abbrev l9:Stmt:=top 54
abbrev qC:Stmt:=top 55
abbrev gq:Stmt:=top 56
abbrev gj:Stmt:=top 57
abbrev uP:Stmt:=top 58
abbrev jT:Stmt:=top 60
abbrev pK:Stmt:=top 61
abbrev jV:Stmt:=top 62
abbrev rY:Stmt:=top 63
abbrev pZ:Stmt:=top 64
abbrev xo:Stmt:=top 65
abbrev fA:Stmt:=top 66
abbrev qj:Stmt:=top 67
abbrev mB:Stmt:=top 68
abbrev nQ:Stmt:=top 69
abbrev GX:Stmt:=top 70
abbrev gr:Stmt:=top 71
abbrev nY:Stmt:=top 72
abbrev cB:Stmt:=top 73
abbrev cD:Stmt:=top 74
abbrev N3:Stmt:=top 76
abbrev gF:Stmt:=top 77
abbrev jR:Stmt:=top 78
abbrev fz:Stmt:=top 79
abbrev mQ:Stmt:=top 80
abbrev yM:Stmt:=top 81
abbrev qY:Stmt:=top 83
abbrev rC:Stmt:=top 84
abbrev nN:Stmt:=top 85
abbrev iP:Stmt:=top 86
abbrev kM:Stmt:=top 87
abbrev i9:Stmt:=top 88
abbrev oq:Stmt:=top 89
abbrev oQ:Stmt:=top 90
abbrev gZ:Stmt:=top 91
abbrev jA:Stmt:=top 92
abbrev jx:Stmt:=top 93
abbrev zk:Stmt:=top 94
set_option genInjectivity false in
set_option genSizeOfSpec false in
structure Adr where
 oj:Addr
 xD:WT
 Ho:Addr
 Pf:WT
 IF:Addr
 RJ:WT
 DD:Addr
 KJ:WT
 Dv:Addr
 LR:WT
 GY:Addr
 PY:WT
 sA:Addr
 Ao:WT
 zY:Addr
 GC:WT
 yL:Addr
 Ga:WT
 qI:Addr
 Ah:WT
 uQ:Addr
 EK:WT
 jh:Addr
 rH:WT
 ow:Addr
 zL:WT
 Dr:Addr
 NF:WT
 FZ:Addr
 Qp:WT
 sE:Addr
 Cd:WT
 mE:Addr
 vO:WT
 rQ:Addr
 A5:WT
 nR:Addr
 zA:WT
 jv:Addr
 sL:WT
 t9:Addr
 EV:WT
 ji:Addr
 p8:WT
 Dy:Addr
 M6:WT
 nT:Addr
 zD:WT
 sS:Addr
 BZ:WT
 pT:Addr
 Cf:WT
 yI:Addr
 J8:WT
 i5:Addr
 o9:WT
 yr:Addr
 Gw:WT
 lZ:Addr
 wx:WT
 nS:Addr
 yB:WT
 JK:Addr
 Ph:WT
 nX:Addr
 wW:WT
 oK:Addr
 yN:WT
 jC:Addr
 ri:WT
 ui:Addr
 DG:WT
 Ol:Addr
 Ut:WT
 gI:Addr
 lL:WT
 jy:Addr
 qR:WT
 i4:Addr
 o8:WT
 mM:Addr
 vc:WT
 xl:Addr
 HB:WT
 qx:Addr
 Bf:WT
 rn:Addr
 AE:WT
 nZ:Addr
 yJ:WT
 lY:Addr
 vI:WT
 kC:Addr
 tN:WT
 jb:Addr
 pq:WT
 oo:Addr
 yZ:WT
 oA:Addr
 zN:WT
 kF:Addr
 tu:WT
 oM:Addr
 xM:WT
 gN:Addr
 gM:WT
 Hq:Addr
 Ox:WT
structure Txt (Pm:zd2) (K:Wq) (mg:Str->Option Wv) (t:Adr):Prop where
 xf:mg "common_of" = some (.ref t.oj)
 xt:Fun K "common_of" "common_of" oP t.oj t.xD
 Qr:mg "part" = some (.ref t.Ho)
 Pu:Fun K "part" "part" GU t.Ho t.Pf
 Qz:mg "plus" = some (.ref t.IF)
 Qt:Fun K "plus" "plus" HU t.IF t.RJ
 NA:mg "minus" = some (.ref t.DD)
 Nk:Fun K "minus" "minus" CF t.DD t.KJ
 Mo:mg "times" = some (.ref t.Dv)
 NI:Fun K "times" "times" Cu t.Dv t.LR
 RY:mg "less" = some (.ref t.GY)
 Qn:Fun K "less" "less" GJ t.GY t.PY
 Ck:mg "floor_of" = some (.ref t.sA)
 Ae:Fun K "floor_of" "floor_of" qw t.sA t.Ao
 JA:mg "cut_by" = some (.ref t.zY)
 HA:Fun K "cut_by" "cut_by" yp t.zY t.GC
 IC:mg "top_of" = some (.ref t.yL)
 GL:Fun K "top_of" "top_of" xB t.yL t.Ga
 AX:mg "begun_by" = some (.ref t.qI)
 Am:Fun K "begun_by" "begun_by" qW t.qI t.Ah
 DY:mg "is_idle" = some (.ref t.uQ)
 E6:Fun K "is_idle" "is_idle" uI t.uQ t.EK
 qK:mg "share_behind" = some (.ref t.jh)
 rE:Fun K "share_behind" "share_behind" jH t.jh t.rH
 yY:mg "factor_of" = some (.ref t.ow)
 xR:Fun K "factor_of" "factor_of" oE t.ow t.zL
 LK:mg "moved" = some (.ref t.Dr)
 Mr:Fun K "moved" "moved" CD t.Dr t.NF
 PH:mg "held" = some (.ref t.FZ)
 O2:Fun K "held" "held" HR t.FZ t.Qp
 Bm:mg "heard_by" = some (.ref t.sE)
 BC:Fun K "heard_by" "heard_by" rG t.sE t.Cd
 vj:mg "put_behind" = some (.ref t.mE)
 vW:Fun K "put_behind" "put_behind" l9 t.mE t.vO
 Ax:mg "taken_in" = some (.ref t.rQ)
 Cc:Fun K "taken_in" "taken_in" qC t.rQ t.A5
 yu:mg "next_name" = some (.ref t.nR)
 xV:Fun K "next_name" "next_name" gq t.nR t.zA
 qh:mg "out_by_turns" = some (.ref t.jv)
 rJ:Fun K "out_by_turns" "out_by_turns" gj t.jv t.sL
 E3:mg "let_out" = some (.ref t.t9)
 Ej:Fun K "let_out" "let_out" uP t.t9 t.EV
 rL:mg "begun_sender" = some (.ref t.ji)
 rF:Fun K "begun_sender" "begun_sender" jT t.ji t.p8
 N0:mg "begun" = some (.ref t.Dy)
 LH:Fun K "begun" "begun" pK t.Dy t.M6
 xO:mg "under_way" = some (.ref t.nT)
 zm:Fun K "under_way" "under_way" jV t.nT t.zD
 Cs:mg "new_ones" = some (.ref t.sS)
 B7:Fun K "new_ones" "new_ones" rY t.sS t.BZ
 A1:mg "sent_off" = some (.ref t.pT)
 AV:Fun K "sent_off" "sent_off" pZ t.pT t.Cf
 HI:mg "beaten" = some (.ref t.yI)
 Hu:Fun K "beaten" "beaten" xo t.yI t.J8
 o5:mg "sent_in_order" = some (.ref t.i5)
 pj:Fun K "sent_in_order" "sent_in_order" fA t.i5 t.o9
 Hb:mg "passed" = some (.ref t.yr)
 J9:Fun K "passed" "passed" qj t.yr t.Gw
 u4:mg "way_behind" = some (.ref t.lZ)
 vd:Fun K "way_behind" "way_behind" mB t.lZ t.wx
 yn:mg "events_of" = some (.ref t.nS)
 xX:Fun K "events_of" "events_of" nQ t.nS t.yB
 Pw:mg "aged" = some (.ref t.JK)
 PN:Fun K "aged" "aged" GX t.JK t.Ph
 zB:mg "way_after" = some (.ref t.nX)
 xr:Fun K "way_after" "way_after" gr t.nX t.wW
 ym:mg "due_after" = some (.ref t.oK)
 zK:Fun K "due_after" "due_after" nY t.oK t.yN
 qS:mg "sender_after" = some (.ref t.jC)
 qG:Fun K "sender_after" "sender_after" cB t.jC t.ri
 EB:mg "stepped" = some (.ref t.ui)
 Fi:Fun K "stepped" "stepped" cD t.ui t.DG
 Up:mg "run" = some (.ref t.Ol)
 SK:Fun K "run" "run" N3 t.Ol t.Ut
 lN:mg "marked_in_round" = some (.ref t.gI)
 mq:Fun K "marked_in_round" "marked_in_round" gF t.gI t.lL
 qE:mg "totals_after" = some (.ref t.jy)
 sD:Fun K "totals_after" "totals_after" jR t.jy t.qR
 oT:mg "counted_first" = some (.ref t.i4)
 pC:Fun K "counted_first" "counted_first" fz t.i4 t.o8
 wK:mg "counted_on" = some (.ref t.mM)
 wg:Fun K "counted_on" "counted_on" mQ t.mM t.vc
 G9:mg "totals" = some (.ref t.xl)
 Gk:Fun K "totals" "totals" yM t.xl t.HB
 BB:mg "_law_pot" = some (.ref t.qx)
 As:Fun K "_law_pot" "_law_pot" qY t.qx t.Bf
 Cp:mg "_law_mix" = some (.ref t.rn)
 A4:Fun K "_law_mix" "_law_mix" rC t.rn t.AE
 zu:mg "_law_take" = some (.ref t.nZ)
 xj:Fun K "_law_take" "_law_take" nN t.nZ t.yJ
 vo:mg "_law_names" = some (.ref t.lY)
 vM:Fun K "_law_names" "_law_names" iP t.lY t.vI
 tF:mg "_law_lowest" = some (.ref t.kC)
 tm:Fun K "_law_lowest" "_law_lowest" kM t.kC t.tN
 o4:mg "_law_fraction" = some (.ref t.jb)
 oX:Fun K "_law_fraction" "_law_fraction" i9 t.jb t.pq
 wX:mg "_law_rule" = some (.ref t.oo)
 yH:Fun K "_law_rule" "_law_rule" oq t.oo t.yZ
 zC:mg "_law_ways" = some (.ref t.oA)
 xY:Fun K "_law_ways" "_law_ways" oQ t.oA t.zN
 tV:mg "_law_sender" = some (.ref t.kF)
 tf:Fun K "_law_sender" "_law_sender" gZ t.kF t.tu
 zF:mg "_law_plan" = some (.ref t.oM)
 xq:Fun K "_law_plan" "_law_plan" jA t.oM t.xM
 oF:mg "_law_same" = some (.ref t.gN)
 c9:Fun K "_law_same" "_law_same" jx t.gN t.gM
 Uc:mg "law" = some (.ref t.Hq)
 DC:Fun K "law" "law" zk t.Hq t.Ox
 Ge:mg "abs" = none
 Ue:mg "all" = none
 OV:mg "bool" = none
 QV:mg "dict" = none
 zS:mg "enumerate" = none
 OH:mg "int" = none
 bL:mg "isinstance" = none
 c7:mg "len" = none
 mU:mg "list" = none
 CH:mg "max" = none
 TV:mg "min" = none
 j9:mg "range" = none
 qT:mg "sorted" = none
 N7:mg "str" = none
 Tq:mg "sum" = none
 bj:mg "tuple" = none
 mx:mg "zip" = none
 wR:GV K mg "AGAIN" (.int 6)
 Ot:GV K mg "AGE" (.int 2)
 QO:GV K mg "BEAT" (.int 2)
 MH:GV K mg "BEGIN" (.int 3)
 yg:GV K mg "COMING" (.int 0)
 C3:GV K mg "DUE" (.int 1)
 JZ:GV K mg "GOOD" (.int 8)
 IH:GV K mg "GRID" (.int 0)
 ID:GV K mg "HALF" (.tup [.int 1,.int 2])
 CC:GV K mg "HOP" (.int 3)
 jD:GV K mg "IS_MARKED" (.int 4)
 Rf:GV K mg "LAST" (.int 2)
 qr:GV K mg "LEFT" (.int 5)
 rM:GV K mg "LOST" (.int 7)
 RL:GV K mg "MANY" (.int 4)
 FV:GV K mg "MARK" (.int 3)
 jm:GV K mg "MARKED" (.int 9)
 bR:GV K mg "NAME" (.int 0)
 Az:GV K mg "NEXT" (.int 4)
 FA:GV K mg "NOUGHT" (.tup [.int 0,.int 1])
 jg:GV K mg "NUMBER" (.int 1)
 Hg:GV K mg "ONE" (.tup [.int 1,.int 1])
 BS:GV K mg "PACE" (.int 1)
 GW:GV K mg "ROAD" (.int 1)
 O4:GV K mg "ROOM" (.int 2)
 Hn:GV K mg "RULE" (.int 5)
 m9:GV K mg "SENDERS" (.int 2)
 NC:GV K mg "SHARE" (.int 3)
 O9:GV K mg "SORT" (.int 4)
 qN:GV K mg "STANDING" (.int 1)
 fB:GV K mg "STATE_SENDERS" (.int 1)
 lP:GV K mg "STATE_WAYS" (.int 0)
 IM:GV K mg "WAIT" (.int 10)
 vU:GV K mg "WAYS" (.int 1)
 zZ:GV K mg "WINDOW" (.int 2)
local macro_rules | `(tactic| walk_at "sc")=>`(tactic| exact S8 rfl rfl rfl rfl (by decide +kernel))
local macro_rules | `(tactic| walk_at "b1")=>`(tactic| (rename_i hl;obtain ⟨x0,e⟩:=SO hl;subst e;rfl))
local macro_rules | `(tactic| walk_at "b2")=>`(tactic| (rename_i hl;obtain ⟨x0,x1,e⟩:=Uw hl;subst e;rfl))
local macro_rules | `(tactic| walk_at "b3")=>`(tactic| (rename_i hl;obtain ⟨x0,x1,x2,e⟩:=Ui hl;subst e;rfl))
local macro_rules | `(tactic| walk_at "b4")=>`(tactic| (rename_i hl;obtain ⟨x0,x1,x2,x3,e⟩:=Ul hl;subst e;rfl))
local macro_rules | `(tactic| walk_at "b5")=>`(tactic| (rename_i hl;obtain ⟨x0,x1,x2,x3,x4,e⟩:=T9 hl;subst e;rfl))
section
variable {P:W9} {w:Xm} {K:Wq} {mg:Str->Option Wv} {base:Heap} {t:Adr}
theorem df:aG ["one", "other", "divisor", "rest", "behind"] ["one", "other"] (av oP):=by walk_at "sc"
theorem xk (T:Txt w.params K mg t):aP P w K mg base 1 "common_of" ["one", "other"] L3.fG:=aL T.xf T.xt df L3.tq L3.vy (λ_ _ _ _ _ _ _ _=>by walk_at "b2") λ_ _ _ _ _ _ hr hu=>
 ak (aB 2 df.nd (aU sH wL rfl T.Ge rfl (aa (ae 0) (ai)))) (ak (aB 3 df.nd (aU sH wL rfl T.Ge rfl (aa (ae 1) (ai)))) (ak (rR Xj (oh (ae 3) (le_int)) (ak (aB 4 df.nd (iS (ae 2) (ae 3))) (ak (aB 2 df.nd (ae 3)) (ax (aB 3 df.nd (ae 4)))))) (ax (aD (ae 2)))))
theorem vE:aG ["top", "bottom", "divisor"] ["top", "bottom"] (av GU):=by walk_at "sc"
theorem sN (T:Txt w.params K mg t):aP P w K mg base 2 "part" ["top", "bottom"] L3.gH:=aL T.Qr T.Pu vE L3.Jr L3.Ng (λ_ _ _ _ _ _ _ _=>by walk_at "b2") λ_ _ _ _ _ _ hr hu=>
 ak (aB 2 vE.nd (ao (xk T) hr rfl (aa (ae 0) (aa (ae 1) (ai))))) (ak (bF (mH (ae 1) (le_int)) (ax (aB 2 vE.nd (le_neg (ae 2)))) (a6)) (ax (aD (aQ (aa (jt (ae 0) (ae 2)) (aa (jt (ae 1) (ae 2)) (ai)))))))
theorem K3:aG ["one", "other"] ["one", "other"] (av HU):=by walk_at "sc"
theorem Jd (T:Txt w.params K mg t):aP P w K mg base 3 "plus" ["one", "other"] L3.j7:=aL T.Qz T.Qt K3 L3.Gz L3.Lf (λ_ _ _ _ _ _ _ _=>by walk_at "b2") λ_ _ _ _ _ _ hr hu=>
 ax (aD (ao (sN T) hr rfl (aa (aI (le_mul (au (ae 0) (le_int)) (au (ae 1) (le_int))) (le_mul (au (ae 1) (le_int)) (au (ae 0) (le_int)))) (aa (le_mul (au (ae 0) (le_int)) (au (ae 1) (le_int))) (ai)))))
theorem JS:aG ["one", "other"] ["one", "other"] (av CF):=by walk_at "sc"
theorem vm (T:Txt w.params K mg t):aP P w K mg base 3 "minus" ["one", "other"] L3.iu:=aL T.NA T.Nk JS L3.DV L3.Gy (λ_ _ _ _ _ _ _ _=>by walk_at "b2") λ_ _ _ _ _ _ hr hu=>
 ax (aD (ao (sN T) hr rfl (aa (eQ (le_mul (au (ae 0) (le_int)) (au (ae 1) (le_int))) (le_mul (au (ae 1) (le_int)) (au (ae 0) (le_int)))) (aa (le_mul (au (ae 0) (le_int)) (au (ae 1) (le_int))) (ai)))))
theorem HD:aG ["one", "other"] ["one", "other"] (av Cu):=by walk_at "sc"
theorem u7 (T:Txt w.params K mg t):aP P w K mg base 3 "times" ["one", "other"] L3.iA:=aL T.Mo T.NI HD L3.DS L3.Fq (λ_ _ _ _ _ _ _ _=>by walk_at "b2") λ_ _ _ _ _ _ hr hu=>
 ax (aD (ao (sN T) hr rfl (aa (le_mul (au (ae 0) (le_int)) (au (ae 1) (le_int))) (aa (le_mul (au (ae 0) (le_int)) (au (ae 1) (le_int))) (ai)))))
theorem Lh:aG ["one", "other"] ["one", "other"] (av GJ):=by walk_at "sc"
theorem IJ (T:Txt w.params K mg t):aP P w K mg base 1 "less" ["one", "other"] L3.md:=aL T.RY T.Qn Lh L3.GG L3.Lr (λ_ _ _ _ _ _ _ _=>by walk_at "b2") λ_ _ _ _ _ _ hr hu=>
 ax (aD (Ub (le_mul (au (ae 0) (le_int)) (au (ae 1) (le_int))) (le_mul (au (ae 1) (le_int)) (au (ae 0) (le_int)))))
theorem yO:aG ["one"] ["one"] (av qw):=by walk_at "sc"
theorem B1 (T:Txt w.params K mg t):aP P w K mg base 1 "floor_of" ["one"] L3.gx:=aL T.Ck T.Ae yO L3.vN L3.yU (λ_ _ _ _ _ _ _ _=>by walk_at "b1") λ_ _ _ _ _ _ hr hu=>
 ax (aD (jt (au (ae 0) (le_int)) (au (ae 0) (le_int))))
theorem DT:aG ["one", "grid"] ["one", "grid"] (av yp):=by walk_at "sc"
theorem lQ (T:Txt w.params K mg t):aP P w K mg base 3 "cut_by" ["one", "grid"] L3.eW:=aL T.JA T.HA DT L3.Bh L3.Eu (λ_ _ _ _ _ _ _ _=>by walk_at "b2") λ_ _ _ _ _ _ hr hu=>
 ax (aD (ao (sN T) hr rfl (aa (jt (le_mul (au (ae 0) (le_int)) (ae 1)) (au (ae 0) (le_int))) (aa (ae 1) (ai)))))
theorem EY:aG ["rule"] ["rule"] (av xB):=by walk_at "sc"
theorem yT (T:Txt w.params K mg t):aP P w K mg base 1 "top_of" ["rule"] L3.ip:=aL T.IC T.GL EY L3.Bi L3.EN (λ_ _ _ _ _ _ _ _=>by walk_at "b1") λ_ _ _ _ _ _ hr hu=>
 ax (aD (au (ae 0) (eQ (aU a7 bx rfl T.c7 rfl (aa (ae 0) (ai))) (le_int))))
theorem yf:aG ["rule", "grid"] ["rule", "grid"] (av qW):=by walk_at "sc"
theorem Av (T:Txt w.params K mg t):aP P w K mg base 4 "begun_by" ["rule", "grid"] L3.gO:=aL T.AX T.Am yf L3.vx L3.yi (λ_ _ _ _ _ _ _ _=>by walk_at "b2") λ_ _ _ _ _ _ hr hu=>
 ax (aD (aQ (aa (ao (lQ T) hr rfl (aa (au (ae 0) (le_int)) (aa (ae 1) (ai)))) (aa (aE rfl T.FA) (ai)))))
theorem BF:aG ["rule", "heard"] ["rule", "heard"] (av uI):=by walk_at "sc"
theorem EA (T:Txt w.params K mg t):aP P w K mg base 1 "is_idle" ["rule", "heard"] L3.iF:=aL T.DY T.E6 BF L3.zG L3.BO (λ_ _ _ _ _ _ _ _=>by walk_at "b2") λ_ _ _ _ _ _ hr hu=>
 ax (aD (Uh (le_eq hu (au (ae 0) (le_int)) (le_str)) (u6 (le_eq hu (aI (aI (au (ae 1) (le_int)) (au (ae 1) (le_int))) (au (ae 1) (le_int))) (le_int)))))
theorem fD:aG ["rule", "grid", "share", "heard", "bad", "nearer"] ["rule", "grid", "share", "heard"] (av jH):=by walk_at "sc"
theorem rh (T:Txt w.params K mg t):aP P w K mg base 4 "share_behind" ["rule", "grid", "share", "heard"] L3.dY:=aL T.qK T.rE fD L3.nE L3.pG (λ_ _ _ _ _ _ _ _=>by walk_at "b4") λ_ _ _ _ _ _ hr hu=>
 ak (bF (qy hu (au (ae 0) (le_int)) (le_str)) (ax (aD (ae 2))) (a6)) (ak (aB 4 fD.nd (aI (au (ae 3) (le_int)) (au (ae 3) (le_int)))) (ak (aB 5 fD.nd (ao (u7 T) hr rfl (aa (au (ae 0) (le_int)) (aa (ao (vm T) hr rfl (aa (ao (sN T) hr rfl (aa (ae 4) (aa (aI (au (ae 3) (le_int)) (ae 4)) (ai)))) (aa (ae 2) (ai)))) (ai))))) (ax (aD (ao (lQ T) hr rfl (aa (ao (Jd T) hr rfl (aa (ae 2) (aa (ae 5) (ai)))) (aa (ae 1) (ai))))))))
theorem wH:aG ["rule", "share", "heard"] ["rule", "share", "heard"] (av oE):=by walk_at "sc"
theorem zJ (T:Txt w.params K mg t):aP P w K mg base 4 "factor_of" ["rule", "share", "heard"] L3.fU:=aL T.yY T.xR wH L3.sZ L3.vH (λ_ _ _ _ _ _ _ _=>by walk_at "b3") λ_ _ _ _ _ _ hr hu=>
 ak (bF (lt_eq hu (au (ae 0) (le_int)) (le_str)) (ax (aD (hX (oh (au (ae 2) (le_int)) (le_int)) (aE rfl T.ID) (da)))) (a6)) (ak (bF (lt_eq hu (aI (au (ae 2) (le_int)) (au (ae 2) (le_int))) (le_int)) (ax (aD (hX (lt_eq hu (au (ae 0) (le_int)) (le_str)) (au (ae 0) (le_int)) (da)))) (a6)) (ak (bF (lt_eq hu (au (ae 0) (le_int)) (le_str)) (ax (aD (ao (vm T) hr rfl (aa (aE rfl T.Hg) (aa (ao (u7 T) hr rfl (aa (aE rfl T.ID) (aa (ae 1) (ai)))) (ai)))))) (a6)) (ax (aD (au (ae 0) (le_int))))))
theorem Ie:aG ["rule", "window", "heard"] ["rule", "window", "heard"] (av CD):=by walk_at "sc"
theorem NL (T:Txt w.params K mg t):aP P w K mg base 4 "moved" ["rule", "window", "heard"] L3.lJ:=aL T.LK T.Mr Ie L3.Fb L3.Io (λ_ _ _ _ _ _ _ _=>by walk_at "b3") λ_ _ _ _ _ _ hr hu=>
 ak (bF (LW.lt (z9 (qy hu (au (ae 0) (le_int)) (le_str)) (sP (mH (au (ae 2) (le_int)) (au (ae 0) (le_int)))))) (ax (aD (ao (Jd T) hr rfl (aa (ae 1) (aa (au (ae 0) (le_int)) (ai)))))) (a6)) (ak (bF (oh (au (ae 2) (le_int)) (au (ae 0) (le_int))) (ax (aD (ao (vm T) hr rfl (aa (ae 1) (aa (au (ae 0) (le_int)) (ai)))))) (a6)) (ax (aD (ae 1))))
theorem M4:aG ["rule", "grid", "window"] ["rule", "grid", "window"] (av HR):=by walk_at "sc"
theorem Jh (T:Txt w.params K mg t):aP P w K mg base 4 "held" ["rule", "grid", "window"] L3.mf:=aL T.PH T.O2 M4 L3.IB L3.MK (λ_ _ _ _ _ _ _ _=>by walk_at "b3") λ_ _ _ _ _ _ hr hu=>
 ak (bF (jL (ao (IJ T) hr rfl (aa (ae 2) (aa (aE rfl T.Hg) (ai))))) (ax (aD (aE rfl T.Hg))) (a6)) (ak (bF (jL (ao (IJ T) hr rfl (aa (ao (yT T) hr rfl (aa (ae 0) (ai))) (aa (ae 2) (ai))))) (ax (aD (ao (lQ T) hr rfl (aa (ao (yT T) hr rfl (aa (ae 0) (ai))) (aa (ae 1) (ai)))))) (a6)) (ax (aD (ao (lQ T) hr rfl (aa (ae 2) (aa (ae 1) (ai)))))))
theorem jY:aG ["rule", "grid", "window", "share", "heard", "nearer", "factor"] ["rule", "grid", "window", "share", "heard"] (av rG):=by walk_at "sc"
theorem BQ (T:Txt w.params K mg t):aP P w K mg base 5 "heard_by" ["rule", "grid", "window", "share", "heard"] L3.gy:=aL T.Bm T.BC jY L3.uR L3.y1 (λ_ _ _ _ _ _ _ _=>by walk_at "b5") λ_ _ _ _ _ _ hr hu=>
 ak (bF (jL (ao (EA T) hr rfl (aa (ae 0) (aa (ae 4) (ai))))) (ax (aD (aQ (aa (ae 2) (aa (ae 3) (ai)))))) (a6)) (ak (aB 5 jY.nd (ao (rh T) hr rfl (aa (ae 0) (aa (ae 1) (aa (ae 3) (aa (ae 4) (ai))))))) (ak (aB 6 jY.nd (ao (zJ T) hr rfl (aa (ae 0) (aa (ae 5) (aa (ae 4) (ai)))))) (ak (bF (oD (ae 6) (da)) (ax (aD (aQ (aa (ao (Jh T) hr rfl (aa (ae 0) (aa (ae 1) (aa (ao (NL T) hr rfl (aa (ae 0) (aa (ae 2) (aa (ae 4) (ai))))) (ai))))) (aa (ae 5) (ai)))))) (a6)) (ax (aD (aQ (aa (ao (Jh T) hr rfl (aa (ae 0) (aa (ae 1) (aa (ao (u7 T) hr rfl (aa (ae 2) (aa (ae 6) (ai)))) (ai))))) (aa (ae 5) (ai)))))))))
theorem tj:aG ["way", "letter", "ahead"] ["way", "letter", "ahead"] (av l9):=by walk_at "sc"
theorem vF (T:Txt w.params K mg t):aP P w K mg base 1 "put_behind" ["way", "letter", "ahead"] L3.fg:=aL T.vj T.vW tj L3.rP L3.tM (λ_ _ _ _ _ _ _ _=>by walk_at "b3") λ_ _ _ _ _ _ hr hu=>
 ak (bF (LW.lt (z9 (oD (au (ae 0) (aE rfl T.FV)) (da)) (sP (mH (ae 2) (au (ae 0) (aE rfl T.FV)))))) (ax (aD (ae 1))) (a6)) (ax (aD (aI (kR (ae 1) (lX) (gi (aE rfl T.jD))) (aQ (aa (le_int) (ai))))))
theorem gE:aG ["way", "standing", "letters", "stands", "lost", "letter"] ["way", "standing", "letters"] (av qC):=by walk_at "sc"
theorem BG (T:Txt w.params K mg t):aP P w K mg base 2 "taken_in" ["way", "standing", "letters"] L3.gG:=aL T.Ax T.Cc gE L3.wB L3.xN (λ_ _ _ _ _ _ _ _=>by walk_at "b3") λ_ _ _ _ _ _ hr hu=>
 ak (aB 3 gE.nd (aX iY uf rfl T.mU rfl (aa (ae 1) (ai)))) (ak (aB 4 gE.nd (h9 (ai))) (ak (eO Xj rfl (bJ (ae 2)) (gv 5 gE.nd) (ax (bF (Uz (aU a7 bx rfl T.c7 rfl (aa (ae 3) (ai))) (au (ae 0) (aE rfl T.O4))) (ax (dj (le_app (ae 4) (ae 5)))) (ax (dj (le_app (ae 3) (ao (vF T) hr rfl (aa (ae 0) (aa (ae 5) (aa (aU a7 bx rfl T.c7 rfl (aa (ae 3) (ai))) (ai))))))))))) (ax (aD (aQ (aa (aX aM a8 rfl T.bj rfl (aa (ae 3) (ai))) (aa (aX aM a8 rfl T.bj rfl (aa (ae 4) (ai))) (ai))))))))
theorem iJ:aG ["names", "owners", "last", "there", "behind"] ["names", "owners", "last"] (av gq):=by walk_at "sc"
theorem yq (T:Txt w.params K mg t):aP P w K mg base 1 "next_name" ["names", "owners", "last"] L3.fN:=aL T.yu T.xV iJ L3.tO L3.ve (λ_ _ _ _ _ _ _ _=>by walk_at "b3") λ_ _ _ _ _ _ hr hu=>
 ak (f6 (fsc:=av gq) 3 iJ.nd ["names", "owners", "last", "there", "behind"] ["name", "owners"] 1 [1] rfl rfl (bJ (ae 0)) (λcl C s₀ H₀ ex=>⟨bc 0 (show (["name", "owners"]:List Str).Nodup from by decide +kernel),fh (Rv hu (ae 0) (ae 1)),ae 0⟩) rfl rfl (by decide +kernel)) (ak (f6 (fsc:=av gq) 4 iJ.nd ["names", "owners", "last", "there", "behind"] ["name", "last"] 1 [2] rfl rfl (bJ (ae 3)) (λcl C s₀ H₀ ex=>⟨bc 0 (show (["name", "last"]:List Str).Nodup from by decide +kernel),fh (Rk (ae 0) (ae 1)),ae 0⟩) rfl rfl (by decide +kernel)) (ax (aD (hX (oh (aU a7 bx rfl T.c7 rfl (aa (ae 4) (ai))) (le_int)) (au (ae 4) (le_int)) (au (ae 3) (le_int))))))
theorem bW:aG ["way", "names", "standing", "last", "stands", "out", "name", "owners"] ["way", "names", "standing", "last"] (av gj):=by walk_at "sc"
theorem qd (T:Txt w.params K mg t):aP P w K mg base 2 "out_by_turns" ["way", "names", "standing", "last"] L3.dZ:=aL T.qh T.rJ bW L3.m7 L3.oU (λ_ _ _ _ _ _ _ _=>by walk_at "b4") λ_ _ _ _ _ _ hr hu=>
 ak (aB 4 bW.nd (aX iY uf rfl T.mU rfl (aa (ae 2) (ai)))) (ak (aB 5 bW.nd (h9 (ai))) (ak (aB 6 bW.nd (ae 3)) (ak (rR Xj (LW.lt (BH (oh (aU a7 bx rfl T.c7 rfl (aa (ae 4) (ai))) (le_int)) (vk (mH (aU a7 bx rfl T.c7 rfl (aa (ae 5) (ai))) (au (ae 0) (aE rfl T.BS)))))) (ak (nk (fsc:=av gj) 7 bW.nd ["way", "names", "standing", "last", "stands", "out", "name", "owners"] ["letter"] 1 [] rfl rfl (ae 4) (λcl C s₀ H₀ ex=>⟨bc 0 (show (["letter"]:List Str).Nodup from by decide +kernel),bC,au (ae 0) (aE rfl T.bR)⟩) rfl rfl (by decide +kernel)) (ak (aB 6 bW.nd (ao (yq T) hr rfl (aa (ae 1) (aa (ae 7) (aa (ae 6) (ai)))))) (ax (dj (le_app (ae 5) (Pc (ae 4) (FN hu (ae 7) (ae 6))))))))) (ax (aD (aQ (aa (aX aM a8 rfl T.bj rfl (aa (ae 5) (ai))) (aa (aX aM a8 rfl T.bj rfl (aa (ae 4) (ai))) (aa (ae 6) (ai))))))))))
theorem Aj:aG ["way", "names", "standing", "last"] ["way", "names", "standing", "last"] (av uP):=by walk_at "sc"
theorem Ew (T:Txt w.params K mg t):aP P w K mg base 3 "let_out" ["way", "names", "standing", "last"] L3.iZ:=aL T.E3 T.Ej Aj L3.xE L3.AQ (λ_ _ _ _ _ _ _ _=>by walk_at "b4") λ_ _ _ _ _ _ hr hu=>
 ak (bF (lt_eq hu (au (ae 0) (aE rfl T.O9)) (le_str)) (ax (aD (ao (qd T) hr rfl (aa (ae 0) (aa (ae 1) (aa (ae 2) (aa (ae 3) (ai)))))))) (a6)) (ax (aD (aQ (aa (aX aM a8 rfl T.bj rfl (aa (kR (ae 2) (lX) (gi (au (ae 0) (aE rfl T.BS)))) (ai))) (aa (aX aM a8 rfl T.bj rfl (aa (kR (ae 2) (gi (au (ae 0) (aE rfl T.BS))) (lX)) (ai))) (aa (le_str) (ai)))))))
theorem jc:aG ["grid", "sender", "first"] ["grid", "sender"] (av jT):=by walk_at "sc"
theorem sG (T:Txt w.params K mg t):aP P w K mg base 5 "begun_sender" ["grid", "sender"] L3.dR:=aL T.rL T.rF jc L3.nA L3.pE (λ_ _ _ _ _ _ _ _=>by walk_at "b2") λ_ _ _ _ _ _ hr hu=>
 ak (aB 2 jc.nd (ao (Av T) hr rfl (aa (au (ae 1) (aE rfl T.Hn)) (aa (ae 0) (ai))))) (ax (aD (aQ (aa (au (ae 1) (aE rfl T.bR)) (aa (au (ae 1) (aE rfl T.MH)) (aa (au (ae 2) (le_int)) (aa (au (ae 2) (le_int)) (aa (le_int) (aa (au (ae 1) (aE rfl T.RL)) (aa (aQ (ai)) (aa (aQ (ai)) (aa (le_int) (aa (le_int) (aa (le_int) (ai)))))))))))))))
theorem zf:aG ["plan", "ways"] ["plan"] (av pK):=by walk_at "sc"
theorem CK (T:Txt w.params K mg t):aP P w K mg base 6 "begun" ["plan"] L3.jl:=aL T.N0 T.LH zf L3.D4 L3.Hj (λ_ _ _ _ _ _ _ _=>by walk_at "b1") λ_ _ _ _ _ _ hr hu=>
 ak (aB 1 zf.nd (aX aM a8 rfl T.bj rfl (aa (bA (fsc:=av pK) ["plan", "ways"] ["way"] 1 [] rfl rfl (bJ (au (ae 0) (aE rfl T.vU))) (λcl C s₀ H₀ ex=>⟨bc 0 (show (["way"]:List Str).Nodup from by decide +kernel),bC,aQ (aa (aQ (ai)) (aa (aQ (ai)) (aa (le_str) (ai))))⟩) rfl rfl (by decide +kernel)) (ai)))) (ax (aD (aQ (aa (ae 1) (aa (aX aM a8 rfl T.bj rfl (aa (bA (fsc:=av pK) ["plan", "ways"] ["sender", "plan"] 1 [0] rfl rfl (bJ (au (ae 0) (aE rfl T.m9))) (λcl C s₀ H₀ ex=>⟨bc 0 (show (["sender", "plan"]:List Str).Nodup from by decide +kernel),bC,ao (sG T) hr rfl (aa (au (ae 1) (aE rfl T.IH)) (aa (ae 0) (ai)))⟩) rfl rfl (by decide +kernel)) (ai))) (ai))))))
theorem fI:aG ["state", "name", "count", "way"] ["state", "name"] (av jV):=by walk_at "sc"
theorem xJ (T:Txt w.params K mg t):aP P w K mg base 1 "under_way" ["state", "name"] L3.fT:=aL T.xO T.zm fI L3.tI L3.uV (λ_ _ _ _ _ _ _ _=>by walk_at "b2") λ_ _ _ _ _ _ hr hu=>
 ak (aB 2 fI.nd (le_int)) (ak (eO Xj rfl (bJ (au (ae 0) (aE rfl T.lP))) (gv 3 fI.nd) (ax (Ek 2 fI.nd (aU a7 bx rfl T.c7 rfl (aa (bA (fsc:=av jV) ["state", "name", "count", "way"] ["letter", "name"] 1 [1] rfl rfl (bJ (aI (au (ae 3) (aE rfl T.yg)) (au (ae 3) (aE rfl T.qN)))) (λcl C s₀ H₀ ex=>⟨bc 0 (show (["letter", "name"]:List Str).Nodup from by decide +kernel),fh (lt_eq hu (au (ae 0) (aE rfl T.bR)) (ae 1)),ae 0⟩) rfl rfl (by decide +kernel)) (ai)))))) (ax (aD (ae 2))))
theorem xZ:aG ["kept", "places"] ["kept", "places"] (av rY):=by walk_at "sc"
theorem AS (T:Txt w.params K mg t):aP P w K mg base 1 "new_ones" ["kept", "places"] L3.gw:=aL T.Cs T.B7 xZ L3.uS L3.y8 (λ_ _ _ _ _ _ _ _=>by walk_at "b2") λ_ _ _ _ _ _ hr hu=>
 ax (aD (hX (oD (au (ae 0) (aE rfl T.qr)) (da)) (ae 1) (aU (DZ rfl) Kb rfl T.TV rfl (aa (ae 1) (aa (au (ae 0) (aE rfl T.qr)) (ai))))))
theorem eB:aG ["kept", "places", "old", "count", "first", "left", "filled"] ["kept", "places"] (av pZ):=by walk_at "sc"
theorem Cq (T:Txt w.params K mg t):aP P w K mg base 2 "sent_off" ["kept", "places"] L3.gR:=aL T.A1 T.AV eB L3.wm L3.zX (λ_ _ _ _ _ _ _ _=>by walk_at "b2") λ_ _ _ _ _ _ hr hu=>
 ak (aB 2 eB.nd (kR (au (ae 0) (aE rfl T.wR)) (lX) (gi (ae 1)))) (ak (aB 3 eB.nd (ao (AS T) hr rfl (aa (ae 0) (aa (eQ (ae 1) (aU a7 bx rfl T.c7 rfl (aa (ae 2) (ai)))) (ai))))) (ak (aB 4 eB.nd (au (ae 0) (aE rfl T.Az))) (ak (aB 5 eB.nd (hX (oD (au (ae 0) (aE rfl T.qr)) (da)) (da) (eQ (au (ae 0) (aE rfl T.qr)) (ae 3)))) (ak (aB 6 eB.nd (aI (aI (kR (ae 0) (lX) (gi (aE rfl T.Az))) (aQ (aa (aI (ae 4) (ae 3)) (aa (ae 5) (aa (kR (au (ae 0) (aE rfl T.wR)) (gi (aU a7 bx rfl T.c7 rfl (aa (ae 2) (ai)))) (lX)) (ai)))))) (kR (ae 0) (gi (aE rfl T.rM)) (lX)))) (ax (aD (aQ (aa (ae 6) (aa (aI (ae 2) (LB rfl rfl T.bj rfl T.j9 (ae 4) (aI (ae 4) (ae 3)))) (ai))))))))))
theorem iD:aG ["grid", "sender", "kept", "state", "heard", "told", "again", "ready"] ["grid", "sender", "kept", "state"] (av xo):=by walk_at "sc"
theorem HJ (T:Txt w.params K mg t):aP P w K mg base 6 "beaten" ["grid", "sender", "kept", "state"] L3.j8:=aL T.HI T.Hu iD L3.BD L3.DP (λ_ _ _ _ _ _ _ _=>by walk_at "b4") λ_ _ _ _ _ _ hr hu=>
 ak (bF (qy hu (au (ae 2) (aE rfl T.C3)) (le_int)) (ax (aD (aQ (aa (ae 2) (aa (aQ (ai)) (ai)))))) (a6)) (ak (aB 4 iD.nd (aQ (aa (au (ae 2) (aE rfl T.JZ)) (aa (au (ae 2) (aE rfl T.jm)) (aa (aU a7 bx rfl T.c7 rfl (aa (au (ae 2) (aE rfl T.rM)) (ai))) (aa (au (ae 2) (aE rfl T.IM)) (ai))))))) (ak (aB 5 iD.nd (ao (BQ T) hr rfl (aa (au (ae 1) (aE rfl T.Hn)) (aa (ae 0) (aa (au (ae 2) (aE rfl T.zZ)) (aa (au (ae 2) (aE rfl T.NC)) (aa (ae 4) (ai)))))))) (ak (aB 6 iD.nd (aX aM a8 rfl T.bj rfl (aa (xI rfl T.qT rfl (aa (aI (au (ae 2) (aE rfl T.wR)) (au (ae 2) (aE rfl T.rM))) (ai))) (ai)))) (ak (aB 7 iD.nd (aQ (aa (au (ae 2) (aE rfl T.bR)) (aa (au (ae 2) (aE rfl T.C3)) (aa (au (ae 5) (le_int)) (aa (au (ae 5) (le_int)) (aa (au (ae 2) (aE rfl T.Az)) (aa (au (ae 2) (aE rfl T.qr)) (aa (ae 6) (aa (aQ (ai)) (aa (le_int) (aa (le_int) (aa (le_int) (ai)))))))))))))) (ax (aD (ao (Cq T) hr rfl (aa (ae 7) (aa (aU (uA rfl) y6 rfl T.CH rfl (aa (le_int) (aa (eQ (ao (B1 T) hr rfl (aa (au (ae 5) (le_int)) (ai))) (ao (xJ T) hr rfl (aa (ae 3) (aa (au (ae 2) (aE rfl T.bR)) (ai))))) (ai)))) (ai))))))))))
theorem cC:aG ["senders", "numbers", "sent", "turn", "sender", "own"] ["senders", "numbers"] (av fA):=by walk_at "sc"
theorem pA (T:Txt w.params K mg t):aP P w K mg base 1 "sent_in_order" ["senders", "numbers"] L3.dk:=aL T.o5 T.pj cC L3.l5 L3.nI (λ_ _ _ _ _ _ _ _=>by walk_at "b2") λ_ _ _ _ _ _ hr hu=>
 ak (aB 2 cC.nd (h9 (ai))) (ak (eO Xj rfl (iC rfl T.j9 (Dn rfl rfl T.CH (bA (fsc:=av fA) ["senders", "numbers", "sent", "turn", "sender", "own"] ["own"] 1 [] rfl rfl (bJ (ae 1)) (λcl C s₀ H₀ ex=>⟨bc 0 (show (["own"]:List Str).Nodup from by decide +kernel),bC,aU a7 bx rfl T.c7 rfl (aa (ae 0) (ai))⟩) rfl rfl (by decide +kernel)) (le_int))) (gv 3 cC.nd) (ax (eO Xj rfl (gL rfl T.mx (aa (ae 0) (aa (ae 1) (ai)))) (ie rfl (bf 4 cC.nd (bf 5 cC.nd (fe)))) (ax (bF (mH (ae 3) (aU a7 bx rfl T.c7 rfl (aa (ae 5) (ai)))) (ax (dj (le_app (ae 2) (aQ (aa (au (au (ae 4) (aE rfl T.GW)) (le_int)) (aa (aQ (aa (au (ae 4) (aE rfl T.bR)) (aa (au (ae 5) (ae 3)) (aa (le_int) (aa (le_int) (aa (le_int) (ai))))))) (ai))))))) (a6)))))) (ax (aD (vp (ae 2)))))
theorem kj:aG ["way", "names", "kept", "sent", "came", "held", "told"] ["way", "names", "kept", "sent"] (av qj):=by walk_at "sc"
theorem Iz (T:Txt w.params K mg t):aP P w K mg base 4 "passed" ["way", "names", "kept", "sent"] L3.kf:=aL T.Hb T.J9 kj L3.AY L3.D1 (λ_ _ _ _ _ _ _ _=>by walk_at "b4") λ_ _ _ _ _ _ hr hu=>
 ak (aB 4 kj.nd (aI (au (ae 2) (aE rfl T.yg)) (aX aM a8 rfl T.bj rfl (aa (bA (fsc:=av qj) ["way", "names", "kept", "sent", "came", "held", "told"] ["first", "letter", "way"] 2 [0] rfl rfl (bJ (ae 3)) (λcl C s₀ H₀ ex=>⟨gB rfl (bz 0 (show (["first", "letter", "way"]:List Str).Nodup from by decide +kernel) (bz 1 (show (["first", "letter", "way"]:List Str).Nodup from by decide +kernel) (ft))),fh (lt_eq hu (ae 0) (au (ae 2) (aE rfl T.bR))),ae 1⟩) rfl rfl (by decide +kernel)) (ai))))) (ak (aB 5 kj.nd (ao (BG T) hr rfl (aa (ae 0) (aa (au (ae 2) (aE rfl T.qN)) (aa (ae 4) (ai)))))) (ak (aB 6 kj.nd (ao (Ew T) hr rfl (aa (ae 0) (aa (ae 1) (aa (au (ae 5) (le_int)) (aa (au (ae 2) (aE rfl T.Rf)) (ai))))))) (ax (aD (aQ (aa (ae 4) (aa (au (ae 5) (le_int)) (aa (au (ae 6) (le_int)) (aa (au (ae 6) (le_int)) (aa (au (ae 6) (le_int)) (ai)))))))))))
theorem kE:aG ["roads", "letter", "road"] ["roads", "letter"] (av mB):=by walk_at "sc"
theorem iH (T:Txt w.params K mg t):aP P w K mg base 1 "way_behind" ["roads", "letter"] L3.cR:=aL T.u4 T.vd kE L3.qo L3.sY (λ_ _ _ _ _ _ _ _=>by walk_at "b2") λ_ _ _ _ _ _ hr hu=>
 ak (aB 2 kE.nd (cA hu (ae 0) (au (ae 1) (aE rfl T.bR)))) (ax (aD (hX (mH (aI (au (ae 1) (aE rfl T.CC)) (le_int)) (aU a7 bx rfl T.c7 rfl (aa (ae 2) (ai)))) (au (ae 2) (aI (au (ae 1) (aE rfl T.CC)) (le_int))) (da))))
theorem cO:aG ["way", "roads", "went", "events", "place", "letter", "word"] ["way", "roads", "went"] (av nQ):=by walk_at "sc"
theorem zO (T:Txt w.params K mg t):aP P w K mg base 2 "events_of" ["way", "roads", "went"] L3.fS:=aL T.yn T.xX cO L3.tR L3.wG (λ_ _ _ _ _ _ _ _=>by walk_at "b3") λ_ _ _ _ _ _ hr hu=>
 ak (aB 3 cO.nd (h9 (ai))) (ak (eO Xj rfl (NR rfl T.zS (aa (au (ae 2) (le_int)) (ai))) (ie rfl (bf 4 cO.nd (bf 5 cO.nd (fe)))) (ak (aB 6 cO.nd (hX (mH (ae 4) (eQ (aU a7 bx rfl T.c7 rfl (aa (au (ae 2) (le_int)) (ai))) (aU a7 bx rfl T.c7 rfl (aa (au (ae 2) (le_int)) (ai))))) (le_str) (le_str))) (ax (dj (le_app (ae 3) (aQ (aa (ae 6) (aa (au (ae 5) (aE rfl T.bR)) (aa (au (ae 5) (aE rfl T.jg)) (aa (au (ae 0) (aE rfl T.bR)) (ai))))))))))) (ak (eO Xj rfl (bJ (au (ae 2) (le_int))) (gv 5 cO.nd) (ak (aB 6 cO.nd (hX (oD (ao (iH T) hr rfl (aa (ae 1) (aa (ae 5) (ai)))) (da)) (le_str) (le_str))) (ax (dj (le_app (ae 3) (aQ (aa (ae 6) (aa (au (ae 5) (aE rfl T.bR)) (aa (au (ae 5) (aE rfl T.jg)) (aa (au (ae 0) (aE rfl T.bR)) (ai))))))))))) (ax (aD (vp (ae 3))))))
theorem NQ:aG ["letter", "hops"] ["letter", "hops"] (av GX):=by walk_at "sc"
theorem Iv (T:Txt w.params K mg t):aP P w K mg base 1 "aged" ["letter", "hops"] L3.mj:=aL T.Pw T.PN NQ L3.HV L3.Lc (λ_ _ _ _ _ _ _ _=>by walk_at "b2") λ_ _ _ _ _ _ hr hu=>
 ax (aD (aQ (aa (au (ae 0) (aE rfl T.bR)) (aa (au (ae 0) (aE rfl T.jg)) (aa (aI (au (ae 0) (aE rfl T.Ot)) (le_int)) (aa (aI (au (ae 0) (aE rfl T.CC)) (ae 1)) (aa (au (ae 0) (aE rfl T.jD)) (ai))))))))
theorem mC:aG ["way", "roads", "went", "out", "coming"] ["way", "roads", "went", "out"] (av gr):=by walk_at "sc"
theorem yy (T:Txt w.params K mg t):aP P w K mg base 2 "way_after" ["way", "roads", "went", "out"] L3.fH:=aL T.zB T.xr mC L3.tU L3.vB (λ_ _ _ _ _ _ _ _=>by walk_at "b4") λ_ _ _ _ _ _ hr hu=>
 ak (nk (fsc:=av gr) 4 mC.nd ["way", "roads", "went", "out", "coming"] ["letter", "roads", "way"] 1 [1,0] rfl rfl (ae 3) (λcl C s₀ H₀ ex=>⟨bc 0 (show (["letter", "roads", "way"]:List Str).Nodup from by decide +kernel),fh (lt_eq hu (ao (iH T) hr rfl (aa (ae 1) (aa (ae 0) (ai)))) (au (ae 2) (aE rfl T.bR))),ao (Iv T) hr rfl (aa (ae 0) (aa (le_int) (ai)))⟩) rfl rfl (by decide +kernel)) (ax (aD (aQ (aa (aX aM a8 rfl T.bj rfl (aa (ae 4) (ai))) (aa (aX aM a8 rfl T.bj rfl (aa (bA (fsc:=av gr) ["way", "roads", "went", "out", "coming"] ["letter"] 1 [] rfl rfl (bJ (au (ae 2) (le_int))) (λcl C s₀ H₀ ex=>⟨bc 0 (show (["letter"]:List Str).Nodup from by decide +kernel),bC,ao (Iv T) hr rfl (aa (ae 0) (aa (le_int) (ai)))⟩) rfl rfl (by decide +kernel)) (ai))) (aa (au (ae 2) (le_int)) (ai)))))))
theorem vA:aG ["sender", "due"] ["sender", "due"] (av nY):=by walk_at "sc"
theorem xn (T:Txt w.params K mg t):aP P w K mg base 1 "due_after" ["sender", "due"] L3.fO:=aL T.ym T.zK vA L3.tQ L3.u5 (λ_ _ _ _ _ _ _ _=>by walk_at "b2") λ_ _ _ _ _ _ hr hu=>
 ak (bF (oD (ae 1) (da)) (ax (aD (da))) (a6)) (ax (aD (hX (lt_eq hu (ae 1) (le_int)) (eQ (au (ae 0) (aE rfl T.QO)) (le_int)) (eQ (ae 1) (le_int)))))
theorem bH:aG ["sender", "kept", "lost", "taken", "numbers", "own", "marked", "wait", "heard", "start"] ["sender", "kept", "lost", "taken"] (av cB):=by walk_at "sc"
theorem ql (T:Txt w.params K mg t):aP P w K mg base 2 "sender_after" ["sender", "kept", "lost", "taken"] L3.dX:=aL T.qS T.qG bH L3.mX L3.pH (λ_ _ _ _ _ _ _ _=>by walk_at "b4") λ_ _ _ _ _ _ hr hu=>
 ak (nk (fsc:=av cB) 4 bH.nd ["sender", "kept", "lost", "taken", "numbers", "own", "marked", "wait", "heard", "start"] ["letter", "sender"] 1 [0] rfl rfl (ae 2) (λcl C s₀ H₀ ex=>⟨bc 0 (show (["letter", "sender"]:List Str).Nodup from by decide +kernel),fh (lt_eq hu (au (ae 0) (aE rfl T.bR)) (au (ae 1) (aE rfl T.bR))),au (ae 0) (aE rfl T.jg)⟩) rfl rfl (by decide +kernel)) (ak (f6 (fsc:=av cB) 5 bH.nd ["sender", "kept", "lost", "taken", "numbers", "own", "marked", "wait", "heard", "start"] ["letter", "sender"] 1 [0] rfl rfl (bJ (ae 3)) (λcl C s₀ H₀ ex=>⟨bc 0 (show (["letter", "sender"]:List Str).Nodup from by decide +kernel),fh (lt_eq hu (au (ae 0) (aE rfl T.bR)) (au (ae 1) (aE rfl T.bR))),ae 0⟩) rfl rfl (by decide +kernel)) (ak (aB 6 bH.nd (aU (EL rfl) Jt rfl T.Tq rfl (aa (bA (fsc:=av cB) ["sender", "kept", "lost", "taken", "numbers", "own", "marked", "wait", "heard", "start"] ["letter"] 1 [] rfl rfl (bJ (ae 5)) (λcl C s₀ H₀ ex=>⟨bc 0 (show (["letter"]:List Str).Nodup from by decide +kernel),bC,au (ae 0) (aE rfl T.jD)⟩) rfl rfl (by decide +kernel)) (ai)))) (ak (aB 7 bH.nd (Dn rfl rfl T.CH (bA (fsc:=av cB) ["sender", "kept", "lost", "taken", "numbers", "own", "marked", "wait", "heard", "start"] ["letter"] 1 [] rfl rfl (bJ (ae 5)) (λcl C s₀ H₀ ex=>⟨bc 0 (show (["letter"]:List Str).Nodup from by decide +kernel),bC,eQ (au (ae 0) (aE rfl T.Ot)) (au (ae 0) (aE rfl T.CC))⟩) rfl rfl (by decide +kernel)) (le_int))) (ak (aB 8 bH.nd (aQ (aa (eQ (aI (au (ae 1) (aE rfl T.JZ)) (aU a7 bx rfl T.c7 rfl (aa (ae 5) (ai)))) (ae 6)) (aa (aI (au (ae 1) (aE rfl T.jm)) (ae 6)) (aa (aU (uA rfl) y6 rfl T.CH rfl (aa (au (ae 1) (aE rfl T.IM)) (aa (ae 7) (ai)))) (ai)))))) (ak (aB 9 bH.nd (aQ (aa (au (ae 1) (aE rfl T.bR)) (aa (ao (xn T) hr rfl (aa (ae 0) (aa (au (ae 1) (aE rfl T.C3)) (ai)))) (ai))))) (ax (aD (aI (aI (aI (ae 9) (kR (ae 1) (gi (aE rfl T.zZ)) (gi (aE rfl T.rM)))) (aQ (aa (aX aM a8 rfl T.bj rfl (aa (xI rfl T.qT rfl (aa (aI (au (ae 1) (aE rfl T.rM)) (aX aM a8 rfl T.bj rfl (aa (ae 4) (ai)))) (ai))) (ai))) (ai)))) (ae 8)))))))))
theorem bw:aG ["plan", "state", "senders", "names", "roads", "beats", "sent", "went", "events", "lost", "out", "way", "told", "taken", "ways", "after"] ["plan", "state"] (av cD):=by walk_at "sc"
theorem nD (T:Txt w.params K mg t):aP P w K mg base 7 "stepped" ["plan", "state"] L3.eZ:=aL T.EB T.Fi bw L3.xG L3.Cr (λ_ _ _ _ _ _ _ _=>by walk_at "b2") λ_ _ _ _ _ _ hr hu=>
 ak (aB 2 bw.nd (au (ae 0) (aE rfl T.m9))) (ak (aB 3 bw.nd (aX aM a8 rfl T.bj rfl (aa (bA (fsc:=av cD) ["plan", "state", "senders", "names", "roads", "beats", "sent", "went", "events", "lost", "out", "way", "told", "taken", "ways", "after"] ["sender"] 1 [] rfl rfl (bJ (ae 2)) (λcl C s₀ H₀ ex=>⟨bc 0 (show (["sender"]:List Str).Nodup from by decide +kernel),bC,au (ae 0) (aE rfl T.bR)⟩) rfl rfl (by decide +kernel)) (ai)))) (ak (aB 4 bw.nd (aX (Bo rfl) HZ rfl T.QV rfl (aa (bA (fsc:=av cD) ["plan", "state", "senders", "names", "roads", "beats", "sent", "went", "events", "lost", "out", "way", "told", "taken", "ways", "after"] ["sender"] 1 [] rfl rfl (bJ (ae 2)) (λcl C s₀ H₀ ex=>⟨bc 0 (show (["sender"]:List Str).Nodup from by decide +kernel),bC,aQ (aa (au (ae 0) (aE rfl T.bR)) (aa (au (ae 0) (aE rfl T.GW)) (ai)))⟩) rfl rfl (by decide +kernel)) (ai)))) (ak (f6 (fsc:=av cD) 5 bw.nd ["plan", "state", "senders", "names", "roads", "beats", "sent", "went", "events", "lost", "out", "way", "told", "taken", "ways", "after"] ["sender", "kept", "state", "plan"] 2 [1,0] rfl rfl (gL rfl T.mx (aa (ae 2) (aa (au (ae 1) (aE rfl T.fB)) (ai)))) (λcl C s₀ H₀ ex=>⟨gB rfl (bz 0 (show (["sender", "kept", "state", "plan"]:List Str).Nodup from by decide +kernel) (bz 1 (show (["sender", "kept", "state", "plan"]:List Str).Nodup from by decide +kernel) (ft))),bC,ao (HJ T) hr rfl (aa (au (ae 3) (aE rfl T.IH)) (aa (ae 0) (aa (ae 1) (aa (ae 2) (ai)))))⟩) rfl rfl (by decide +kernel)) (ak (aB 6 bw.nd (ao (pA T) hr rfl (aa (ae 2) (aa (bA (fsc:=av cD) ["plan", "state", "senders", "names", "roads", "beats", "sent", "went", "events", "lost", "out", "way", "told", "taken", "ways", "after"] ["kept", "numbers"] 2 [] rfl rfl (bJ (ae 5)) (λcl C s₀ H₀ ex=>⟨gB rfl (bz 0 (show (["kept", "numbers"]:List Str).Nodup from by decide +kernel) (bz 1 (show (["kept", "numbers"]:List Str).Nodup from by decide +kernel) (ft))),bC,ae 1⟩) rfl rfl (by decide +kernel)) (ai))))) (ak (f6 (fsc:=av cD) 7 bw.nd ["plan", "state", "senders", "names", "roads", "beats", "sent", "went", "events", "lost", "out", "way", "told", "taken", "ways", "after"] ["way", "kept", "names", "sent"] 2 [3,6] rfl rfl (gL rfl T.mx (aa (au (ae 0) (aE rfl T.vU)) (aa (au (ae 1) (aE rfl T.lP)) (ai)))) (λcl C s₀ H₀ ex=>⟨gB rfl (bz 0 (show (["way", "kept", "names", "sent"]:List Str).Nodup from by decide +kernel) (bz 1 (show (["way", "kept", "names", "sent"]:List Str).Nodup from by decide +kernel) (ft))),bC,ao (Iz T) hr rfl (aa (ae 0) (aa (ae 2) (aa (ae 1) (aa (ae 3) (ai)))))⟩) rfl rfl (by decide +kernel)) (ak (Ft (fsc:=av cD) 8 bw.nd ["plan", "state", "senders", "names", "roads", "beats", "sent", "went", "events", "lost", "out", "way", "told", "taken", "ways", "after"] ["first", "letter"] 2 [] rfl rfl (bJ (ae 6)) (λcl C s₀ H₀ ex=>⟨gB rfl (bz 0 (show (["first", "letter"]:List Str).Nodup from by decide +kernel) (bz 1 (show (["first", "letter"]:List Str).Nodup from by decide +kernel) (ft))),bC,aQ (aa (le_str) (aa (au (ae 1) (aE rfl T.bR)) (aa (au (ae 1) (aE rfl T.jg)) (aa (ae 0) (ai)))))⟩) rfl rfl (by decide +kernel)) (ak (aB 9 bw.nd (h9 (ai))) (ak (aB 10 bw.nd (h9 (ai))) (ak (eO Xj rfl (gL rfl T.mx (aa (au (ae 0) (aE rfl T.vU)) (aa (ae 7) (ai)))) (ie rfl (bf 11 bw.nd (bf 12 bw.nd (fe)))) (ak (dj (pQ (ae 8) (ao (zO T) hr rfl (aa (ae 11) (aa (ae 4) (aa (ae 12) (ai))))))) (ak (dj (pQ (ae 9) (au (ae 12) (le_int)))) (ax (dj (pQ (ae 10) (au (ae 12) (le_int)))))))) (ak (aB 13 bw.nd (uj (fsc:=av cD) ["plan", "state", "senders", "names", "roads", "beats", "sent", "went", "events", "lost", "out", "way", "told", "taken", "ways", "after"] ["letter", "roads"] 1 [4] rfl rfl (ae 10) (λcl C s₀ H₀ ex=>⟨bc 0 (show (["letter", "roads"]:List Str).Nodup from by decide +kernel),fh (oD (ao (iH T) hr rfl (aa (ae 1) (aa (ae 0) (ai)))) (da)),ae 0⟩) rfl rfl (by decide +kernel))) (ak (f6 (fsc:=av cD) 14 bw.nd ["plan", "state", "senders", "names", "roads", "beats", "sent", "went", "events", "lost", "out", "way", "told", "taken", "ways", "after"] ["way", "told", "roads", "out"] 2 [4,10] rfl rfl (gL rfl T.mx (aa (au (ae 0) (aE rfl T.vU)) (aa (ae 7) (ai)))) (λcl C s₀ H₀ ex=>⟨gB rfl (bz 0 (show (["way", "told", "roads", "out"]:List Str).Nodup from by decide +kernel) (bz 1 (show (["way", "told", "roads", "out"]:List Str).Nodup from by decide +kernel) (ft))),bC,ao (yy T) hr rfl (aa (ae 0) (aa (ae 2) (aa (ae 1) (aa (ae 3) (ai)))))⟩) rfl rfl (by decide +kernel)) (ak (f6 (fsc:=av cD) 15 bw.nd ["plan", "state", "senders", "names", "roads", "beats", "sent", "went", "events", "lost", "out", "way", "told", "taken", "ways", "after"] ["sender", "beat", "lost", "taken"] 2 [9,13] rfl rfl (gL rfl T.mx (aa (ae 2) (aa (ae 5) (ai)))) (λcl C s₀ H₀ ex=>⟨gB rfl (bz 0 (show (["sender", "beat", "lost", "taken"]:List Str).Nodup from by decide +kernel) (bz 1 (show (["sender", "beat", "lost", "taken"]:List Str).Nodup from by decide +kernel) (ft))),bC,ao (ql T) hr rfl (aa (ae 0) (aa (au (ae 1) (le_int)) (aa (ae 2) (aa (ae 3) (ai)))))⟩) rfl rfl (by decide +kernel)) (ax (aD (aQ (aa (aQ (aa (aX aM a8 rfl T.bj rfl (aa (ae 14) (ai))) (aa (aX aM a8 rfl T.bj rfl (aa (ae 15) (ai))) (ai)))) (aa (vp (ae 8)) (ai))))))))))))))))))
theorem nr:aG ["plan", "many", "state", "rows", "turn", "told"] ["plan", "many"] (av N3):=by walk_at "sc"
theorem Oe (T:Txt w.params K mg t):aP P w K mg base 8 "run" ["plan", "many"] p7:=aL T.Up T.SK nr Mg R5 (λ_ _ _ _ _ _ _ _=>by walk_at "b2") λ_ _ _ _ _ _ hr hu=>
 ak (aB 2 nr.nd (ao (CK T) hr rfl (aa (ae 0) (ai)))) (ak (aB 3 nr.nd (h9 (ai))) (ak (eO Xj rfl (iC rfl T.j9 (ae 1)) (gv 4 nr.nd) (ak (aB 5 nr.nd (ao (nD T) hr rfl (aa (ae 0) (aa (ae 2) (ai))))) (ak (aB 2 nr.nd (au (ae 5) (le_int))) (ax (dj (le_app (ae 3) (au (ae 5) (le_int)))))))) (ax (aD (aQ (aa (ae 2) (aa (vp (ae 3)) (ai))))))))
theorem lE:aG ["before", "after"] ["before", "after"] (av gF):=by walk_at "sc"
theorem my (T:Txt w.params K mg t):aP P w K mg base 1 "marked_in_round" ["before", "after"] cJ:=aL T.lN T.mq lE kz lA (λ_ _ _ _ _ _ _ _=>by walk_at "b2") λ_ _ _ _ _ _ hr hu=>
 ax (aD (hX (lt_eq hu (au (ae 0) (aE rfl T.C3)) (le_int)) (au (ae 1) (aE rfl T.jm)) (eQ (au (ae 1) (aE rfl T.jm)) (au (ae 0) (aE rfl T.jm)))))
theorem aW:aG ["ahead", "before", "told", "counts", "word", "name", "number", "way", "rows", "row", "old", "new", "sent", "taken", "lost"] ["ahead", "before", "told"] (av jR):=by walk_at "sc"
theorem qA (T:Txt w.params K mg t):aP P w K mg base 2 "totals_after" ["ahead", "before", "told"] dS:=aL T.qE T.sD aW nB pD (λ_ _ _ _ _ _ _ _=>by walk_at "b3") λ_ _ _ _ _ _ hr hu=>
 ak (aB 3 aW.nd (Mf)) (ak (eO Xj rfl (bJ (au (ae 2) (le_int))) (ie rfl (bf 4 aW.nd (bf 5 aW.nd (bf 6 aW.nd (bf 7 aW.nd (fe)))))) (ax (Hv hu (ae 3) (aa (ae 4) (aa (ae 5) (ai))) (aI (j4 hu (ae 3) (aa (ae 4) (aa (ae 5) (ai))) (le_int)) (le_int))))) (ak (aB 8 aW.nd (h9 (ai))) (ak (eO Xj rfl (LL rfl T.mx (aa (ae 0) (aa (au (ae 1) (aE rfl T.fB)) (aa (au (au (ae 2) (le_int)) (aE rfl T.fB)) (ai))))) (ie rfl (bf 9 aW.nd (bf 10 aW.nd (bf 11 aW.nd (fe))))) (ak (aB 5 aW.nd (au (ae 9) (le_int))) (ak (aB 12 aW.nd (aI (au (ae 9) (le_int)) (j4 hu (ae 3) (aa (le_str) (aa (ae 5) (ai))) (le_int)))) (ak (aB 13 aW.nd (aI (au (ae 9) (le_int)) (j4 hu (ae 3) (aa (le_str) (aa (ae 5) (ai))) (le_int)))) (ak (aB 14 aW.nd (aI (au (ae 9) (le_int)) (j4 hu (ae 3) (aa (le_str) (aa (ae 5) (ai))) (le_int)))) (ax (dj (le_app (ae 8) (aQ (aa (ae 5) (aa (ae 12) (aa (ae 13) (aa (ae 14) (aa (aI (au (ae 9) (le_int)) (ao (my T) hr rfl (aa (ae 10) (aa (ae 11) (ai))))) (ai))))))))))))))) (ax (aD (aX aM a8 rfl T.bj rfl (aa (ae 8) (ai))))))))
theorem ng:aG ["plan"] ["plan"] (av fz):=by walk_at "sc"
theorem o7 (T:Txt w.params K mg t):aP P w K mg base 7 "counted_first" ["plan"] di:=aL T.oT T.pC ng mR mV (λ_ _ _ _ _ _ _ _=>by walk_at "b1") λ_ _ _ _ _ _ hr hu=>
 ax (aD (aQ (aa (ao (CK T) hr rfl (aa (ae 0) (ai))) (aa (aX aM a8 rfl T.bj rfl (aa (bA (fsc:=av fz) ["plan"] ["sender"] 1 [] rfl rfl (bJ (au (ae 0) (aE rfl T.m9))) (λcl C s₀ H₀ ex=>⟨bc 0 (show (["sender"]:List Str).Nodup from by decide +kernel),bC,aQ (aa (au (ae 0) (aE rfl T.bR)) (aa (le_int) (aa (le_int) (aa (le_int) (aa (le_int) (ai))))))⟩) rfl rfl (by decide +kernel)) (ai))) (ai)))))
theorem kJ:aG ["plan", "counted", "told"] ["plan", "counted"] (av mQ):=by walk_at "sc"
theorem vK (T:Txt w.params K mg t):aP P w K mg base 8 "counted_on" ["plan", "counted"] fj:=aL T.wK T.wg kJ sf tK (λ_ _ _ _ _ _ _ _=>by walk_at "b2") λ_ _ _ _ _ _ hr hu=>
 ak (aB 2 kJ.nd (ao (nD T) hr rfl (aa (ae 0) (aa (au (ae 1) (le_int)) (ai))))) (ax (aD (aQ (aa (au (ae 2) (le_int)) (aa (ao (qA T) hr rfl (aa (au (ae 1) (le_int)) (aa (au (ae 1) (le_int)) (aa (ae 2) (ai))))) (ai))))))
theorem kh:aG ["plan", "many", "counted", "turn"] ["plan", "many"] (av yM):=by walk_at "sc"
theorem sI (T:Txt w.params K mg t):aP P w K mg base 9 "totals" ["plan", "many"] fX:=aL T.G9 T.Gk kh AJ Ei (λ_ _ _ _ _ _ _ _=>by walk_at "b2") λ_ _ _ _ _ _ hr hu=>
 ak (aB 2 kh.nd (ao (o7 T) hr rfl (aa (ae 0) (ai)))) (ak (eO Xj rfl (iC rfl T.j9 (ae 1)) (gv 3 kh.nd) (ax (aB 2 kh.nd (ao (vK T) hr rfl (aa (ae 0) (aa (ae 2) (ai))))))) (ax (aD (au (ae 2) (le_int)))))
theorem w6:aG ["_law_script"] ["_law_script"] (av qY):=by walk_at "sc"
theorem Aq (T:Txt w.params K mg t):aP P w K mg base 1 "_law_pot" ["_law_script"] L3.pO:=aL T.BB T.As w6 L3.Km L3.Ni (λ_ _ _ _ _ _ _ _=>by walk_at "b1") λ_ _ _ _ _ _ hr hu=>
 ax (aD (Lj (ki (Ji rfl rfl T.mU rfl (aa (ae 0) (ai))) (ki (le_int) (ki (le_int) (ki (le_int) (ki (le_int) (ki (le_int) (KL)))))))))
theorem jB:aG ["_law_number", "_law_turn", "_law_one", "_law_two"] ["_law_number", "_law_turn"] (av rC):=by walk_at "sc"
theorem qQ (T:Txt w.params K mg t):aP P w K mg base 1 "_law_mix" ["_law_number", "_law_turn"] L3.iM:=aL T.Cp T.A4 jB L3.Je L3.Mt (λ_ _ _ _ _ _ _ _=>by walk_at "b2") λ_ _ _ _ _ _ hr hu=>
 ak (aB 2 jB.nd (iS (le_mul (aI (aI (iS (ae 0) (le_int)) (le_mul (le_int) (ae 1))) (le_int)) (le_int)) (le_int))) (ak (aB 3 jB.nd (iS (le_mul (ae 2) (ae 2)) (le_int))) (ax (aD (iS (le_mul (aI (ae 3) (ae 1)) (le_int)) (le_int)))))
theorem iX:aG ["_law_pot_here", "_law_many", "_law_cell", "_law_digit"] ["_law_pot_here", "_law_many"] (av nN):=by walk_at "sc"
theorem aC (T:Txt w.params K mg t):aP P w K mg base 2 "_law_take" ["_law_pot_here", "_law_many"] iW:=aL T.zu T.xj iX tP uW (λ_ _ _ _ _ _ _ _=>by walk_at "b2") λ_ _ _ _ _ _ hr hu=>
 ak (kZ hu (ae 0) (le_str) (le_int)) (ak (bF (LW.lt (BH (LW.lt (z9 (lt_eq hu (cA hu (ae 0) (le_str)) (le_int)) (sP (lt_eq hu (cA hu (ae 0) (le_str)) (le_int))))) (vk (mH (cA hu (ae 0) (le_str)) (aU a7 bx rfl T.c7 rfl (aa (cA hu (ae 0) (le_str)) (ai))))))) (ak (aB 2 iX.nd (aU sH wL rfl T.Ge rfl (aa (au (cA hu (ae 0) (le_str)) (cA hu (ae 0) (le_str))) (ai)))) (ak (kZ hu (ae 0) (le_str) (le_int)) (ak (l6 hu (ae 0) (le_str) (le_mul (ae 2) (aX DN Mz rfl T.OH rfl (aa (S6 (ae 2) (le_pow (le_int) (le_int))) (ai))))) (ak (l6 hu (ae 0) (le_str) (le_int)) (ax (l6 hu (ae 0) (le_str) (ao (qQ T) hr rfl (aa (aI (cA hu (ae 0) (le_str)) (ae 2)) (aa (cA hu (ae 0) (le_str)) (ai)))))))))) (a6)) (ak (bF (LW.lt (BH (oh (cA hu (ae 0) (le_str)) (le_int)) (vk (mH (cA hu (ae 0) (le_str)) (le_int))))) (ak (kZ hu (ae 0) (le_str) (le_int)) (ak (aB 3 iX.nd (iS (cA hu (ae 0) (le_str)) (ae 1))) (ak (l6 hu (ae 0) (le_str) (jt (cA hu (ae 0) (le_str)) (ae 1))) (ax (aD (ae 3)))))) (a6)) (ak (l6 hu (ae 0) (le_str) (ao (qQ T) hr rfl (aa (cA hu (ae 0) (le_str)) (aa (cA hu (ae 0) (le_str)) (ai))))) (ax (aD (iS (jt (cA hu (ae 0) (le_str)) (le_int)) (ae 1)))))))
theorem ff:aG ["_law_pot_here", "_law_many", "_law_words", "_law_first", "_law_step"] ["_law_pot_here", "_law_many"] (av iP):=by walk_at "sc"
theorem lR (T:Txt w.params K mg t):aP P w K mg base 3 "_law_names" ["_law_pot_here", "_law_many"] L3.ig:=aL T.vo T.vM ff L3.BV L3.Fh (λ_ _ _ _ _ _ _ _=>by walk_at "b2") λ_ _ _ _ _ _ hr hu=>
 ak (aB 2 ff.nd (d9 (aa (le_str) (aa (le_str) (aa (le_str) (aa (le_str) (aa (le_str) (aa (le_str) (aa (le_str) (aa (le_str) (aa (le_str) (aa (le_str) (aa (le_str) (aa (le_str) (aa (le_str) (aa (le_str) (aa (le_str) (aa (le_str) (ai))))))))))))))))))) (ak (vD (aQ (aa (ao (aC T) hr rfl (aa (ae 0) (aa (le_int) (ai)))) (aa (aI (le_int) (ao (aC T) hr rfl (aa (ae 0) (aa (le_int) (ai))))) (ai)))) (ie rfl (bf 3 ff.nd (bf 4 ff.nd (fe))))) (ax (aD (bA (fsc:=av iP) ["_law_pot_here", "_law_many", "_law_words", "_law_first", "_law_step"] ["_law_k", "_law_words", "_law_first", "_law_step"] 1 [2,3,4] rfl rfl (iC rfl T.j9 (ae 1)) (λcl C s₀ H₀ ex=>⟨bc 0 (show (["_law_k", "_law_words", "_law_first", "_law_step"]:List Str).Nodup from by decide +kernel),bC,au (aI (ae 1) (d9 (aa (le_str) (ai)))) (iS (aI (ae 2) (le_mul (ae 3) (ae 0))) (le_int))⟩) rfl rfl (by decide +kernel)))))
theorem gh:aG ["_law_top", "_law_bottom", "_law_one", "_law_other"] ["_law_top", "_law_bottom"] (av kM):=by walk_at "sc"
theorem dP (T:Txt w.params K mg t):aP P w K mg base 1 "_law_lowest" ["_law_top", "_law_bottom"] L3.bX:=aL T.tF T.tm gh L3.Bj L3.D8 (λ_ _ _ _ _ _ _ _=>by walk_at "b2") λ_ _ _ _ _ _ hr hu=>
 ak (sJ 2 3 rfl gh.nd (aa (ae 0) (aa (ae 1) (ai)))) (ak (rR Xj (oh (ae 3) (le_int)) (ax (sJ 2 3 rfl gh.nd (aa (ae 3) (aa (iS (ae 2) (ae 3)) (ai)))))) (ax (aD (aQ (aa (jt (ae 0) (ae 2)) (aa (jt (ae 1) (ae 2)) (ai)))))))
theorem iB:aG ["_law_pot_here", "_law_low", "_law_most", "_law_bottom"] ["_law_pot_here", "_law_low", "_law_most"] (av i9):=by walk_at "sc"
theorem ja (T:Txt w.params K mg t):aP P w K mg base 3 "_law_fraction" ["_law_pot_here", "_law_low", "_law_most"] L3.cK:=aL T.o4 T.oX iB L3.sX L3.wb (λ_ _ _ _ _ _ _ _=>by walk_at "b3") λ_ _ _ _ _ _ hr hu=>
 ak (aB 3 iB.nd (au (d9 (aa (le_int) (aa (le_int) (aa (le_int) (aa (le_int) (aa (le_int) (aa (le_int) (ai)))))))) (ao (aC T) hr rfl (aa (ae 0) (aa (le_int) (ai)))))) (ax (aD (ao (dP T) hr rfl (aa (aI (le_mul (ae 1) (ae 3)) (ao (aC T) hr rfl (aa (ae 0) (aa (aI (le_mul (eQ (ae 2) (ae 1)) (ae 3)) (le_int)) (ai))))) (aa (ae 3) (ai))))))
theorem bY:aG ["_law_pot_here", "_law_most", "_law_word", "_law_w", "_law_top", "_law_parts", "_law_up", "_law_down", "_law_low"] ["_law_pot_here", "_law_most"] (av oq):=by walk_at "sc"
theorem yF (T:Txt w.params K mg t):aP P w K mg base 4 "_law_rule" ["_law_pot_here", "_law_most"] iL:=aL T.wX T.yH bY sV wO (λ_ _ _ _ _ _ _ _=>by walk_at "b2") λ_ _ _ _ _ _ hr hu=>
 ak (aB 2 bY.nd (au (d9 (aa (le_str) (aa (le_str) (aa (le_str) (aa (le_str) (aa (le_str) (ai))))))) (ao (aC T) hr rfl (aa (ae 0) (aa (le_int) (ai)))))) (ak (sJ 3 4 rfl bY.nd (aa (ao (ja T) hr rfl (aa (ae 0) (aa (le_int) (aa (ae 1) (ai))))) (aa (ao (ja T) hr rfl (aa (ae 0) (aa (le_int) (aa (ae 1) (ai))))) (ai)))) (ak (bF (oh (le_mul (au (ae 3) (le_int)) (au (ae 4) (le_int))) (le_mul (au (ae 4) (le_int)) (au (ae 3) (le_int)))) (ax (sJ 3 4 rfl bY.nd (aa (ae 4) (aa (ae 3) (ai))))) (a6)) (ak (aB 5 bY.nd (aI (le_int) (ao (aC T) hr rfl (aa (ae 0) (aa (le_int) (ai)))))) (ak (aB 6 bY.nd (ao (dP T) hr rfl (aa (aI (le_int) (ao (aC T) hr rfl (aa (ae 0) (aa (le_mul (le_int) (ae 5)) (ai))))) (aa (ae 5) (ai))))) (ak (aB 7 bY.nd (ao (dP T) hr rfl (aa (aI (le_int) (ao (aC T) hr rfl (aa (ae 0) (aa (ae 5) (ai))))) (aa (aI (ae 5) (le_int)) (ai))))) (ak (bF (lt_eq hu (ae 2) (le_str)) (ax (aD (aQ (aa (ae 2) (aa (ae 3) (ai)))))) (a6)) (ak (bF (lt_eq hu (ae 2) (le_str)) (ax (aD (aQ (aa (ae 2) (aa (ae 3) (aa (ae 6) (aa (ae 7) (aa (ae 4) (ai))))))))) (a6)) (ak (bF (lt_eq hu (ae 2) (le_str)) (ax (aD (aQ (aa (ae 2) (aa (ae 3) (aa (ao (dP T) hr rfl (aa (aI (au (ae 6) (le_int)) (au (ae 6) (le_int))) (aa (au (ae 6) (le_int)) (ai)))) (aa (ae 7) (aa (ae 4) (ai))))))))) (a6)) (ak (bF (lt_eq hu (ae 2) (le_str)) (ax (aD (aQ (aa (ae 2) (aa (ae 3) (aa (ae 6) (aa (ao (dP T) hr rfl (aa (aI (le_int) (ao (aC T) hr rfl (aa (ae 0) (aa (ae 5) (ai))))) (aa (ae 5) (ai)))) (aa (ae 4) (ai))))))))) (a6)) (ak (aB 8 bY.nd (ao (aC T) hr rfl (aa (ae 0) (aa (le_int) (ai))))) (ax (aD (aQ (aa (ae 2) (aa (ae 3) (aa (ae 6) (aa (ae 8) (aa (aI (ae 8) (ao (aC T) hr rfl (aa (ae 0) (aa (le_int) (ai))))) (aa (ae 4) (ai))))))))))))))))))))
theorem dg:aG ["_law_pot_here", "_law_names_here", "_law_rows", "_law_name", "_law_pace", "_law_room", "_law_mark"] ["_law_pot_here", "_law_names_here"] (av oQ):=by walk_at "sc"
theorem ze (T:Txt w.params K mg t):aP P w K mg base 3 "_law_ways" ["_law_pot_here", "_law_names_here"] L3.mK:=aL T.zC T.xY dg L3.DW L3.F6 (λ_ _ _ _ _ _ _ _=>by walk_at "b2") λ_ _ _ _ _ _ hr hu=>
 ak (aB 2 dg.nd (h9 (ai))) (ak (eO Xj rfl (bJ (ae 1)) (gv 3 dg.nd) (ak (aB 4 dg.nd (au (d9 (aa (le_int) (aa (le_int) (aa (le_int) (aa (le_int) (aa (aI (le_int) (ao (aC T) hr rfl (aa (ae 0) (aa (le_int) (ai))))) (ai))))))) (ao (aC T) hr rfl (aa (ae 0) (aa (le_int) (ai)))))) (ak (aB 5 dg.nd (au (d9 (aa (aI (le_int) (ao (aC T) hr rfl (aa (ae 0) (aa (le_int) (ai))))) (aa (aI (le_int) (ao (aC T) hr rfl (aa (ae 0) (aa (le_int) (ai))))) (aa (aI (le_int) (ao (aC T) hr rfl (aa (ae 0) (aa (le_int) (ai))))) (ai))))) (ao (aC T) hr rfl (aa (ae 0) (aa (le_int) (ai)))))) (ak (aB 6 dg.nd (au (d9 (aa (da) (aa (ao (aC T) hr rfl (aa (ae 0) (aa (aI (ae 5) (le_int)) (ai)))) (aa (ao (aC T) hr rfl (aa (ae 0) (aa (le_int) (ai)))) (ai))))) (ao (aC T) hr rfl (aa (ae 0) (aa (le_int) (ai)))))) (ax (dj (le_app (ae 2) (aQ (aa (ae 3) (aa (ae 4) (aa (ae 5) (aa (ae 6) (aa (au (d9 (aa (le_str) (aa (le_str) (ai)))) (ao (aC T) hr rfl (aa (ae 0) (aa (le_int) (ai))))) (ai)))))))))))))) (ax (aD (aX aM a8 rfl T.bj rfl (aa (ae 2) (ai))))))
theorem cV:aG ["_law_pot_here", "_law_name", "_law_ways_here", "_law_most", "_law_road", "_law_beat", "_law_many"] ["_law_pot_here", "_law_name", "_law_ways_here", "_law_most"] (av gZ):=by walk_at "sc"
theorem tE (T:Txt w.params K mg t):aP P w K mg base 5 "_law_sender" ["_law_pot_here", "_law_name", "_law_ways_here", "_law_most"] f9:=aL T.tV T.tf cV o6 sO (λ_ _ _ _ _ _ _ _=>by walk_at "b4") λ_ _ _ _ _ _ hr hu=>
 ak (aB 4 cV.nd (aX aM a8 rfl T.bj rfl (aa (bA (fsc:=av gZ) ["_law_pot_here", "_law_name", "_law_ways_here", "_law_most", "_law_road", "_law_beat", "_law_many"] ["_law_way", "_law_pot_here"] 1 [0] rfl rfl (bJ (ae 2)) (λcl C s₀ H₀ ex=>⟨bc 0 (show (["_law_way", "_law_pot_here"]:List Str).Nodup from by decide +kernel),fh (lt_eq hu (ao (aC T) hr rfl (aa (ae 1) (aa (le_int) (ai)))) (le_int)),au (ae 0) (le_int)⟩) rfl rfl (by decide +kernel)) (ai)))) (ak (bF (lt_eq hu (aU a7 bx rfl T.c7 rfl (aa (ae 4) (ai))) (le_int)) (ax (aB 4 cV.nd (aQ (aa (au (au (ae 2) (ao (aC T) hr rfl (aa (ae 0) (aa (aU a7 bx rfl T.c7 rfl (aa (ae 2) (ai))) (ai))))) (le_int)) (ai))))) (a6)) (ak (aB 5 cV.nd (au (d9 (aa (le_int) (aa (le_int) (aa (le_int) (aa (le_int) (aa (aI (le_int) (ao (aC T) hr rfl (aa (ae 0) (aa (le_int) (ai))))) (ai))))))) (ao (aC T) hr rfl (aa (ae 0) (aa (le_int) (ai)))))) (ak (aB 6 cV.nd (au (d9 (aa (da) (aa (da) (aa (ao (aC T) hr rfl (aa (ae 0) (aa (le_int) (ai)))) (aa (ao (aC T) hr rfl (aa (ae 0) (aa (le_int) (ai)))) (ai)))))) (ao (aC T) hr rfl (aa (ae 0) (aa (le_int) (ai)))))) (ax (aD (aQ (aa (ae 1) (aa (ae 4) (aa (ae 5) (aa (au (d9 (aa (le_int) (aa (le_int) (aa (ao (aC T) hr rfl (aa (ae 0) (aa (le_int) (ai)))) (aa (ao (aC T) hr rfl (aa (ae 0) (aa (le_int) (ai)))) (ai)))))) (ao (aC T) hr rfl (aa (ae 0) (aa (le_int) (ai))))) (aa (ae 6) (aa (ao (yF T) hr rfl (aa (ae 0) (aa (ae 3) (ai)))) (ai)))))))))))))
theorem eI:aG ["_law_pot_here", "_law_grid", "_law_ways_here", "_law_most", "_law_names_here"] ["_law_pot_here"] (av jA):=by walk_at "sc"
theorem xT (T:Txt w.params K mg t):aP P w K mg base 6 "_law_plan" ["_law_pot_here"] L3.lH:=aL T.zF T.xq eI L3.EM L3.Kt (λ_ _ _ _ _ _ _ _=>by walk_at "b1") λ_ _ _ _ _ _ hr hu=>
 ak (aB 1 eI.nd (au (d9 (aa (le_int) (aa (le_int) (aa (le_int) (aa (aI (le_int) (ao (aC T) hr rfl (aa (ae 0) (aa (le_int) (ai))))) (ai)))))) (ao (aC T) hr rfl (aa (ae 0) (aa (le_int) (ai)))))) (ak (aB 2 eI.nd (ao (ze T) hr rfl (aa (ae 0) (aa (ao (lR T) hr rfl (aa (ae 0) (aa (au (d9 (aa (le_int) (aa (le_int) (aa (le_int) (aa (le_int) (aa (le_int) (aa (le_int) (ai)))))))) (ao (aC T) hr rfl (aa (ae 0) (aa (le_int) (ai))))) (ai)))) (ai))))) (ak (aB 3 eI.nd (au (d9 (aa (le_int) (aa (le_int) (aa (le_int) (aa (le_int) (aa (le_int) (ai))))))) (ao (aC T) hr rfl (aa (ae 0) (aa (le_int) (ai)))))) (ak (aB 4 eI.nd (ao (lR T) hr rfl (aa (ae 0) (aa (au (d9 (aa (le_int) (aa (le_int) (aa (le_int) (aa (le_int) (aa (le_int) (aa (le_int) (aa (le_int) (aa (le_int) (ai)))))))))) (ao (aC T) hr rfl (aa (ae 0) (aa (le_int) (ai))))) (ai))))) (ax (aD (aQ (aa (ae 1) (aa (ae 2) (aa (aX aM a8 rfl T.bj rfl (aa (bA (fsc:=av jA) ["_law_pot_here", "_law_grid", "_law_ways_here", "_law_most", "_law_names_here"] ["_law_name", "_law_pot_here", "_law_ways_here", "_law_most"] 1 [0,2,3] rfl rfl (bJ (Jg rfl T.qT rfl (aa (ae 4) (ai)))) (λcl C s₀ H₀ ex=>⟨bc 0 (show (["_law_name", "_law_pot_here", "_law_ways_here", "_law_most"]:List Str).Nodup from by decide +kernel),bC,ao (tE T) hr rfl (aa (ae 1) (aa (ae 0) (aa (ae 2) (aa (ae 3) (ai)))))⟩) rfl rfl (by decide +kernel)) (ai))) (ai))))))))))
theorem l8:aG ["_law_found", "_law_due"] ["_law_found", "_law_due"] (av jx):=by walk_at "sc"
theorem nU {Pm:zd2}(T:Txt Pm K mg t):Binds K t.gM ["_law_found", "_law_due"] []:=T.c9.binds λ_ _ _ _ _ _ _ _=>by walk_at "b2"
theorem kH (T:Txt w.params K mg t):∀ n:Nat,jf P w K mg base CX0 (1+n) t.gN t.gM ["_law_found", "_law_due"] (lift K (cU n))
 | 0=>UC T.c9 l8
 | n+1=>by
  refine Hw (k:=1+n) (T:=oO (cU n)) T.c9 l8 (oW (n+1)) (λcdv A outer s H E hr=>?_) (qD n)
  have hu:=hr.units
  exact ak (bF (jL (aU D7 (Fx _) rfl T.bL rfl (aa (ae 1) (aa (aQ (aa (Ou rfl T.bj rfl) (aa (Ou rfl T.mU rfl) (ai)))) (ai))))) (ak (bF (LW.lt (z9 (qy hu (jI rfl T.bL rfl (ae 0) rfl T.bj rfl) (jI rfl T.bL rfl (ae 1) rfl T.bj rfl)) (sP (qy hu (jI rfl T.bL rfl (ae 0) rfl T.mU rfl) (jI rfl T.bL rfl (ae 1) rfl T.mU rfl))))) (ax (aD (uK))) (a6)) (ax (aD (vi (le_eq hu (aU a7 bx rfl T.c7 rfl (aa (ae 0) (ai))) (aU a7 bx rfl T.c7 rfl (aa (ae 1) (ai)))) (u6 (aU (D5 rfl) MJ rfl T.Ue rfl (aa (bA (fsc:=av jx) ["_law_found", "_law_due"] ["_law_one", "_law_other"] 2 [] rfl rfl (gL rfl T.mx (aa (ae 0) (aa (ae 1) (ai)))) (λcl C s₀ H₀ ex=>⟨gB rfl (bz 0 (show (["_law_one", "_law_other"]:List Str).Nodup from by decide +kernel) (bz 1 (show (["_law_one", "_law_other"]:List Str).Nodup from by decide +kernel) (ft))),bC,CA (kH T n) (hr.mono (by omega)) rfl T.oF T.c9.kp (nU T) (aa (ae 0) (aa (ae 1) (ai)))⟩) rfl rfl (by decide +kernel)) (ai)))))))) (a6)) (ak (bF (oD (ae 1) (da)) (ax (aD (Tf (ae 0) (da)))) (a6)) (ak (bF (jL (jI rfl T.bL rfl (ae 1) rfl T.N7 rfl)) (ax (aD (vi (jI rfl T.bL rfl (ae 0) rfl T.N7 rfl) (u6 (le_eq hu (ae 0) (ae 1)))))) (a6)) (ax (aD (vi (jI rfl T.bL rfl (ae 0) rfl T.OH rfl) (vi (O7 (jI rfl T.bL rfl (ae 0) rfl T.OV rfl)) (u6 (le_eq hu (ae 0) (ae 1)))))))))
theorem c9 (T:Txt w.params K mg t):jf P w K mg base CX0 7 t.gN t.gM ["_law_found", "_law_due"] (lift K l4):=kH T 6
theorem js (T:Txt w.params K mg t):aP P w K mg base 7 "_law_same" ["_law_found", "_law_due"] l4:=⟨_,_,c9 T,T.oF,T.c9.kp,nU T⟩
theorem d7:aG ["_law_script", "_law_pot_here", "_law_plan_here", "_law_first", "_law_more", "_law_state", "_law_rounds", "_law_goal", "_law_whole", "_law_between", "_law_events", "_law_told", "_law_one", "_law_other", "_law_words"] ["_law_script"] (av zk):=by walk_at "sc"
theorem DC (T:Txt w.params K mg t):jf P w K mg base CX0 10 t.Hq t.Ox ["_law_script"] (lift K gY):=by
 refine Hw (T:=HY) T.DC d7 we (λcdv A outer s H E hr=>?_) Rb
 have hu:=hr.units
 exact ak (aB 1 d7.nd (ao (Aq T) hr rfl (aa (ae 0) (ai)))) (ak (aB 2 d7.nd (ao (xT T) hr rfl (aa (ae 1) (ai)))) (ak (sJ 3 4 rfl d7.nd (aa (ao (aC T) hr rfl (aa (ae 1) (aa (le_int) (ai)))) (aa (ao (aC T) hr rfl (aa (ae 1) (aa (le_int) (ai)))) (ai)))) (ak (vD (ao (Oe T) hr rfl (aa (ae 2) (aa (ae 3) (ai)))) (ie rfl (bf 5 d7.nd (bf 6 d7.nd (fe))))) (ak (vD (ao (Oe T) hr rfl (aa (ae 2) (aa (aI (ae 3) (ae 4)) (ai)))) (ie rfl (bf 7 d7.nd (bf 8 d7.nd (fe))))) (ak (bF (vf (jL (ao (js T) hr rfl (aa (kR (ae 8) (lX) (gi (ae 3))) (aa (ae 6) (ai)))))) (ax (aD (uK))) (a6)) (ak (aB 9 d7.nd (h9 (ai))) (ak (eO Xj rfl (bJ (kR (ae 8) (gi (ae 3)) (lX))) (gv 10 d7.nd) (ak (vD (ao (nD T) hr rfl (aa (ae 2) (aa (ae 5) (ai)))) (ie rfl (bf 5 d7.nd (bf 11 d7.nd (fe))))) (ak (bF (vf (jL (ao (js T) hr rfl (aa (ae 11) (aa (ae 10) (ai)))))) (ax (aD (uK))) (a6)) (ax (dj (pQ (ae 9) (ae 10))))))) (ak (bF (vf (jL (ao (js T) hr rfl (aa (ae 5) (aa (ae 7) (ai)))))) (ax (aD (uK))) (a6)) (ak (eO Xj rfl (gL rfl T.mx (aa (ao (sI T) hr rfl (aa (ae 2) (aa (ae 3) (ai)))) (aa (ao (sI T) hr rfl (aa (ae 2) (aa (aI (ae 3) (ae 4)) (ai)))) (ai)))) (ie rfl (bf 12 d7.nd (bf 13 d7.nd (fe)))) (ak (aB 14 d7.nd (uj (fsc:=av zk) ["_law_script", "_law_pot_here", "_law_plan_here", "_law_first", "_law_more", "_law_state", "_law_rounds", "_law_goal", "_law_whole", "_law_between", "_law_events", "_law_told", "_law_one", "_law_other", "_law_words"] ["_law_event", "_law_one"] 1 [12] rfl rfl (ae 9) (λcl C s₀ H₀ ex=>⟨bc 0 (show (["_law_event", "_law_one"]:List Str).Nodup from by decide +kernel),fh (lt_eq hu (au (ae 0) (le_int)) (au (ae 1) (le_int))),au (ae 0) (le_int)⟩) rfl rfl (by decide +kernel))) (ak (bF (qy hu (bA (fsc:=av zk) ["_law_script", "_law_pot_here", "_law_plan_here", "_law_first", "_law_more", "_law_state", "_law_rounds", "_law_goal", "_law_whole", "_law_between", "_law_events", "_law_told", "_law_one", "_law_other", "_law_words"] ["_law_k", "_law_other", "_law_one"] 1 [13,12] rfl rfl (iC rfl T.j9 (le_int)) (λcl C s₀ H₀ ex=>⟨bc 0 (show (["_law_k", "_law_other", "_law_one"]:List Str).Nodup from by decide +kernel),bC,eQ (au (ae 1) (aI (ae 0) (le_int))) (au (ae 2) (aI (ae 0) (le_int)))⟩) rfl rfl (by decide +kernel)) (bA (fsc:=av zk) ["_law_script", "_law_pot_here", "_law_plan_here", "_law_first", "_law_more", "_law_state", "_law_rounds", "_law_goal", "_law_whole", "_law_between", "_law_events", "_law_told", "_law_one", "_law_other", "_law_words"] ["_law_word", "_law_words"] 1 [14] rfl rfl (bJ (aQ (aa (le_str) (aa (le_str) (aa (le_str) (ai)))))) (λcl C s₀ H₀ ex=>⟨bc 0 (show (["_law_word", "_law_words"]:List Str).Nodup from by decide +kernel),bC,le_count hu (ae 1) (ae 0)⟩) rfl rfl (by decide +kernel))) (ax (aD (uK))) (a6)) (ax (bF (LW.lt (z9 (qy hu (au (ae 12) (le_int)) (au (ae 13) (le_int))) (sP (vf (lt_chain OI OI (iQ _) (iQ _) (le_int) (eQ (au (ae 13) (le_int)) (au (ae 12) (le_int))) (le_count hu (ae 14) (le_str))))))) (ax (aD (uK))) (a6)))))) (ax (aD (le_eq hu (aU a7 bx rfl T.c7 rfl (aa (ao (sI T) hr rfl (aa (ae 2) (aa (ae 3) (ai)))) (ai))) (aU a7 bx rfl T.c7 rfl (aa (au (ae 2) (le_int)) (ai)))))))))))))))
end
theorem all_mk {l:zbK}{w:Xm}{K:Wq}{mg:Str->Option Wv}{fa:Addr}{t:Adr}(hfa:mg "law" = some (.ref fa))(T:Txt w.params K mg t):∃ fd:WT,(∀ (s:Wz) (v:Wv),zcX s fd ⟨[v],[]⟩ [("_law_script", v)])/\∀ base:Heap,K.In base->base.Ns X2 mg->jf l.prog w K mg base CX0 10 fa fd ["_law_script"] (lift K gY):=by
 have e:=hfa.symm.trans T.Uc
 injection e with e
 injection e with e
 subst e
 obtain ⟨oc,od,kV,dc,pm,an,cd,ct,sl,ed,_,_⟩:=T.DC.ex
 exact ⟨_,λs v=>.of_eq (by rw[ed];rfl),λbase _ _=>DC T⟩
end Kk
namespace PySem.W.Fast
def tw8489890821830979984:=0
def tw12279187392040940640:=0
def tw14908107072353420384:=0
def tw16808122892285191296:=0
def tw4817057398441907456:=0
def tw1973496762864854496:=0
def tw16951080809441563073:=0
def tw16265074375827684993:=0
def tw17016120007018461410:=0
def tw5360100074514136290:=0
def tw11975112978040792546:=0
def tw10660955057101708002:=0
def tw11844271138843491202:=0
def tw6242594072272320611:=0
def tw3332230948751809795:=0
def tw11804689494909113731:=0
def tw11468283288046886435:=0
def tw12319701729272197795:=0
def tw10230655039667734788:=0
def tw14450740627350308292:=0
def tw1665067504908464868:=0
def tw3726656249878539204:=0
def tw2156528010679580837:=0
def tw8189213653640398533:=0
def tw15840867556744315781:=0
def tw17952443234389650470:=0
def tw4679965444759588038:=0
def tw8613590809480134982:=0
def tw10084568811648698854:=0
def tw10374691897424226950:=0
def tw9615556923575393926:=0
def tw15178759131900797766:=0
def tw17943561775116373926:=0
def tw982839581971135430:=0
def tw8687916387759687654:=0
def tw5136805880377145767:=0
def tw8293788042278808135:=0
def tw8450526628575604423:=0
def tw9027405720330389800:=0
def tw1887871763321497641:=0
def tw7569435724571661385:=0
def tw9336294588418211977:=0
def tw12693085950720726537:=0
def tw6866468721027699465:=0
def tw13408711326463167562:=0
def tw9131898218002748586:=0
def tw9714318713000111370:=0
def tw15250108638776561098:=0
def tw4463641075195221802:=0
def tw1299932442963369898:=0
def tw18369828769342794987:=0
def tw11344559949419858443:=0
def tw13934273023074842283:=0
def tw1447001190087551723:=0
def tw15549905837495884683:=0
def tw5471623754770859244:=0
def tw4421824329107610924:=0
def tw16680293236494077420:=0
def tw18337647849021269548:=0
def tw16758336752769696428:=0
def tw8141825326420991053:=0
def tw4294435288069502157:=0
def tw16854622119355594989:=0
def tw1313578272507685261:=0
def tw17013254230359486893:=0
def tw1608667388127494797:=0
def tw12950879938791820302:=0
def tw11184647719037805678:=0
def tw7758849492745486766:=0
def tw13739613309008553486:=0
def tw17980090711792599087:=0
def tw3447204263015590223:=0
def tw3361508925314000559:=0
def tw14116562544158676176:=0
def tw6337659743970645552:=0
def tw10332766615200391856:=0
def tw8663494168371426128:=0
def tw63604965756941296:=0
def tw7022319463737144337:=0
def tw2276548446660846641:=0
def tw574093217098956977:=0
def tw2313098528076494097:=0
def tw9221826626430293617:=0
def tw4701751881058243217:=0
def tw1197989675048714929:=0
def tw7169453675091404561:=0
def tw11489433786610330481:=0
def tw993917978429975473:=0
def tw1826303494115127249:=0
def tw16798869726506901489:=0
def tw13914988059754845234:=0
def tw6388738934179683378:=0
def tw7451411231897599090:=0
def tw5433543554600437906:=0
def tw3387151404994952722:=0
def tw862343022468800178:=0
def tw14290638812803536594:=0
def tw5626258762215025490:=0
def tw8986723286169692531:=0
def tw10353113011356539315:=0
def tw16364355978482471539:=0
def tw11811643780654161875:=0
def tw16646366263514368116:=0
def tw8337645381231450548:=0
def tw9007315468321011412:=0
def tw14662745737931952852:=0
def tw14489705460602808180:=0
def tw12513679001328672660:=0
def tw14462557350882637461:=0
def tw9649789242281928373:=0
def tw3989890197609101077:=0
def tw17691037137675450133:=0
def tw3480749027978730550:=0
def tw11416670275280005270:=0
def tw5034608461179100758:=0
def tw2308567551468433110:=0
def tw9567693867778265207:=0
def tw16573469744898978967:=0
def tw7187410486804212951:=0
def tw10195234677016731927:=0
def tw3249189847569844631:=0
def tw2242293744076182680:=0
def tw7931338161558411928:=0
def tw8696999304592183385:=0
def tw14831926854125410905:=0
def tw10329847158084718329:=0
def tw13690179974568901561:=0
def tw11927105870941753658:=0
def tw13881628571692817850:=0
def tw7645784856380553754:=0
def tw18244608605330872154:=0
def tw886033532695748795:=0
def tw6851386645312221467:=0
def tw15022547165213778587:=0
def tw11801302985864180411:=0
def tw14862573720388166363:=0
def tw8524720376338821019:=0
def tw6288599492492631995:=0
def tw9844904502287556636:=0
def tw8633203121927730268:=0
def tw7656805458133058940:=0
def tw6557891275614010044:=0
def tw8567920030461894588:=0
def tw14531903910178009181:=0
def tw8711026271821331613:=0
def tw1197935981884028221:=0
def tw10153710173706275325:=0
def tw15924672385225930461:=0
def tw3597340759223438815:=0
def tw9792769422461342399:=0
def tw12586555638664730367:=0
def tw5492278668182840095:=0
def tw15600742903896449919:=0
def tw18327179510178852831:=0
end PySem.W.Fast
open PySem PySem.W PyProof.Rows L2 L3
set_option maxRecDepth 100000 in
set_option maxHeartbeats 0 in
theorem PySem.Challenge.cw_swellways_k33_whole_runs_in_pieces_holds : PySem.Challenge.rw_swellways_k33_whole_runs_in_pieces.Holds := by
 w_on;o_law;k_head;(case hw=>w_witness2)
 k_fill
 refine L3.Si (l:=PySem.Challenge.rw_swellways_k33_whole_runs_in_pieces) (k:=10) (sp:=Kk.gY) (x := "_law_script") rfl rfl ⟨rfl,by decide,by decide⟩ (λw h Y=>PySem.W.kIn_of Y) Kk.nv ?F
 case F=>
  intro w mg fa h KX G hmg
  refine' Kk.all_mk (t:=⟨_,_,_,_,_,_,_,_,_,_,_,_,_,_,_,_,_,_,_,_,_,_,_,_,_,_,_,_,_,_,_,_,_,_,_,_,_,_,_,_,_,_,_,_,_,_,_,_,_,_,_,_,_,_,_,_,_,_,_,_,_,_,_,_,_,_,_,_,_,_,_,_,_,_,_,_,_,_,_,_,_,_,_,_,_,_,_,_,_,_,_,_,_,_,_,_,_,_,_,_,_,_,_,_,_,_,_,_⟩) hmg ⟨XE KX G ?_,aR ?_ ?_ ?_,XE KX G ?_,aR ?_ ?_ ?_,XE KX G ?_,aR ?_ ?_ ?_,XE KX G ?_,aR ?_ ?_ ?_,XE KX G ?_,aR ?_ ?_ ?_,XE KX G ?_,aR ?_ ?_ ?_,XE KX G ?_,aR ?_ ?_ ?_,XE KX G ?_,aR ?_ ?_ ?_,XE KX G ?_,aR ?_ ?_ ?_,XE KX G ?_,aR ?_ ?_ ?_,XE KX G ?_,aR ?_ ?_ ?_,XE KX G ?_,aR ?_ ?_ ?_,XE KX G ?_,aR ?_ ?_ ?_,XE KX G ?_,aR ?_ ?_ ?_,XE KX G ?_,aR ?_ ?_ ?_,XE KX G ?_,aR ?_ ?_ ?_,XE KX G ?_,aR ?_ ?_ ?_,XE KX G ?_,aR ?_ ?_ ?_,XE KX G ?_,aR ?_ ?_ ?_,XE KX G ?_,aR ?_ ?_ ?_,XE KX G ?_,aR ?_ ?_ ?_,XE KX G ?_,aR ?_ ?_ ?_,XE KX G ?_,aR ?_ ?_ ?_,XE KX G ?_,aR ?_ ?_ ?_,XE KX G ?_,aR ?_ ?_ ?_,XE KX G ?_,aR ?_ ?_ ?_,XE KX G ?_,aR ?_ ?_ ?_,XE KX G ?_,aR ?_ ?_ ?_,XE KX G ?_,aR ?_ ?_ ?_,XE KX G ?_,aR ?_ ?_ ?_,XE KX G ?_,aR ?_ ?_ ?_,XE KX G ?_,aR ?_ ?_ ?_,XE KX G ?_,aR ?_ ?_ ?_,XE KX G ?_,aR ?_ ?_ ?_,XE KX G ?_,aR ?_ ?_ ?_,XE KX G ?_,aR ?_ ?_ ?_,XE KX G ?_,aR ?_ ?_ ?_,XE KX G ?_,aR ?_ ?_ ?_,XE KX G ?_,aR ?_ ?_ ?_,XE KX G ?_,aR ?_ ?_ ?_,XE KX G ?_,aR ?_ ?_ ?_,XE KX G ?_,aR ?_ ?_ ?_,XE KX G ?_,aR ?_ ?_ ?_,XE KX G ?_,aR ?_ ?_ ?_,XE KX G ?_,aR ?_ ?_ ?_,XE KX G ?_,aR ?_ ?_ ?_,XE KX G ?_,aR ?_ ?_ ?_,XE KX G ?_,aR ?_ ?_ ?_,XE KX G ?_,aR ?_ ?_ ?_,XE KX G ?_,aR ?_ ?_ ?_,XE KX G ?_,aR ?_ ?_ ?_,XE KX G ?_,aR ?_ ?_ ?_,XE KX G ?_,aR ?_ ?_ ?_,XE KX G ?_,aR ?_ ?_ ?_,XT KX G ?_,XT KX G ?_,XT KX G ?_,XT KX G ?_,XT KX G ?_,XT KX G ?_,XT KX G ?_,XT KX G ?_,XT KX G ?_,XT KX G ?_,XT KX G ?_,XT KX G ?_,XT KX G ?_,XT KX G ?_,XT KX G ?_,XT KX G ?_,XT KX G ?_,bo KX G ?_,bo KX G ?_,bo KX G ?_,bo KX G ?_,bo KX G ?_,bo KX G ?_,bo KX G ?_,bo KX G ?_,Co (its:=#[.int 1 _,.int 2 _]) (xs:=[V.int 1,V.int 2]) KX G ?_ ?_ ?_ ?_ ?_ (show 2<=sizeLine by decide) (.cons ⟨_,rfl⟩ (.cons ⟨_,rfl⟩ (.nil))) (λ_=>.cons (.int _) (.cons (.int _) (.nil))),bo KX G ?_,bo KX G ?_,bo KX G ?_,bo KX G ?_,bo KX G ?_,bo KX G ?_,bo KX G ?_,bo KX G ?_,bo KX G ?_,bo KX G ?_,Co (its:=#[.int 0 _,.int 1 _]) (xs:=[V.int 0,V.int 1]) KX G ?_ ?_ ?_ ?_ ?_ (show 2<=sizeLine by decide) (.cons ⟨_,rfl⟩ (.cons ⟨_,rfl⟩ (.nil))) (λ_=>.cons (.int _) (.cons (.int _) (.nil))),bo KX G ?_,Co (its:=#[.int 1 _,.int 1 _]) (xs:=[V.int 1,V.int 1]) KX G ?_ ?_ ?_ ?_ ?_ (show 2<=sizeLine by decide) (.cons ⟨_,rfl⟩ (.cons ⟨_,rfl⟩ (.nil))) (λ_=>.cons (.int _) (.cons (.int _) (.nil))),bo KX G ?_,bo KX G ?_,bo KX G ?_,bo KX G ?_,bo KX G ?_,bo KX G ?_,bo KX G ?_,bo KX G ?_,bo KX G ?_,bo KX G ?_,bo KX G ?_,bo KX G ?_,bo KX G ?_⟩
  all_goals try first | k_is | rfl
