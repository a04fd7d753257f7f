import PyProof.Rows.All
import Wide.All
import OpenK.AllK
import Wide.FinOn
import Lean
import PyProof.EqAt
import PyProof.EqKinds
import PyProof.TupleCall
import PyProof.P3Eq
import PyProof.NeKinds
import PyProof.NeData
import PyProof.ZipIter
import PyProof.EnumMake
import PyProof.EnumFor
import OpenK.KTop
import PyProof.IsRules
import PyProof.AttrMissHeap
import PyProof.DictUpdate
import KE.KDictOf
import PyProof.Rows.SortStr
import PyProof.FString5
import PyProof.StrOps
import PyProof.ListRange
import PyProof.TupleOfGen
import PyProof.Rows.SumAny
import PyProof.Rows.CallKwBuiltin
import PyProof.StrLoop
import PyProof.StrWalks
import PyProof.StrOps2
import PyProof.SliceStr2
import PyProof.StrBlockI
import PyProof.StrLaws
import PyProof.StrBlock
import PyProof.StrBlockL
import PyProof.StrCalls2
import KE.KStrOpen
import KE.KDictList
import PyProof.DictValues
import PyProof.DictTruth
import KE.KUnpack
import PySem.Challenge.RW_swellways_k38_places_of_letters
set_option Elab.async false
set_option linter.all false
set_option maxRecDepth 100000
set_option maxHeartbeats 4000000
def zzS (t:String):Lean.MacroM (Lean.TSyntax `tactic):=do
 let a←(t.splitOn " ").toArray.mapM fun s=>if s.startsWith "↓" then `(Lean.Parser.Tactic.simpLemma| ↓ $(Lean.mkIdent (s.drop 1).toString.toName):term) else `(Lean.Parser.Tactic.simpLemma| $(Lean.mkIdent s.toName):term)
 `(tactic| try simp only [$a,*])
open PySem.Str renaming ofString → OF
open PySem.W renaming Frag → W7, mg_of → Yi, mg_none_of → Yx, kia_one → ZC, kia_tup → ZD, fnOf → ZY, keepIn → zav, methodObj → zby, cellsFrom_some → zca, OpenLaw → zcp, codeIn → zcI, kitx_tuple → zdq, kitx_none → zdG, kitx_bool → zdH, kitx_list → zdI, plainGet → zd0, kitx_int → zd4, kitx_str → zd5, instObj → zek, kitAny → zeL, WalkO → zeS, mg_of → zeT, nsIn → ze0
open PySem renaming wpAny_bind → W8, Value → Xb, Shared → Xe, wpAny_pure → Xj, starEach → Xp, FuncData → Xy, wpAny → XB, model → XD, Expr → XG, Program → XO, World → X2, foldedSetIterable → X4, wpAny_field → X6, assignEach → X7, wpAny_setField_rec → X9, wpAny_callSpecial?_slot → Ye, wpAny_newObj_type → Yf, Around → Yh, eval → Yl, wpAny_mono → Yq, wpAny_seqItems → Yr, bootBuiltins → Yt, mem_of_lookup → Yu, backTo → YA, mainGlobals → YE, wpAny_call_entry → YF, IsPair → YJ, wpAny_truthy_bool → YW, swapsWith → Y3, wpAny_passesOwn → Zc, compareOp → Zd, IsZip → Zg, sysModules → Zj, wpAny_holding → Zk, plainId_quiet → Zo, binaryOp → Zs, wpAny_rule → Zx, behindInMarks → ZF, wpAny_pyIter_list → ZJ, codeAny → ZK, keywordEach → ZM, wpAny_updateSeq_pair → ZP, wpAny_letGo → ZQ, wpAny_tryCatch → ZT, Keyword → ZW, attributeBase → Z7, wpAny_updateSeq → zab, pyNext → zad, wpAny_Call_Name_kw → zaf, sliceBounds → zan, argBest → zaC, wpAny_standAt → zaQ, Builtin → zaR, NameKind → zaS, intItems → zaZ, wpAny_execs_nil → za0, letOwnedTupleGo → za1, wpAny_loadPart' → za9, getItem → zbc, rawInt → zbj, backToKw → zbl, call_meets → zbq, tupleKind_room_in1 → zbr, Paired → zbD, swapsWithSole → zbE, swappedStores → zbF, intBits_le_64 → zbG, wpAny_attempt → zbJ, wpAny_onRaise → zbK, tupleKind → zbR, noFill_tuple_add → zbT, holding → zb7, assign → zb8, wpAny_pyNext_list_item → zb9, concat_meets → zcb, callerA → zcf, IsEnum → zcn, codeAny_builtin → zcv, wpAny_pyNext_list_end → zcy, wpAny_loadName_local → zcE, Operator → zcF, call → zcG, sizeLine_eq → zcH, subscripted → zcJ, field → zcL, seqIndex? → zcX, valueAt → zcY, seqItems? → zcZ, wpAny_loadName_cell → zc0, assignInOrder → zc7, seq_tuple_add → zc8, wpAny_pyIter_tuple → zds, getattributeRaised → zdv, BindsTo → zdA, codeAny_mono → zdB, wpAny_sequenceKey → zdC, slot_list_getitem → zdD, wpAny_pyIter_enum → zdW, wpAny_execs_cons → zdY, PassesOwn → zdZ, Result → zd1, wpAny_pyIter_zip → zd7, atKey → zed, wpAny_of_eq → zef, numAt → zeh, builtinsNs → zer, wpAny_Name → zes, bindName → zet, bindL → zex, bindC → zey, typeLookup → zez, Params → zeB, call → zeC, compEnvC → zeF, compPost → zeG
open List renaming length_map → W9, mem_map → Xd, map_map → Xg, map_cons → Xh, length_append → Xi, mem_cons_self → Xl, zip → Xm, map_append → Xn, mem_cons_of_mem → Xo, mem_cons → Xr, getElem?_eq_getElem → Xt, size_toArray → Xv, of_mem_zip → Xx, map_congr_left → XA, mem_append_right → XC, append_nil → XH, length_cons → XI, range → XJ, getElem?_eq_some_iff → XR, sum_cons → XU, not_mem_nil → XW, mem_append → X0, nodup_cons → X5, mem_append_left → X8, filterMap_append → Yc, count_cons → Yd, count_append → Yg, zipWith → Yk, find?_cons → Ym, flatMap_append → Yo, getElem?_map → Yp, mem_filter → Ys, length_zipWith → Yw, length → Yy, flatMap_cons → Yz, replicate → YI, filterMap_cons → YL, foldl_cons → YN, drop_eq_getElem_cons → YO, lookup_cons → YR, getElem_mem → YS, zip_map_right → YT, length_filterMap_le → YV, drop_length → Y4, mem_flatMap → Y6, mem_singleton → Y7, getD_eq_getElem?_getD → Y9, length_filter_le → Za, getElem?_set_ne → Ze, map_nil → Zf, nodup_append → Zh, append_assoc → Zi, any_cons → Zl, getElem_of_mem → Zq, mem_range → Zr, filter_cons → Zt, map_zipWith → Zw, take_of_length_le → ZA, getElem?_append_right → ZN, mem_of_getElem? → ZO, length_take → ZX, all_eq_true → ZZ, getElem?_append_left → Z0, getElem?_eq_none_iff → Z2, nil_append → zaa, filter_map → zac, pairwise_cons → zai, filter_filter → zaj, getElem?_cons_zero → zao, getElem?_cons_succ → zap, findIdx?_eq_some_iff_getElem → zas, getElem?_set_self → zau, pairwise_map → zaB, zipWith_map_right → zaD, length_replicate → zaE, filterMap_eq_map → zaI, length_drop → zaK, zipIdx_cons → zaM, any_eq_true → zaN, map_flatMap → zaP, length_nil → za2, forIn_cons → za3, range_succ → zba, mem_filterMap → zbk, filterMap_map → zbo, nodup_iff_pairwise_ne → zbt, count_pos_iff → zbu, mem_of_find?_eq_some → zbx, sublist_append_left → zbL, map_take → zbM, map_drop → zbN, filterMap_cons_none → zbO, filterMap_cons_some → zbP, getElem?_replicate → zbS, cons_append → zbZ, filter_cons_of_neg → zb5, getElem_zip → zb6, range_succ_eq_map → zcj, foldr_cons → zcx, getElem?_zipWith → zcz, take_append_drop → zcD, mem_iff_getElem → zcO, findIdx_getElem → zcT, getElem?_range → zc3, map_eq_nil_iff → zc5, zipIdx_append → zdy, map → zdK, length_range → zdV, getElem_inj → zdX, zipWith_map → zd9, flatMap_map → zea, ext_getElem → zeb, append → zei, not_lt → zej, zipIdx_nil → zeo, length_zip → zeq, nodup_nil → zeD, forIn_nil → zeH, set → ze9
open PySem.Heap renaming get?_push_of_some → Xa, lt_size → Xq, get?_push_size → Xu, get?_update_other → Yj, size_push → ZR, SameBut → ZV, get?_update_self → zaH, ExtBut → zee
open Iff renaming rfl → Xc
open False renaming elim → Xf
open PySem.PyData renaming strOk → Xk, eqv → Zm, eqvAll → zbI, canLayAll0 → zdF, depthAll → zen, canLay0 → zeE
open Nat renaming le_refl → Xs, lt_of_lt_of_le → Xw, ne_of_lt → XF, le_trans → XZ, zero_le → YG, lt_irrefl → Y2, ne_of_gt → Zz, le_of_lt → zat, le_succ → zaT, succ_lt_succ_iff → zaU, succ_le_succ → zbV, min_eq_right → zbY, reduceLeDiff → zb0, zero_lt_succ → zb1, le_of_eq → zcg, min_le_left → zcq, min_eq_left → zcr, zero_lt_one → zcs, lt_add_one → zcN, reduceSub → zdc, reduceAdd → zdd, mod_lt → zdx, lt_trans → zdE, sub_self → zdL, reduceLT → zdM, le_of_dvd → zeX, le_total → ze1
open Int renaming mul_le_mul_of_nonneg_right → Xz, gcd → XM, le_refl → X1, mul_comm → YC, mul_ediv_mul_of_pos_left → YD, mul_pos → YH, le_ediv_iff_mul_le → YK, toNat_of_nonneg → YM, gcd_pos_of_ne_zero_right → YZ, ediv_eq_of_eq_mul_right → Y0, dvd_gcd_mul_iff_dvd_mul → Y1, mul_fdiv_cancel_left → Zn, mul_nonneg → Zv, ediv_le_of_le_mul → ZG, mul_lt_mul_of_pos_right → ZL, eq_of_mul_eq_mul_right → ZS, le_of_mul_le_mul_right → ZU, mul_neg_of_pos_of_neg → Z3, lt_of_mul_lt_mul_left → Z4, natCast_nonneg → zah, eq_ofNat_of_zero_le → zaq, toNat_natCast → zax, lt_trichotomy → zaA, mul_le_mul_of_nonneg_left → zaY, lt_of_mul_lt_mul_right → zbs, gcd_ediv_gcd_ediv_gcd → zbv, le_of_mul_le_mul_left → zbw, sub_mul → zbB, gcd_comm → zck, le_of_lt → zcl, reduceToNat → zct, ediv_mul_le → zcw, natAbs_dvd_natAbs → zcB, one_mul → zcR, add_mul → zcS, reducePow → zdf, reduceNeg → zdg, reduceSub → zdh, reduceAdd → zdi, reduceMul → zdj, natAbs_natCast → zdt, gcd_zero_right → zdu, reduceEq → zdN, gcd_dvd_right → zdO, mul_left_comm → zdP, gcd_dvd_left → zd8, neg_mul_neg → zep, natAbs_mul → zeK, mul_le_mul → zeN, mul_assoc → zeU
open PySem.PassesOwn renaming never → XE
open Ne renaming symm → XQ
open PySem.Builtin.SmallTypes renaming nextOf → XS, ownedTupleIsFree → X3, ownedTupleHandOut → Yv
open PySem.Value renaming ref → XT, none → YX, isStrOf → ZE, int → zak, str → zbf, bool → zbg, type → zdn, isInt → ze4
open Bool renaming and_eq_true → XX, false_ne_true → Zy, false_eq_true → zag, beq_eq_decide_eq → zaG, eq_iff_iff → za7, not_false → zcM, and_false → zcP, false_or → zda, not_true → zde, and_self → zdk, and_true → zdl, true_and → zdm, false_and → zeu, or_false → zeR, true_or → zeZ
open Option.some renaming inj → XY
open PyProof.Rows renaming callWith_type1 → Ya, slot_tuple_getitem → Yb, IntsAre → Z9, kindOf → zaJ, seqObj → za6, assignInOrder_cons → zbi, envOfC → zbm, AllBare → zbz, intBits_le → zbX, subscriptTail_builtinR → zcc, entry_tuple_getitem → zc1, subscriptTail → zc9, args_tuple_getitem → zdp, assignInOrder_nil → zdz, callWith_builtin1 → zd2, IsTup → zec, boot_range → zew, Subscript_ → zeA, sortedHeap → zeO, iadd_int → ze3
open PySem.Builtin.Tuple renaming tupleExact → Yn, tupleItemsOf → zbp, tupleIsExact → zeI
open PySem.Builtin.List renaming listTooLong → YB
open True renaming intro → YQ
open PySem.NameKind renaming free → YU, cell → zdb
open ForInStep renaming yield → YY
open PySem.F renaming plain_max_loop → Y5, slot_tuple_iterator_next → Y8, plainAttrs_list → Zu, slot_enumerate_next → ZH, args_tuple_add_2 → Z6, slot_list_getattribute → Z8, entry_tuple_add → zam, slot_tuple_add → zaw, slot_dict_get → zaF, args_tuple_iterator_next_1 → za4, slot_zip_next → za5, entry_tuple_iterator_next → zbd, args_dict_get_3 → zbW, args_enumerate_next_1 → zb3, entry_max_loop → zb4, entry_dict_get → zci, entry_enumerate_next → zco, args_list_extend_2 → zcQ, called_tuple → zcV, args_object_init_2 → zcW, entry_list_extend → zc4, slot_list_extend → zdw, args_zip_next_1 → zdJ, plain_list_iadd → zdT, plain_tuple_new → zdU, entry_zip_next → zd6
open PySem.Builtin.Slice renaming slicePlaces → Zb, sliceAdjust → Z1, sliceApplied → zbn, slicePartIndex → zel, sliceFields → zeQ
open Sum renaming inr → ZI, inl → zbb
open Array renaming length_toList → Z5, mem_iff_getElem → zcA, toArray_toList → zcU, append_assoc → zdo, size_append → zdQ, toList → zeY
open PySem.Calls renaming spliced_cons → zae, Name_function_global → zbh, spliced_nil → zbA, callWith_builtin → zcd, evalArgs_plain → zcK
open PySem.Builtin.Range renaming rangeSize → zal, small → zfa
open Classical renaming propDecidable → zar
open Or renaming inl → zay, inr → zaz
open Option renaming getD_some → zaL, isSome_iff_exists → zbH, map_eq_some_iff → zch, map_some → zcu, getD_none → zd3, map_map → zeP, none → ze7
open PySem.AutoSeq1 renaming sub_tuple_tuple → zaO, sub_tuple_list → zaW, sub_list_tuple → zaX, sub_list_list → za8, idx_int → zcm
open PySem.Around renaming under_plainId → zaV
open PySem.Builtin.Builtins renaming bindParams → zbe
open List.Pairwise renaming map → zbC, nil → zfe
open List.cons renaming inj → zbQ
open Prod renaming ext → zbU, fst → zeJ
open PySem.Builtin.Dict renaming updateFrom → zb2, addKeywords → zeV, selfAndRest → zeW, pairItems → ze2
open PySem.Obj renaming mapSeq → zce, data_mapFields → zdr
open List.Perm renaming append_left → zcC
open PySem.Heap.SameBut renaming update → zc2
open PySem.Paired renaming length → zc6, snoc → ze8
open List.Sublist renaming refl → zdR, map → zff
open Function renaming comp_def → zdS
open PySem.Shared renaming heap → zeg
open PySem.Heap.DictOf renaming new → zem
open PySem.SeqAt renaming EqAt → zeM
open Sum.inr renaming inj → ze5
open PySem.IsRange renaming new → ze6
open PySem.Heap.IsSliceOf renaming new → zfb
open PySem.W.WShape renaming has → zfc
open PySem.Walks renaming list → zfd
namespace L2
open PySem PySem.Spec PyProof.Rows
abbrev Key:=Sum Int Str
def uD:Key->Xb->Bool
 | .inl k,v=>ze4 k v
 | .inr x,v=>ZE x v
def Vv (w:X2):Key->Int
 | .inl k=>hashInt k
 | .inr x=>hashStr w x
theorem cj:∀ {k:Key} {v:Xb},uD k v=true->(∃ i t,k=zbb i/\v=zak i t)∨(∃ x t,k=ZI x/\v=zbf x t)
 | .inl i,v,h=>by
  obtain ⟨t,e⟩:=Value.isInt_shape (k:=i) (v:=v) h
  exact .inl ⟨i,t,rfl,e⟩
 | .inr x,v,h=>by
  obtain ⟨t,e⟩:=Value.isStrOf_shape (x:=x) (v:=v) h
  exact .inr ⟨x,t,rfl,e⟩
theorem EI (i:Int)(t:Tok):uD (.inl i) (.int i t)=true:=by simp[uD,ze4]
theorem FE (x:Str)(t:Tok):uD (.inr x) (.str x t)=true:=by simp[uD,ZE]
theorem Sk (a b:Int):decide ((zbb a:Key)=zbb b)=(a == b):=by
 by_cases e:a=b
 ·subst e;simp
 ·have h:¬ (zbb a:Key)=zbb b:=λq=>e (Sum.inl.inj q)
  rw[decide_eq_false h]
  exact (beq_eq_false_iff_ne.mpr e).symm
theorem Q9 (a b:Str):decide ((ZI a:Key)=ZI b)=decide (a=b):=by
 by_cases e:a=b
 ·subst e;simp
 ·have h:¬ (ZI a:Key)=ZI b:=λq=>e (ze5 q)
  rw[decide_eq_false h,decide_eq_false e]
theorem PC (a:Int)(b:Str):decide ((zbb a:Key)=ZI b)=false:=decide_eq_false (λq=>nomatch q)
theorem Sy (a:Str)(b:Int):decide ((ZI a:Key)=zbb b)=false:=decide_eq_false (λq=>nomatch q)
def bU (prog:XO)(w:X2):PySem.KeyKind prog w Key where
 is:=uD
 hash:=Vv w
 inj:=λv a b ha hb=>by
  rcases cj ha with ⟨i,t,rfl,rfl⟩ | ⟨x,t,rfl,rfl⟩
  ·rcases cj hb with ⟨j,u,rfl,e⟩ | ⟨y,u,rfl,e⟩
   ·injection e with e1 _;rw[e1]
   ·exact nomatch e
  ·rcases cj hb with ⟨j,u,rfl,e⟩ | ⟨y,u,rfl,e⟩
   ·exact nomatch e
   ·injection e with e1 _;rw[e1]
 byValue:=λk v h=>by
  rcases cj h with ⟨i,t,rfl,rfl⟩ | ⟨x,t,rfl,rfl⟩ <;> rfl
 pyHash:=λhv h=>by
  rcases cj hv with ⟨i,t,rfl,rfl⟩ | ⟨x,t,rfl,rfl⟩
  ·exact wpAny_pyHash_int h
  ·exact wpAny_pyHash_str h
 eqBool:=λhu hv h=>by
  rcases cj hu with ⟨i,t,rfl,rfl⟩ | ⟨x,t,rfl,rfl⟩
  ·rcases cj hv with ⟨j,u,rfl,rfl⟩ | ⟨y,u,rfl,rfl⟩
   ·rw[Sk] at h;exact wpAny_eqBool_int h
   ·rw[PC] at h;exact SeqAt.EqAt.int_str i t y u _ _ _ _ h
  ·rcases cj hv with ⟨j,u,rfl,rfl⟩ | ⟨y,u,rfl,rfl⟩
   ·rw[Sy] at h;exact SeqAt.EqAt.str_int x t j u _ _ _ _ h
   ·rw[Q9] at h;exact wpAny_eqBool_str h
 «strs»:=λk x t v h=>by
  rcases cj h with ⟨i,u,rfl,e⟩ | ⟨y,u,rfl,e⟩
  ·exact nomatch e
  ·injection e with e1 _
   subst e1
   cases v<;>rfl
theorem yL (prog:XO)(w:X2)(i:Int)(t:Tok):(bU prog w).is (.inl i) (.int i t)=true:=EI i t
theorem xY (prog:XO)(w:X2)(x:Str)(t:Tok):(bU prog w).is (.inr x) (.str x t)=true:=FE x t
end L2
namespace L2
open PySem PySem.Spec PyProof.Rows
inductive V where
 | non | bl (b:Bool) | int (i:Int) | str (x:Str) | byt (b:Array UInt8) | flt (b:UInt64) | ref (a:Addr) | ty (n:String)
 deriving DecidableEq
def RelV:V->Xb->Prop
 | .non,u=>u=YX
 | .bl b,u=>u=zbg b
 | .int i,u=>∃ t,u=zak i t
 | .str x,u=>∃ t,u=zbf x t
 | .byt b,u=>∃ t,u=Value.bytes b t
 | .flt b,u=>∃ t,u=Value.float b t
 | .ref a,u=>u=XT a
 | .ty n,u=>u=zdn n
abbrev Vals:List V->List Xb->Prop:=zbD RelV
theorem Vals.length {xs:List V}{us:List Xb}(r:Vals xs us):xs.length=us.length:=zc6 r
theorem Vals.get:∀ {xs:List V} {us:List Xb} {i:Nat} {x:V},Vals xs us->xs[i]? = some x->∃ u,us[i]? = some u/\RelV x u
 | _,_,_,_,.nil,e=>by simp at e
 | _,_,0,_,.cons r _,e=>by simp at e;subst e;exact ⟨_,rfl,r⟩
 | _,_,i+1,x,.cons _ t,e=>by
  obtain ⟨u,h1,h2⟩:=Vals.get (i:=i) (x:=x) t (by simpa using e)
  exact ⟨u,by simpa using h1,h2⟩
theorem Vals.set {x:V}{u:Xb}(r:RelV x u):∀ {xs:List V} {us:List Xb} (i:Nat),Vals xs us->Vals (xs.set i x) (us.set i u)
 | _,_,_,.nil=>.nil
 | _,_,0,.cons _ t=>.cons r t
 | _,_,i+1,.cons q t=>.cons q (Vals.set r i t)
theorem Vals.append:∀ {xs ys:List V} {us ws:List Xb},Vals xs us->Vals ys ws->Vals (xs++ys) (us++ws)
 | _,_,_,_,.nil,s=>s
 | _,_,_,_,.cons r t,s=>.cons r (Vals.append t s)
theorem Vals.take:∀ {xs:List V} {us:List Xb} (n:Nat),Vals xs us->Vals (xs.take n) (us.take n)
 | _,_,0,_=>.nil
 | _,_,_+1,.nil=>.nil
 | _,_,n+1,.cons r t=>.cons r (Vals.take n t)
theorem Vals.drop:∀ {xs:List V} {us:List Xb} (n:Nat),Vals xs us->Vals (xs.drop n) (us.drop n)
 | _,_,0,r=>r
 | _,_,_+1,.nil=>.nil
 | _,_,n+1,.cons _ t=>Vals.drop n t
def o9:Option V->Option Xb->Prop
 | some v,some u=>RelV v u
 | none,none=>True
 | _,_=>False
def KV {κ:Type}:List (κ×V)->List (κ×Xb)->Prop:=zbD λ(p:κ×V) (q:κ×Xb)=>p.1=q.1/\RelV p.2 q.2
def kV:Key->V
 | .inl i=>.int i
 | .inr x=>.str x
inductive HO where
  | lst (xs:List V)
  | tup (xs:List V)
  | dK (kvs:List (Key×V)) | dT (kvs:List (List Key×V))
  | set (S:Int->Bool) (n:Nat)
  | ins (C dx:Addr) (fs:List (Str×V))
  | own (x:Addr)
  | xd (fs:List (Str×V))
  | met (f x:Addr)
  | rng (lo hi:Int)
  | frz (o:Obj) (u:HO)
  | tbl (ps:Array Xb)
  | ext (φ:Heap->Prop)
abbrev Hp:=Addr->Option HO
def upd (H:Hp)(a:Addr)(o:HO):Hp:=λb=>if b=a then some o else H b
theorem aN {H:Hp}{a:Addr}{o:HO}:upd H a o a=some o:=by unfold upd;rw[if_pos rfl]
theorem aP {H:Hp}{a b:Addr}{o:HO}(h:b≠a):upd H a o b=H b:=by unfold upd;rw[if_neg h]
theorem vk {H:Hp}{a:Addr}{o u:HO}:upd (upd H a o) a u=upd H a u:=by
 funext b;unfold upd;split<;>rfl
theorem UJ {H:Hp}{a b:Addr}{o u:HO}(h:H a=some o)(h':H b=some u)(d:o≠u):a≠b:=by
 intro e;subst e;rw[h] at h';exact d (XY h')
theorem bx {H:Hp}{a b:Addr}{o:HO}(h:H a=some o)(h':H b=none):a≠b:=by
 intro e;subst e;rw[h] at h';cases h'
def vf (h:Heap)(a:Addr)(items:Array Xb):Prop:=∃ n,h.get? a=some { cls:=.type "tuple", data:=.seq items n }
theorem vf.tup {h:Heap}{a:Addr}{items:Array Xb}(p:vf h a items):zec h a items:=by obtain ⟨n,e⟩:=p;exact ⟨_,e,rfl,n,rfl⟩
theorem vf.new (h:Heap)(items:Array Xb):vf (h.push { cls:=.type "tuple", data:=.seq items }) h.objs.size items:=⟨_,Xu _ rfl⟩
section
variable (P:XO) (w:X2)
def df (H:Hp)(h:Heap)(a:Addr):HO->Prop
 | .lst xs=>xs.length<=sizeLine/\∃ (its:List Xb) (n:Nat),Vals xs its/\h.get? a=some { cls:=.type "list", data:=.seq its.toArray n }
 | .tup xs=>xs.length<=sizeLine/\∃ its:List Xb,Vals xs its/\vf h a its.toArray
 | .dK kvs=>kvs.length<=sizeLine/\(a == Zj)=false/\∃ vs,KV kvs vs/\h.DictOf (bU P w) a vs
 | .dT kvs=>kvs.length<=sizeLine/\(a == Zj)=false/\∃ xs:List (List Key×Addr×Xb),
   zbD (λ(p:List Key×V) (q:List Key×Addr×Xb)=>p.1=q.1/\H q.2.1=some (.tup (p.1.map kV))/\RelV p.2 q.2.2) kvs xs/\
   ∃ o es ep,h.get? a=some o/\o.ExactDict/\o.data=.dict es ep/\es.toList=xs.map (entryOfKey (zbR (bU P w)))/\(xs.map (·.1)).Nodup
 | .set S n=>h.SetOf (intKind P w) a S n
 | .ins C dx fs=>H dx=some (.own a)/\fs.length<=1000/\dx≠a/\h.get? a=some (zek C dx)/\
   ∃ mA,h.Ns1 dx mA/\(∀ f,o9 (fs.lookup f) (mA f))/\PySem.Within mA (fs.map (·.1))
 | .own _=>∃ o,h.get? a=some o
 | .xd fs=>∃ mA,h.Ns1 a mA/\∀ f,o9 (fs.lookup f) (mA f)
 | .rng lo hi=>∃ t u v,h.get? a=some { cls:=.type "range", data:=.fields #[.int lo t,.int hi u,.int 1 v] }
 | .frz o u=>h.get? a=some o/\df H h a u
 | .tbl ps=>h.get? a=some { cls:=.none,data:=.fields ps }
 | .met f x=>h.get? a=some (zby (.ref f) (.ref x))
 | .ext φ=>φ h/\(∃ o,h.get? a=some o)/\∀ h1 h2:Heap,φ h1->(∀ o,h1.get? a=some o->h2.get? a=some o)->φ h2
def HOk (H:Hp)(h:Heap):Prop:=∀ a o,H a=some o->df P w H h a o
end
section
variable {P:XO} {w:X2} {H H':Hp} {h h':Heap} {a:Addr} {o:HO}
theorem df.lt (x:df P w H h a o):a < h.objs.size:=by
 cases o with
 | lst xs=>obtain ⟨_,_,_,_,e⟩:=x;exact Xq e
 | tup xs=>obtain ⟨_,_,_,p⟩:=x;exact p.tup.lt
 | dK kvs=>obtain ⟨_,_,_,_,o,_,_,e,_⟩:=x;exact Xq e
 | dT kvs=>obtain ⟨_,_,_,_,o,_,_,e,_⟩:=x;exact Xq e
 | set S n=>obtain ⟨o,_,_,_,e,_⟩:=x;exact Xq e
 | ins C dx fs=>obtain ⟨_,_,_,e,_⟩:=x;exact Xq e
 | own y=>obtain ⟨_,e⟩:=x;exact Xq e
 | xd fs=>obtain ⟨_,⟨_,_,_,e,_⟩,_⟩:=x;exact Xq e
 | rng lo hi=>obtain ⟨_,_,_,e⟩:=x;exact Xq e
 | frz ob u=>obtain ⟨e,_⟩:=x;exact Xq e
 | tbl ps=>exact Xq (show h.get? a=some _ from x)
 | met f y=>exact Xq (show h.get? a=some _ from x)
 | ext φ=>obtain ⟨_,⟨_,e⟩,_⟩:=x;exact Xq e
theorem zbD.Sm {α β:Type}{F G:α->β->Prop}:∀ {l₁:List α} {l₂:List β},zbD F l₁ l₂->(∀ a b,F a b->G a b)->zbD G l₁ l₂
 | _,_,.nil,_=>.nil
 | _,_,.cons r t,f=>.cons (f _ _ r) (zbD.Sm t f)
theorem df.o8 (x:df P w H h a o)(k:∀ b u,(b=a∨H b=some (.own a))->h.get? b=some u->h'.get? b=some u)
  (ho:∀ b,H b=some (.own a)->H' b=some (.own a)) (ht:∀ b xs,H b=some (.tup xs)->H' b=some (.tup xs)):df P w H' h' a o:=by
 induction o with
 | lst xs=>obtain ⟨z,its,n,r,e⟩:=x;exact ⟨z,its,n,r,k _ _ (.inl rfl) e⟩
 | tup xs=>obtain ⟨z,its,r,m,e⟩:=x;exact ⟨z,its,r,m,k _ _ (.inl rfl) e⟩
 | dK kvs=>obtain ⟨z,y,vs,r,ob,es,ep,e,c⟩:=x;exact ⟨z,y,vs,r,ob,es,ep,k _ _ (.inl rfl) e,c⟩
 | dT kvs=>
  obtain ⟨z,y,xs,r,ob,es,ep,e,c⟩:=x
  exact ⟨z,y,xs,zbD.Sm r λp q z=>⟨z.1,ht _ _ z.2.1,z.2.2⟩,ob,es,ep,k _ _ (.inl rfl) e,c⟩
 | set S n=>obtain ⟨ob,es,ep,t,e,c⟩:=x;exact ⟨ob,es,ep,t,k _ _ (.inl rfl) e,c⟩
 | ins C dx fs=>
  obtain ⟨d,z,ne,e,mA,⟨od,es,ep,e2,c⟩,r⟩:=x
  exact ⟨ho _ d,z,ne,k _ _ (.inl rfl) e,mA,⟨od,es,ep,k _ _ (.inr d) e2,c⟩,r⟩
 | own y=>obtain ⟨ob,e⟩:=x;exact ⟨ob,k _ _ (.inl rfl) e⟩
 | xd fs=>obtain ⟨mA,⟨od,es,ep,e,c⟩,r⟩:=x;exact ⟨mA,⟨od,es,ep,k _ _ (.inl rfl) e,c⟩,r⟩
 | rng lo hi=>obtain ⟨t,u,v,e⟩:=x;exact ⟨t,u,v,k _ _ (.inl rfl) e⟩
 | frz ob u ih=>obtain ⟨e,q⟩:=x;exact ⟨k _ _ (.inl rfl) e,ih q⟩
 | tbl ps=>
  have e:h.get? a=some { cls:=.none,data:=.fields ps }:=x
  show h'.get? a=some { cls:=.none,data:=.fields ps }
  exact k a _ (.inl rfl) e
 | met f y=>
  have e:h.get? a=some (zby (.ref f) (.ref y)):=x
  show h'.get? a=some (zby (.ref f) (.ref y))
  exact k a _ (.inl rfl) e
 | ext φ=>obtain ⟨p,⟨o,e⟩,st⟩:=x;exact ⟨st _ _ p λo q=>k _ _ (.inl rfl) q,⟨o,k _ _ (.inl rfl) e⟩,st⟩
theorem HOk.lt (x:HOk P w H h)(e:H a=some o):a < h.objs.size:=(x a o e).lt
theorem HOk.fresh (x:HOk P w H h)(e:h.objs.size<=a):H a=none:=by
 cases q:H a with
 | none=>rfl
 | some u=>exact absurd (Xw (x.lt q) e) (Y2 _)
theorem HOk.kept (x:HOk P w H h)(k:∀ b u,h.get? b=some u->h'.get? b=some u):HOk P w H h':=λa o e=>
 (x a o e).o8 (λb u _ q=>k b u q) (λ_ q=>q) λ_ _ q=>q
theorem HOk.laid (x:HOk P w H h)(k:∀ b u,h.get? b=some u->h'.get? b=some u)(hp:h.objs.size<=a)(new:df P w (upd H a o) h' a o):HOk P w (upd H a o) h':=λb u e=>by
 have hn:=x.fresh hp
 by_cases hb:b=a
 ·subst hb;rw[aN] at e;cases e;exact new
 ·rw[aP hb] at e
  exact (x b u e).o8 (λc v _ q=>k c v q) (λc q=>by rw[aP (bx q hn)];exact q) λc xs q=>by rw[aP (bx q hn)];exact q
end
def Rd (H:Hp)(a:Addr)(u:HO):Prop:=H a=some u∨∃ o,H a=some (.frz o u)
theorem Rd.ok {P:XO}{w:X2}{H:Hp}{h:Heap}{a:Addr}{u:HO}(r:Rd H a u)(x:HOk P w H h):df P w H h a u:=by
 rcases r with r | ⟨o,r⟩
 ·exact x a u r
 ·obtain ⟨_,q⟩:=x a _ r
  exact q
def Mut:Option HO->Prop
 | some (.lst _)=>True
 | some (.dK _)=>True
 | some (.dT _)=>True
 | some (.set _ _)=>True
 | some (.ins _ _ _)=>True
 | some (.ext _)=>True
 | _=>False
section
variable {P:XO} {w:X2} {H:Hp} {h h':Heap} {x e:Addr} {o':HO}
theorem HOk.write (ok:HOk P w H h)(mu:Mut (H x))(he:e=x∨H e=some (.own x))(k:∀ b u,b≠e->h.get? b=some u->h'.get? b=some u)(heo:∃ u,h'.get? e=some u)
  (new:df P w (upd H x o') h' x o'):HOk P w (upd H x o') h':=λb u q=>by
 have Um:∀ c y,H c=some (.own y)->c≠x:=λc y r z=>by subst z;rw[r] at mu;exact mu
 have WK:∀ c xs,H c=some (.tup xs)->c≠x:=λc xs r z=>by subst z;rw[r] at mu;exact mu
 by_cases hb:b=x
 ·subst hb;rw[aN] at q;cases q;exact new
 ·rw[aP hb] at q
  by_cases hbe:b=e
  ·have q':H b=some (.own x):=by
    rcases he with z | z
    ·exact absurd (hbe.trans z) hb
    ·rw[hbe];exact z
   rw[q] at q';cases q'
   obtain ⟨v,hv⟩:=heo
   exact ⟨v,by rw[hbe];exact hv⟩
  ·refine (ok b u q).o8 (λc v hc r=>k c v ?_ r) (λc r=>by rw[aP (Um c b r)];exact r) λc xs r=>by rw[aP (WK c xs r)];exact r
   rcases hc with rfl | hc
   ·exact hbe
   ·rintro rfl
    rcases he with z | z
    ·exact Um c b hc z
    ·rw[hc] at z;cases z;exact hb rfl
end
structure Un (fs ex:List Addr) (H H':Hp) (h h':Heap):Prop where
 keep:∀ b o,h.get? b=some o->H b=none->b ∉ fs->b ∉ ex->h'.get? b=some o
 slot:∀ b o,h.get? b=some o->H b=none->b∈fs->b ∉ ex->∃ sl,h'.get? b=some { o with slots:=sl }
 free:∀ b o,h.get? b=some o->H b=none->b ∉ ex->H' b=none
 there:∀ b o,h.get? b=some o->b ∉ ex->∃ o',h'.get? b=some o'
 oK:∀ b xs,H b=some (.tup xs)->H' b=some (.tup xs)
 mY:∀ b o u,H b=some (.frz o u)->H' b=some (.frz o u)
 oZ:∀ b ps,H b=some (.tbl ps)->∃ more,H' b=some (.tbl (ps++more))
section
variable {fs fs' ex ex':List Addr} {H H1 H2:Hp} {h h1 h2 h':Heap} {a x e:Addr} {o:HO}
theorem Un.any (u:Un fs ex H H1 h h1){b:Addr}{ob:Obj}(q:h.get? b=some ob)(n:H b=none)(hx:b ∉ ex):∃ sl,h1.get? b=some { ob with slots:=sl }:=by
 by_cases hb:b∈fs
 ·exact u.slot b ob q n hb hx
 ·exact ⟨ob.slots,u.keep b ob q n hb hx⟩
theorem Un.trans (a:Un fs ex H H1 h h1)(b:Un fs ex H1 H2 h1 h2):Un fs ex H H2 h h2 where
 keep:=λc ob q n hc hx=>b.keep c ob (a.keep c ob q n hc hx) (a.free c ob q n hx) hc hx
 slot:=λc ob q n hc hx=>by
  obtain ⟨sl,e1⟩:=a.slot c ob q n hc hx
  obtain ⟨sl',e2⟩:=b.slot c _ e1 (a.free c ob q n hx) hc hx
  exact ⟨sl',e2⟩
 free:=λc ob q n hx=>by
  obtain ⟨o',e1⟩:=a.there c ob q hx
  exact b.free c o' e1 (a.free c ob q n hx) hx
 there:=λc ob q hx=>by
  obtain ⟨o',e1⟩:=a.there c ob q hx
  exact b.there c o' e1 hx
 oK:=λc xs q=>b.oK c xs (a.oK c xs q)
 mY:=λc ob xs q=>b.mY c ob xs (a.mY c ob xs q)
 oZ:=λc ps q=>by
  obtain ⟨m1,e1⟩:=a.oZ c ps q
  obtain ⟨m2,e2⟩:=b.oZ c _ e1
  exact ⟨m1++m2,by rw[e2,zdo]⟩
theorem Un.kept (k:∀ b u,h.get? b=some u->h'.get? b=some u):Un fs ex H H h h':=
 ⟨λb ob q _ _ _=>k b ob q,λb ob q _ _ _=>⟨ob.slots,k b ob q⟩,λ_ _ _ n _=>n,λb ob q _=>⟨ob,k b ob q⟩,λ_ _ q=>q,λ_ _ _ q=>q,λ_ ps q=>⟨#[],by rw[q];simp⟩⟩
theorem Un.refl:Un fs ex H H h h:=Un.kept λ_ _ q=>q
theorem Un.laid (k:∀ b u,h.get? b=some u->h'.get? b=some u)(hp:h.objs.size<=a)(hn:H a=none):Un fs ex H (upd H a o) h h' where
 keep:=λb u q _ _ _=>k b u q
 slot:=λb u q _ _ _=>⟨u.slots,k b u q⟩
 free:=λb u q n _=>by rw[aP (XF (Xw (Xq q) hp))];exact n
 there:=λb u q _=>⟨u,k b u q⟩
 oK:=λb xs q=>by rw[aP (bx q hn)];exact q
 mY:=λb u xs q=>by rw[aP (bx q hn)];exact q
 oZ:=λb ps q=>⟨#[],by rw[aP (bx q hn),q];simp⟩
theorem Un.write (mu:Mut (H x))(he:e=x∨H e=some (.own x))(k:∀ b u,b≠e->h.get? b=some u->h'.get? b=some u)(heo:∃ u,h'.get? e=some u):Un fs ex H (upd H x o) h h':=by
 have hx:∀ b,H b=none->b≠x:=λb n z=>by subst z;rw[n] at mu;exact mu
 have hb:∀ b,H b=none->b≠e:=λb n z=>by
  subst z
  rcases he with r | r
  ·exact hx b n r
  ·rw[n] at r;cases r
 have hm:∀ b u,H b=some u->¬ Mut (some u)->b≠x:=λb u q nm z=>by subst z;rw[q] at mu;exact nm mu
 refine ⟨λb u q n _ _=>k b u (hb b n) q,λb u q n _ _=>⟨u.slots,k b u (hb b n) q⟩,λb u q n _=>by rw[aP (hx b n)];exact n,λb u q _=>?_,
  λb xs q=>by rw[aP (hm b _ q λz=>z)];exact q,λb u xs q=>by rw[aP (hm b _ q λz=>z)];exact q,λb ps q=>⟨#[],by rw[aP (hm b _ q λz=>z),q];simp⟩⟩
 by_cases hbe:b=e
 ·subst hbe;exact heo
 ·exact ⟨u,k b u hbe q⟩
theorem Un.mono (u:Un fs ex H H1 h h1)(hs:∀ b∈fs,b∈fs')(hx:∀ b∈ex,b∈ex'):Un fs' ex' H H1 h h1:=
 ⟨λb ob q n hb he=>u.keep b ob q n (λz=>hb (hs b z)) λz=>he (hx b z),λ_ _ q n _ he=>u.any q n λz=>he (hx _ z),λb ob q n he=>u.free b ob q n λz=>he (hx b z),λb ob q he=>u.there b ob q λz=>he (hx b z),u.oK,u.mY,u.oZ⟩
end
def trk (h:Heap)(H:Hp):List Addr:=(XJ h.objs.size).filter λa=>(H a).isSome
def vH (h:Heap)(H:Hp):Heap:=PySem.W.hideAll h (trk h H)
theorem E6 (h:Heap)(H:Hp):(vH h H).objs.size=h.objs.size:=PySem.W.hideAll_size _ _
theorem GP {h:Heap}{H:Hp}{b:Addr}{o:Obj}(e:h.get? b=some o)(n:H b=none):(vH h H).get? b=some o:=
 PySem.W.hideAll_get _ e λhm=>by
  have q:(H b).isSome=true:=(Ys.mp hm).2
  rw[n] at q;simp at q
theorem NR {h:Heap}{H:Hp}{b:Addr}{o:Obj}(e:(vH h H).get? b=some o):h.get? b=some o/\H b=none:=by
 have e':h.get? b=some o:=PySem.W.of_hideAll (trk h H) e
 refine ⟨e',?_⟩
 cases q:H b with
 | none=>rfl
 | some x=>
  have hm:b∈trk h H:=Ys.mpr ⟨Zr.mpr (Xq e'),by simp[q]⟩
  have z:(vH h H).get? b=none:=PySem.W.hideAll_none (trk h H) hm
  rw[z] at e;cases e
def K5 (g h:Heap)(L:Addr):List (Addr×Obj):=(XJ h.objs.size).filterMap λa=>if a=L∨(g.get? a).isSome=true then none else (h.get? a).map λo=>(a,o)
def rest (g h:Heap)(L d:Addr):List (Addr×Obj):=(K5 g h L).filter λp=>decide (p.1≠d)
end L2
namespace L2
open PySem PySem.Spec PyProof.Rows
structure Mod (K:W7) (mg:Str->Option Xb) (base:Heap):Prop where
 kin:K.In base
 glob:base.Ns YE mg
 blt:∃ mb,base.Ns zer mb/\∀ x:Str,x ≠ "__name__" -> mb x=Yt x
 nolimit:base.NoLimit
structure Cx where
 prog:XO
 w:X2
 K:W7
 mg:Str->Option Xb
 base:Heap
 A:Yh
 N:List Str
 s₀:Xe
 H₀:Hp
 env:Env
 outer:List Env
 stack:List Env
 ex:List Addr
 fn:Str->Bool
 calm:Bool
 pn:List (Addr×Obj)
 xe:Xb->Xe->Prop
def frs (l:List Env):List Addr:=l.filterMap (·.frame)
abbrev Cx.fs (X:Cx):List Addr:=frs X.outer
def Vis (sc:Scope)(x:Str):Prop:=sc.names.lookup x=some .local∨sc.names.lookup x=some .cell∨sc.names.lookup x=some .free
def Loc (sc:Scope)(x:Str):Prop:=sc.names.lookup x=some .local∨sc.names.lookup x=some .cell
def Look (env:Env)(h:Heap)(m:Str->Option Xb)(x:Str)(u:Xb):Prop:=
 (env.kindOf x=some .local/\m x=some u)∨((env.kindOf x=some .cell∨env.kindOf x=some .free)/\∃ c,env.cells.lookup x=some c/\h.IsCell c (some u))
structure Cx.Ok (X:Cx):Prop where
 mod:Mod X.K X.mg X.base
 kind:X.env.scope.kind=.function
 glob:X.env.globals=YE
 blt:X.env.builtins=zer
 above:X.s₀.heap.objs.size<=X.env.locals
 inj:∀ x y c,X.env.cells.lookup x=some c->X.env.cells.lookup y=some c->x=y
 has:∀ x,(X.env.kindOf x=some .cell∨X.env.kindOf x=some .free)->∃ c,X.env.cells.lookup x=some c
 cab:∀ x c,X.fn x=true->X.env.cells.lookup x=some c->X.s₀.heap.objs.size<=c
 hd:X.calm=true->X.A.handled=none
 frames:X.A.frames=some X.stack
 stk:X.stack=X.outer∨(X.stack=X.env::X.outer/\X.env.frame=some X.env.locals)
 exf:∀ b∈X.ex,b≠X.env.locals/\∀ x c,X.env.cells.lookup x=some c->c≠b
 bs:∀ b o,X.base.get? b=some o->X.s₀.heap.get? b=some o/\X.H₀ b=none
 bsz:X.base.objs.size<=X.s₀.heap.objs.size
 Hm:∀ b o,X.base.get? b=some o->b ∉ X.ex
 Gs:∀ b∈X.ex,b ∉ X.fs
 qj:X.s₀.heap.FunFrames X.base X.outer
 frf:∀ b∈X.fs,X.H₀ b=none
structure Inv (X:Cx) (pins:List (Addr×Obj)) (σ:List (Option V)) (H:Hp) (s:Xe):Prop where
 ok:X.Ok
 os:s.os=X.s₀.os
 bare:zbz s.gens
 base:Un X.fs X.ex X.H₀ H X.s₀.heap s.heap
 loc:∃ m,s.heap.Ns X.env.locals m/\∀ (i:Nat) (x:Str) (v:V),X.N[i]? = some x->σ[i]? = some (some v)->Vis X.env.scope x->∃ u,RelV v u/\Look X.env s.heap m x u
 cell:∀ x c,X.env.cells.lookup x=some c->∃ v,s.heap.IsCell c v
 free:H X.env.locals=none
 js:∀ x c,X.env.cells.lookup x=some c->H c=none
 pin:∀ p∈X.pn++pins,s.heap.get? p.1=some p.2/\H p.1=none/\p.1≠X.env.locals/\p.1 ∉ X.fs/\∀ v,p.2.data≠.cell v
 hok:HOk X.prog X.w H s.heap
 len:σ.length=X.N.length
section
variable {X:Cx} {pins:List (Addr×Obj)} {σ:List (Option V)} {H H':Hp} {s:Xe} {h':Heap}
theorem Cx.Ok.Wb (ok:X.Ok){b:Addr}{o:Obj}(e:X.base.get? b=some o):b ∉ X.fs:=λhb=>by
 have:=(ok.qj.mem hb).1
 rw[e] at this;cases this
theorem Inv.bs (I:Inv X pins σ H s):∀ b o,X.base.get? b=some o->s.heap.get? b=some o/\H b=none:=λb o e=>
 ⟨I.base.keep b o (I.ok.bs b o e).1 (I.ok.bs b o e).2 (I.ok.Wb e) (I.ok.Hm b o e),I.base.free b o (I.ok.bs b o e).1 (I.ok.bs b o e).2 (I.ok.Hm b o e)⟩
theorem Inv.bk (I:Inv X pins σ H s):∀ b o,X.base.get? b=some o->s.heap.get? b=some o:=λb o e=>(I.bs b o e).1
theorem Inv.mod (I:Inv X pins σ H s):Mod X.K X.mg X.base:=I.ok.mod
theorem Inv.kIn (I:Inv X pins σ H s):X.K.In s.heap:=I.ok.mod.kin.keeps I.bk
theorem Inv.nolimit (I:Inv X pins σ H s):s.heap.NoLimit:=I.ok.mod.nolimit.keeps I.bk
theorem Inv.fr (I:Inv X pins σ H s):∃ m,Fr X.base X.env.locals s.heap m:=
 let ⟨m,hn,_⟩:=I.loc
 ⟨m,hn,I.bk,XZ I.ok.bsz I.ok.above⟩
theorem Inv.lt (I:Inv X pins σ H s):X.env.locals < s.heap.objs.size:=let ⟨_,hn,_⟩:=I.loc;hn.lt
theorem Inv.sz (I:Inv X pins σ H s):X.s₀.heap.objs.size<=s.heap.objs.size:=XZ I.ok.above (zat I.lt)
theorem Inv.V0 (I:Inv X pins σ H s){a:Addr}(h:s.heap.objs.size<=a):a ∉ X.fs:=λhb=>by
 obtain ⟨_,o,ho,_⟩:=I.ok.qj.mem hb
 exact absurd (Xw (Xq ho) (XZ I.sz h)) (Y2 _)
theorem Inv.cne (I:Inv X pins σ H s):∀ x c,X.env.cells.lookup x=some c->c≠X.env.locals:=λx c e z=>by
 obtain ⟨v,o,ho,hd⟩:=I.cell x c e
 obtain ⟨m,⟨o',es,ep,ho',hd',_⟩,_⟩:=I.loc
 rw[z,ho'] at ho;cases ho;rw[hd'] at hd;cases hd
theorem Inv.qj (I:Inv X pins σ H s):s.heap.FunFrames X.base X.outer:=by
 have all:∀ (l:List Env),(∀ b∈frs l,b∈X.fs)->X.s₀.heap.FunFrames X.base l->s.heap.FunFrames X.base l:=by
  intro l
  induction l with
  | nil=>intro _ _;trivial
  | cons env r ih=>
   intro hs hl
   obtain ⟨hk,⟨L,o,hf,hn,ho,hd⟩,hr⟩:=hl
   have hL:L∈X.fs:=hs L (by unfold frs;rw[YL,hf];exact Xl)
   obtain ⟨sl,e⟩:=I.base.slot L o ho (I.ok.frf L hL) hL λz=>I.ok.Gs L z hL
   exact ⟨hk,⟨L,_,hf,hn,e,hd⟩,ih (λb hb=>hs b (by unfold frs;rw[YL,hf];exact Xo _ hb)) hr⟩
 exact all X.outer (λ_ hb=>hb) I.ok.qj
theorem Inv.stack (I:Inv X pins σ H s):s.heap.FunFrames X.base X.stack:=by
 rcases I.ok.stk with e | ⟨e,hf⟩
 ·rw[e];exact I.qj
 ·rw[e]
  obtain ⟨m,hn,_⟩:=I.loc
  refine .cons (by rw[I.ok.kind];decide) hf hn ?_ I.qj
  exact Heap.get?_none_of_le (XZ I.ok.bsz I.ok.above)
theorem Inv.Ap (I:Inv X pins σ H s):∀ b∈frs X.stack,b∈X.env.locals::X.fs:=λb hb=>by
 rcases I.ok.stk with e | ⟨e,hf⟩
 ·rw[e] at hb;exact Xo _ hb
 ·rw[e] at hb
  unfold frs at hb
  rw[YL,hf] at hb
  exact hb
theorem Inv.Dj (I:Inv X pins σ H s):∀ b∈frs X.stack,H b=none:=λb hb=>by
 rcases Xr.mp (I.Ap b hb) with e | hb
 ·rw[e];exact I.free
 ·obtain ⟨_,o,ho,_⟩:=I.ok.qj.mem hb
  exact I.base.free b o ho (I.ok.frf b hb) λz=>I.ok.Gs b z hb
theorem Inv.step {g':Array GenState}{t':Nat}{d':Drawn}{ch:List Addr}(I:Inv X pins σ H s)
  (hch:∀ b∈ch,(b∈X.ex∨X.s₀.heap.objs.size<=b)/\b≠X.env.locals/\(∀ x c,X.env.cells.lookup x=some c->c≠b)/\∀ p∈X.pn++pins,p.1≠b)
  (keep:∀ b o,b≠X.env.locals->b ∉ X.fs->b ∉ ch->s.heap.get? b=some o->H b=none->h'.get? b=some o)
  (slot:∀ b o,b≠X.env.locals->b∈X.fs->b ∉ ch->s.heap.get? b=some o->H b=none->∃ sl,h'.get? b=some { o with slots:=sl }) (free:∀ b o,b ∉ ch->s.heap.get? b=some o->H b=none->H' b=none)
  (there:∀ b o,b ∉ ch->s.heap.get? b=some o->∃ o',h'.get? b=some o')
  (oK:∀ b xs,H b=some (.tup xs)->H' b=some (.tup xs)) (mY:∀ b o u,H b=some (.frz o u)->H' b=some (.frz o u)) (oZ:∀ b ps,H b=some (.tbl ps)->∃ more,H' b=some (.tbl (ps++more)))
  (ns:∀ m,s.heap.Ns X.env.locals m->h'.Ns X.env.locals m) (hok:HOk X.prog X.w H' h') (hg:zbz g') :
  Inv X pins σ H' { s with heap:=h',gens:=g',drawn:=d',toks:=t' }:=by
 have neL:∀ b o,X.s₀.heap.get? b=some o->b≠X.env.locals:=λb o e=>XF (Xw (Xq e) I.ok.above)
 have neC:∀ b o,X.s₀.heap.get? b=some o->b ∉ X.ex->b ∉ ch:=λb o e hx hb=>by
  rcases (hch b hb).1 with z | z
  ·exact hx z
  ·exact absurd (Xw (Xq e) z) (Y2 _)
 have cellK:∀ x c,X.env.cells.lookup x=some c->∀ v,s.heap.IsCell c v->h'.IsCell c v:=λx c e v ⟨o,ho,hd⟩=>by
  have nch:c ∉ ch:=λz=>(hch c z).2.2.1 x c e rfl
  by_cases hc:c∈X.fs
  ·obtain ⟨sl,q⟩:=slot c o (I.cne x c e) hc nch ho (I.js x c e)
   exact ⟨_,q,hd⟩
  ·exact ⟨o,keep c o (I.cne x c e) hc nch ho (I.js x c e),hd⟩
 refine ⟨I.ok,I.os,hg,⟨λb o e n hb hx=>?_,λb o e n hb hx=>?_,λb o e n hx=>?_,λb o e hx=>?_,λb xs e=>oK b xs (I.base.oK b xs e),λb o xs e=>mY b o xs (I.base.mY b o xs e),λb ps e=>?_⟩,?_,λx c e=>?_,?_,λx c e=>?_,λp hp=>?_,hok,I.len⟩
 ·exact keep b o (neL b o e) hb (neC b o e hx) (I.base.keep b o e n hb hx) (I.base.free b o e n hx)
 ·obtain ⟨sl,e1⟩:=I.base.slot b o e n hb hx
  obtain ⟨sl',e2⟩:=slot b _ (neL b o e) hb (neC b o e hx) e1 (I.base.free b o e n hx)
  exact ⟨sl',e2⟩
 ·obtain ⟨o',e1⟩:=I.base.there b o e hx
  exact free b o' (neC b o e hx) e1 (I.base.free b o e n hx)
 ·obtain ⟨o',e1⟩:=I.base.there b o e hx
  exact there b o' (neC b o e hx) e1
 ·obtain ⟨m1,e1⟩:=I.base.oZ b ps e
  obtain ⟨m2,e2⟩:=oZ b _ e1
  exact ⟨m1++m2,by rw[e2,zdo]⟩
 ·obtain ⟨m,hn,hl⟩:=I.loc
  refine ⟨m,ns m hn,λi x v e1 e2 e3=>?_⟩
  obtain ⟨u,r,l⟩:=hl i x v e1 e2 e3
  refine ⟨u,r,?_⟩
  rcases l with l | ⟨k,c,e,z⟩
  ·exact .inl l
  ·exact .inr ⟨k,c,e,cellK x c e _ z⟩
 ·obtain ⟨v,z⟩:=I.cell x c e
  exact ⟨v,cellK x c e v z⟩
 ·obtain ⟨m,⟨o,_,_,ho,_⟩,_⟩:=I.loc
  exact free _ o (λz=>(hch _ z).2.1 rfl) ho I.free
 ·obtain ⟨v,o,ho,hd⟩:=I.cell x c e
  exact free c o (λz=>(hch c z).2.2.1 x c e rfl) ho (I.js x c e)
 ·obtain ⟨e,n,ne,nf,d⟩:=I.pin p hp
  have nch:p.1 ∉ ch:=λz=>(hch p.1 z).2.2.2 p hp rfl
  exact ⟨keep p.1 p.2 ne nf nch e n,free p.1 p.2 nch e n,ne,nf,d⟩
theorem Inv.un {t':Nat}(I:Inv X pins σ H s)(u:Un X.fs [] H H' s.heap h')(hok:HOk X.prog X.w H' h'):Inv X pins σ H' { s with heap:=h',toks:=t' }:=by
 obtain ⟨m,⟨o,es,ep,ho,r⟩,_⟩:=id I.loc
 obtain ⟨sl,hL⟩:=u.any ho I.free (by simp)
 exact I.step (g':=s.gens) (d':=s.drawn) (ch:=[]) (λ_ z=>nomatch z) (λb o _ hb _ e n=>u.keep b o e n hb (by simp)) (λb o _ hb _ e n=>u.slot b o e n hb (by simp)) (λb o _ e n=>u.free b o e n (by simp)) (λb o _ e=>u.there b o e (by simp)) u.oK u.mY u.oZ (λm' hm=>by
  obtain ⟨o',es',ep',ho',r'⟩:=hm
  rw[ho] at ho';cases ho'
  exact ⟨_,es',ep',hL,r'⟩) hok I.bare
theorem Inv.call {g':Array GenState}{t':Nat}{d':Drawn}{ch:List Addr}(I:Inv X pins σ H s)(u:Un (frs X.stack) ch H H' s.heap h')(hok:HOk X.prog X.w H' h')(hg:zbz g')
  (hch:∀ b∈ch,(b∈X.ex∨X.s₀.heap.objs.size<=b)/\b≠X.env.locals/\(∀ x c,X.env.cells.lookup x=some c->c≠b)/\∀ p∈X.pn++pins,p.1≠b) :
  Inv X pins σ H' { s with heap:=h',gens:=g',drawn:=d',toks:=t' }:=by
 obtain ⟨m,⟨o,es,ep,ho,r⟩,_⟩:=id I.loc
 obtain ⟨sl,hL⟩:=u.any ho I.free λz=>(hch _ z).2.1 rfl
 exact I.step (ch:=ch) hch (λb o hL hb hc e n=>u.keep b o e n (λz=>(Xr.mp (I.Ap b z)).elim hL hb) hc) (λb o _ _ hc e n=>u.any e n hc) (λb o hc e n=>u.free b o e n hc) (λb o hc e=>u.there b o e hc) u.oK u.mY u.oZ (λm' hm=>by
  obtain ⟨o',es',ep',ho',r'⟩:=hm
  rw[ho] at ho';cases ho'
  exact ⟨_,es',ep',hL,r'⟩) hok hg
theorem Inv.turned {t':Nat}{it:Addr}(I:Inv X pins σ H s)(k:∀ b o,b≠it->s.heap.get? b=some o->h'.get? b=some o)(hn:H it=none)(hL:it≠X.env.locals)
  (h1:it∈X.ex∨X.s₀.heap.objs.size<=it) (h2:∀ x c,X.env.cells.lookup x=some c->c≠it) (h3:∀ p∈X.pn++pins,p.1≠it):Inv X pins σ H { s with heap:=h',toks:=t' }:=by
 have nit:∀ b u,H b=some u->b≠it:=λb u e z=>by rw[z,hn] at e;cases e
 refine I.step (g':=s.gens) (d':=s.drawn) (ch:=[it]) (λb hb=>?_) (λb o _ _ hc e _=>k b o (λz=>hc (by simp[z])) e) (λb o _ _ hc e _=>⟨o.slots,k b o (λz=>hc (by simp[z])) e⟩) (λ_ _ _ _ n=>n)
  (λb o hc e=>⟨o,k b o (λz=>hc (by simp[z])) e⟩) (λ_ _ e=>e) (λ_ _ _ e=>e) (λb ps e=>⟨#[],by rw[e];simp⟩) (λm hm=>?_) (λb u e=>?_) I.bare
 ·have e:b=it:=by simpa using hb
  subst e
  exact ⟨h1,hL,h2,h3⟩
 ·obtain ⟨o,es,ep,ho,r⟩:=hm
  exact ⟨o,es,ep,k _ o (XQ hL) ho,r⟩
 ·refine (I.hok b u e).o8 (λc v hc q=>k c v ?_ q) (λ_ q=>q) λ_ _ q=>q
  rcases hc with z | z
  ·rw[z];exact nit b u e
  ·exact nit c _ z
theorem Inv.tok (I:Inv X pins σ H s)(t:Nat):Inv X pins σ H { s with toks:=t }:=I.un (h':=s.heap) (t':=t) Un.refl I.hok
theorem Inv.kept {t':Nat}(I:Inv X pins σ H s)(k:∀ b u,s.heap.get? b=some u->h'.get? b=some u):Inv X pins σ H { s with heap:=h',toks:=t' }:=I.un (Un.kept k) (I.hok.kept k)
theorem Inv.laid {a:Addr}{o:HO}{t':Nat}(I:Inv X pins σ H s)(k:∀ b u,s.heap.get? b=some u->h'.get? b=some u)(hp:s.heap.objs.size<=a)(new:df X.prog X.w (upd H a o) h' a o) :
  Inv X pins σ (upd H a o) { s with heap:=h',toks:=t' }:=I.un (Un.laid k hp (I.hok.fresh hp)) (I.hok.laid k hp new)
theorem Inv.write {x e:Addr}{o:HO}{t':Nat}(I:Inv X pins σ H s)(mu:Mut (H x))(he:e=x∨H e=some (.own x))(k:∀ b u,b≠e->s.heap.get? b=some u->h'.get? b=some u)(heo:∃ u,h'.get? e=some u)
  (new:df X.prog X.w (upd H x o) h' x o):Inv X pins σ (upd H x o) { s with heap:=h',toks:=t' }:=I.un (Un.write mu he k heo) (I.hok.write mu he k heo new)
theorem Inv.weak {σ':List (Option V)}(I:Inv X pins σ H s)(hl:σ'.length=σ.length)(w:∀ (i:Nat) v,σ'[i]? = some (some v)->σ[i]? = some (some v)):Inv X pins σ' H s:=
 ⟨I.ok,I.os,I.bare,I.base,let ⟨m,hn,hl'⟩:=I.loc;⟨m,hn,λi x v e1 e2 e3=>hl' i x v e1 (w i v e2) e3⟩,I.cell,I.free,I.js,I.pin,I.hok,hl.trans I.len⟩
theorem Inv.DQ {pins':List (Addr×Obj)}(I:Inv X pins σ H s)(h:∀ p∈pins',s.heap.get? p.1=some p.2/\H p.1=none/\p.1≠X.env.locals/\p.1 ∉ X.fs/\∀ v,p.2.data≠.cell v):Inv X pins' σ H s:=
 ⟨I.ok,I.os,I.bare,I.base,I.loc,I.cell,I.free,I.js,λp hp=>(X0.mp hp).elim (λz=>I.pin p (X8 _ z)) (h p),I.hok,I.len⟩
theorem Af {N:List Str}(hN:N.Nodup){i j:Nat}{x:Str}(a:N[i]? = some x)(b:N[j]? = some x):i=j:=by
 obtain ⟨h1,e1⟩:=XR.mp a
 obtain ⟨h2,e2⟩:=XR.mp b
 exact (zdX hN).mp (e1.trans e2.symm)
theorem FA {M:Model}{A:Yh}{E:Xb->Xe->Prop}{i:Nat}{x:Str}{v:V}{u:Xb}{Q:Unit->Xe->Prop}(I:Inv X pins σ H s)(hN:X.N.Nodup)(hi:X.N[i]? = some x)(hx:Loc X.env.scope x)(r:RelV v u)
  (h:∀ s',Inv X pins (σ.set i (some v)) H s'->(∃ a,ZV a s.heap s'.heap/\(a=X.env.locals∨X.env.cells.lookup x=some a))->Q () s') (hf:X.fn x=true∨X.env.scope.names.lookup x=some .local:=by first | exact .inl rfl | exact .inr rfl | assumption):XB M A (storeName X.env x u) Q E s:=by
 obtain ⟨m,hn,hl⟩:=id I.loc
 have VX:(X.env.scope.kind == .class || (X.env.scope.kind == .module&&X.env.locals != X.env.globals))=false:=by rw[I.ok.kind];rfl
 have hiσ:i < σ.length:=by rw[I.len];exact (XR.mp hi).1
 have cne:=I.cne
 have tracked:∀ {a:Addr} {h':Heap},(∃ o,s.heap.get? a=some o/\H a=none)->ZV a s.heap h'->HOk X.prog X.w H h':=λ{a h'} ha hs b ob e=>by
  obtain ⟨_,_,hfree⟩:=ha
  refine (I.hok b ob e).o8 (λc w' hc q=>(hs.2 c ?_).trans q) (λ_ q=>q) λ_ _ q=>q
  rintro rfl
  rcases hc with rfl | hc
  ·rw[hfree] at e;cases e
  ·rw[hfree] at hc;cases hc
 rcases hx with hk | hk
 ·refine wpAny_storeName_local hk hn (λh' hn' hs=>?_) VX
  obtain ⟨oL,_,_,hoL,_⟩:=id hn
  refine h _ ⟨I.ok,I.os,I.bare,⟨λb o e n hb hx=>?_,λb o e n hb hx=>?_,I.base.free,λb o e hx=>?_,I.base.oK,I.base.mY,I.base.oZ⟩,⟨_,hn',λj y v' e1 e2 e3=>?_⟩,λy c e=>?_,I.free,I.js,λp hp=>?_,tracked ⟨oL,hoL,I.free⟩ hs,by simpa using I.len⟩ ⟨_,hs,.inl rfl⟩
  ·exact (hs.2 b (XF (Xw (Xq e) I.ok.above))).trans (I.base.keep b o e n hb hx)
  ·obtain ⟨sl,e1⟩:=I.base.slot b o e n hb hx
   exact ⟨sl,(hs.2 b (XF (Xw (Xq e) I.ok.above))).trans e1⟩
  ·obtain ⟨o',e1⟩:=I.base.there b o e hx
   exact ⟨o',(hs.2 b (XF (Xw (Xq e) I.ok.above))).trans e1⟩
  ·by_cases hj:j=i
   ·subst hj
    rw[hi] at e1;cases e1
    rw[zau hiσ] at e2
    cases e2
    exact ⟨u,r,.inl ⟨hk,by simp⟩⟩
   ·rw[Ze (XQ hj)] at e2
    obtain ⟨u',r',q⟩:=hl j y v' e1 e2 e3
    refine ⟨u',r',?_⟩
    rcases q with ⟨k,e⟩ | ⟨k,c,e,z⟩
    ·refine .inl ⟨k,?_⟩
     have:y≠x:=λe=>hj (Af hN e1 (e ▸ hi))
     simp[this,e]
    ·exact .inr ⟨k,c,e,z.sameBut hs (cne y c e)⟩
  ·obtain ⟨w',z⟩:=I.cell y c e
   exact ⟨w',z.sameBut hs (cne y c e)⟩
  ·obtain ⟨e,n,ne,nf,d⟩:=I.pin p hp
   exact ⟨(hs.2 p.1 ne).trans e,n,ne,nf,d⟩
 ·have hfn:X.fn x=true:=by
   rcases hf with z | z
   ·exact z
   ·rw[z] at hk;cases hk
  obtain ⟨c,hc⟩:=I.ok.has x (.inl hk)
  obtain ⟨w',z⟩:=I.cell x c hc
  refine wpAny_storeName_cell I.ok.kind hk hc z (λh' hc' hs=>?_)
  obtain ⟨oc,hoc,hocd⟩:=id z
  refine h { s with heap:=h' } ⟨I.ok,I.os,I.bare,⟨λb o e n hb hx=>?_,λb o e n hb hx=>?_,I.base.free,λb o e hx=>?_,I.base.oK,I.base.mY,I.base.oZ⟩,⟨m,hn.sameBut hs (XQ (cne x c hc)),λj y v' e1 e2 e3=>?_⟩,λy c' e=>?_,I.free,I.js,λp hp=>?_,tracked ⟨oc,hoc,I.js x c hc⟩ hs,by simpa using I.len⟩ ⟨c,hs,.inr hc⟩
  ·exact (hs.2 b (XF (Xw (Xq e) (I.ok.cab x c hfn hc)))).trans (I.base.keep b o e n hb hx)
  ·obtain ⟨sl,e1⟩:=I.base.slot b o e n hb hx
   exact ⟨sl,(hs.2 b (XF (Xw (Xq e) (I.ok.cab x c hfn hc)))).trans e1⟩
  ·obtain ⟨o',e1⟩:=I.base.there b o e hx
   exact ⟨o',(hs.2 b (XF (Xw (Xq e) (I.ok.cab x c hfn hc)))).trans e1⟩
  ·by_cases hj:j=i
   ·subst hj
    rw[hi] at e1;cases e1
    rw[zau hiσ] at e2
    cases e2
    exact ⟨u,r,.inr ⟨.inl hk,c,hc,hc'⟩⟩
   ·rw[Ze (XQ hj)] at e2
    obtain ⟨u',r',q⟩:=hl j y v' e1 e2 e3
    refine ⟨u',r',?_⟩
    rcases q with q | ⟨k,c',e,z'⟩
    ·exact .inl q
    ·refine .inr ⟨k,c',e,z'.sameBut hs ?_⟩
     rintro rfl
     exact hj (Af hN e1 (I.ok.inj _ _ _ e hc ▸ hi))
  ·by_cases hcc:c'=c
   ·subst hcc;exact ⟨_,hc'⟩
   ·obtain ⟨w2,z2⟩:=I.cell y c' e
    exact ⟨w2,z2.sameBut hs hcc⟩
  ·obtain ⟨e,n,ne,nf,d⟩:=I.pin p hp
   refine ⟨(hs.2 p.1 ?_).trans e,n,ne,nf,d⟩
   intro q
   rw[q,hoc] at e
   have q':oc=p.2:=XY e
   exact d w' (by rw[← q'];exact hocd)
theorem jN {M:Model}{A:Yh}{E:Xb->Xe->Prop}{i:Nat}{x:Str}{v:V}{u:Xb}{Q:Unit->Xe->Prop}(I:Inv X pins σ H s)(hN:X.N.Nodup)(hi:X.N[i]? = some x)(hx:Loc X.env.scope x)(r:RelV v u)
  (h:∀ s',Inv X pins (σ.set i (some v)) H s'->Q () s') (hf:X.fn x=true∨X.env.scope.names.lookup x=some .local:=by first | exact .inl rfl | exact .inr rfl | assumption):XB M A (storeName X.env x u) Q E s:=
 FA I hN hi hx r (λs' I' _=>h s' I') hf
theorem Inv.OE {s':Xe}{ch:List Addr}(I:Inv X pins σ H s)(ho:s'.os=s.os)(u:Un (frs X.stack) ch H H' s.heap s'.heap)(hok:HOk X.prog X.w H' s'.heap)(hg:zbz s'.gens)
  (hch:∀ b∈ch,(b∈X.ex∨X.s₀.heap.objs.size<=b)/\b≠X.env.locals/\(∀ x c,X.env.cells.lookup x=some c->c≠b)/\∀ p∈X.pn++pins,p.1≠b):Inv X pins σ H' s':=by
 obtain ⟨h',g',d',t',o'⟩:=s'
 have e:o'=s.os:=ho
 subst e
 exact I.call (g':=g') (t':=t') (d':=d') u hok hg hch
end
abbrev XK:=Xb->Option Addr->Hp->Prop
abbrev St:=List (Option V)
abbrev VK:=V->Hp->Prop
abbrev TE:=St->Hp->VK->Prop
abbrev TT:=St->Hp->(Bool->Hp->Prop)->Prop
abbrev TA:=St->Hp->(List V->Hp->Prop)->Prop
structure Ends where
 nx:St->Hp->Prop
 rt:VK
 bk:St->Hp->Prop:=λ_ _=>False
 ct:St->Hp->Prop:=λ_ _=>False
abbrev TS:=Ends->St->Hp->Prop
def EP (X:Cx)(pins:List (Addr×Obj))(σ:St)(Q:VK)(u:Xb)(s':Xe):Prop:=∃ v H',Inv X pins σ H' s'/\RelV v u/\Q v H'
def TP (X:Cx)(pins:List (Addr×Obj))(σ:St)(Q:Bool->Hp->Prop)(b:Bool)(s':Xe):Prop:=∃ H',Inv X pins σ H' s'/\Q b H'
def AP (X:Cx)(pins:List (Addr×Obj))(σ:St)(Q:List V->Hp->Prop)(us:List Xb)(s':Xe):Prop:=∃ vs H',Inv X pins σ H' s'/\Vals vs us/\Q vs H'
def SP (X:Cx)(pins:List (Addr×Obj))(D:Ends)(f:Flow)(s':Xe):Prop:=
 match f with
 | .next=>∃ σ' H',Inv X pins σ' H' s'/\D.nx σ' H'
 | .brk=>∃ σ' H',Inv X pins σ' H' s'/\D.bk σ' H'
 | .cont=>∃ σ' H',Inv X pins σ' H' s'/\D.ct σ' H'
 | .ret u=>∃ v σ' H',Inv X pins σ' H' s'/\RelV v u/\D.rt v H'
def PE (X:Cx)(e:XG)(t:TE):Prop:=
 ∀ (pins:List (Addr×Obj)) (s:Xe) (σ:St) (H:Hp) (Q:VK),Inv X pins σ H s->t σ H Q->XB (XD X.prog X.w) X.A (Yl e X.env) (EP X pins σ Q) X.xe s
def PT (X:Cx)(e:XG)(t:TT):Prop:=
 ∀ (pins:List (Addr×Obj)) (s:Xe) (σ:St) (H:Hp) (Q:Bool->Hp->Prop),Inv X pins σ H s->t σ H Q->XB (XD X.prog X.w) X.A (isTrue e X.env (Yl e X.env)) (TP X pins σ Q) X.xe s
def PW (X:Cx)(e:XG)(t:TT):Prop:=
 ∀ (whole:Sem Xb) (pins:List (Addr×Obj)) (s:Xe) (σ:St) (H:Hp) (Q:Bool->Hp->Prop),Inv X pins σ H s->t σ H Q->XB (XD X.prog X.w) X.A (isTrue e X.env whole) (TP X pins σ Q) X.xe s
theorem PW.pt {X:Cx}{e:XG}{t:TT}(h:PW X e t):PT X e t:=h _
def PA (X:Cx)(es:List XG)(t:TA):Prop:=
 ∀ (pos:Pos) (pins:List (Addr×Obj)) (s:Xe) (σ:St) (H:Hp) (Q:List V->Hp->Prop),Inv X pins σ H s->t σ H Q->XB (XD X.prog X.w) X.A (spliced (YA pos (Xp es X.env))) (AP X pins σ Q) X.xe s
def PS (X:Cx)(st:Stmt)(t:TS):Prop:=
 ∀ (pins:List (Addr×Obj)) (s:Xe) (σ:St) (H:Hp) (D:Ends),Inv X pins σ H s->t D σ H->XB (XD X.prog X.w) X.A (exec st X.env) (SP X pins D) X.xe s
def PSs (X:Cx)(st:List Stmt)(t:TS):Prop:=
 ∀ (pins:List (Addr×Obj)) (s:Xe) (σ:St) (H:Hp) (D:Ends),Inv X pins σ H s->t D σ H->XB (XD X.prog X.w) X.A (execs st X.env) (SP X pins D) X.xe s
theorem thn {α:Type}{t:Sem α}{Q Q':α->Xe->Prop}{M:Model}{A:Yh}{E:Xb->Xe->Prop}{s:Xe}(h:XB M A t Q E s)(hQ:∀ a s,Q a s->Q' a s):XB M A t Q' E s:=Yq h hQ λ_ _ x=>x
end L2
namespace L2
open PySem PySem.Spec PyProof.Rows
section
variable {X:Cx}
def UC (i:Nat):TE:=λσ H Q=>∃ v,σ[i]? = some (some v)/\Q v H
def tC (v:V):TE:=λ_ H Q=>Q v H
theorem Kc {i:Nat}{x:Str}{pos:Pos}(hN:X.N[i]? = some x)(hv:Vis X.env.scope x)(hd:(x == ("__debug__" : Str))=false:=by decide)(hcd:(x == ("__classdict__" : Str))=false:=by decide):PE X (.Name x pos) (UC i):=by
 intro pins s σ H Q I h
 obtain ⟨v,e,h⟩:=h
 obtain ⟨m,hn,hl⟩:=I.loc
 obtain ⟨u,r,l⟩:=hl i x v hN e hv
 have fin:EP X pins σ Q u s:=⟨v,H,I,r,h⟩
 rcases l with ⟨hk,hm⟩ | ⟨hk,c,hc,hcell⟩
 ·exact zes (zcE I.ok.kind hk hn hm fin) hd
 ·rcases hk with hk | hk
  ·exact zes (zc0 I.ok.kind hk hc hcell fin) hd
  ·exact zes (wpAny_loadName_free I.ok.kind hk hc hcell fin hcd) hd
theorem Pa {i j pos}:PE X (.Constant (.int i) j pos) (tC (.int i)):=λ_ _ _ H _ I h=>wpAny_Constant_int ⟨.int i,H,I.tok _,⟨_,rfl⟩,h⟩
theorem U3 {b j pos}:PE X (.Constant (.bool b) j pos) (tC (.bl b)):=λ_ _ _ H _ I h=>Constant_bool ⟨.bl b,H,I,rfl,h⟩
theorem QU {j pos}:PE X (.Constant .none j pos) (tC .non):=λ_ _ _ H _ I h=>Constant_none ⟨.non,H,I,rfl,h⟩
theorem J5 {x j pos}:PE X (.Constant (.str x) j pos) (tC (.str x)):=λ_ _ _ H _ I h=>Calls.Constant_str ⟨.str x,H,I.tok _,⟨_,rfl⟩,h⟩
def Gl (X:Cx)(x:Str):Prop:=X.env.kindOf x=some .globalImplicit
theorem CM {E:Xb->Xe->Prop}{pins:List (Addr×Obj)}{s:Xe}{σ:St}{H:Hp}{x:Str}{u:Xb}{pos:Pos}{Q:Xb->Xe->Prop}(I:Inv X pins σ H s)(hg:Gl X x)(hm:X.mg x=some u)(h:Q u s)
  (hd:(x == ("__debug__" : Str))=false:=by decide):XB (XD X.prog X.w) X.A (Yl (.Name x pos) X.env) Q E s:=
 zbh I.ok.kind hg (Calls.loadGlobal_global (by rw[I.ok.glob];exact I.mod.glob.keeps I.bk) hm h) hd
theorem ij {E:Xb->Xe->Prop}{pins:List (Addr×Obj)}{s:Xe}{σ:St}{H:Hp}{x:Str}{u:Xb}{pos:Pos}{Q:Xb->Xe->Prop}(I:Inv X pins σ H s)(hg:Gl X x)(hm:X.mg x=none)(hv:Yt x=some u)(h:Q u s)
  (hn:x ≠ "__name__" := by decide) (hd:(x == ("__debug__" : Str))=false:=by decide):XB (XD X.prog X.w) X.A (Yl (.Name x pos) X.env) Q E s:=by
 obtain ⟨mb,h1,h2⟩:=I.mod.blt
 exact zbh I.ok.kind hg (Calls.loadGlobal_builtin (by rw[I.ok.glob];exact I.mod.glob.keeps I.bk) hm (by rw[I.ok.blt];exact h1.keeps I.bk) ((h2 x hn).trans hv) h) hd
theorem Nf {x:Str}{v:V}{u:Xb}{pos:Pos}(hg:Gl X x)(hm:X.mg x=some u)(r:RelV v u)(hd:(x == ("__debug__" : Str))=false:=by decide):PE X (.Name x pos) (tC v):=
 λ_ _ _ H _ I h=>CM I hg hm ⟨v,H,I,r,h⟩ hd
theorem DH {x:Str}{v:V}{u:Xb}{pos:Pos}(hg:Gl X x)(hm:X.mg x=none)(hv:Yt x=some u)(r:RelV v u)(hn:x ≠ "__name__" := by decide)(hd:(x == ("__debug__" : Str))=false:=by decide):PE X (.Name x pos) (tC v):=
 λ_ _ _ H _ I h=>ij I hg hm hv ⟨v,H,I,r,h⟩ hn hd
variable {a b:XG} {ta tb:TE} {pos:Pos}
def tB (t:TE):TT:=λσ H Q=>t σ H λx H1=>∃ c,x=.bl c/\Q c H1
theorem Ri {e:XG}{t:TE}(h:PE X e t)(he:∀ whole,isTrue e X.env whole=(do let v ← whole;standAt e.pos;zb7 [v] (truthy v)):=by intro _;rfl):PT X e (tB t):=by
 intro pins s σ H Q I hw
 refine isTrue_plain (thn (h pins s σ H _ I hw) λv s1 ⟨x,H1,I1,r1,q1⟩=>?_) (he _)
 obtain ⟨d,rfl,q⟩:=q1
 cases r1
 exact YW ⟨H1,I1,q⟩
variable {tA tB':TT} {rest:List XG}
def Vy (t u:TT):TT:=λσ H Q=>t σ H λc H1=>if c=true then u σ H1 Q else Q false H1
def tOr (t u:TT):TT:=λσ H Q=>t σ H λc H1=>if c=true then Q true H1 else u σ H1 Q
def VO (t:TT):TT:=λσ H Q=>t σ H λc H1=>Q (!c) H1
theorem pw_and1 (ha:PT X a tA):PW X (.BoolOp .And [a] pos) tA:=by
 intro wh pins s σ H Q I h
 refine isTrue_and (thn (ha pins s σ H Q I h) λc s1 e=>?_)
 cases c with
 | true=>exact isTrue_and_nil e
 | false=>exact e
theorem pw_or1 (ha:PT X a tA):PW X (.BoolOp .Or [a] pos) tA:=by
 intro wh pins s σ H Q I h
 refine isTrue_or (thn (ha pins s σ H Q I h) λc s1 e=>?_)
 cases c with
 | false=>exact isTrue_or_nil e
 | true=>exact e
theorem pw_and (ha:PT X a tA)(hb:PW X (.BoolOp .And (b::rest) pos) tB'):PW X (.BoolOp .And (a::b::rest) pos) (Vy tA tB'):=by
 intro wh pins s σ H Q I h
 refine isTrue_and (thn (ha pins s σ H _ I h) λc s1 ⟨H1,I1,q1⟩=>?_)
 cases c with
 | true=>exact hb wh pins s1 σ H1 Q I1 q1
 | false=>exact ⟨H1,I1,q1⟩
theorem pw_or (ha:PT X a tA)(hb:PW X (.BoolOp .Or (b::rest) pos) tB'):PW X (.BoolOp .Or (a::b::rest) pos) (tOr tA tB'):=by
 intro wh pins s σ H Q I h
 refine isTrue_or (thn (ha pins s σ H _ I h) λc s1 ⟨H1,I1,q1⟩=>?_)
 cases c with
 | true=>exact ⟨H1,I1,q1⟩
 | false=>exact hb wh pins s1 σ H1 Q I1 q1
theorem QS (ha:PT X a tA):PT X (.UnaryOp .Not a pos) (VO tA):=by
 intro pins s σ H Q I h
 exact isTrue_not (ha pins s σ H (λc H1=>Q (!c) H1) I h)
def Ur (ta tb:TE):TE:=λσ H Q=>ta σ H λx H1=>∃ c,x=.bl c/\if c=true then tb σ H1 Q else Q (.bl false) H1
def WJ (ta tb:TE):TE:=λσ H Q=>ta σ H λx H1=>∃ c,x=.bl c/\if c=true then Q (.bl true) H1 else tb σ H1 Q
def UX (ta:TE):TE:=λσ H Q=>ta σ H λx H1=>∃ c,x=.bl c/\Q (.bl (!c)) H1
theorem Qn {op}{t:TE}(h:PE X a t):PE X (.BoolOp op [a] pos) t:=λpins s σ H Q I hw=>BoolOp_one (h pins s σ H Q I hw)
theorem QA (ha:PE X a ta)(hb:PE X (.BoolOp .And (b::rest) pos) tb):PE X (.BoolOp .And (a::b::rest) pos) (Ur ta tb):=by
 intro pins s σ H Q I h
 refine BoolOp_and (thn (ha pins s σ H _ I h) λv s1 ⟨x,H1,I1,r1,q1⟩=>?_)
 obtain ⟨c,rfl,q1⟩:=q1
 cases r1
 refine YW ?_
 cases c with
 | true=>exact hb pins s1 σ H1 Q I1 q1
 | false=>exact ⟨.bl false,H1,I1,rfl,q1⟩
theorem TX (ha:PE X a ta)(hb:PE X (.BoolOp .Or (b::rest) pos) tb):PE X (.BoolOp .Or (a::b::rest) pos) (WJ ta tb):=by
 intro pins s σ H Q I h
 refine BoolOp_or (thn (ha pins s σ H _ I h) λv s1 ⟨x,H1,I1,r1,q1⟩=>?_)
 obtain ⟨c,rfl,q1⟩:=q1
 cases r1
 refine YW ?_
 cases c with
 | false=>exact hb pins s1 σ H1 Q I1 q1
 | true=>exact ⟨.bl true,H1,I1,rfl,q1⟩
theorem SG (ha:PE X a ta):PE X (.UnaryOp .Not a pos) (UX ta):=by
 intro pins s σ H Q I h
 refine UnaryOp_ (thn (ha pins s σ H _ I h) λv s1 ⟨x,H1,I1,r1,q1⟩=>?_)
 obtain ⟨c,rfl,q1⟩:=q1
 cases r1
 exact not_of (YW ⟨.bl (!c),H1,I1,rfl,q1⟩)
def tIf (t:TT)(ta tb:TE):TE:=λσ H Q=>t σ H λc H1=>if c=true then ta σ H1 Q else tb σ H1 Q
theorem Kt {c:XG}(hc:PT X c tA)(ha:PE X a ta)(hb:PE X b tb):PE X (.IfExp c a b pos) (tIf tA ta tb):=by
 intro pins s σ H Q I h
 refine wpAny_IfExp (thn (hc pins s σ H _ I h) λd s1 ⟨H1,I1,q1⟩=>?_)
 cases d with
 | true=>exact ha pins s1 σ H1 Q I1 q1
 | false=>exact hb pins s1 σ H1 Q I1 q1
end
end L2
namespace L2
open PySem PySem.Spec PyProof.Rows
def SqL (K:W7)(H:Hp)(a:Addr)(xs:List V):Prop:=
 Rd H a (.lst xs)∨
  ∃ (o:Obj) (its:Array Xb) (n:Nat),K.lookup a=some o/\o.cls=.type "list" /\ o.dict=none/\o.data=.seq its n/\its.size<=sizeLine/\Vals xs its.toList
def SqT (K:W7)(H:Hp)(a:Addr)(xs:List V):Prop:=
 Rd H a (.tup xs)∨
  ∃ (o:Obj) (its:Array Xb) (n:Nat),K.lookup a=some o/\o.cls=.type "tuple" /\ o.dict=none/\o.data=.seq its n/\its.size<=sizeLine/\Vals xs its.toList
def Wv:Xb->Option V
 | .none=>some .non
 | .bool b=>some (.bl b)
 | .int i _=>some (.int i)
 | .str x _=>some (.str x)
 | .bytes b _=>some (.byt b)
 | .float b _=>some (.flt b)
 | .ref a=>some (.ref a)
 | .type n=>some (.ty n)
 | _=>none
theorem RelV.abs {x:V}{u:Xb}(r:RelV x u):Wv u=some x:=by
 cases x with
 | non=>cases r;rfl
 | bl _=>cases r;rfl
 | int _=>obtain ⟨t,rfl⟩:=r;rfl
 | str _=>obtain ⟨t,rfl⟩:=r;rfl
 | byt _=>obtain ⟨t,rfl⟩:=r;rfl
 | flt _=>obtain ⟨t,rfl⟩:=r;rfl
 | ref _=>cases r;rfl
 | ty _=>cases r;rfl
theorem RelV.inj {x y:V}{u:Xb}(r:RelV x u)(q:RelV y u):x=y:=XY (r.abs.symm.trans q.abs)
theorem Vals.inj:∀ {xs ys:List V} {us:List Xb},Vals xs us->Vals ys us->xs=ys
 | _,_,_,.nil,.nil=>rfl
 | _,_,_,.cons r t,.cons r' t'=>by rw[r.inj r',Vals.inj t t']
section
variable {X:Cx} {pins:List (Addr×Obj)} {σ:St} {H:Hp} {s:Xe} {a:Addr} {xs ys:List V}
theorem SqL.of {K:W7}(h:H a=some (.lst xs)):SqL K H a xs:=.inl (.inl h)
theorem SqT.of {K:W7}(h:H a=some (.tup xs)):SqT K H a xs:=.inl (.inl h)
theorem Inv.list (I:Inv X pins σ H s)(h:SqL X.K H a xs):∃ its:List Xb,Vals xs its/\PlainL s.heap a its.toArray/\xs.length<=sizeLine:=by
 rcases h with h | ⟨o,its,n,hk,hc,hd,hs,hz,r⟩
 ·obtain ⟨z,its,n,r,e⟩:=h.ok I.hok
  exact ⟨its,r,⟨_,n,e,rfl,rfl,rfl⟩,z⟩
 ·refine ⟨its.toList,r,⟨o,n,I.kIn a o hk,hc,hd,by simpa using hs⟩,?_⟩
  have e:=r.length
  simp only[Z5] at e
  omega
theorem Inv.tuple (I:Inv X pins σ H s)(h:SqT X.K H a xs):∃ its:List Xb,Vals xs its/\zec s.heap a its.toArray/\xs.length<=sizeLine:=by
 rcases h with h | ⟨o,its,n,hk,hc,hdn,hs,hz,r⟩
 ·obtain ⟨z,its,r,p⟩:=h.ok I.hok
  exact ⟨its,r,p.tup,z⟩
 ·refine ⟨its.toList,r,⟨o,I.kIn a o hk,hc,n,by simpa using hs⟩,?_⟩
  have e:=r.length
  simp only[Z5] at e
  omega
theorem Inv.zA (I:Inv X pins σ H s)(h:SqL X.K H a xs)(h':SqL X.K H a ys):xs=ys:=by
 obtain ⟨its,r,⟨o,n,e,_,_,d⟩,_⟩:=I.list h
 obtain ⟨its',r',⟨o',n',e',_,_,d'⟩,_⟩:=I.list h'
 rw[e] at e';cases e'
 rw[d] at d'
 injection d' with d1 _
 have:its=its':=by simpa using congrArg zeY d1
 subst this
 exact r.inj r'
theorem Inv.uI (I:Inv X pins σ H s)(h:SqT X.K H a xs)(h':SqT X.K H a ys):xs=ys:=by
 obtain ⟨its,r,⟨o,e,_,n,d⟩,_⟩:=I.tuple h
 obtain ⟨its',r',⟨o',e',_,n',d'⟩,_⟩:=I.tuple h'
 rw[e] at e';cases e'
 rw[d] at d'
 injection d' with d1 _
 have:its=its':=by simpa using congrArg zeY d1
 subst this
 exact r.inj r'
end
abbrev Cx.oO (X:Cx)(E:Xb->Xe->Prop):Cx:={ X with xe:=E }
abbrev Cx.nox (X:Cx):Cx:=X.oO λ_ _=>False
theorem Cx.Ok.oO {X:Cx}(ok:X.Ok)(E:Xb->Xe->Prop):(X.oO E).Ok:=
 ⟨ok.mod,ok.kind,ok.glob,ok.blt,ok.above,ok.inj,ok.has,ok.cab,ok.hd,ok.frames,ok.stk,ok.exf,ok.bs,ok.bsz,ok.Hm,ok.Gs,ok.qj,ok.frf⟩
theorem Cx.Ok.hE {X:Cx}{E:Xb->Xe->Prop}(ok:(X.oO E).Ok):X.Ok:=
 ⟨ok.mod,ok.kind,ok.glob,ok.blt,ok.above,ok.inj,ok.has,ok.cab,ok.hd,ok.frames,ok.stk,ok.exf,ok.bs,ok.bsz,ok.Hm,ok.Gs,ok.qj,ok.frf⟩
section
variable {X:Cx} {pins:List (Addr×Obj)} {σ:St} {H:Hp} {s:Xe} {E:Xb->Xe->Prop}
theorem Inv.oO (I:Inv X pins σ H s)(E:Xb->Xe->Prop):Inv (X.oO E) pins σ H s:=⟨I.ok.oO E,I.os,I.bare,I.base,I.loc,I.cell,I.free,I.js,I.pin,I.hok,I.len⟩
theorem Inv.hE (I:Inv (X.oO E) pins σ H s):Inv X pins σ H s:=⟨I.ok.hE,I.os,I.bare,I.base,I.loc,I.cell,I.free,I.js,I.pin,I.hok,I.len⟩
theorem SP.hE {D:Ends}{f:Flow}{s':Xe}(h:SP (X.oO E) pins D f s'):SP X pins D f s':=by
 cases f with
 | next=>obtain ⟨σ',H',I,q⟩:=h;exact ⟨σ',H',I.hE,q⟩
 | brk=>obtain ⟨σ',H',I,q⟩:=h;exact ⟨σ',H',I.hE,q⟩
 | cont=>obtain ⟨σ',H',I,q⟩:=h;exact ⟨σ',H',I.hE,q⟩
 | ret u=>obtain ⟨v,σ',H',I,r,q⟩:=h;exact ⟨v,σ',H',I.hE,r,q⟩
theorem PE.nox {e:XG}{t:TE}(h:PE X.nox e t):PE X e t:=λpins s σ H Q I hw=>
 Yq (h pins s σ H Q (I.oO _) hw) (λ_ _ ⟨v,H',I',r,q⟩=>⟨v,H',I'.hE,r,q⟩) λ_ _ z=>Xf z
theorem PT.nox {e:XG}{t:TT}(h:PT X.nox e t):PT X e t:=λpins s σ H Q I hw=>
 Yq (h pins s σ H Q (I.oO _) hw) (λ_ _ ⟨H',I',q⟩=>⟨H',I'.hE,q⟩) λ_ _ z=>Xf z
theorem PSs.nox {st:List Stmt}{t:TS}(h:PSs X.nox st t):PSs X st t:=λpins s σ H D I hw=>
 Yq (h pins s σ H D (I.oO _) hw) (λ_ _ q=>q.hE) λ_ _ z=>Xf z
end
section
variable {X:Cx} {st:Stmt} {rest:List Stmt} {t u:TS} {e:XG} {te:TE} {pos:Pos}
def Uw:TS:=λD σ H=>D.nx σ H
def WW (t u:TS):TS:=λD σ H=>t { D with nx:=u D } σ H
theorem Me:PSs X [] Uw:=λ_ _ σ H _ I h=>za0 ⟨σ,H,I,h⟩
theorem Ik (h1:PS X st t)(h2:PSs X rest u):PSs X (st::rest) (WW t u):=by
 intro pins s σ H D I h
 refine zdY (thn (h1 pins s σ H { D with nx:=u D } I h) λf s1 q=>?_)
 cases f with
 | next=>
  obtain ⟨σ',H',I',q⟩:=q
  exact h2 pins s1 σ' H' D I' q
 | ret v=>exact q
 | brk=>exact q
 | cont=>exact q
theorem K8 (h1:PS X st t):PSs X [st] t:=by
 intro pins s σ H D I h
 refine zdY (thn (h1 pins s σ H D I h) λf s1 q=>?_)
 cases f with
 | next=>exact za0 q
 | ret v=>exact q
 | brk=>exact q
 | cont=>exact q
theorem Inv.quiet {pins:List (Addr×Obj)}{σ:St}{H:Hp}{s:Xe}(I:Inv X pins σ H s):interactive X.env=false:=by simp[interactive,I.ok.kind]
def Uo (te:TE):TS:=λD σ H=>te σ H λ_ H1=>D.nx σ H1
theorem K7 (he:PE X e te)(hs:Y3 e none pos.line X.env=pure false:=by rfl):PS X (.Expr e pos) (Uo te):=by
 intro pins s σ H D I h
 exact wpAny_Expr_any (thn (he pins s σ H _ I h) λv s1 ⟨x,H1,I1,r1,q1⟩=>⟨σ,H1,I1,q1⟩) I.quiet hs
def VD (te:TE):TS:=λD σ H=>te σ H D.rt
theorem QG (he:PE X e te):PS X (.Return (some e) pos) (VD te):=by
 intro pins s σ H D I h
 exact wpAny_Return_some (thn (he pins s σ H _ I h) λv s1 ⟨x,H1,I1,r1,q1⟩=>⟨x,σ,H1,I1,r1,q1⟩)
def VY (c:TT)(t u:TS):TS:=λD σ H=>c σ H λb H1=>if b=true then t D σ H1 else u D σ H1
theorem U0 {c:XG}{a b:List Stmt}{tc:TT}(hc:PT X c tc)(ha:PSs X a t)(hb:PSs X b u):PS X (.If c a b pos) (VY tc t u):=by
 intro pins s σ H D I h
 refine wpAny_If (thn (hc pins s σ H _ I h) λd s1 ⟨H1,I1,q1⟩=>?_)
 cases d with
 | true=>exact ha pins s1 σ H1 D I1 q1
 | false=>exact hb pins s1 σ H1 D I1 q1
end
abbrev TG:=V->St->Hp->(St->Hp->Prop)->Prop
abbrev TGs:=List V->St->Hp->(St->Hp->Prop)->Prop
def PG (X:Cx)(target:XG)(t:TG):Prop:=
 ∀ (pins:List (Addr×Obj)) (s:Xe) (σ:St) (H:Hp) (v:V) (u:Xb) (Q:St->Hp->Prop),Inv X pins σ H s->RelV v u->t v σ H Q->
  XB (XD X.prog X.w) X.A (zb8 target X.env u) (λ_ s'=>∃ σ' H',Inv X pins σ' H' s'/\Q σ' H') X.xe s
def PGs (X:Cx)(ts:List XG)(t:TGs):Prop:=
 ∀ (pins:List (Addr×Obj)) (s:Xe) (σ:St) (H:Hp) (vs:List V) (us:List Xb) (Q:St->Hp->Prop),Inv X pins σ H s->Vals vs us->t vs σ H Q->
  XB (XD X.prog X.w) X.A (zc7 ((X7 ts X.env).map (·.2)) us) (λ_ s'=>∃ σ' H',Inv X pins σ' H' s'/\Q σ' H') X.xe s
abbrev TIp:=V->V->Hp->VK->Prop
def PIp (X:Cx)(op:zcF)(t:TIp):Prop:=
 ∀ (pins:List (Addr×Obj)) (s:Xe) (σ:St) (H:Hp) (x y:V) (v u:Xb) (Q:VK),Inv X pins σ H s->RelV x v->RelV y u->t x y H Q->
  XB (XD X.prog X.w) X.A (inplaceOp op v u) (EP X pins σ Q) X.xe s
section
variable {X:Cx} {pos:Pos}
def mq (i:Nat):TG:=λv σ H Q=>Q (σ.set i (some v)) H
theorem iW {i:Nat}{x:Str}(hN:X.N.Nodup)(hi:X.N[i]? = some x)(hx:Loc X.env.scope x)(hf:X.fn x=true∨X.env.scope.names.lookup x=some .local:=by first | exact .inl rfl | exact .inr rfl | assumption):PG X (.Name x pos) (mq i):=by
 intro pins s σ H v u Q I r h
 exact wpAny_assign_Name (jN I hN hi hx r (λs' I'=>⟨_,H,I',h⟩) hf)
def Wa:TGs:=λvs σ H Q=>vs=[]/\Q σ H
def Ua (t:TG)(u:TGs):TGs:=λvs σ H Q=>∃ v r,vs=v::r/\t v σ H λσ' H'=>u r σ' H' Q
theorem wq:PGs X [] Wa:=by
 intro pins s σ H vs us Q I r h
 obtain ⟨e,h⟩:=h
 subst e
 cases r
 exact zdz ⟨σ,H,I,h⟩
theorem rN {e:XG}{es:List XG}{t:TG}{u:TGs}(h1:PG X e t)(h2:PGs X es u)
  (hs:(X7 (e::es) X.env).map (·.2)=zb8 e X.env::(X7 es X.env).map (·.2):=by rfl):PGs X (e::es) (Ua t u):=by
 intro pins s σ H vs us Q I r h
 obtain ⟨v,vr,e1,h⟩:=h
 subst e1
 cases r with
 | cons r rr=>
  rw[hs]
  refine zbi (thn (h1 pins s σ H _ _ _ I r h) λ_ s1 ⟨σ1,H1,I1,q1⟩=>?_)
  exact h2 pins s1 σ1 H1 _ _ Q I1 rr q1
def WE (K:W7)(n:Nat)(t:TGs):TG:=λv σ H Q=>∃ a xs,v=.ref a/\SqT K H a xs/\xs.length=n/\t xs σ H Q
theorem AK {es:List XG}{k:Nat}{t:TGs}{n:Nat}(hc:X.calm=true)(h:PGs X es t)
  (hn:(X7 es X.env).length=n:=by rfl) (hst:(X7 es X.env).findIdx? (·.1)=none:=by rfl):PG X (.Tuple es k pos) (WE X.K n t):=by
 intro pins s σ H v u Q I r hw
 obtain ⟨a,xs,e1,hq,hl,hw⟩:=hw
 subst e1
 cases r
 obtain ⟨its,rv,ht,hz⟩:=I.tuple hq
 refine assign_Tuple_tuple (I.ok.hd hc) ht (by simp[hn,← hl,rv.length]) hst λh' hx=>?_
 have I1:Inv X pins σ H { s with heap:=h' }:=I.kept (t':=s.toks) λb o e=>hx b o (XF (Xq e)) e
 exact h pins _ σ H xs _ Q I1 (by simpa using rv) hw
def GD (te:TE)(g:TG):TS:=λD σ H=>te σ H λx H1=>g x σ H1 D.nx
theorem PD {tg e:XG}{te:TE}{g:TG}(he:PE X e te)(hg:PG X tg g)(hs:zbE [tg] e pos.line X.env=pure false:=by rfl)(hw:zbF [tg] e X.env=pure none:=by rfl)
  (h1:(X7 [tg] X.env).map (·.2)=[zb8 tg X.env]:=by rfl):PS X (.Assign [tg] e pos) (GD te g):=by
 intro pins s σ H D I h
 refine wpAny_Assign_stores (thn (he pins s σ H _ I h) λv s1 ⟨x,H1,I1,r1,q1⟩=>?_) hs hw
 rw[h1]
 exact thn (hg pins s1 σ H1 x v _ I1 r1 q1) λ_ s2 q=>q
theorem QP {i:Nat}{x:Str}{e:XG}{te:TE}{pos':Pos}(hN:X.N.Nodup)(hi:X.N[i]? = some x)(hx:Loc X.env.scope x)(he:PE X e te)(hs:Y3 e (some (.Name x pos')) pos.line X.env=pure false:=by rfl)(hf:X.fn x=true∨X.env.scope.names.lookup x=some .local:=by first | exact .inl rfl | exact .inr rfl | assumption) :
  PS X (.Assign [.Name x pos'] e pos) (GD te (mq i)):=by
 intro pins s σ H D I h
 refine wpAny_Assign_Name (thn (he pins s σ H _ I h) λv s1 ⟨y,H1,I1,r1,q1⟩=>?_) hs
 exact jN I1 hN hi hx r1 (λs2 I2=>⟨_,H1,I2,q1⟩) hf
def VB (i j:Nat)(ta:TA):TS:=λD σ H=>ta σ H λvs H1=>∃ v w,vs=[v,w]/\D.nx ((σ.set i (some v)).set j (some w)) H1
theorem Rq {i j:Nat}{x y:Str}{a b:XG}{ta:TA}{px py pt:Pos}{kt k2 pt2}(hc:X.calm=true)(hN:X.N.Nodup)(hi:X.N[i]? = some x)(hj:X.N[j]? = some y)(hij:i≠j)
  (hx:X.env.scope.names.lookup x=some .local) (hy:X.env.scope.names.lookup y=some .local) (ha:PA X [a,b] ta)
  (hw:zbF [.Tuple [.Name x px,.Name y py] kt pt] (.Tuple [a,b] k2 pt2) X.env=pure (some [x,y]))
  (hs:zbE [.Tuple [.Name x px,.Name y py] kt pt] (.Tuple [a,b] k2 pt2) pos.line X.env=pure false:=by rfl) :
  PS X (.Assign [.Tuple [.Name x px,.Name y py] kt pt] (.Tuple [a,b] k2 pt2) pos) (VB i j ta):=by
 intro pins s σ H D I h
 rw[exec_Assign_arm]
 refine W8 (zaQ ?_)
 rw[hs]
 refine W8 (Xj ?_)
 rw[if_neg (by decide)]
 refine W8 (Tuple_ (thn (ha _ pins s σ H _ I h) λus s1 ⟨vs,H1,I1,r1,q1⟩=>?_))
 obtain ⟨v,w,e1,q1⟩:=q1
 subst e1
 obtain ⟨u1,u2,rfl,rv,rw'⟩:∃ u1 u2,us=[u1,u2]/\RelV v u1/\RelV w u2:=by
  cases r1 with
  | cons p q=>
   cases q with
   | cons p' q'=>
    cases q'
    exact ⟨_,_,rfl,p,p'⟩
 refine Yf ?_ (by show 2<=sizeLine;decide)
 have I2:Inv X pins σ H1 { s1 with heap:=s1.heap.push { cls:=.type "tuple", data:=.seq [u1,u2].toArray } }:=I1.kept (t':=s1.toks) λb o e=>Xa _ e
 rw[hw]
 refine W8 (Xj ?_)
 show XB (XD X.prog X.w) X.A (do rule "assign.swapped-stores";let items ← unpackItems (.ref s1.heap.objs.size) 2 none;zc7 [λv=>zet X.env y v,λv=>zet X.env x v] items.reverse;pure Flow.next) _ _ _
 refine W8 (Zx (W8 (unpackItems_tuple (items:=#[u1,u2]) (I.ok.hd hc) (IsTup.new s1.heap _) λh' hx'=>?_)))
 have I3:=I2.kept (h':=h') (t':=s1.toks) λb o e=>hx' b o (XF (Xq e)) e
 show XB _ _ (zc7 [λv=>zet X.env y v,λv=>zet X.env x v] [u2,u1] >>= λ_=>pure Flow.next) _ _ _
 refine W8 (zbi (wpAny_bindName (jN I3 hN hj (.inl hy) rw' (λs2 I4=>?_) (.inr hy))))
 refine zbi (wpAny_bindName (jN I4 hN hi (.inl hx) rv (λs3 I5=>zdz (Xj ?_)) (.inr hx)))
 rw[List.set_comm _ _ (XQ hij)] at I5
 exact ⟨_,H1,I5,q1⟩
def TZ (i:Nat)(te:TE)(ti:TIp):TS:=λD σ H=>∃ x,σ[i]? = some (some x)/\te σ H λy H1=>ti x y H1 λz H2=>D.nx (σ.set i (some z)) H2
theorem PB {i:Nat}{x:Str}{e:XG}{te:TE}{op:zcF}{ti:TIp}{pos':Pos}(hN:X.N.Nodup)(hi:X.N[i]? = some x)(hx:Loc X.env.scope x)(he:PE X e te)(ho:PIp X op ti)(hf:X.fn x=true∨X.env.scope.names.lookup x=some .local:=by first | exact .inl rfl | exact .inr rfl | assumption) :
  PS X (.AugAssign (.Name x pos') op e pos) (TZ i te ti):=by
 intro pins s σ H D I h
 obtain ⟨v,e1,h⟩:=h
 obtain ⟨m,hn,hl⟩:=I.loc
 have vis:Vis X.env.scope x:=by rcases hx with k | k;exact .inl k;exact .inr (.inl k)
 obtain ⟨u,r,l⟩:=hl i x v hi e1 vis
 refine wpAny_AugAssign_Name ?_
 have go:XB (XD X.prog X.w) X.A (Yl e X.env) (λw s₂=>XB (XD X.prog X.w) X.A (inplaceOp op u w) (λr s₃=>XB (XD X.prog X.w) X.A (storeName X.env x r) (λ_=>SP X pins D .next) X.xe s₃) X.xe s₂) X.xe s:=by
  refine thn (he pins s σ H _ I h) λw s1 ⟨y,H1,I1,r1,q1⟩=>?_
  refine thn (ho pins s1 σ H1 v y u w _ I1 r r1 q1) λz s2 ⟨zv,H2,I2,r2,q2⟩=>?_
  exact jN I2 hN hi hx r2 (λs3 I3=>⟨_,H2,I3,q2⟩) hf
 rcases l with ⟨hk,hm⟩ | ⟨hk,c,hc,hcell⟩
 ·exact zcE I.ok.kind hk hn hm go
 ·rcases hk with hk | hk
  ·exact zc0 I.ok.kind hk hc hcell go
  ·rcases hx with k | k
   ·have:X.env.scope.names.lookup x=some .free:=hk
    rw[k] at this;cases this
   ·have:X.env.scope.names.lookup x=some .free:=hk
    rw[k] at this;cases this
def ipI (f:Int->Int->Int):TIp:=λx y H Q=>∃ i j,x=.int i/\y=.int j/\Q (.int (f i j)) H
theorem Sd:PIp X .Add (ipI λi j=>i+j):=by
 intro pins s σ H x y v u Q I r1 r2 h
 obtain ⟨i,j,e1,e2,q⟩:=h
 subst e1;subst e2
 obtain ⟨t,rfl⟩:=r1
 obtain ⟨t',rfl⟩:=r2
 exact iadd_int ⟨.int _,H,I.tok _,⟨_,rfl⟩,q⟩
end
section
variable {X:Cx} {pos:Pos}
def Sl (c:TT)(tb:TS):TS:=λD σ H=>∃ W:Nat->St->Hp->Prop,(∃ m,W m σ H)/\∀ m σ H,W m σ H->
 c σ H λb H1=>if b=true then ∃ N:St->Hp->Prop,(∀ σ' H',N σ' H'->∃ m',m' < m/\W m' σ' H')/\tb { D with nx:=N,ct:=N,bk:=D.nx } σ H1 else D.nx σ H1
theorem HP {c:XG}{body:List Stmt}{tc:TT}{tb:TS}(hp:zdZ (XD X.prog X.w) X.A X.env X.xe)(hc:PT X c tc)(hb:PSs X body tb):PS X (.While c body [] pos) (Sl tc tb):=by
 intro pins s σ H D I h
 obtain ⟨W,⟨m0,w0⟩,turn⟩:=h
 refine wpAny_While (codeAny_whileLoop (λn s'=>∃ σ' H',Inv X pins σ' H' s'/\W n σ' H') ?_ m0 ⟨σ,H,I,w0⟩)
 rintro n s1 ⟨σ1,H1,I1,w1⟩
 refine Zc hp (thn (hc pins s1 σ1 H1 _ I1 (turn n σ1 H1 w1)) λb s2 ⟨H2,I2,q2⟩=>?_)
 cases b with
 | true=>
  obtain ⟨N,hN,q2⟩:=q2
  rw[if_pos rfl]
  refine Zc hp (thn (hb pins s2 σ1 H2 _ I2 q2) λf s3 q3=>?_)
  cases f with
  | next=>
   obtain ⟨σ3,H3,I3,n3⟩:=q3
   obtain ⟨m',hm,w3⟩:=hN σ3 H3 n3
   exact ⟨m',hm,σ3,H3,I3,w3⟩
  | cont=>
   obtain ⟨σ3,H3,I3,n3⟩:=q3
   obtain ⟨m',hm,w3⟩:=hN σ3 H3 n3
   exact ⟨m',hm,σ3,H3,I3,w3⟩
  | brk=>exact q3
  | ret v=>exact q3
 | false=>
  rw[if_neg Zy]
  exact za0 ⟨σ1,H2,I2,q2⟩
end
structure It where
 go:Nat->Hp->Prop
 yld:Nat->Hp->V->Hp->Prop
 stop:Nat->Hp->Prop
def sV (X:Cx)(pins:List (Addr×Obj))(H:Hp)(b:Addr):Prop:=
 H b=none/\b≠X.env.locals/\b ∉ X.fs/\(b∈X.ex∨X.s₀.heap.objs.size<=b)/\(∀ x c,X.env.cells.lookup x=some c->c≠b)/\∀ p∈X.pn++pins,p.1≠b
theorem Inv.Fq {X:Cx}{pins:List (Addr×Obj)}{σ:St}{H H':Hp}{s:Xe}{b:Addr}(I:Inv X pins σ H s)(hb:s.heap.objs.size<=b)(hn:H' b=none):sV X pins H' b:=by
 refine ⟨hn,Zz (Xw I.lt hb),I.V0 hb,.inr (XZ I.sz hb),λx c e z=>?_,λp hp z=>?_⟩
 ·obtain ⟨v,q⟩:=I.cell x c e
  exact absurd (Xw q.lt (by rw[z];exact hb)) (Y2 _)
 ·exact absurd (Xw (Xq (I.pin p hp).1) (by rw[z];exact hb)) (Y2 _)
structure Turn (P:XO) (w:X2) (K:W7) (tg:XG) (J:It) (fp:List Addr) (it:Addr) (tn:Nat->Heap->Prop):Prop where
 mem:it∈fp
 obj:∀ i h,tn i h->∀ b∈fp,∃ o,h.get? b=some o/\∀ v,o.data≠.cell v
 keep:∀ i h h',tn i h->(∀ b∈fp,∀ o,h.get? b=some o->h'.get? b=some o)->tn i h'
 item:∀ (X:Cx),X.prog=P->X.w=w->X.K=K->X.calm=true->∀ (i:Nat) (pins:List (Addr×Obj)) (s:Xe) (σ:St) (H:Hp) (E:Xb->Xe->Prop),Inv X pins σ H s->(∀ b∈fp,sV X pins H b)->tn i s.heap->J.go i H->
  XB (XD P w) X.A (zad (.ref it)) (λr s1=>∃ u,r=some u/\
   XB (XD P w) X.A (za1 tg (.ref it) u) (λ_ s2=>∃ x H',Inv X pins σ H' s2/\RelV x u/\J.yld i H x H'/\tn (i+1) s2.heap/\∀ b∈fp,H' b=none) E s1) E s
 done:∀ (X:Cx),X.prog=P->X.w=w->X.K=K->X.calm=true->∀ (i:Nat) (pins:List (Addr×Obj)) (s:Xe) (σ:St) (H:Hp) (E:Xb->Xe->Prop),Inv X pins σ H s->(∀ b∈fp,sV X pins H b)->tn i s.heap->J.stop i H->
  XB (XD P w) X.A (zad (.ref it)) (λr s1=>r=none/\Inv X pins σ H s1) E s
 self:∀ (A:Yh) (i:Nat) (s:Xe) (Q:Xb->Xe->Prop) (E:Xb->Xe->Prop),tn i s.heap->Q (.ref it) s->XB (XD P w) A (pyIter (.ref it)) Q E s
abbrev TI:=St->Hp->(It->Hp->Prop)->Prop
def PIE (X:Cx)(pins:List (Addr×Obj))(σ:St)(tg:XG)(R:It->Hp->Prop)(itv:Xb)(s2:Xe):Prop:=
 ∃ (it:Addr) (fp:List Addr) (tn:Nat->Heap->Prop) (J:It) (H':Hp),itv=.ref it/\Inv X pins σ H' s2/\Turn X.prog X.w X.K tg J fp it tn/\tn 0 s2.heap/\(∀ b∈fp,sV X pins H' b)/\R J H'
def PI (X:Cx)(tg iter:XG)(wi:TI):Prop:=
 ∀ (pins:List (Addr×Obj)) (s:Xe) (σ:St) (H:Hp) (R:It->Hp->Prop),Inv X pins σ H s->wi σ H R->
  XB (XD X.prog X.w) X.A (Yl iter X.env) (λv s1=>XB (XD X.prog X.w) X.A (pyIter v) (PIE X pins σ tg R) X.xe s1) X.xe s
theorem Hh {M:Model}{A:Yh}{E:Xb->Xe->Prop}{s:Xe}{tg:XG}{it:Addr}{u:Xb}{o:Obj}{n:String}{vs:Array Xb}{Q:Unit->Xe->Prop}(ho:s.heap.get? it=some o)(hc:o.cls=.type n)(hd:o.data=.fields vs)
  (hn:["enumerate", "zip", "dict_itemiterator", "dict_reverseitemiterator", "odict_iterator", "itertools.zip_longest", "itertools.pairwise"].contains n=false) (hQ:Q () s):XB M A (za1 tg (.ref it) u) Q E s:=by
 unfold za1
 cases tg<;>first
  | exact Xj hQ
  | (cases u<;>first
    | exact Xj hQ
    | (refine W8 (wpAny_load ho ?_)
       rw[hc,hd]
       show XB M A (if (["enumerate", "zip", "dict_itemiterator", "dict_reverseitemiterator", "odict_iterator", "itertools.zip_longest", "itertools.pairwise"].contains n&&vs[0]? == some (zbj _))=true then _ else _) Q E s
       rw[if_neg (by intro h;rw[hn,zeu] at h;cases h)]
       exact Xj hQ))
def Itl (K:W7)(a:Addr):It:=
 ⟨λi H=>∃ xs x,SqL K H a xs/\xs[i]? = some x,λi H x H'=>H'=H/\∀ xs,SqL K H a xs->xs[i]? = some x,λi H=>∃ xs,SqL K H a xs/\xs.length<=i⟩
def Itt (K:W7)(a:Addr):It:=
 ⟨λi H=>∃ xs x,SqT K H a xs/\xs[i]? = some x,λi H x H'=>H'=H/\∀ xs,SqT K H a xs->xs[i]? = some x,λi H=>∃ xs,SqT K H a xs/\xs.length<=i⟩
def Itr (lo:Int)(n:Nat):It:=⟨λi _=>i < n,λi H x H'=>H'=H/\x=.int (lo+i),λi _=>n<=i⟩
theorem uL {P:XO}{w:X2}{K:W7}{tg:XG}(a it:Addr):Turn P w K tg (Itl K a) [it] it (λi h=>h.IsListIter it a i) where
 mem:=by simp
 obj:=λi h st b hb=>by
  have e:b=it:=by simpa using hb
  subst e
  obtain ⟨o,e,c,d⟩:=st
  exact ⟨o,e,λv z=>by rw[d] at z;cases z⟩
 keep:=λi h h' st k=>st.at λo e=>k it (by simp) o e
 item:=by
  intro X hP hw hK hc i pins s σ H E I hf st hg
  subst hP hw hK
  obtain ⟨xs,x,hq,hx⟩:=hg
  obtain ⟨its,rv,p,hz⟩:=I.list hq
  obtain ⟨u,hu,ru⟩:=rv.get hx
  obtain ⟨f0,f1,f2,f3,f4,f5⟩:=hf it (by simp)
  refine zb9 st p.isList (x:=u) (by simpa using hu) λh' st' sb=>?_
  have I1:Inv X pins σ H { s with heap:=h' }:=I.turned (t':=s.toks) (λb o hb e=>(sb.2 b hb).trans e) f0 f1 f3 f4 f5
  obtain ⟨o,e,c,d⟩:=id st'
  exact ⟨u,rfl,Hh (s:={ s with heap:=h' }) e c d (by decide) ⟨x,H,I1,ru,⟨rfl,λys hy=>by rw[I.zA hy hq];exact hx⟩,st',λb hb=>(hf b hb).1⟩⟩
 done:=by
  intro X hP hw hK hc i pins s σ H E I hf st hg
  subst hP hw hK
  obtain ⟨xs,hq,hx⟩:=hg
  obtain ⟨its,rv,p,hz⟩:=I.list hq
  obtain ⟨f0,f1,f2,f3,f4,f5⟩:=hf it (by simp)
  have hl:=rv.length
  exact zcy (I.ok.hd hc) st p.isList (by simp;omega) λh' eb=>⟨rfl,I.turned (t':=s.toks) (λb o hb e=>eb b o hb e) f0 f1 f3 f4 f5⟩
 self:=λ_ _ _ _ _ st h=>wpAny_pyIter_listiter st h
theorem CA {P:XO}{w:X2}{K:W7}{tg:XG}(a it:Addr):Turn P w K tg (Itt K a) [it] it (λi h=>h.IsTupleIter it a i) where
 mem:=by simp
 obj:=λi h st b hb=>by
  have e:b=it:=by simpa using hb
  subst e
  obtain ⟨o,e,c,d⟩:=st
  exact ⟨o,e,λv z=>by rw[d] at z;cases z⟩
 keep:=λi h h' st k=>st.at λo e=>k it (by simp) o e
 item:=by
  intro X hP hw hK hc i pins s σ H E I hf st hg
  subst hP hw hK
  obtain ⟨xs,x,hq,hx⟩:=hg
  obtain ⟨its,rv,p,hz⟩:=I.tuple hq
  obtain ⟨u,hu,ru⟩:=rv.get hx
  obtain ⟨f0,f1,f2,f3,f4,f5⟩:=hf it (by simp)
  refine wpAny_pyNext_tuple_item st (show s.heap.IsTuple a its.toArray from p) (x:=u) (by simpa using hu) λh' st' sb=>?_
  have I1:Inv X pins σ H { s with heap:=h' }:=I.turned (t':=s.toks) (λb o hb e=>(sb.2 b hb).trans e) f0 f1 f3 f4 f5
  obtain ⟨o,e,c,d⟩:=id st'
  exact ⟨u,rfl,Hh (s:={ s with heap:=h' }) e c d (by decide) ⟨x,H,I1,ru,⟨rfl,λys hy=>by rw[I.uI hy hq];exact hx⟩,st',λb hb=>(hf b hb).1⟩⟩
 done:=by
  intro X hP hw hK hc i pins s σ H E I hf st hg
  subst hP hw hK
  obtain ⟨xs,hq,hx⟩:=hg
  obtain ⟨its,rv,p,hz⟩:=I.tuple hq
  obtain ⟨f0,f1,f2,f3,f4,f5⟩:=hf it (by simp)
  have hl:=rv.length
  exact wpAny_pyNext_tuple_end (I.ok.hd hc) st (show s.heap.IsTuple a its.toArray from p) (by simp;omega) λh' eb=>⟨rfl,I.turned (t':=s.toks) (λb o hb e=>eb b o hb e) f0 f1 f3 f4 f5⟩
 self:=λ_ _ _ _ _ st h=>wpAny_pyIter_tupleiter st h
theorem AM {P:XO}{w:X2}{K:W7}{tg:XG}(it:Addr)(lo:Int)(n:Nat):Turn P w K tg (Itr lo n) [it] it (λi h=>IsRangeIter h it (lo+(i:Nat)*1) ((n:Int) - (i:Nat)) 1) where
 mem:=by simp
 obj:=λi h st b hb=>by
  have e:b=it:=by simpa using hb
  subst e
  exact ⟨_,st,λv z=>by
   have z':Data.fields _=Data.cell v:=z
   cases z'⟩
 keep:=λi h h' st k=>k it (by simp) _ st
 item:=by
  intro X hP hw hK hc i pins s σ H E I hf st hg
  subst hP hw hK
  obtain ⟨f0,f1,f2,f3,f4,f5⟩:=hf it (by simp)
  have W:=Walks.range (prog:=X.prog) (w:=X.w) (I.ok.hd hc) it lo 1 n
  refine W.item i s _ _ hg st λv h' tk hv st' kk=>?_
  obtain ⟨t,rfl⟩:=hv
  have I1:Inv X pins σ H { s with heap:=h',toks:=tk }:=I.turned (λb o hb e=>kk b o (by simpa using hb) e) f0 f1 f3 f4 f5
  refine ⟨_,rfl,Hh (s:={ s with heap:=h',toks:=tk }) (n := "range_iterator") st' rfl rfl (by decide) ⟨.int (lo+i),H,I1,⟨t,?_⟩,⟨rfl,rfl⟩,st',λb hb=>(hf b hb).1⟩⟩
  rw[Int.mul_one]
 done:=by
  intro X hP hw hK hc i pins s σ H E I hf st hg
  subst hP hw hK
  obtain ⟨f0,f1,f2,f3,f4,f5⟩:=hf it (by simp)
  exact wpAny_pyNext_range_end (I.ok.hd hc) st (by have:n<=i:=hg;omega) λh' eb=>⟨rfl,I.turned (t':=s.toks) (λb o hb e=>eb b o hb e) f0 f1 f3 f4 f5⟩
 self:=λ_ _ _ _ _ st h=>wpAny_pyIter_rangeiter st h
end L2
namespace L2
open PySem PySem.Spec PyProof.Rows
section
variable {X:Cx} {tg:XG}
def O0 (K:W7)(tl:TE):TI:=λσ H R=>tl σ H λx H1=>∃ a,x=.ref a/\(∃ xs,SqL K H1 a xs)/\R (Itl K a) H1
theorem Dm {l:XG}{tl:TE}(hl:PE X l tl):PI X tg l (O0 X.K tl):=by
 intro pins s σ H R I h
 refine thn (hl pins s σ H _ I h) λv s1 ⟨x,H1,I1,r1,q1⟩=>?_
 obtain ⟨a,e,⟨xs,hq⟩,q⟩:=q1
 subst e
 cases r1
 obtain ⟨its,rv,p,hz⟩:=I1.list hq
 refine ZJ p.isList ?_
 refine ⟨s1.heap.objs.size,[s1.heap.objs.size],_,_,H1,rfl,I1.kept (t':=s1.toks) λb o e=>Xa _ e,uL a _,⟨_,Xu _ rfl,rfl,rfl⟩,λb hb=>?_,q⟩
 have e:b=s1.heap.objs.size:=by simpa using hb
 subst e
 exact I1.Fq (Xs _) (I1.hok.fresh (Xs _))
theorem yQ {pins:List (Addr×Obj)}{σ:St}{H:Hp}{s:Xe}{R:It->Hp->Prop}{E:Xb->Xe->Prop}{lo hi:Int}{t u v:Tok}{tk:Nat}(I:Inv X pins σ H s)(h1:-(2 ^ 62)<=lo)(h2:lo < 2 ^ 62)(h3:-(2 ^ 62)<=hi)(h4:hi < 2 ^ 62)
  (q:R (Itr lo (hi - lo).toNat) H):XB (XD X.prog X.w) X.A (pyIter (.ref s.heap.objs.size)) (PIE X pins σ tg R) E { s with heap:=s.heap.push { cls:=.type "range", data:=.fields #[.int lo t,.int hi u,.int 1 v] },toks:=tk }:=by
 refine wpAny_pyIter_range (ze6 ..) (small_one h1 h2 h3 h4) ?_
 have I1:Inv X pins σ H { s with heap:=s.heap.push { cls:=.type "range", data:=.fields #[.int lo t,.int hi u,.int 1 v] },toks:=tk }:=I.kept λb o e=>Xa _ e
 refine ⟨(s.heap.push { cls:=.type "range", data:=.fields #[.int lo t,.int hi u,.int 1 v] }).objs.size,[(s.heap.push { cls:=.type "range", data:=.fields #[.int lo t,.int hi u,.int 1 v] }).objs.size],_,_,H,rfl,
  I1.kept (t':=tk) λb o e=>Xa _ e,AM _ lo (hi - lo).toNat,?_,λb hb=>?_,q⟩
 ·have e1:lo+((0:Nat):Int)*1=lo:=by simp
  have e2:(((hi - lo).toNat:Nat):Int) - ((0:Nat):Int)=zal lo hi 1:=by rw[rangeSize_one];split<;>omega
  show IsRangeIter _ _ (lo+((0:Nat):Int)*1) ((((hi - lo).toNat:Nat):Int) - ((0:Nat):Int)) 1
  rw[e1,e2]
  exact Xu _ rfl
 ·have e:b=(s.heap.push { cls:=.type "range", data:=.fields #[.int lo t,.int hi u,.int 1 v] }).objs.size:=by simpa using hb
  subst e
  exact I1.Fq (Xs _) (I1.hok.fresh (Xs _))
def Vd (ta:TA):TI:=λσ H R=>ta σ H λvs H1=>∃ j:Int,vs=[.int j]/\-(2 ^ 62)<=j/\j < 2 ^ 62/\R (Itr 0 j.toNat) H1
def Uv (ta:TA):TI:=λσ H R=>ta σ H λvs H1=>∃ i j:Int,vs=[.int i,.int j]/\(-(2 ^ 62)<=i/\i < 2 ^ 62/\-(2 ^ 62)<=j/\j < 2 ^ 62)/\R (Itr i (j - i).toNat) H1
theorem Fy {a:XG}{ta:TA}{p pos:Pos}(hg:Gl X "range")(hm:X.mg "range" = none)(ha:PA X [a] ta)(hs:Xp [a] X.env=[(false,Yl a X.env)]:=by rfl):PI X tg (.Call (.Name "range" p) [a] [] pos) (Vd ta):=by
 intro pins s σ H R I h
 refine Call_ (ij I hg hm zew (Ya (thn (ha pos pins s σ H _ I h) λus s1 ⟨vs,H1,I1,r1,q1⟩=>?_) hs rfl))
 obtain ⟨j,e,q1,q2,q⟩:=q1
 subst e
 cases r1 with
 | cons r rr=>
  cases rr
  obtain ⟨t,rfl⟩:=r
  exact call_range_1 (yQ I1 (by omega) (by omega) q1 q2 (by simpa using q))
theorem Es {a b:XG}{ta:TA}{p pos:Pos}(hg:Gl X "range")(hm:X.mg "range" = none)(ha:PA X [a,b] ta)(hs:Xp [a,b] X.env=[(false,Yl a X.env),(false,Yl b X.env)]:=by rfl)(hs2:Xp [b] X.env=[(false,Yl b X.env)]:=by rfl) :
  PI X tg (.Call (.Name "range" p) [a,b] [] pos) (Uv ta):=by
 intro pins s σ H R I h
 refine Call_ (ij I hg hm zew (Ya (thn (ha pos pins s σ H _ I h) λus s1 ⟨vs,H1,I1,r1,q1⟩=>?_) (by rw[hs,hs2]) (by rw[hs2];rfl)))
 obtain ⟨i,j,e,⟨q1,q2,q3,q4⟩,q⟩:=q1
 subst e
 cases r1 with
 | cons r rr=>
  cases rr with
  | cons r' rr=>
   cases rr
   obtain ⟨t,rfl⟩:=r
   obtain ⟨t',rfl⟩:=r'
   exact call_range_2 (yQ I1 q1 q2 q3 q4 q)
def W0 (wi:TI)(g:TG)(tb:TS):TS:=λD σ H=>wi σ H λJ H1=>∃ W:Nat->Nat->St->Hp->Prop,(∃ m,W 0 m σ H1)/\∀ i m σ H,W i m σ H->
 (J.stop i H/\D.nx σ H)∨(J.go i H/\∃ N:St->Hp->Prop,(∀ σ' H',N σ' H'->∃ m',m' < m/\W (i+1) m' σ' H')/\∀ x H',J.yld i H x H'->g x σ H' λσ2 H2=>tb { D with nx:=N,ct:=N,bk:=D.nx } σ2 H2)
def rA (fp:List Addr)(h:Heap):List (Addr×Obj):=fp.filterMap λb=>(h.get? b).map λo=>(b,o)
theorem gr {fp:List Addr}{h:Heap}{b:Addr}{o:Obj}(hb:b∈fp)(e:h.get? b=some o):(b,o)∈rA fp h:=zbk.mpr ⟨b,hb,by rw[e];rfl⟩
theorem Fp {fp:List Addr}{h:Heap}{p:Addr×Obj}(hp:p∈rA fp h):p.1∈fp/\h.get? p.1=some p.2:=by
 obtain ⟨b,hb,e⟩:=zbk.mp hp
 cases q:h.get? b with
 | none=>rw[q] at e;cases e
 | some o=>
  rw[q] at e
  have e':(b,o)=p:=XY e
  subst e'
  exact ⟨hb,q⟩
theorem Inv.pinned {pins:List (Addr×Obj)}{σ:St}{H:Hp}{s:Xe}{fp:List Addr}(I:Inv X pins σ H s)(hf:∀ b∈fp,sV X pins H b)(ho:∀ b∈fp,∃ o,s.heap.get? b=some o/\∀ v,o.data≠.cell v):Inv X (pins++rA fp s.heap) σ H s:=
 I.DQ λp hp=>(X0.mp hp).elim (λz=>I.pin p (XC _ z)) λz=>by
  obtain ⟨hb,e⟩:=Fp z
  obtain ⟨f0,f1,f2,_⟩:=hf p.1 hb
  obtain ⟨o,e',d⟩:=ho p.1 hb
  rw[e] at e';cases e'
  exact ⟨e,f0,f1,f2,d⟩
theorem Inv.jz {pins pl:List (Addr×Obj)}{σ:St}{H:Hp}{s:Xe}(I:Inv X (pins++pl) σ H s):Inv X pins σ H s:=I.DQ λp hp=>I.pin p (XC _ (X8 _ hp))
theorem Sg {iter:XG}{body:List Stmt}{wi:TI}{g:TG}{tb:TS}{pos:Pos}(hp:zdZ (XD X.prog X.w) X.A X.env X.xe)(hc:X.calm=true)(hi:PI X tg iter wi)(hg:PG X tg g)(hb:PSs X body tb)
  (hs:∀ x,X4 iter X.env x=pure x:=by intro _;rfl):PS X (.For tg iter body [] pos) (W0 wi g tb):=by
 intro pins s σ H D I h
 refine wpAny_For (thn (hi pins s σ H _ I h) λv s1 h1=>thn h1 λitv s2 h2=>?_) hs
 obtain ⟨it,fp,tn,J,H2,e,I2,T,st2,f2,W,⟨m0,w0⟩,turn⟩:=h2
 subst e
 -- what stays true of the iterator's objects through the loop
 have Bn:∀ {H':Hp},(∀ b∈fp,H' b=none)->∀ b∈fp,sV X pins H' b:=λhn b hb=>⟨hn b hb,(f2 b hb).2⟩
 refine codeAny_forLoop_any (λn s'=>∃ i σ' H',Inv X pins σ' H' s'/\tn i s'.heap/\(∀ b∈fp,H' b=none)/\W i n σ' H') ?_ m0 ⟨0,σ,H2,I2,st2,λb hb=>(f2 b hb).1,w0⟩
 rintro n s3 ⟨i,σ3,H3,I3,st3,fr3,w3⟩
 rcases turn i n σ3 H3 w3 with ⟨stop,qn⟩ | ⟨go,N,hN,step⟩
 ·refine Zc hp (thn (T.done X rfl rfl rfl hc i pins s3 σ3 H3 X.xe I3 (Bn fr3) st3 stop) λr s4 ⟨hr,I4⟩=>?_)
  subst hr
  exact za0 ⟨σ3,H3,I4,qn⟩
 ·refine Zc hp (thn (T.item X rfl rfl rfl hc i pins s3 σ3 H3 X.xe I3 (Bn fr3) st3 go) λr s4 ⟨u,hr,h4⟩=>?_)
  subst hr
  refine Zc hp (thn h4 λ_ s5 ⟨x,H5,I5,r5,y5,st5,fr5⟩=>?_)
  have I5':=I5.pinned (Bn fr5) (T.obj _ _ st5)
  refine Zc hp (thn (hg _ s5 σ3 H5 x u _ I5' r5 (step x H5 y5)) λ_ s6 ⟨σ6,H6,I6,q6⟩=>?_)
  refine Zc hp (thn (hb _ s6 σ6 H6 _ I6 q6) λf s7 q7=>?_)
  have again:∀ {σ7:St} {H7:Hp},Inv X (pins++rA fp s5.heap) σ7 H7 s7->N σ7 H7->∃ m,m < n/\∃ i σ' H',Inv X pins σ' H' s7/\tn i s7.heap/\(∀ b∈fp,H' b=none)/\W i m σ' H':=λ{σ7 H7} I7 n7=>by
   obtain ⟨m',hm,w7⟩:=hN σ7 H7 n7
   refine ⟨m',hm,i+1,σ7,H7,I7.jz,T.keep _ _ _ st5 λb hb o e=>(I7.pin (b,o) (XC _ (XC _ (gr hb e)))).1,λb hb=>?_,w7⟩
   obtain ⟨o,e,d⟩:=T.obj _ _ st5 b hb
   exact (I7.pin (b,o) (XC _ (XC _ (gr hb e)))).2.1
  cases f with
  | next=>obtain ⟨σ7,H7,I7,n7⟩:=q7;exact again I7 n7
  | cont=>obtain ⟨σ7,H7,I7,n7⟩:=q7;exact again I7 n7
  | brk=>obtain ⟨σ7,H7,I7,q7⟩:=q7;exact ⟨σ7,H7,I7.jz,q7⟩
  | ret v=>obtain ⟨x7,σ7,H7,I7,r7,q7⟩:=q7;exact ⟨x7,σ7,H7,I7.jz,r7,q7⟩
end
end L2
namespace L2
open PySem PySem.Spec PyProof.Rows
abbrev R2:=V->V->Hp->VK->Prop
def OpR (X:Cx)(f:Xb->Xb->Sem Xb)(r:R2):Prop:=
 ∀ (pins:List (Addr×Obj)) (s:Xe) (σ:St) (H:Hp) (x y:V) (v u:Xb) (Q:VK),Inv X pins σ H s->RelV x v->RelV y u->r x y H Q->
  XB (XD X.prog X.w) X.A (f v u) (EP X pins σ Q) X.xe s
def UnR (X:Cx)(f:Xb->Sem Xb)(r:V->Hp->VK->Prop):Prop:=
 ∀ (pins:List (Addr×Obj)) (s:Xe) (σ:St) (H:Hp) (x:V) (v:Xb) (Q:VK),Inv X pins σ H s->RelV x v->r x H Q->
  XB (XD X.prog X.w) X.A (f v) (EP X pins σ Q) X.xe s
def b6 (X:Cx)(f:Xb)(r:List V->Hp->VK->Prop):Prop:=
 ∀ (pins:List (Addr×Obj)) (s:Xe) (σ:St) (H:Hp) (xs:List V) (us:List Xb) (Q:VK),Inv X pins σ H s->Vals xs us->r xs H Q->
  XB (XD X.prog X.w) X.A (zcG f us) (EP X pins σ Q) X.xe s
def tOp (r:R2)(ta tb:TE):TE:=λσ H Q=>ta σ H λx H1=>tb σ H1 λy H2=>r x y H2 Q
def tUn (r:V->Hp->VK->Prop)(ta:TE):TE:=λσ H Q=>ta σ H λx H1=>r x H1 Q
def rI (C:Int->Int->Prop)(g:Int->Int->V):R2:=λx y H Q=>∃ i j,x=.int i/\y=.int j/\C i j/\Q (g i j) H
def rI0 (g:Int->Int->V):R2:=λx y H Q=>∃ i j,x=.int i/\y=.int j/\Q (g i j) H
def rU (g:Int->V):V->Hp->VK->Prop:=λx H Q=>∃ i,x=.int i/\Q (g i) H
section
variable {X:Cx} {a b c:XG} {ta tb tc:TE} {pos:Pos}
theorem QX (ha:PE X a ta)(hb:PE X b tb){pins:List (Addr×Obj)}{s:Xe}{σ:St}{H:Hp}{R:V->V->Hp->Prop}(I:Inv X pins σ H s)
  (h:ta σ H λx H1=>tb σ H1 λy H2=>R x y H2) {Q:Xb->Xe->Prop} {f:Xb->Xb->Sem Xb}
  (hf:∀ v u s2 x y H2,Inv X pins σ H2 s2->RelV x v->RelV y u->R x y H2->XB (XD X.prog X.w) X.A (f v u) Q X.xe s2) :
  XB (XD X.prog X.w) X.A (Yl a X.env) (λv s₁=>XB (XD X.prog X.w) X.A (Yl b X.env) (λu s₂=>XB (XD X.prog X.w) X.A (f v u) Q X.xe s₂) X.xe s₁) X.xe s:=by
 refine thn (ha pins s σ H _ I h) λv s1 ⟨x,H1,I1,r1,q1⟩=>?_
 refine thn (hb pins s1 σ H1 _ I1 q1) λu s2 ⟨y,H2,I2,r2,q2⟩=>?_
 exact hf v u s2 x y H2 I2 r1 r2 q2
theorem Ol {op:zcF}{r:R2}(ho:OpR X (Zs op) r)(ha:PE X a ta)(hb:PE X b tb):PE X (.BinOp a op b pos) (tOp r ta tb):=by
 intro pins s σ H Q I h
 exact wpAny_BinOp (QX ha hb I h λv u s2 x y H2 I2 rx ry q=>ho pins s2 σ H2 x y v u Q I2 rx ry q)
theorem Vk {op:UnaryOp}{r:V->Hp->VK->Prop}(ho:UnR X (unaryOp op) r)(ha:PE X a ta):PE X (.UnaryOp op a pos) (tUn r ta):=by
 intro pins s σ H Q I h
 exact UnaryOp_ (thn (ha pins s σ H _ I h) λv s1 ⟨x,H1,I1,r1,q1⟩=>ho pins s1 σ H1 x v Q I1 r1 q1)
theorem opI {f:Xb->Xb->Sem Xb}{C:Int->Int->Prop}{g:Int->Int->Int}
  (rule:∀ (i j:Int) (t u:Tok) (s:Xe) (Q:Xb->Xe->Prop) (E:Xb->Xe->Prop),C i j->Q (.int (g i j) s.toks) { s with toks:=s.toks+1 }->XB (XD X.prog X.w) X.A (f (.int i t) (.int j u)) Q E s) :
  OpR X f (rI C λi j=>.int (g i j)):=by
 intro pins s σ H x y v u Q I rx ry h
 obtain ⟨i,j,rfl,rfl,hc,q⟩:=h
 obtain ⟨t,rfl⟩:=rx
 obtain ⟨t',rfl⟩:=ry
 exact rule i j t t' s _ _ hc ⟨.int (g i j),H,I.tok _,⟨_,rfl⟩,q⟩
theorem UH {f:Xb->Xb->Sem Xb}{g:Int->Int->Int}
  (rule:∀ (i j:Int) (t u:Tok) (s:Xe) (Q:Xb->Xe->Prop) (E:Xb->Xe->Prop),Q (.int (g i j) s.toks) { s with toks:=s.toks+1 }->XB (XD X.prog X.w) X.A (f (.int i t) (.int j u)) Q E s) :
  OpR X f (rI0 λi j=>.int (g i j)):=by
 intro pins s σ H x y v u Q I rx ry h
 obtain ⟨i,j,rfl,rfl,q⟩:=h
 obtain ⟨t,rfl⟩:=rx
 obtain ⟨t',rfl⟩:=ry
 exact rule i j t t' s _ _ ⟨.int (g i j),H,I.tok _,⟨_,rfl⟩,q⟩
theorem R9 {f:Xb->Xb->Sem Xb}{g:Int->Int->Bool}
  (rule:∀ (i j:Int) (t u:Tok) (s:Xe) (Q:Xb->Xe->Prop) (E:Xb->Xe->Prop),Q (.bool (g i j)) s->XB (XD X.prog X.w) X.A (f (.int i t) (.int j u)) Q E s) :
  OpR X f (rI0 λi j=>.bl (g i j)):=by
 intro pins s σ H x y v u Q I rx ry h
 obtain ⟨i,j,rfl,rfl,q⟩:=h
 obtain ⟨t,rfl⟩:=rx
 obtain ⟨t',rfl⟩:=ry
 exact rule i j t t' s _ _ ⟨.bl (g i j),H,I,rfl,q⟩
def WN (i j:Int):Prop:=0<=j/\j<=1000000/\i.natAbs < 2 ^ 64
def Vj (i j:Int):Prop:=(-(2 ^ 64) < i/\i < 2 ^ 64)∨(-(2 ^ 64) < j/\j < 2 ^ 64)
theorem Vj.ok {i j:Int}(h:Vj i j):IntMulOk i j:=by
 rcases h with ⟨h1,h2⟩ | ⟨h1,h2⟩
 ·exact .of_left (zbG h1 h2)
 ·exact .of_right (zbG h1 h2)
theorem RJ:OpR X (Zs .Add) (rI0 λi j=>.int (i+j)):=UH λ_ _ _ _ _ _ _ q=>add_int q
theorem R5:OpR X (Zs .Sub) (rI0 λi j=>.int (i - j)):=UH λ_ _ _ _ _ _ _ q=>sub_int q
theorem K0:OpR X (Zs .Mod) (rI (λ_ j=>j≠0) λi j=>.int (i.fmod j)):=opI λ_ _ _ _ _ _ _ hc q=>mod_int' hc q
theorem Ph:OpR X (Zs .Pow) (rI WN λi j=>.int (i ^ j.toNat)):=opI λ_ _ _ _ _ _ _ hc q=>pow_int_small hc.1 hc.2.1 hc.2.2 q
theorem unI {f:Xb->Sem Xb}{g:Int->Int}
  (rule:∀ (i:Int) (t:Tok) (s:Xe) (Q:Xb->Xe->Prop) (E:Xb->Xe->Prop),Q (.int (g i) s.toks) { s with toks:=s.toks+1 }->XB (XD X.prog X.w) X.A (f (.int i t)) Q E s) :
  UnR X f (rU λi=>.int (g i)):=by
 intro pins s σ H x v Q I rx h
 obtain ⟨i,rfl,q⟩:=h
 obtain ⟨t,rfl⟩:=rx
 exact rule i t s _ _ ⟨.int (g i),H,I.tok _,⟨_,rfl⟩,q⟩
theorem Qy:UnR X (unaryOp .USub) (rU λi=>.int (-i)):=unI λ_ _ _ _ _ q=>neg_int q
end
def U5:V->V->Bool
 | .non,.non=>true | .non,.int _=>true | .int _,.non=>true | .non,.bl _=>true | .bl _,.non=>true | .non,.str _=>true | .str _,.non=>true
 | .int _,.int _=>true | .bl _,.bl _=>true | .str _,.str _=>true | .byt _,.byt _=>true
 | .int _,.str _=>true | .str _,.int _=>true | .bl _,.str _=>true | .str _,.bl _=>true
 | _,_=>false
def rEq:R2:=λx y H Q=>U5 x y=true/\Q (.bl (decide (x=y))) H
def rNe:R2:=λx y H Q=>U5 x y=true/\Q (.bl (!decide (x=y))) H
section
variable {X:Cx} {a b c:XG} {ta tb tc:TE} {pos:Pos}
theorem Kn {pins:List (Addr×Obj)}{σ:St}{H:Hp}{s:Xe}{Q:VK}{k k':Bool}(I:Inv X pins σ H s)(q:Q (.bl k) H)(e:k=k'):EP X pins σ Q (.bool k') s:=by
 subst e
 exact ⟨.bl k,H,I,rfl,q⟩
theorem O2:OpR X (Zd .Lt) (rI0 λi j=>.bl (decide (i < j))):=R9 λ_ _ _ _ _ _ _ q=>lt_int q
theorem TF:OpR X (Zd .Gt) (rI0 λi j=>.bl (decide (j < i))):=R9 λ_ _ _ _ _ _ _ q=>gt_int q
theorem OO:OpR X (Zd .GtE) (rI0 λi j=>.bl (decide (j<=i))):=R9 λ_ _ _ _ _ _ _ q=>ge_int q
theorem Hn:OpR X (Zd .Is) (λx y H Q=>y=.non/\Q (.bl (decide (x=.non))) H):=by
 intro pins s σ H x y v u Q I rx ry h
 obtain ⟨rfl,q⟩:=h
 cases ry
 refine is_none_gen (Kn I q ?_)
 cases x<;>first
  | (cases rx;rfl)
  | (obtain ⟨t,rfl⟩:=rx;rfl)
theorem LC:OpR X (Zd .IsNot) (λx y H Q=>y=.non/\Q (.bl (!decide (x=.non))) H):=by
 intro pins s σ H x y v u Q I rx ry h
 obtain ⟨rfl,q⟩:=h
 cases ry
 refine isnot_none_gen (Kn I q ?_)
 cases x<;>first
  | (cases rx;rfl)
  | (obtain ⟨t,rfl⟩:=rx;rfl)
theorem ft (b:XG){op:CmpOp}(h:op≠.In:=by decide)(h2:op≠.NotIn:=by decide):ZF op b=false:=by
 have e1:(op == CmpOp.In)=false:=by cases op<;>first | rfl | exact absurd rfl h
 have e2:(op == CmpOp.NotIn)=false:=by cases op<;>first | rfl | exact absurd rfl h2
 cases b<;>simp[ZF,e1,e2]
theorem LJ {op:CmpOp}{r:R2}(ho:OpR X (Zd op) r)(ha:PE X a ta)(hb:PE X b tb)(hm:ZF op b=false):PE X (.Compare a [op] [b] pos) (tOp r ta tb):=by
 intro pins s σ H Q I h
 exact wpAny_Compare1 (QX ha hb I h λv u s2 x y H2 I2 rx ry q=>ho pins s2 σ H2 x y v u Q I2 rx ry q) hm
def OT (t:TE):TT:=λσ H Q=>t σ H λx H'=>∃ k,x=.bl k/\Q k H'
theorem Lj {op:CmpOp}{r:R2}(ho:OpR X (Zd op) r)(ha:PE X a ta)(hb:PE X b tb)(hm:ZF op b=false):PT X (.Compare a [op] [b] pos) (OT (tOp r ta tb)):=by
 intro pins s σ H Q I h
 refine wpAny_isTrue_Compare1 (thn (ha pins s σ H _ I h) λv s1 ⟨x,H1,I1,r1,q1⟩=>thn (hb pins s1 σ H1 _ I1 q1) λu s2 ⟨y,H2,I2,r2,q2⟩=>
  thn (ho pins s2 σ H2 x y v u _ I2 r1 r2 q2) λc s3 ⟨z,H3,I3,r3,k,e,q3⟩=>?_) hm
 subst e
 cases r3
 exact YW ⟨H3,I3,q3⟩
theorem sH:(sizeLine:Nat) < 2 ^ 63:=by rw[zcH];decide
theorem B7:OpR X (Zs .Add) (λx y H Q=>∃ i j,x=.str i/\y=.str j/\i.length+j.length<=sizeLine/\Q (.str (i++j)) H):=by
 intro pins s σ H x y v u Q I rx ry h
 obtain ⟨i,j,rfl,rfl,hz,q⟩:=h
 obtain ⟨t,rfl⟩:=rx
 obtain ⟨t',rfl⟩:=ry
 exact add_str (λt' tk=>⟨.str (i++j),H,I.tok _,⟨_,rfl⟩,q⟩) hz
theorem vals1 {x:V}{us:List Xb}(r:Vals [x] us):∃ u,us=[u]/\RelV x u:=by
 cases r with
 | cons r1 r2=>cases r2;exact ⟨_,rfl,r1⟩
theorem vals2 {x y:V}{us:List Xb}(r:Vals [x,y] us):∃ u w',us=[u,w']/\RelV x u/\RelV y w':=by
 cases r with
 | cons r1 r2=>
  cases r2 with
  | cons r3 r4=>cases r4;exact ⟨_,_,rfl,r1,r3⟩
theorem qQ:b6 X (.builtin "abs") (λxs H Q=>∃ i,xs=[.int i]/\Q (.int (if i < 0 then -i else i)) H):=by
 intro pins s σ H xs us Q I r h
 obtain ⟨i,rfl,q⟩:=h
 obtain ⟨u,rfl,t,rfl⟩:=vals1 r
 exact call_abs_int λu tk=>⟨.int (if i < 0 then -i else i),H,I.tok _,⟨_,rfl⟩,q⟩
theorem mZ (hc:X.calm=true):b6 X (.builtin "max") (λxs H Q=>∃ i j,xs=[.int i,.int j]/\Q (.int (if j > i then j else i)) H):=by
 intro pins s σ H xs us Q I r h
 obtain ⟨i,j,rfl,q⟩:=h
 obtain ⟨u,w',rfl,⟨t,rfl⟩,⟨t',rfl⟩⟩:=vals2 r
 refine max_two_ints (I.ok.hd hc) λh' tk k=>⟨_,H,I.kept k,?_,q⟩
 by_cases hj:j > i
 ·rw[if_pos hj,if_pos hj];exact ⟨_,rfl⟩
 ·rw[if_neg hj,if_neg hj];exact ⟨_,rfl⟩
theorem Fn (hc:X.calm=true):b6 X (.builtin "min") (λxs H Q=>∃ i j,xs=[.int i,.int j]/\Q (.int (if j < i then j else i)) H):=by
 intro pins s σ H xs us Q I r h
 obtain ⟨i,j,rfl,q⟩:=h
 obtain ⟨u,w',rfl,⟨t,rfl⟩,⟨t',rfl⟩⟩:=vals2 r
 refine min_two_ints (I.ok.hd hc) λh' tk k=>⟨_,H,I.kept k,?_,q⟩
 by_cases hj:j < i
 ·rw[if_pos hj,if_pos hj];exact ⟨_,rfl⟩
 ·rw[if_neg hj,if_neg hj];exact ⟨_,rfl⟩
theorem Ft:b6 X (.type "int") (λxs H Q=>(∃ i,xs=[.int i]/\Q (.int i) H)∨∃ k,xs=[.bl k]/\Q (.int (if k then 1 else 0)) H):=by
 intro pins s σ H xs us Q I r h
 rcases h with ⟨i,rfl,q⟩ | ⟨k,rfl,q⟩
 ·obtain ⟨u,rfl,t,rfl⟩:=vals1 r
  exact call_int_int ⟨.int i,H,I,⟨_,rfl⟩,q⟩
 ·obtain ⟨u,rfl,r1⟩:=vals1 r
  cases r1
  exact call_int_bool ⟨.int (if k then 1 else 0),H,I.tok _,⟨_,rfl⟩,q⟩
end
end L2
namespace L2
open PySem PySem.Spec PyProof.Rows
structure W6 (h:Heap) (x dx C:Addr) (mA:Str->Option Xb):Prop where
 obj:h.get? x=some (zek C dx)
 ns:h.Ns1 dx mA
 ne:dx≠x
section
variable {prog:XO} {w:X2} {A:Yh} {E:Xb->Xe->Prop} {s:Xe} {K:W7} {x dx C f:Addr} {mA:Str->Option Xb} {name:Str} {v:Xb}
end
theorem o9.some_of {v:V}{o:Option Xb}(r:o9 (some v) o):∃ u,o=some u/\RelV v u:=by
 cases o with
 | none=>exact (show False from r).elim
 | some u=>exact ⟨u,rfl,r⟩
section
variable {P:XO} {w:X2} {H H':Hp} {h h':Heap} {a C dx:Addr} {fs fs':List (Str×V)}
end
structure Cls (K:W7) (C:Addr):Prop where
 pg:zd0 K C Str.empty=true
 hd:PySem.W.hasDictIn K C=true
 po:PySem.W.plainOver K C=true
 sa:PySem.W.findIn K (.ref C) "__setattr__" = some (some (.builtin "object.__setattr__"))
theorem Cls.get {K:W7}{C:Addr}(c:Cls K C)(f:Str):zd0 K C f=true:=c.pg
section
variable {X:Cx} {pins:List (Addr×Obj)} {σ:St} {H:Hp} {s:Xe} {a C dx:Addr} {fs:List (Str×V)} {f:Str} {v:V} {A:Yh} {E:Xb->Xe->Prop}
end
def TU (X:Cx)(op:zcF)(rd:V->V->Hp->VK->Prop):Prop:=
 ∀ (pins:List (Addr×Obj)) (s:Xe) (σ:St) (H:Hp) (x y:V) (u v:Xb) (Q:VK),Inv X pins σ H s->RelV x u->RelV y v->rd x y H Q->XB (XD X.prog X.w) X.A (inplaceOp op u v) (EP X pins σ Q) X.xe s
section
variable {X:Cx} {o e value:XG} {f:Str} {pos pos' tpos:Pos} {ta tv:TE}
def U9:V->V->Hp->VK->Prop:=λx y H Q=>∃ i j,x=.int i/\y=.int j/\Q (.int (i+j)) H
def kn:V->V->Hp->VK->Prop:=λx y H Q=>∃ i j,x=.int i/\y=.int j/\Q (.int (i - j)) H
theorem Sh:TU X .Add U9:=by
 rintro pins s σ H x y u v Q I rx ry ⟨i,j,rfl,rfl,q⟩
 obtain ⟨t,rfl⟩:=(show ∃ t,u=zak i t from rx)
 obtain ⟨t',rfl⟩:=(show ∃ t',v=zak j t' from ry)
 exact ze3 ⟨.int (i+j),H,I.tok _,⟨_,rfl⟩,q⟩
end
section
variable {X:Cx} {pins:List (Addr×Obj)} {σ:St} {H:Hp} {s:Xe} {A:Yh} {E:Xb->Xe->Prop} {Q:Xb->Xe->Prop} {c:Xb} {b:Bool}
end
end L2
namespace L2
open PySem PySem.Spec PyProof.Rows
structure gD (k:Nat) (A:Yh):Prop where
 hd:A.handled=none
 dp:A.depth+3*k+5 < recursionLimit
 un:A.units+16*k+200 < cLine
theorem gD.mono {j k:Nat}{A:Yh}(r:gD k A)(h:j<=k):gD j A:=⟨r.hd,by have:=r.dp;omega,by have:=r.un;omega⟩
theorem gD.deeper {k:Nat}{A:Yh}(r:gD (k+1) A)(env:Env):gD k (A.deeper env):=
 ⟨r.hd,by have:=r.dp;show A.depth+1+3*k+5 < _;omega,by have:=r.un;show A.units+3+16*k+200 < _;omega⟩
theorem gD.depth {k:Nat}{A:Yh}(r:gD k A):A.depth < recursionLimit:=by have:=r.dp;omega
theorem gD.units {k:Nat}{A:Yh}(r:gD k A):A.units+64 < cLine:=by have:=r.un;omega
def UO:TA:=λ_ H Q=>Q [] H
def OY (ta:TE)(tr:TA):TA:=λσ H Q=>ta σ H λx H1=>tr σ H1 λxs H2=>Q (x::xs) H2
section
variable {X:Cx} {e:XG} {es:List XG} {te:TE} {t:TA} {pos:Pos}
theorem hX:PA X [] UO:=λ_ _ _ _ H Q I h=>zbA ⟨[],H,I,.nil,h⟩
theorem dB (ha:PE X e te)(hr:PA X es t)(hs:Xp (e::es) X.env=(false,Yl e X.env)::Xp es X.env:=by rfl):PA X (e::es) (OY te t):=by
 intro pos pins s σ H Q I h
 rw[hs]
 show XB _ _ (spliced ((false,Yl e X.env)::YA pos (Xp es X.env))) _ _ s
 refine zae (thn (ha pins s σ H _ I h) λu s1 ⟨x,H1,I1,r1,q1⟩=>?_)
 exact thn (hr pos pins s1 σ H1 _ I1 q1) λus s2 ⟨xs,H2,I2,r2,q2⟩=>⟨x::xs,H2,I2,.cons r1 r2,q2⟩
def Wo (t:TA):TE:=λσ H Q=>t σ H λxs H1=>xs.length<=sizeLine/\∀ p,H1 p=none->Q (.ref p) (upd H1 p (.tup xs))
def VA (t:TA):TE:=λσ H Q=>t σ H λxs H1=>xs.length<=sizeLine/\∀ p,H1 p=none->Q (.ref p) (upd H1 p (.lst xs))
theorem AJ {x1}(h:PA X es t):PE X (.Tuple es x1 pos) (Wo t):=by
 intro pins s σ H Q I hq
 refine wpAny_Tuple_spliced (thn (h pos pins s σ H _ I hq) λus s1 ⟨xs,H1,I1,r,z,q⟩=>⟨by rw[← r.length];exact z,?_⟩)
 have hf:H1 s1.heap.objs.size=none:=I1.hok.fresh (Xs _)
 refine ⟨.ref s1.heap.objs.size,upd H1 s1.heap.objs.size (.tup xs),I1.laid (t':=s1.toks) (λb u e=>Xa _ e) (Xs _) ?_,rfl,q _ hf⟩
 exact ⟨z,us,r,⟨_,Xu _ rfl⟩⟩
theorem Kr (h:PA X es t):PE X (.List es pos) (VA t):=by
 intro pins s σ H Q I hq
 refine wpAny_List_spliced (thn (h pos pins s σ H _ I hq) λus s1 ⟨xs,H1,I1,r,z,q⟩=>⟨by rw[← r.length];exact z,?_⟩)
 have hf:H1 s1.heap.objs.size=none:=I1.hok.fresh (Xs _)
 refine ⟨.ref s1.heap.objs.size,upd H1 s1.heap.objs.size (.lst xs),I1.laid (t':=s1.toks) (λb u e=>Xa _ e) (Xs _) ?_,rfl,q _ hf⟩
 exact ⟨z,us,0,r,Xu _ rfl⟩
end
abbrev Sp:=List V->Hp->VK->XK->Prop
abbrev CXT:=List Env->Hp->Xe->XK->Xb->Xe->Prop
structure NS (P:XO) (w:X2) (K:W7) (mg:Str->Option Xb) (base:Heap) (A:Yh) (outer:List Env) (s:Xe) (H:Hp):Prop where
 frames:A.frames=some outer
 mod:Mod K mg base
 bs:∀ b o,base.get? b=some o->s.heap.get? b=some o/\H b=none
 bsz:base.objs.size<=s.heap.objs.size
 qj:s.heap.FunFrames base outer
 frf:∀ b∈frs outer,H b=none
 hok:HOk P w H s.heap
 bare:zbz s.gens
def CE (outer:List Env)(P:XO)(w:X2)(H:Hp)(s:Xe)(Q:VK)(u:Xb)(s':Xe):Prop:=
 ∃ v H',s'.os=s.os/\zbz s'.gens/\Un (frs outer) [] H H' s.heap s'.heap/\HOk P w H' s'.heap/\RelV v u/\Q v H'
def CR (CX:CXT)(outer:List Env)(P:XO)(w:X2)(H:Hp)(s:Xe)(Q:VK)(E:XK)(r:zd1)(s':Xe):Prop:=
 match r with
 | .ok (.ret u)=>CE outer P w H s Q u s'
 | .ok _=>False
 | .error e=>CX outer H s E e s'
structure jo (P:XO) (w:X2) (K:W7) (mg:Str->Option Xb) (base:Heap) (CX:CXT) (k:Nat) (f:Addr) (fd:Xy) (ps:List Str) (sp:Sp):Prop where
 len:∀ vs H Q E,sp vs H Q E->vs.length=ps.length
 run:∀ (A:Yh) (outer:List Env) (s:Xe) (H:Hp) (args:Args) (us:List Xb) (vs:List V) (Q:VK) (E:XK),gD k A->NS P w K mg base A outer s H->zdA s fd args (ps.zip us)->Vals vs us->sp vs H Q E->
  ZK (XD P w) A (.call (.ref f) args) (CR CX outer P w H s Q E) s
theorem jo.mono {P:XO}{w:X2}{K:W7}{mg:Str->Option Xb}{base:Heap}{CX:CXT}{j k:Nat}{f:Addr}{fd:Xy}{ps:List Str}{sp:Sp}(F:jo P w K mg base CX j f fd ps sp)(h:j<=k) :
  jo P w K mg base CX k f fd ps sp:=⟨F.len,λA outer s H args us vs Q E hr=>F.run A outer s H args us vs Q E (hr.mono h)⟩
section
variable {X:Cx} {pins:List (Addr×Obj)} {σ:St} {H:Hp} {s s':Xe}
theorem Inv.WD (I:Inv X pins σ H s):NS X.prog X.w X.K X.mg X.base X.A X.stack s H:=
 ⟨I.ok.frames,I.ok.mod,I.bs,XZ I.ok.bsz I.sz,I.stack,I.Dj,I.hok,I.bare⟩
theorem Inv.after {Q:VK}{u:Xb}(I:Inv X pins σ H s)(h:CE X.stack X.prog X.w H s Q u s'):EP X pins σ Q u s':=by
 obtain ⟨v,H',os,bare,un,hok,r,q⟩:=h
 obtain ⟨hh,g,d,t,os'⟩:=s'
 obtain rfl:os'=s.os:=os
 exact ⟨v,H',I.call (h':=hh) (g':=g) (d':=d) (t':=t) (ch:=[]) un hok bare (λb z=>absurd z (by simp)),r,q⟩
end
def Uc (sp:Sp)(dvs:List V)(E:XK)(t:TA):TE:=λσ H Q=>t σ H λvs H1=>sp (vs++dvs) H1 Q E
def Binds (K:W7)(fd:Xy)(ps:List Str)(ds:List Xb):Prop:=
 ∀ (s:Xe) (us:List Xb),K.In s.heap->(us++ds).length=ps.length->zdA s fd ⟨us,[]⟩ (ps.zip (us++ds))
theorem Binds.all {K:W7}{fd:Xy}{ps:List Str}(h:∀ us:List Xb,us.length=ps.length->bindArgs fd ⟨us,[]⟩=pure (ps.zip us)):Binds K fd ps []:=λs us _ hl=>by
 rw[XH] at hl ⊢
 exact .of_eq (h us hl)
def Passes (CX:CXT)(X:Cx)(E:XK):Prop:=∀ (pins:List (Addr×Obj)) (σ:St) (H:Hp) (s:Xe) (e:Xb) (s':Xe),Inv X pins σ H s->CX X.stack H s E e s'->X.xe e s'
section
variable {X:Cx} {CX:CXT} {k:Nat} {f C:Addr} {fd:Xy} {ps:List Str} {sp:Sp} {dvs:List V} {ds:List Xb} {E:XK} {x m:Str} {p pos apos:Pos} {e o:XG} {es:List XG} {ta:TE} {t:TA}
theorem QJ {pins:List (Addr×Obj)}{σ:St}{H:Hp}{s:Xe}{Q:VK}{us:List Xb}{vs:List V}(F:jo X.prog X.w X.K X.mg X.base CX k f fd ps sp)(hr:gD k X.A)(hb:Binds X.K fd ps ds)(hd:Vals dvs ds)(hx:Passes CX X E)
  (I:Inv X pins σ H s) (r:Vals vs us) (h:sp (vs++dvs) H Q E):XB (XD X.prog X.w) X.A (zcG (.ref f) us) (EP X pins σ Q) X.xe s:=by
 have r2:Vals (vs++dvs) (us++ds):=r.append hd
 have hl:(us++ds).length=ps.length:=by rw[← r2.length];exact F.len _ _ _ _ h
 refine wpAny_call (zdB (F.run X.A X.stack s H ⟨us,[]⟩ (us++ds) (vs++dvs) Q E hr I.WD (hb s us I.kIn hl) r2 h) λr s' hq=>?_)
 cases r with
 | error e=>exact hx pins σ H s e s' I hq
 | ok fl=>
  cases fl with
  | ret u=>exact I.after hq
  | next=>exact Xf hq
  | brk=>exact Xf hq
  | cont=>exact Xf hq
theorem MJ (F:jo X.prog X.w X.K X.mg X.base CX k f fd ps sp)(hr:gD k X.A)(hg:Gl X x)(hm:X.mg x=some (.ref f))(hk:zav X.K (.ref f)=true)(hb:Binds X.K fd ps ds)(hd:Vals dvs ds)(hx:Passes CX X E)
  (ha:PA X (e::es) t) (hdb:(x == ("__debug__" : Str))=false:=by decide) (he:Xp (e::es) X.env=(false,Yl e X.env)::Xp es X.env:=by rfl) (hpl:(YA pos (Xp es X.env)).any (·.1)=false:=by rfl) :
  PE X (.Call (.Name x p) (e::es) [] pos) (Uc sp dvs E t):=by
 intro pins s σ H Q I h
 refine zaf (CM I hg hm ?_ hdb)
 refine PySem.W.callWith_K (h₀:=X.base) I.ok.mod.kin hk (thn (ha pos pins s σ H _ I h) λus s1 ⟨vs,H1,I1,r,q⟩=>⟨I1.kIn,?_⟩) he hpl
 exact QJ F hr hb hd hx I1 r q
end
def PK (X:Cx)(kws:List ZW)(t:TA):Prop:=
 ∀ (pos:Pos) (pins:List (Addr×Obj)) (s:Xe) (σ:St) (H:Hp) (Q:List V->Hp->Prop),Inv X pins σ H s->t σ H Q->XB (XD X.prog X.w) X.A (evalAll ((zbl pos (ZM kws X.env)).map (·.2))) (AP X pins σ Q) X.xe s
section
variable {X:Cx} {CX:CXT} {k:Nat} {f C:Addr} {fd:Xy} {ps ks:List Str} {sp:Sp} {E:XK} {x m:Str} {p pos apos kpos:Pos} {e o:XG} {es:List XG} {kws:List ZW} {te ta:TE} {t tk:TA} {nm:Option Str}
theorem QY:PK X [] UO:=λ_ _ _ _ H Q I h=>wpAny_evalAll_nil ⟨[],H,I,.nil,h⟩
theorem LV (ha:PE X e te)(hr:PK X kws t):PK X (⟨nm,e,kpos⟩::kws) (OY te t):=by
 intro pos pins s σ H Q I h
 show XB _ _ (evalAll ((do let v ← Yl e X.env;standAt pos;pure v)::(zbl pos (ZM kws X.env)).map (·.2))) _ _ s
 refine wpAny_evalAll_cons (W8 (thn (ha pins s σ H _ I h) λu s1 ⟨x,H1,I1,r1,q1⟩=>W8 (zaQ (Xj ?_))))
 exact thn (hr pos pins s1 σ H1 _ I1 q1) λus s2 ⟨xs,H2,I2,r2,q2⟩=>⟨x::xs,H2,I2,.cons r1 r2,q2⟩
variable {g:List Xb->List Xb->List Xb} {gV:List V->List V->List V}
end
structure aH (N P:List Str) (sc:Scope):Prop where
 kind:sc.kind=.function
 co:sc.isCoroutine=false
 gen:sc.isGenerator=false
 nd:N.Nodup
 pre:N.take P.length=P
 par:∀ x∈P,sc.names.lookup x=some .local∨sc.names.lookup x=some .cell
 Sv:∀ y∈sc.names,y.2≠.free
theorem uF {zaJ:Str->Option zaS}{x:Str}:∀ {binds:List (Str×Xb)} {m:Str->Option Xb},(∀ v,(x,v) ∉ binds)->zex zaJ binds m x=m x
 | [],_,_=>rfl
 | (n,v)::r,m,h=>by
  unfold zex
  rw[uF λw hw=>h w (Xo _ hw)]
  split
  ·have:x≠n:=by rintro rfl;exact h v Xl
   simp[this]
  ·rfl
theorem uw {zaJ:Str->Option zaS}{x:Str}:∀ {binds:List (Str×Xb)} {m:Str->Option Xb},(∀ v,(x,v) ∉ binds)->zey zaJ binds m x=m x
 | [],_,_=>rfl
 | (n,v)::r,m,h=>by
  unfold zey
  rw[uw λw hw=>h w (Xo _ hw)]
  split
  ·rfl
  ·have:x≠n:=by rintro rfl;exact h v Xl
   simp[this]
theorem uW {zaJ:Str->Option zaS}{x:Str}{v:Xb}:∀ {P:List Str} {vs:List Xb} {i:Nat} {m:Str->Option Xb},P.Nodup->P[i]? = some x->vs[i]? = some v->zaJ x=some .local->
  zex zaJ (P.zip vs) m x=some v
 | [],_,_,_,_,h,_,_=>by simp at h
 | _::_,[],_,_,_,_,h,_=>by simp at h
 | p::P,w::vs,0,m,nd,h1,h2,hk=>by
  simp at h1 h2;subst h1;subst h2
  show zex zaJ ((p,w)::P.zip vs) m p=_
  unfold zex
  rw[uF λv hv=>(X5.mp nd).1 (Xx hv).1,if_pos hk]
  simp
 | p::P,w::vs,i+1,m,nd,h1,h2,hk=>by
  show zex zaJ ((p,w)::P.zip vs) m x=_
  unfold zex
  exact uW (i:=i) (X5.mp nd).2 (by simpa using h1) (by simpa using h2) hk
theorem uA {zaJ:Str->Option zaS}{x:Str}{v:Xb}:∀ {P:List Str} {vs:List Xb} {i:Nat} {m:Str->Option Xb},P.Nodup->P[i]? = some x->vs[i]? = some v->zaJ x≠some .local->
  zey zaJ (P.zip vs) m x=some v
 | [],_,_,_,_,h,_,_=>by simp at h
 | _::_,[],_,_,_,_,h,_=>by simp at h
 | p::P,w::vs,0,m,nd,h1,h2,hk=>by
  simp at h1 h2;subst h1;subst h2
  show zey zaJ ((p,w)::P.zip vs) m p=_
  unfold zey
  rw[uw λv hv=>(X5.mp nd).1 (Xx hv).1,if_neg hk]
  simp
 | p::P,w::vs,i+1,m,nd,h1,h2,hk=>by
  show zey zaJ ((p,w)::P.zip vs) m x=_
  unfold zey
  exact uA (i:=i) (X5.mp nd).2 (by simpa using h1) (by simpa using h2) hk
def start (N:List Str)(vs:List V):St:=vs.map some++YI (N.length - vs.length) none
def xS (CX:CXT)(P:XO)(w:X2)(K:W7)(mg:Str->Option Xb)(base:Heap)(N:List Str)(qual:Str)(scope:Scope)(f:Addr)(cd:Xb)(A:Yh)(outer:List Env)(s:Xe)(H:Hp)(E:XK):Cx where
 prog:=P
 w:=w
 K:=K
 mg:=mg
 base:=base
 A:=A.deeper (zbm qual scope s.heap.objs.size f cd)
 N:=N
 s₀:=s
 H₀:=H
 env:=zbm qual scope s.heap.objs.size f cd
 outer:=outer
 stack:=zbm qual scope s.heap.objs.size f cd::outer
 ex:=[]
 calm:=true
 fn:=λ_=>true
 pn:=[]
 xe:=λe s'=>XB (XD P w) (A.deeper (zbm qual scope s.heap.objs.size f cd)) (leaving (zbm qual scope s.heap.objs.size f cd) e) (λ_ s''=>CX outer H s E e s'') (λe' s''=>CX outer H s E e' s'') s'
theorem yW {sc:Scope}{n:Nat}{x:Str}(h:sc.names.lookup x=some .cell):∃ c,(cellsFrom n sc.names []).lookup x=some c:=by
 have q:=zca sc.names n [] (.inl h)
 exact zbH.mp q
theorem Eg {CX:CXT}{P:XO}{w:X2}{K:W7}{mg:Str->Option Xb}{base:Heap}{N ps:List Str}{qual:Str}{scope:Scope}{f:Addr}{cd:Xb}{A:Yh}{outer:List Env}{s s1:Xe}{H:Hp}{E:XK}{us:List Xb}{vs:List V}
  (S:aH N ps scope) (hd:A.handled=none) (e0:NS P w K mg base A outer s H) (hl:vs.length=ps.length) (r:Vals vs us)
  (x:InCallC s s.heap.objs.size (zex (zbm qual scope s.heap.objs.size f cd).kindOf (ps.zip us) λ_=>none) (cellsFrom (s.heap.objs.size+1) scope.names []) (zey (zbm qual scope s.heap.objs.size f cd).kindOf (ps.zip us) λ_=>none) s1) :
  Inv (xS CX P w K mg base N qual scope f cd A outer s H E) [] (start N vs) H s1:=by
 have hpl:ps.length<=N.length:=by have:=congrArg Yy S.pre;rw[ZX] at this;omega
 obtain ⟨h1,tk,rfl,hk⟩:=x.done
 have noA:∀ b:Addr,b ∉ (xS CX P w K mg base N qual scope f cd A outer s H E).ex:=λb z=>absurd (show b∈([]:List Addr) from z) (by simp)
 refine ⟨⟨e0.mod,S.kind,rfl,rfl,Xs _,λy z c h1 h2=>?_,λy hy=>?_,λy c _ h=>?_,λ_=>hd,Around.frames_deeper e0.frames,.inr ⟨rfl,rfl⟩,λb z=>absurd z (noA b),e0.bs,e0.bsz,λb _ _=>noA b,λb z=>absurd z (noA b),e0.qj,e0.frf⟩,
  rfl,e0.bare,Un.kept hk,⟨_,x.toInCall.ns,λi y v h1 h2 h3=>?_⟩,λy c h=>⟨_,x.cell y c h⟩,e0.hok.fresh (Xs _),λy c h=>?_,λp hp=>absurd (show p∈([]:List (Addr×Obj)) from hp) (by simp),e0.hok.kept hk,?_⟩
 ·exact name_of_addr x.apart (Yu h1) (Yu h2)
 ·have hy:scope.names.lookup y=some .cell∨scope.names.lookup y=some .free:=hy
  rcases hy with hy | hy
  ·exact yW hy
  ·exact absurd rfl (S.Sv _ (Yu hy))
 ·exact zat (x.above y c (Yu h))
 ·have hi:i < vs.length:=by
   unfold start at h2
   by_cases hi:i < vs.length
   ·exact hi
   ·rw[ZN (by simpa using hi)] at h2
    rw[zbS] at h2
    split at h2<;>cases h2
  have ha:vs[i]? = some v:=by
   unfold start at h2
   rw[Z0 (by simpa using hi),Yp] at h2
   cases e:vs[i]? with
   | none=>rw[e] at h2;cases h2
   | some a=>rw[e] at h2;cases h2;rfl
  obtain ⟨u,hu,rv⟩:=r.get ha
  have hp:ps[i]? = some y:=by
   rw[← S.pre,List.getElem?_take_of_lt (by omega)];exact h1
  have ndP:ps.Nodup:=by rw[← S.pre];exact S.nd.sublist (List.take_sublist _ _)
  refine ⟨u,rv,?_⟩
  rcases S.par y (ZO hp) with k | k
  ·exact .inl ⟨k,uW ndP hp hu k⟩
  ·obtain ⟨c,e⟩:=yW (n:=s.heap.objs.size+1) k
   refine .inr ⟨.inl k,c,e,?_⟩
   have q:=x.cell y c e
   rw[uA ndP hp hu (by show scope.names.lookup y≠_;rw[k];decide)] at q
   exact q
 ·exact e0.hok.fresh (zat (x.above y c (Yu h)))
 ·unfold start
  show _=N.length
  rw[Xi,W9,zaE]
  omega
theorem Tw {CX:CXT}{P:XO}{w:X2}{K:W7}{mg:Str->Option Xb}{base:Heap}{k:Nat}{f:Addr}{name qual:Str}{params:Arguments}{body:List Stmt}{scope:Scope}{dV kV doc pm cdv ct oc:Xb}{an od:Option Addr}
  {osl:Array (Option Xb)} {N ps:List Str} {sp:Sp} (lk:K.lookup f=some ⟨oc,od,.func (ZY name qual params body scope dV kV doc pm an cdv ct),osl⟩) (hcd:zcI K cdv qual=true) (S:aH N ps scope)
  (len:∀ vs H Q E,sp vs H Q E->vs.length=ps.length)
  (hbody:∀ (A:Yh) (outer:List Env) (s:Xe) (H:Hp) (vs:List V) (Q:VK) (E:XK),gD k (A.deeper (zbm qual scope s.heap.objs.size f cdv))->sp vs H Q E->
   ∃ t,PSs (xS CX P w K mg base N qual scope f cdv A outer s H E) body t/\t { nx:=λ_ H'=>Q .non H',rt:=Q } (start N vs) H) :
  jo P w K mg base CX (k+1) f (ZY name qual params body scope dV kV doc pm an cdv ct) ps sp:=by
 refine ⟨len,λA outer s H args us vs Q E hr e0 hb r hsp=>?_⟩
 have hl:=len _ _ _ _ hsp
 have KX:K.In s.heap:=e0.mod.kin.keeps λb o e=>(e0.bs b o e).1
 have lim:s.heap.NoLimit:=e0.mod.nolimit.keeps λb o e=>(e0.bs b o e).1
 have gk:∀ y∈ps.zip us,scope.names.lookup y.1=some .local∨(scope.names.lookup y.1=some .cell/\((cellsFrom (s.heap.objs.size+1) scope.names []).lookup y.1).isSome=true):=λ⟨n,v⟩ hy=>by
  rcases S.par n (Xx hy).1 with q | q
  ·exact .inl q
  ·exact .inr ⟨q,zca _ _ _ (.inl q)⟩
 refine codeAny_call_function hr.depth (KX _ _ lk) rfl S.co S.gen rfl (PySem.W.codeRec_of KX hcd) (hb _ _ _ _ ?_)
 refine wpAny_newFunctionEnv_cells S.kind gk λenv he s1 x=>?_
 subst he
 refine ⟨lim.keeps x.toInCall.keep,codeAny_func ?_⟩
 obtain ⟨t,ht,hq⟩:=hbody A outer s H vs Q E (hr.deeper _) hsp
 have I:Inv (xS CX P w K mg base N qual scope f cdv A outer s H E) [] (start N vs) H s1:=Eg S hr.hd e0 hl r x
 refine Yq (ht [] s1 (start N vs) H _ I hq) (λfl s' hs=>?_) λe s' hs=>hs
 have fin:∀ {σ':St} {H':Hp} {v:V} {u:Xb},Inv (xS CX P w K mg base N qual scope f cdv A outer s H E) [] σ' H' s'->RelV v u->Q v H'->CE outer P w H s Q u s':=
  λ{σ' H' v u} J rv q=>⟨v,H',J.os,J.bare,J.base,J.hok,rv,q⟩
 cases fl with
 | ret u=>
  obtain ⟨v,σ',H',J,rv,q⟩:=hs
  exact fin J rv q
 | next=>
  obtain ⟨σ',H',J,q⟩:=hs
  exact fin (v:=V.non) (u:=YX) J rfl q
 | brk=>
  obtain ⟨_,_,_,q⟩:=hs
  exact Xf q
 | cont=>
  obtain ⟨_,_,_,q⟩:=hs
  exact Xf q
end L2
namespace L2
open PySem PySem.Spec PyProof.Rows
section
variable {X:Cx} {x:Str} {p pos:Pos} {e:XG} {es:List XG} {t:TA} {id T:String} {r:List V->Hp->VK->Prop}
def tCB (r:List V->Hp->VK->Prop)(t:TA):TE:=λσ H Q=>t σ H λvs H1=>r vs H1 Q
theorem l4 (hc:b6 X (.builtin id) r)(hg:Gl X x)(hm:X.mg x=none)(hv:Yt x=some (.builtin id))(ha:PA X (e::es) t)(hn:x ≠ "__name__" := by decide)(hdb:(x == ("__debug__" : Str))=false:=by decide)
  (he:Xp (e::es) X.env=(false,Yl e X.env)::Xp es X.env:=by rfl) (hpl:(YA pos (Xp es X.env)).any (·.1)=false:=by rfl):PE X (.Call (.Name x p) (e::es) [] pos) (tCB r t):=by
 intro pins s σ H Q I h
 refine zaf (ij I hg hm hv ?_ hn hdb)
 exact zd2 (thn (ha pos pins s σ H _ I h) λus s1 ⟨vs,H1,I1,r1,q1⟩=>hc pins s1 σ H1 vs us Q I1 r1 q1) he hpl
theorem uc (hc:b6 X (.type T) r)(hg:Gl X x)(hm:X.mg x=none)(hv:Yt x=some (.type T))(ha:PA X (e::es) t)(hn:x ≠ "__name__" := by decide)(hdb:(x == ("__debug__" : Str))=false:=by decide)
  (he:Xp (e::es) X.env=(false,Yl e X.env)::Xp es X.env:=by rfl) (hpl:(YA pos (Xp es X.env)).any (·.1)=false:=by rfl):PE X (.Call (.Name x p) (e::es) [] pos) (tCB r t):=by
 intro pins s σ H Q I h
 refine zaf (ij I hg hm hv ?_ hn hdb)
 exact Ya (thn (ha pos pins s σ H _ I h) λus s1 ⟨vs,H1,I1,r1,q1⟩=>hc pins s1 σ H1 vs us Q I1 r1 q1) he hpl
end
end L2
namespace HT
open PySem PyProof.Rows
section
open PySem.SeqAt
open PySem.AutoSeq1 (wpAny_loadPart')
open PySem.MeetsSeq PySem.MeetsSeq2 PySem.MeetsSeq3
end
section
variable {prog:XO} {w:X2} {A:Yh} {E:Xb->Xe->Prop} {s:Xe}
theorem Nr {t b:Addr}{vs ws:List Xb}{Q:Xb->Xe->Prop}(ht:zec s.heap t vs.toArray)(hb:zec s.heap b ws.toArray)(hv:vs≠[])
  (h1:ws=[]->Q (.ref t) s) (h2:ws≠[]->Q (.ref s.heap.objs.size) { s with heap:=s.heap.push { cls:=.type "tuple", data:=.seq (vs++ws).toArray } })
  (hsz:vs.length+ws.length<=sizeLine):XB (XD prog w) A (Zs .Add (.ref t) (.ref b)) Q E s:=by
 obtain ⟨⟨cls,dd,data,sl⟩,ho,hc,n,hd⟩:=id ht
 obtain ⟨⟨cls2,dd2,data2,sl2⟩,ho2,hc2,n2,hd2⟩:=id hb
 simp only at hc hd hc2 hd2
 subst hc hd hc2 hd2
 have e:vs.toArray++ws.toArray=(vs++ws).toArray:=by simp
 by_cases hw:ws=[]
 ·exact zcb ⟨_,ho,rfl⟩ ⟨_,ho2,rfl⟩ zbT zc8 zaw zam (Z6 _ _)
   (tuple_addW1 t b vs.toArray ws.toArray n n2 dd dd2 sl sl2 (by simpa using hv) (by simp[hw])) ⟨ho,ho2,h1 hw⟩
 ·refine zcb ⟨_,ho,rfl⟩ ⟨_,ho2,rfl⟩ zbT zc8 zaw zam (Z6 _ _)
   (tuple_addW2 t b vs.toArray ws.toArray n n2 dd dd2 sl sl2 (by simpa using hv) (by simpa using hw) (by rw[Xv,Xv];exact hsz)) ⟨ho,ho2,?_⟩
  rw[e]
  exact h2 hw
def sIx (n d:Nat):Option Int->Nat
 | none=>d
 | some v=>if v < 0 then (v+(n:Int)).toNat else min v.toNat n
theorem zZ (n d:Nat):sIx n d none=d:=rfl
theorem C8 (n d k:Nat):sIx n d (some (k:Int))=min k n:=by
 show (if (k:Int) < 0 then ((k:Int)+(n:Int)).toNat else min (k:Int).toNat n)=min k n
 rw[if_neg (by omega),zax]
theorem Qc (n d:Nat)(hd:d<=n)(o:Option Int):sIx n d o<=n:=by
 cases o with
 | none=>exact hd
 | some v=>
  show (if v < 0 then (v+(n:Int)).toNat else min v.toNat n)<=n
  by_cases hv:v < 0
  ·rw[if_pos hv];omega
  ·rw[if_neg hv];exact Nat.min_le_right _ _
theorem Dz (v:Int)(n d:Nat):(if v < 0 then max (v+(n:Int)) 0 else min v (n:Int))=((sIx n d (some v):Nat):Int):=by
 show (if v < 0 then max (v+(n:Int)) 0 else min v (n:Int))=(((if v < 0 then (v+(n:Int)).toNat else min v.toNat n):Nat):Int)
 by_cases hv:v < 0
 ·simp only[if_pos hv];omega
 ·simp only[if_neg hv];omega
theorem Ay (lo hi:Option Int)(n:Nat):Z1 lo hi 1 (n:Int)=(((sIx n 0 lo:Nat):Int),((sIx n n hi:Nat):Int)):=by
 have h1:¬ ((1:Int) < 0):=by omega
 unfold Z1
 simp only[h1,if_false]
 refine zbU ?_ ?_
 ·cases lo with
  | none=>rfl
  | some v=>exact Dz v n 0
 ·cases hi with
  | none=>rfl
  | some v=>exact Dz v n n
theorem AV (i j:Nat):Zb (i:Int) (j:Int) 1=j - i:=by
 unfold Zb
 have h1:(1:Int) > 0:=by omega
 simp only[h1,if_true,Int.ediv_one]
 split<;>omega
theorem sE {v:Xb}{o:Option Int}{Q:Option Int->Xe->Prop}(p:IsPart v o)(h:Q o s):XB (XD prog w) A (zel v) Q E s:=by
 cases p with
 | none=>exact slicePart_none h
 | int i t=>exact slicePart_int h
theorem iF {sl:Addr}{vl vu:Xb}{lo hi:Option Int}{n:Nat}{Q:Int×Int×Nat->Xe->Prop}(hs:s.heap.IsSliceOf sl vl vu .none)(pl:IsPart vl lo)(pu:IsPart vu hi)
  (h:Q (((sIx n 0 lo:Nat):Int),1,sIx n n hi - sIx n 0 lo) s):XB (XD prog w) A (zbn (.ref sl) (pure (n:Int))) Q E s:=by
 obtain ⟨os,hos,hcs,hds⟩:=id hs
 unfold zbn zeQ
 refine W8 (W8 (X6 hos hds (x:=vl) rfl (W8 (X6 hos hds (x:=vu) rfl (W8 (X6 hos hds (x:=.none) rfl (Xj ?_)))))))
 refine W8 (slicePart_none ?_)
 show XB _ _ (if ((1:Int) == 0)=true then _ else _) _ _ s
 rw[if_neg (by decide)]
 refine W8 (sE pl (W8 (sE pu (W8 (Xj ?_)))))
 show XB _ _ (match Z1 lo hi 1 (n:Int) with | (lo,hi)=>pure (lo,(1:Int),Zb lo hi 1)) _ _ s
 rw[Ay lo hi n]
 show XB _ _ (pure (((sIx n 0 lo:Nat):Int),(1:Int),Zb ((sIx n 0 lo:Nat):Int) ((sIx n n hi:Nat):Int) 1)) _ _ s
 rw[AV]
 exact Xj h
theorem Jq (xs:Array Xb)(i k:Nat):((XJ k).filterMap λ(m:Nat)=>xs[((i:Int)+(m:Int)*1).toNat]?).toArray=((xs.toList.drop i).take k).toArray:=by
 have e:(λ(m:Nat)=>xs[((i:Int)+(m:Int)*1).toNat]?)=λm=>xs[i+m]?:=by
  funext m
  have:((i:Int)+(m:Int)*1).toNat=i+m:=by omega
  rw[this]
 rw[e]
 have:=pick_run xs i k
 rw[zbo] at this
 have e2:((λx=>xs[x]?) ∘ λx=>i+x)=λm=>xs[i+m]?:=rfl
 rw[e2] at this
 rw[this]
theorem lG {t sl:Addr}{items:Array Xb}{vl vu:Xb}{lo hi:Option Int}{Q:Xb->Xe->Prop}(ht:zec s.heap t items)(hs:s.heap.IsSliceOf sl vl vu .none)(pl:IsPart vl lo)(pu:IsPart vu hi)
  (hw:¬ (sIx items.size 0 lo=0/\sIx items.size items.size hi=items.size))
  (h:Q (.ref s.heap.objs.size) { s with heap:=s.heap.push { cls:=.type "tuple", data:=.seq ((items.toList.drop (sIx items.size 0 lo)).take (sIx items.size items.size hi - sIx items.size 0 lo)).toArray } })
  (hsz:items.size<=sizeLine):XB (XD prog w) A (zbc (.ref t) (.ref sl)) Q E s:=by
 have C1:sizeOk (.seq ((items.toList.drop (sIx items.size 0 lo)).take (sIx items.size items.size hi - sIx items.size 0 lo)).toArray):=by
  show ((items.toList.drop (sIx items.size 0 lo)).take (sIx items.size items.size hi - sIx items.size 0 lo)).toArray.size<=sizeLine
  rw[Xv,ZX,zaK,Z5]
  omega
 have hj:sIx items.size items.size hi<=items.size:=Qc _ _ (Xs _) hi
 obtain ⟨os,hos,hcs,hds⟩:=id hs
 have hTs:s.TypeIs (.ref sl) "slice" := ⟨os,hos,hcs⟩
 unfold zbc
 try with_reducible refine Zk ?_
 first | refine W8 (Xj ?_) | skip
 refine W8 (zdC ht.typeIs (by decide) ?_)
 refine W8 (Ye (name:=OF "__getitem__") ht.typeIs Yb
  (YF Yb ht.typeIs zc1 ?_ (zdp _ _)))
 show XB _ _ (zbp (.ref t) >>= _) _ _ s
 refine W8 (tupleItemsOf_ ht ?_)
 refine W8 (wpAny_typeOf hTs ?_)
 rw[if_pos (by decide)]
 refine W8 (iF hs pl pu ?_)
 have hno:¬ ((((sIx items.size 0 lo:Nat):Int) == 0&&(1:Int) == 1&&(sIx items.size items.size hi - sIx items.size 0 lo) == items.size)=true):=by
  intro q
  rw[XX,XX] at q
  have q1:((sIx items.size 0 lo:Nat):Int)=0:=eq_of_beq q.1.1
  have q2:sIx items.size items.size hi - sIx items.size 0 lo=items.size:=eq_of_beq q.2
  exact hw ⟨by omega,by omega⟩
 show XB _ _ (if (((sIx items.size 0 lo:Nat):Int) == 0&&(1:Int) == 1&&(sIx items.size items.size hi - sIx items.size 0 lo) == items.size)=true then _ else _) _ _ s
 rw[if_neg hno,Jq]
 first
  | exact W8 (m:=Yn _) (Yf (Xj ⟨_,rfl,Xj h⟩) C1)
  | exact W8 (m:=Yn _) (Yf (W8 (Xj (Xj ⟨_,rfl,Xj h⟩))) C1)
  | exact W8 (W8 (m:=Yn _) (Yf (Xj (Xj ⟨_,rfl,Xj h⟩)) C1))
  | exact W8 (W8 (m:=Yn _) (Yf (Xj ⟨_,rfl,Xj h⟩) C1))
end
end HT
namespace L2
open PySem PySem.Spec PyProof.Rows
abbrev TO:=St->Hp->(Option Int->Hp->Prop)->Prop
def PO (X:Cx)(e:Option XG)(t:TO):Prop:=
 ∀ (pins:List (Addr×Obj)) (s:Xe) (σ:St) (H:Hp) (Q:Option Int->Hp->Prop),Inv X pins σ H s->t σ H Q->
  XB (XD X.prog X.w) X.A (evalPart e X.env) (λu s'=>∃ o H',Inv X pins σ H' s'/\IsPart u o/\Q o H') X.xe s
def LR:TO:=λ_ H Q=>Q none H
def SX (t:TE):TO:=λσ H Q=>t σ H λx H1=>∃ i,x=.int i/\Q (some i) H1
theorem intsAre_of {ns:List Int}:∀ {us:List Xb},Vals (ns.map V.int) us->Z9 us ns:=by
 induction ns with
 | nil=>intro us r;rw[Zf] at r;cases r;exact .nil
 | cons n ns ih=>
  intro us r
  rw[Xh] at r
  cases r with
  | cons r1 r2=>
   obtain ⟨t,e⟩:=r1
   subst e
   exact .cons n t (ih r2)
section
variable {X:Cx} {e:XG} {te:TE} {lo hi:Option XG} {tl th:TO} {pos p2:Pos}
theorem My:PO X none LR:=by
 intro pins s σ H Q I h
 rw[evalPart_none]
 exact Xj ⟨none,H,I,.none,h⟩
theorem Na (h:PE X e te):PO X (some e) (SX te):=by
 intro pins s σ H Q I hw
 rw[evalPart_some]
 refine thn (h pins s σ H _ I hw) λu s1 ⟨x,H1,I1,r1,q1⟩=>?_
 obtain ⟨i,rfl,q⟩:=q1
 obtain ⟨t,rfl⟩:=r1
 exact ⟨some i,H1,I1,.int i t,q⟩
def SlR (X:Cx)(r:V->Option Int->Option Int->Hp->VK->Prop):Prop:=
 ∀ (pins:List (Addr×Obj)) (s:Xe) (σ:St) (H:Hp) (x:V) (v vl vu:Xb) (lo hi:Option Int) (sl:Addr) (Q:VK),Inv X pins σ H s->RelV x v->s.heap.IsSliceOf sl vl vu .none->IsPart vl lo->IsPart vu hi->r x lo hi H Q->
  ∃ T id,zez (.type T) "__getitem__" = pure (some (.builtin id))/\s.TypeIs v T/\XB (XD X.prog X.w) X.A (zbc v (.ref sl)) (EP X pins σ Q) X.xe s
theorem SlR.or {r r':V->Option Int->Option Int->Hp->VK->Prop}(h:SlR X r)(h':SlR X r'):SlR X (λx lo hi H Q=>r x lo hi H Q∨r' x lo hi H Q):=by
 intro pins s σ H x v vl vu lo hi sl Q I rx hs pl pu q
 rcases q with q | q
 ·exact h pins s σ H x v vl vu lo hi sl Q I rx hs pl pu q
 ·exact h' pins s σ H x v vl vu lo hi sl Q I rx hs pl pu q
def tSl (r:V->Option Int->Option Int->Hp->VK->Prop)(te:TE)(tl th:TO):TE:=λσ H Q=>te σ H λx H1=>tl σ H1 λl H2=>th σ H2 λu H3=>r x l u H3 Q
theorem yI {r:V->Option Int->Option Int->Hp->VK->Prop}(hr:SlR X r)(he:PE X e te)(hl:PO X lo tl)(hu:PO X hi th):PE X (.Subscript e (.Slice lo hi none p2) pos) (tSl r te tl th):=by
 intro pins s σ H Q I h
 refine zeA (thn (he pins s σ H _ I h) λv s1 ⟨x,H1,I1,r1,q1⟩=>?_)
 refine wpAny_Slice (thn (hl pins s1 σ H1 _ I1 q1) λvl s2 ⟨l,H2,I2,pl,q2⟩=>thn (hu pins s2 σ H2 _ I2 q2) λvu s3 ⟨u,H3,I3,pu,q3⟩=>?_)
 rw[evalPart_none]
 refine Xj ?_
 have I4:Inv X pins σ H3 { s3 with heap:=s3.heap.push { cls:=.type "slice", data:=.fields #[vl,vu,.none] } }:=I3.kept (t':=s3.toks) λb ob q=>Xa _ q
 obtain ⟨T,id,hT,ht,hg⟩:=hr pins { s3 with heap:=s3.heap.push { cls:=.type "slice", data:=.fields #[vl,vu,.none] } } σ H3 x v vl vu l u s3.heap.objs.size Q I4 r1 (zfb ..) pl pu q3
 show XB (XD X.prog X.w) X.A (zc9 e (.Slice lo hi none p2) v (.ref s3.heap.objs.size)) (EP X pins σ Q) X.xe { s3 with heap:=s3.heap.push { cls:=.type "slice", data:=.fields #[vl,vu,.none] } }
 exact tail_any (ops:=[.ref s3.heap.objs.size,v]) ht hT hg (by with_unfolding_all rfl)
def yM (xs:List V)(lo hi:Option Int):List V:=(xs.drop (HT.sIx xs.length 0 lo)).take (HT.sIx xs.length xs.length hi - HT.sIx xs.length 0 lo)
theorem oB (xs:List V)(lo hi:Option Int):(yM xs lo hi).length<=xs.length:=by
 unfold yM
 rw[ZX,zaK]
 omega
def W2 (K:W7):V->Option Int->Option Int->Hp->VK->Prop:=λx lo hi H Q=>∃ a xs,x=.ref a/\SqT K H a xs/\
 ¬ (HT.sIx xs.length 0 lo=0/\HT.sIx xs.length xs.length hi=xs.length)/\∀ p,H p=none->Q (.ref p) (upd H p (.tup (yM xs lo hi)))
theorem II:SlR X (W2 X.K):=by
 intro pins s σ H x v vl vu lo hi sl Q I rx hs pl pu h
 obtain ⟨a,xs,rfl,hx,hw,q⟩:=h
 cases rx
 obtain ⟨its,r,ht,hz⟩:=I.tuple hx
 have hlen:its.toArray.size=xs.length:=by rw[Xv];exact r.length.symm
 refine ⟨"tuple", _,Yb.lookup,ht.typeIs,?_⟩
 refine HT.lG ht hs pl pu (by rw[hlen];exact hw) ?_ (by rw[hlen];exact hz)
 rw[hlen]
 refine ⟨.ref s.heap.objs.size,_,I.laid (t':=s.toks) (o:=.tup (yM xs lo hi)) (λb ob q=>Xa _ q) (Xs _) ?_,rfl,q _ (I.hok.fresh (Xs _))⟩
 exact ⟨XZ (oB xs lo hi) hz,_,(r.drop (HT.sIx xs.length 0 lo)).take (HT.sIx xs.length xs.length hi - HT.sIx xs.length 0 lo),vf.new _ _⟩
def OG (K:W7):R2:=λx y H Q=>∃ a b xs ys,x=.ref a/\y=.ref b/\SqT K H a xs/\SqT K H b ys/\xs≠[]/\xs.length+ys.length<=sizeLine/\
 (ys=[]->Q (.ref a) H)/\(ys≠[]->∀ p,H p=none->Q (.ref p) (upd H p (.tup (xs++ys))))
theorem Vals.wQ {xs:List V}{us:List Xb}(r:Vals xs us):us=[]↔xs=[]:=by
 cases r with
 | nil=>simp
 | cons _ _=>simp
theorem MD:OpR X (Zs .Add) (OG X.K):=by
 intro pins s σ H x y v u Q I rx ry h
 obtain ⟨a,b,xs,ys,rfl,rfl,ha,hb,hx,hz,q1,q2⟩:=h
 cases rx
 cases ry
 obtain ⟨its,r1,p1,_⟩:=I.tuple ha
 obtain ⟨its2,r2,p2,_⟩:=I.tuple hb
 refine HT.Nr p1 p2 (λz=>hx (r1.wQ.mp z)) (λz=>⟨.ref a,H,I,rfl,q1 (r2.wQ.mp z)⟩) (λz=>?_) (by rw[← r1.length,← r2.length];exact hz)
 refine ⟨.ref s.heap.objs.size,_,I.laid (t':=s.toks) (o:=.tup (xs++ys)) (λb ob q=>Xa _ q) (Xs _) ?_,rfl,q2 (λw=>z (r2.wQ.mpr w)) _ (I.hok.fresh (Xs _))⟩
 exact ⟨by rw[Xi];exact hz,_,r1.append r2,vf.new _ _⟩
end
end L2
namespace L2
open PySem PySem.Spec PyProof.Rows
def ixN (n:Nat)(i:Int):Option Nat:=if 0<=i then (if i < n then some i.toNat else none) else if -(n:Int)<=i then some (i+n).toNat else none
def atI {α:Type}(xs:List α)(i:Int):Option α:=(ixN xs.length i).bind λj=>xs[j]?
theorem LX {n:Nat}{i:Int}{j:Nat}(h:ixN n i=some j):zcX i n=some j/\j < n/\-(n:Int)<=i/\i < n:=by
 unfold ixN at h
 by_cases h0:0<=i
 ·rw[if_pos h0] at h
  by_cases h1:i < n
  ·rw[if_pos h1] at h
   have e:i.toNat=j:=XY h
   exact ⟨by rw[seqIndex_of h0 h1,e],by omega,by omega,h1⟩
  ·rw[if_neg h1] at h;cases h
 ·rw[if_neg h0] at h
  by_cases h1:-(n:Int)<=i
  ·rw[if_pos h1] at h
   have e:(i+n).toNat=j:=XY h
   exact ⟨by rw[seqIndex_neg (by omega) h1,e],by omega,h1,by omega⟩
  ·rw[if_neg h1] at h;cases h
theorem vK {α:Type}{xs:List α}{i:Int}{v:α}(h:atI xs i=some v):∃ j,zcX i xs.length=some j/\xs[j]? = some v/\j < xs.length/\-(xs.length:Int)<=i/\i < xs.length:=by
 unfold atI at h
 cases e:ixN xs.length i with
 | none=>rw[e] at h;cases h
 | some j=>
  rw[e] at h
  obtain ⟨h1,h2,h3,h4⟩:=LX e
  exact ⟨j,h1,h,h2,h3,h4⟩
def CO (b:XG):Prop:=∀ o i,zcJ b false o i=operate [o,i] (zbc o i)
def IxR (X:Cx)(r:R2):Prop:=
 ∀ (value slice:XG) (pins:List (Addr×Obj)) (s:Xe) (σ:St) (H:Hp) (x y:V) (v u:Xb) (Q:VK),Inv X pins σ H s->RelV x v->RelV y u->r x y H Q->
  zcJ slice false v u=operate [v,u] (zbc v u)->XB (XD X.prog X.w) X.A (zc9 value slice v u) (EP X pins σ Q) X.xe s
def MtR (X:Cx)(id:String)(r:V->List V->Hp->VK->Prop):Prop:=
 ∀ (pins:List (Addr×Obj)) (s:Xe) (σ:St) (H:Hp) (x:V) (xs:List V) (v:Xb) (us:List Xb) (Q:VK),Inv X pins σ H s->RelV x v->Vals xs us->r x xs H Q->
  XB (XD X.prog X.w) X.A (zcG (.builtin id) (v::us)) (EP X pins σ Q) X.xe s
section
variable {X:Cx} {a b:XG} {ta tb:TE} {pos:Pos}
theorem IxR.or {r r':R2}(h:IxR X r)(h':IxR X r'):IxR X (λx y H Q=>r x y H Q∨r' x y H Q):=by
 intro value slice pins s σ H x y v u Q I rx ry q hs
 rcases q with q | q
 ·exact h value slice pins s σ H x y v u Q I rx ry q hs
 ·exact h' value slice pins s σ H x y v u Q I rx ry q hs
theorem Tf {r:R2}(hr:IxR X r)(ha:PE X a ta)(hb:PE X b tb)(hs:CO b):PE X (.Subscript a b pos) (tOp r ta tb):=by
 intro pins s σ H Q I h
 exact zeA (QX ha hb I h λv u s2 x y H2 I2 rx ry q=>hr a b pins s2 σ H2 x y v u Q I2 rx ry q (hs _ _))
def T8 (K:W7):R2:=λx y H Q=>∃ p xs i v,x=.ref p/\y=.int i/\SqL K H p xs/\atI xs i=some v/\Q v H
def Tn (K:W7):R2:=λx y H Q=>∃ p xs i v,x=.ref p/\y=.int i/\SqT K H p xs/\atI xs i=some v/\Q v H
def Vp:R2:=λx y H Q=>∃ z i c,x=.str z/\y=.int i/\z.length<=sizeLine/\atI z.cps.toList i=some c/\Q (.str ⟨#[c]⟩) H
theorem Mw:IxR X (T8 X.K):=by
 intro value slice pins s σ H x y v u Q I rx ry h hs
 obtain ⟨p,xs,i,z,rfl,rfl,hq,he,q⟩:=h
 cases rx
 obtain ⟨t,rfl⟩:=ry
 obtain ⟨its,r,pl,hz⟩:=I.list hq
 obtain ⟨j,h1,h2,h3,h4,h5⟩:=vK he
 obtain ⟨w,ew,rw'⟩:=r.get h2
 have hl:=r.length
 have hn:=sH
 have fin:EP X pins σ Q w s:=⟨z,H,I,rw',q⟩
 by_cases h0:0<=i
 ·have hj:i.toNat=j:=by
   rw[seqIndex_of h0 h5] at h1
   exact XY h1
  exact item_listR pl.isList h0 (by omega) (by rw[hj];simpa using ew) fin hs
 ·have hj:(i+(its.toArray.size:Int)).toNat=j:=by
   rw[seqIndex_neg (by omega) h4] at h1
   rw[Xv,← hl]
   exact XY h1
  exact zcc (x:=w) pl.isList.typeIs zdD.lookup
   (wpAny_getItem_list_neg (Q:=λr s'=>r=w/\EP X pins σ Q r s') pl.isList (by omega) (by rw[Xv]<;>omega) (by omega) (by rw[hj];simpa using ew) ⟨rfl,fin⟩) hs
theorem QK:IxR X (Tn X.K):=by
 intro value slice pins s σ H x y v u Q I rx ry h hs
 obtain ⟨p,xs,i,z,rfl,rfl,hq,he,q⟩:=h
 cases rx
 obtain ⟨t,rfl⟩:=ry
 obtain ⟨its,r,pl,hz⟩:=I.tuple hq
 obtain ⟨j,h1,h2,h3,h4,h5⟩:=vK he
 obtain ⟨w,ew,rw'⟩:=r.get h2
 have hl:=r.length
 have hn:=sH
 have fin:EP X pins σ Q w s:=⟨z,H,I,rw',q⟩
 exact zcc (x:=w) pl.typeIs slot_tuple_getitem.lookup
  (getItem_tuple (j:=j) (Q:=λr s'=>r=w/\EP X pins σ Q r s') pl (by omega) (by omega) (by rw[Xv,← hl];exact h1) (by simpa using ew) ⟨rfl,fin⟩) hs
theorem SI:IxR X Vp:=by
 intro value slice pins s σ H x y v u Q I rx ry h hs
 obtain ⟨z,i,c,rfl,rfl,hz,he,q⟩:=h
 obtain ⟨t,rfl⟩:=rx
 obtain ⟨t',rfl⟩:=ry
 obtain ⟨j,h1,h2,h3,h4,h5⟩:=vK he
 have hl:z.cps.toList.length=z.length:=by simp[Str.length]
 rw[hl] at h1 h4 h5
 have hn:=sH
 exact tail_any (typeIs_str s z t) slot_str_getitem.lookup (getItem_str (c:=c) (by
  have e1:decide (i < -(2 ^ 63:Int))=false:=decide_eq_false (by omega)
  have e2:decide (i ≥ 2 ^ 63)=false:=decide_eq_false (by omega)
  rw[e1,e2,zeR]) (by rw[h1];simpa using h2) ⟨.str ⟨#[c]⟩,H,I.tok _,⟨_,rfl⟩,q⟩) hs
def rIx (K:W7):R2:=λx y H Q=>T8 K x y H Q∨Tn K x y H Q∨Vp x y H Q
theorem Ql:IxR X (rIx X.K):=Mw.or (QK.or SI)
theorem Inv.lst {pins:List (Addr×Obj)}{σ:St}{H:Hp}{s:Xe}{p:Addr}{xs:List V}(I:Inv X pins σ H s)(h:H p=some (.lst xs)) :
  ∃ (its:List Xb) (n:Nat),Vals xs its/\s.heap.get? p=some { cls:=.type "list", data:=.seq its.toArray n }/\xs.length<=sizeLine:=by
 obtain ⟨z,its,n,r,e⟩:=I.hok p _ h
 exact ⟨its,n,r,e,z⟩
theorem vj (lo hi:Option Int)(n:Nat):(zan lo hi none n).1=((HT.sIx n 0 lo:Nat):Int)/\(zan lo hi none n).2.1=((HT.sIx n n hi:Nat):Int)/\(zan lo hi none n).2.2=1:=by
 refine ⟨?_,?_,rfl⟩
 ·cases lo with
  | none=>simp[zan,HT.sIx]
  | some i=>
   simp only[zan,HT.sIx,zd3,show (1:Int) > 0 by decide,if_true]
   by_cases h:i < 0
   ·simp only[h,if_true]<;>omega
   ·simp only[h,if_false]<;>omega
 ·cases hi with
  | none=>simp[zan,HT.sIx]
  | some i=>
   simp only[zan,HT.sIx,zd3,show (1:Int) > 0 by decide,if_true]
   by_cases h:i < 0
   ·simp only[h,if_true]<;>omega
   ·simp only[h,if_false]<;>omega
theorem tO (its:List Xb)(lo hi:Option Int):slicePick its.toArray lo hi none=((its.drop (HT.sIx its.length 0 lo)).take (HT.sIx its.length its.length hi - HT.sIx its.length 0 lo)).toArray:=by
 obtain ⟨h1,h2,h3⟩:=vj lo hi its.toArray.size
 unfold slicePick
 rw[h1,h2,h3]
 simp only[sliceRange_one,pick_run,Xv]<;>rfl
def WT (K:W7):V->Option Int->Option Int->Hp->VK->Prop:=λx lo hi H Q=>∃ a xs,x=.ref a/\SqL K H a xs/\∀ p,H p=none->Q (.ref p) (upd H p (.lst (yM xs lo hi)))
theorem M4:SlR X (WT X.K):=by
 intro pins s σ H x v vl vu lo hi sl Q I rx hs pl pu h
 obtain ⟨a,xs,rfl,hx,q⟩:=h
 cases rx
 obtain ⟨its,r,ht,hz⟩:=I.list hx
 have hlen:=r.length
 refine ⟨"list", _,zdD.lookup,ht.isList.typeIs,?_⟩
 refine wpAny_getItem_list_slice ht.isList hs pl pu .none (by simp) ?_ (by rw[Xv]<;>omega)
 rw[tO,← hlen]
 refine ⟨.ref s.heap.objs.size,_,I.laid (t':=s.toks) (o:=.lst (yM xs lo hi)) (λb ob q=>Xa _ q) (Xs _) ?_,rfl,q _ (I.hok.fresh (Xs _))⟩
 exact ⟨XZ (oB xs lo hi) hz,_,0,(r.drop (HT.sIx xs.length 0 lo)).take (HT.sIx xs.length xs.length hi - HT.sIx xs.length 0 lo),Xu _ rfl⟩
def Ox:V->Bool
 | .non=>true
 | .bl _=>true
 | .int _=>true
 | .str _=>true
 | _=>false
def eqV:V->V->Bool
 | .non,.non=>true
 | .bl a,.bl b=>a == b
 | .bl a,.int b=>(if a then 1 else 0) == b
 | .int a,.bl b=>a == (if b then 1 else 0)
 | .int a,.int b=>a == b
 | .str a,.str b=>a == b
 | _,_=>false
def inV (x:V)(xs:List V):Bool:=xs.any λy=>eqV y x
def rIn (K:W7)(neg:Bool):R2:=λx y H Q=>∃ p xs,y=.ref p/\(SqL K H p xs∨SqT K H p xs)/\Ox x=true/\xs.all Ox=true/\Q (.bl (if neg then !inV x xs else inV x xs)) H
theorem vy:b6 X (.builtin "len") (λxs H Q=>∃ p ys,xs=[.ref p]/\(SqL X.K H p ys∨SqT X.K H p ys)/\Q (.int ys.length) H):=by
 intro pins s σ H xs us Q I r h
 obtain ⟨p,ys,rfl,hq,q⟩:=h
 obtain ⟨u,rfl,rx⟩:=vals1 r
 cases rx
 have hn:=sH
 rcases hq with hq | hq
 ·obtain ⟨its,r',pl,hz⟩:=I.list hq
  have hlen:=r'.length
  exact Calls.call_len_list pl.isList (by simp only[Xv]<;>omega) ⟨.int ys.length,H,I.tok _,⟨s.toks+1,by rw[Xv,hlen]⟩,q⟩
 ·obtain ⟨its,r',pl,hz⟩:=I.tuple hq
  have hlen:=r'.length
  exact len_tuple pl (by simp only[Xv]<;>omega) ⟨.int ys.length,H,I.tok _,⟨s.toks+1,by rw[Xv,hlen]⟩,q⟩
theorem vh:b6 X (.builtin "len") (λxs H Q=>∃ z,xs=[.str z]/\z.length<=sizeLine/\Q (.int z.length) H):=by
 intro pins s σ H xs us Q I r h
 obtain ⟨z,rfl,hz,q⟩:=h
 obtain ⟨u,rfl,t,rfl⟩:=vals1 r
 have hn:=sH
 exact len_str (by omega) ⟨.int z.length,H,I.tok _,⟨_,rfl⟩,q⟩
theorem b6.or {f:Xb}{r r':List V->Hp->VK->Prop}(h:b6 X f r)(h':b6 X f r'):b6 X f (λxs H Q=>r xs H Q∨r' xs H Q):=by
 intro pins s σ H xs us Q I rs q
 rcases q with q | q
 ·exact h pins s σ H xs us Q I rs q
 ·exact h' pins s σ H xs us Q I rs q
theorem i7:b6 X (.type "list") (λxs H Q=>∃ p ys,xs=[.ref p]/\(SqL X.K H p ys∨SqT X.K H p ys)/\∀ l,H l=none->Q (.ref l) (upd H l (.lst ys))):=by
 intro pins s σ H xs us Q I r h
 obtain ⟨p,ys,rfl,hq,q⟩:=h
 obtain ⟨u,rfl,rx⟩:=vals1 r
 cases rx
 have fin:∀ (its:List Xb),Vals ys its->ys.length<=sizeLine->∀ (h':Heap) (c':Nat),(∀ b o',s.heap.get? b=some o'->h'.get? b=some o')->
   h'.get? s.heap.objs.size=some { cls:=.type "list", dict:=none,data:=.seq its.toArray c',slots:=#[] }->EP X pins σ Q (.ref s.heap.objs.size) { s with heap:=h' }:=λits r' hz h' c' kp e=>
  ⟨.ref s.heap.objs.size,_,I.laid (t':=s.toks) kp (Xs _) (show df X.prog X.w _ h' _ (.lst ys) from ⟨hz,its,c',r',e⟩),rfl,q _ (I.hok.fresh (Xs _))⟩
 rcases hq with hq | hq
 ·obtain ⟨its,r',pl,hz⟩:=I.list hq
  have hlen:=r'.length
  obtain ⟨o,ho,hc,n,hd⟩:=pl.isList
  exact call_list_seq p (.inl rfl) ho hc hd (λh' c' kp e=>fin its r' hz h' c' kp e) (by simp only[Xv]<;>omega)
 ·obtain ⟨its,r',pl,hz⟩:=I.tuple hq
  have hlen:=r'.length
  obtain ⟨o,ho,hc,n,hd⟩:=pl
  exact call_list_seq p (.inr rfl) ho hc hd (λh' c' kp e=>fin its r' hz h' c' kp e) (by simp only[Xv]<;>omega)
theorem aL:b6 X (.type "tuple") (λxs H Q=>∃ p ys,xs=[.ref p]/\((SqL X.K H p ys/\∀ l,H l=none->Q (.ref l) (upd H l (.tup ys)))∨(SqT X.K H p ys/\Q (.ref p) H))):=by
 intro pins s σ H xs us Q I r h
 obtain ⟨p,ys,rfl,h⟩:=h
 obtain ⟨u,rfl,rx⟩:=vals1 r
 cases rx
 rcases h with ⟨hq,q⟩ | ⟨hq,q⟩
 ·obtain ⟨its,r',pl,hz⟩:=I.list hq
  have hlen:=r'.length
  refine call_tuple_list pl.isList (λh' kp=>?_) (by simp only[Xv]<;>omega)
  have I1:Inv X pins σ H { s with heap:=h' }:=I.kept (t':=s.toks) kp
  have I2:Inv X pins σ (upd H h'.objs.size (.tup ys)) { s with heap:=h'.push { cls:=.type "tuple", data:=.seq its.toArray } }:=
   I1.laid (t':=s.toks) (λb o e=>Xa _ e) (Xs _) (show df X.prog X.w _ _ _ (.tup ys) from ⟨hz,its,r',vf.new _ _⟩)
  exact ⟨.ref h'.objs.size,_,I2,rfl,q _ (I1.hok.fresh (Xs _))⟩
 ·obtain ⟨its,r',pl,hz⟩:=I.tuple hq
  exact call_tuple_same pl ⟨.ref p,H,I,rfl,q⟩
def tyV (K:W7)(T:String)(x:V)(H:Hp):Prop:=match x with
 | .str _=>T = "str"
 | .int _=>T = "int"
 | .ref p=>(T = "list" /\ ∃ xs,SqL K H p xs)∨(T = "tuple" /\ ∃ o,K.lookup p=some o/\o.cls=.type "tuple" /\ o.dict=none)∨
   (T = "dict" /\ ((∃ kvs,H p=some (.dK kvs))∨∃ kvs,H p=some (.dT kvs)))∨(T = "set" /\ ∃ S n,H p=some (.set S n))
 | _=>False
theorem PH {pins:List (Addr×Obj)}{σ:St}{H:Hp}{s:Xe}{T:String}{x:V}{v:Xb}(I:Inv X pins σ H s)(r:RelV x v)(ty:tyV X.K T x H) :
  s.TypeIs v T/\∀ a,v=.ref a->∃ ob,s.heap.get? a=some ob/\ob.dict=none:=by
 cases x with
 | str z=>
  obtain ⟨t,rfl⟩:=r
  cases (show T = "str" from ty)
  exact ⟨typeIs_str s z t,λ_ e=>nomatch e⟩
 | int i=>
  obtain ⟨t,rfl⟩:=r
  cases (show T = "int" from ty)
  exact ⟨typeIs_int s i t,λ_ e=>nomatch e⟩
 | ref p=>
  cases r
  rcases ty with ⟨rfl,xs,hq⟩ | ⟨rfl,o,hk,hc,hd⟩ | ⟨rfl,hk⟩ | ⟨rfl,S,n,hk⟩
  ·obtain ⟨its,_,pl,_⟩:=I.list hq
   refine ⟨pl.isList.typeIs,λa e=>?_⟩
   cases e
   obtain ⟨o,n,e,c,hd,_⟩:=pl
   exact ⟨o,e,hd⟩
  ·refine ⟨⟨o,I.kIn p o hk,hc⟩,λa e=>?_⟩
   cases e
   exact ⟨o,I.kIn _ o hk,hd⟩
  ·have z:∃ o,s.heap.get? p=some o/\o.ExactDict:=by
    rcases hk with ⟨kvs,hk⟩ | ⟨kvs,hk⟩
    ·obtain ⟨_,_,_,_,o,_,_,e,ex,_⟩:=I.hok p _ hk
     exact ⟨o,e,ex⟩
    ·obtain ⟨_,_,_,_,o,_,_,e,ex,_⟩:=I.hok p _ hk
     exact ⟨o,e,ex⟩
   obtain ⟨o,e,ex⟩:=z
   refine ⟨⟨o,e,ex.1⟩,λa e2=>?_⟩
   cases e2
   exact ⟨o,e,ex.2.1⟩
  ·obtain ⟨o,_,_,_,e,ex,_⟩:=I.hok p _ hk
   refine ⟨⟨o,e,ex.1⟩,λa e2=>?_⟩
   cases e2
   exact ⟨o,e,ex.2.1⟩
 | _=>exact Xf ty
def tBM (K:W7)(T:String)(r:V->List V->Hp->VK->Prop)(to:TE)(t:TA):TE:=λσ H Q=>to σ H λx H1=>tyV K T x H1/\t σ H1 λxs H2=>r x xs H2 Q
variable {o e:XG} {es:List XG} {to:TE} {t:TA} {name:Str} {apos cpos:Pos} {T id:String} {r:V->List V->Hp->VK->Prop}
theorem C0 (pa:PlainAttrs T)(slot:Slot T name id)(hty:typeOf (.builtin id)=pure (.type "method_descriptor"))(hm:MtR X id r)(ho:PE X o to)(ha:PA X (e::es) t)
  (hbase:Z7 o name X.env (Yl o X.env)=Yl o X.env:=by rfl)
  (hfew:((YA cpos (Xp (e::es) X.env)).all (λx=>!x.1)&&(zbl cpos (ZM [] X.env)).all (λx=>x.1.isSome)
   && decide ((e::es).length+([]:List ZW).length+(if ([]:List ZW).isEmpty then 0 else 1) < 30))=true:=by rfl)
  (hline:(apos.endLine == cpos.line)=true:=by rfl) (hs:Xp (e::es) X.env=(false,Yl e X.env)::Xp es X.env:=by rfl) (hplain:(YA cpos (Xp es X.env)).any (·.1)=false:=by rfl) :
  PE X (.Call (.Attribute o name apos) (e::es) [] cpos) (tBM X.K T r to t):=by
 intro pins s σ H Q I h
 refine wpAny_Call_method_late hbase hfew hline rfl (thn (ho pins s σ H _ I h) λv s1 ⟨x,H1,I1,r1,ty,q1⟩=>?_)
 obtain ⟨h1,h2⟩:=PH I1 r1 ty
 refine ⟨T,id,pa,slot,hty,h1,h2,?_⟩
 have hA:=ha cpos pins s1 σ H1 _ I1 q1
 rw[hs] at hA ⊢
 refine zcd (by show (false || (YA cpos (Xp es X.env)).any (·.1))=false;rw[hplain]<;>rfl) (zcK ?_)
 exact thn hA λus s2 ⟨vs,H2,I2,r2,q2⟩=>hm pins s2 σ H2 x vs v us Q I2 r1 r2 q2
end
end L2
namespace L2
open PySem PySem.Spec PyProof.Rows
def MtM (X:Cx)(id:String)(r:V->List V->Hp->VK->Prop):Prop:=
 ∀ (pins:List (Addr×Obj)) (s:Xe) (σ:St) (H:Hp) (x:V) (xs:List V) (v:Xb) (us:List Xb) (Q:VK),Inv X pins σ H s->RelV x v->Vals xs us->r x xs H Q->
  XB (XD X.prog X.w) X.A (zcG (.builtin id) (v::us)) (EP X pins σ Q) X.xe s
theorem Vals.one:∀ {x:V} {us:List Xb},Vals [x] us->∃ u,us=[u]/\RelV x u
 | _,_,.cons r .nil=>⟨_,rfl,r⟩
theorem Vals.zero:∀ {us:List Xb},Vals [] us->us=[]
 | _,.nil=>rfl
theorem Vals.eraseIdx:∀ {xs:List V} {us:List Xb} (i:Nat),Vals xs us->Vals (xs.eraseIdx i) (us.eraseIdx i)
 | _,_,_,.nil=>.nil
 | _,_,0,.cons _ t=>t
 | _,_,i+1,.cons r t=>.cons r (Vals.eraseIdx i t)
theorem ur {α:Type}:∀ (l:List α) (i:Nat),(l.eraseIdx i).length<=l.length
 | [],_=>Xs _
 | _::_,0=>zaT _
 | _::r,i+1=>zbV (ur r i)
section
variable {X:Cx} {pins:List (Addr×Obj)} {σ:St} {H:Hp} {s:Xe} {l b:Addr} {xs ys zs:List V}
theorem Inv.Nh {its its':List Xb}{n:Nat}{f:Array Xb->Array Xb}{t':Nat}(I:Inv X pins σ H s)(hH:H l=some (.lst xs))
  (e:s.heap.get? l=some { cls:=.type "list", data:=.seq its.toArray n }) (hf:f its.toArray=its'.toArray) (hv:Vals ys its') (hz:ys.length<=sizeLine) :
  Inv X pins σ (upd H l (.lst ys)) { s with heap:=s.heap.update l (zce f),toks:=t' }:=by
 have q:=PySem.IsL.update e f
 rw[hf] at q
 refine I.write (x:=l) (e:=l) (by rw[hH];exact trivial) (.inl rfl) (λb' u hb hu=>(Yj s.heap (zce f) (XQ hb)).trans hu) ⟨_,q⟩ ?_
 exact ⟨hz,its',_,hv,q⟩
theorem Inv.VI {its:List Xb}{t':Nat}(I:Inv X pins σ H s)(hv:Vals ys its)(hz:ys.length<=sizeLine) :
  Inv X pins σ (upd H s.heap.objs.size (.lst ys)) { s with heap:=s.heap.push { cls:=.type "list", data:=.seq its.toArray },toks:=t' }:=
 I.laid (λ_ _ q=>Xa _ q) (Xs _) ⟨hz,its,0,hv,Xu _ rfl⟩
theorem Inv.fresh (I:Inv X pins σ H s):H s.heap.objs.size=none:=I.hok.fresh (Xs _)
theorem Inv.KY (I:Inv X pins σ H s)(hH:H l=some (.lst xs)):xs.length<=sizeLine/\∃ (its:List Xb) (n:Nat),Vals xs its/\xs.length=its.length/\s.heap.get? l=some { cls:=.type "list", data:=.seq its.toArray n }:=by
 obtain ⟨z,its,n,r,e⟩:=I.hok l _ hH
 exact ⟨z,its,n,r,r.length,e⟩
theorem yi {n:Nat}(h:n<=sizeLine):YB n=false:=by
 unfold YB
 exact decide_eq_false (by omega)
end
section
variable {X:Cx}
def K2:V->List V->Hp->VK->Prop:=λx vs H Q=>∃ l xs y,x=.ref l/\vs=[y]/\H l=some (.lst xs)/\xs.length < sizeLine/\Q .non (upd H l (.lst (xs++[y])))
theorem uM:MtM X "list.append" K2:=by
 intro pins s σ H x vs v us Q I rx rv h
 obtain ⟨l,xs,y,rfl,rfl,hH,hz,q⟩:=h
 cases rx
 obtain ⟨u,rfl,ru⟩:=rv.one
 obtain ⟨z,its,n,r,hl,e⟩:=I.KY hH
 refine zbq F.slot_list_append ⟨_,e,rfl⟩ F.entry_list_append (F.args_list_append_2 _ _) (PySem.list_append l its.toArray n u (by rw[Xv];omega)) ⟨e,?_⟩
 refine ⟨.non,_,I.Nh (its':=its++[u]) hH e (by simp) (r.append (.cons ru .nil)) ?_,rfl,q⟩
 rw[Xi,List.length_singleton]
 omega
def RX:V->List V->Hp->VK->Prop:=λx vs H Q=>∃ l xs i k y,x=.ref l/\vs=[.int i]/\H l=some (.lst xs)/\-(2 ^ 63)<=i/\i < 2 ^ 63/\zcX i xs.length=some k/\xs[k]? = some y/\Q y (upd H l (.lst (xs.eraseIdx k)))
theorem Kx:MtM X "list.pop" RX:=by
 intro pins s σ H x vs v us Q I rx rv h
 obtain ⟨l,xs,i,k,y,rfl,rfl,hH,h1,h2,hk,hy,q⟩:=h
 cases rx
 obtain ⟨u,rfl,ru⟩:=rv.one
 obtain ⟨t,rfl⟩:=ru
 obtain ⟨z,its,n,r,hl,e⟩:=I.KY hH
 obtain ⟨w,hw,rw'⟩:=r.get hy
 refine zbq F.slot_list_pop ⟨_,e,rfl⟩ F.entry_list_pop (F.args_list_pop_2 _ _)
  (MeetsSeq.list_pop_at l its.toArray n i t k w (fitsIndex_both h1 h2) (by rw[Xv,← hl];exact hk) (by rw[← Array.getElem?_toList];exact hw) (by rw[Xv];omega)) ⟨e,?_⟩
 refine ⟨y,_,I.Nh (its':=its.eraseIdx k) hH e ?_ (r.eraseIdx k) ?_,rw',q⟩
 ·show its.toArray.eraseIdxIfInBounds k=(its.eraseIdx k).toArray
  rw[List.eraseIdxIfInBounds_toArray]
 ·have:=ur xs k
  omega
end
section
variable {prog:XO} {w:X2} {A:Yh} {E:Xb->Xe->Prop} {s:Xe}
end
section
variable {X:Cx}
end
end L2
namespace Att
open PySem PySem.W PySem.Calls PyProof.Rows
theorem oT {P:zeB}{h:Heap}:∀ (ns:List Int) (vs:List Xb),WellAll P h vs (ns.map WData.int)->Z9 vs ns:=by
 intro ns
 induction ns with
 | nil=>
  intro vs w
  rw[Zf] at w
  cases w
  exact .nil
 | cons n ns ih=>
  intro vs w
  rw[Xh] at w
  cases w with
  | cons a b=>
   cases a
   exact .cons _ _ (ih _ b)
theorem Ej {l:OpenLaw}{n:Nat}(hn:l.most=some n){P:zeB}{h:Heap}{args:List WData}{vals:List Xb}
  (hpre:l.row.toRowW.claim.pre args=true) (hwl:WellAll P h vals args) :
  ∃ a vs ns,vals=[XT a]/\args=[WData.list (ns.map WData.int)]/\h.get? a=some { cls:=.type "list", data:=.seq vs.toArray }/\Z9 vs ns/\ns.length<=n:=by
 have hsh:WShape.hasAll [] args [.list .int]=true:=(pre_splitW hpre).1
 have hc:l.pre.holds [] { args:=args }=true:=(pre_splitW hpre).2
 obtain ⟨d,r,rfl,h1,h2⟩:=hasAllW_cons hsh
 obtain rfl:=hasAllW_nil h2
 obtain ⟨xs,rfl,h3⟩:=hasW_list h1
 obtain ⟨ns,rfl⟩:=items_int h3
 have hlen:ns.length<=n:=by
  unfold OpenLaw.pre at hc
  have h4:(WTm.not (.lt (.lit (.int (n:Int))) (.len (.arg 0)))).holds [] { args:=[.list (ns.map .int)] }=true:=by
   have h4:=(holds_andW hc).1
   rw[hn] at h4
   exact h4
  have h5:=condW_of h4 (w_not (w_lt w_lit (w_len_list (w_arg rfl))))
  rw[W9] at h5
  refine Nat.le_of_not_lt λq=>?_
  have q':(n:Int) < ((ns.length:Nat):Int):=by omega
  first
   | (rw[decide_eq_true q'] at h5;exact absurd h5 (by decide))
   | (simp at h5;omega)
 cases hwl with
 | cons w1 w2=>
  cases w2
  cases w1 with
  | list ho hall=>exact ⟨_,_,ns,rfl,rfl,ho,oT ns _ hall,hlen⟩
theorem EO (l:OpenLaw)(args:List WData):l.row.toRowW.claim.post args (.bool true) args=true:=
 postW_of (r:=l.row.toRowW) (X:=(true == true))
  (show zfc [] (.bool true) .bool=true by first | rfl | decide | simp[zfc,WShape.arms,WShape.armsAll])
  (show (WTm.eq .res (.lit (.bool true))).value [] { args:=args,res:=some (.bool true),after:=args }=some (.bool (true == true)) from w_eq_bool (w_res rfl) w_lit) rfl
theorem xM {l:OpenLaw}{n:Nat}{q:XO}{loose:List Str}{XP:(Str->Option Xb)->Heap->Prop}{YP:X2->Heap->Prop}{d:DefRec}
  (hn:l.most=some n) (hdf:d.params.defaults=[])
  (zcG:∀ (w:X2) (s₀ s₁:Xe) (mg mb:Str->Option Xb) (fa:Addr) (o:Obj) (pm cd doc:Xb) (a:Addr) (vs:List Xb) (ns:List Int),
   Ground q loose [] XP w s₀ mg mb s₁.heap->YP w s₁.heap->
   s₁.heap.get? fa=some o->o.data=.func (docDef d.name d.params d.body d.scope pm cd doc)->s₁.heap.CodeRec cd d.name->mg d.name=some (.ref fa)->
   s₁.heap.get? a=some { cls:=.type "list", data:=.seq vs.toArray }->Z9 vs ns->ns.length<=n->s₁.gens = #[]->
   ZK (XD l.prog w) zcf (.call (.ref fa) ⟨[.ref a],[]⟩) (λr s'=>r=.ok (.ret (.bool true))/\OldK s₁.heap s'.heap/\s'.os=s₁.os/\zbz s'.gens) s₁) :
  WalkO q loose XP YP l.row.toRowW d [] (λf vs=>zeC f vs):=by
 intro w s₀ s₁ mg mb G Y fa o pm cd doc dV kV ho hd hcd hD hmg hg args vals as hpre hlay hrd hwl hlo
 obtain rfl:dV=.none:=Dflts.none hD hdf
 obtain rfl:kV=.none:=Dflts.noKw hD
 obtain ⟨a,vs,ns,rfl,rfl,hobj,hints,hlen⟩:=Ej hn hpre hwl
 refine enter_call (zdB (zcG w s₀ s₁ mg mb fa o pm cd doc a vs ns G Y ho (fd_plain hd) hcd hmg hobj hints hlen hg) λr s' hq=>?_)
 obtain ⟨rfl,h2,h3,h4⟩:=hq
 exact ⟨.inl ⟨.bool true,.bool true,[],rfl,λ_=>rfl,.bool true,EO l _,λ_=>⟨zfe,λ_ hm=>(nomatch hm)⟩⟩,h2,h3,h4⟩
section
variable {prog:XO} {w:X2} {A:Yh} {E:Xb->Xe->Prop} {s:Xe} {K:Frag}
end
end Att
namespace L2
open PySem PySem.Spec PyProof.Rows
theorem ui:∀ {vs:List Xb} {ns:List Int},Z9 vs ns->Vals (ns.map V.int) vs
 | _,_,.nil=>.nil
 | _,_,.cons n t h=>.cons ⟨t,rfl⟩ (ui h)
def KZ (H:Hp):Prop:=∀ b,H b=none∨∃ o xs,H b=some (.frz o (.lst xs))
theorem Jz {P:XO}{w:X2}{K:W7}{mg mb:Str->Option Xb}{CX:CXT}{k:Nat}{fa a:Addr}{fd:Xy}{x:Str}{sp:Sp}{s₁:Xe}{vs:List Xb}{ns:List Int}
  (KX:K.In s₁.heap) (hns:s₁.heap.Ns YE mg) (hb:s₁.heap.Ns zer mb) (hbb:∀ x:Str,x ≠ "__name__" -> mb x=Yt x) (hlim:s₁.heap.NoLimit) (hg:s₁.gens = #[])
  (ha:s₁.heap.get? a=some { cls:=.type "list", data:=.seq vs.toArray }) (hi:Z9 vs ns) (hl:ns.length<=sizeLine) (hr:gD k zcf)
  (F:∀ base:Heap,K.In base->base.Ns YE mg->jo P w K mg base CX k fa fd [x] sp) (hbind:∀ (s:Xe) (u:Xb),zdA s fd ⟨[u],[]⟩ [(x,u)])
  (hsp:∀ H:Hp,KZ H->SqL K H a (ns.map V.int)->sp [.ref a] H (λv _=>v=.bl true) λ_ _ _=>False)
  (hCX:∀ H e s',CX [] H s₁ (λ_ _ _=>False) e s'->False) :
  ZK (XD P w) zcf (.call (.ref fa) ⟨[.ref a],[]⟩) (λr s'=>r=.ok (.ret (.bool true))/\OldK s₁.heap s'.heap/\s'.os=s₁.os/\zbz s'.gens) s₁:=by
 have rv:=ui hi
 have WH:=hi.length
 -- from an abstract heap in which nothing but the script may be tracked
 have core:∀ H:Hp,KZ H->SqL K H a (ns.map V.int)->HOk P w H s₁.heap->(∀ b,H b≠none->b=a)->(H a≠none->K.lookup a=none)->
   ZK (XD P w) zcf (.call (.ref fa) ⟨[.ref a],[]⟩) (λr s'=>r=.ok (.ret (.bool true))/\OldK s₁.heap s'.heap/\s'.os=s₁.os/\zbz s'.gens) s₁:=by
  intro H hO hS hok hA hK
  have base_of:∀ {b:Addr} {o:Obj},s₁.heap.get? b=some o->H b=none->(vH s₁.heap H).get? b=some o:=λe n=>GP e n
  have noA:∀ {b:Addr} {o:Obj} {es:Array DictEntry} {ep:Nat},s₁.heap.get? b=some o->o.data=.dict es ep->H b=none:=λ{b o es ep} e d=>by
   cases q:H b with
   | none=>rfl
   | some u=>
    have e':b=a:=hA b (by rw[q];simp)
    subst e'
    rw[ha] at e;cases e
    have d':Data.seq vs.toArray _=Data.dict es ep:=d
    cases d'
  have nsK:∀ {b:Addr} {m:Str->Option Xb},s₁.heap.Ns b m->(vH s₁.heap H).Ns b m:=λ{b m} ⟨o,es,ep,e,d,r⟩=>⟨o,es,ep,base_of e (noA e d),d,r⟩
  have hKb:K.In (vH s₁.heap H):=λb o e=>base_of (KX b o e) (by
   cases q:H b with
   | none=>rfl
   | some u=>
    have e':b=a:=hA b (by rw[q];simp)
    subst e'
    rw[hK (by rw[q];simp)] at e;cases e)
  have hM:Mod K mg (vH s₁.heap H):=⟨hKb,nsK hns,⟨mb,nsK hb,hbb⟩,let ⟨mc,h1,h2⟩:=hlim;⟨mc,nsK h1,h2⟩⟩
  have e0:NS P w K mg (vH s₁.heap H) zcf [] s₁ H:=⟨rfl,hM,λb o e=>NR e,zcg (E6 _ _),trivial,λb hb=>absurd (show b∈([]:List Addr) from hb) (by simp),hok,.of_eq hg⟩
  refine zdB ((F _ hKb (nsK hns)).run zcf [] s₁ H ⟨[.ref a],[]⟩ [.ref a] [.ref a] _ _ hr e0 (hbind s₁ (.ref a)) (.cons rfl .nil) (hsp H hO hS)) λr s' h=>?_
  cases r with
  | error e=>exact (hCX H e s' h).elim
  | ok fl=>
   cases fl with
   | next=>exact Xf h
   | brk=>exact Xf h
   | cont=>exact Xf h
   | ret u=>
    obtain ⟨v,H',os,bare,un,hok',r',q⟩:=h
    have q':v=.bl true:=q
    subst q'
    obtain rfl:u=zbg true:=r'
    refine ⟨rfl,OldK.of_keep λb o e=>?_,os,bare⟩
    cases q:H b with
    | none=>exact un.keep b o e q (by intro z;exact absurd (show b∈([]:List Addr) from z) (by simp)) (by simp)
    | some u=>
     rcases hO b with z | ⟨ob,xs,z⟩
     ·rw[q] at z;cases z
     ·have z2:=un.mY b ob _ z
      obtain ⟨e1,_⟩:=hok b _ z
      obtain ⟨e2,_⟩:=hok' b _ z2
      rw[e] at e1;cases e1
      exact e2
 cases hk:K.lookup a with
 | some o=>
  -- the script is one of the module's own objects
  have e:=KX a o hk
  rw[ha] at e
  cases e
  refine core (λ_=>none) (λ_=>.inl rfl) (.inr ⟨_,vs.toArray,_,hk,rfl,rfl,rfl,by rw[Xv,WH];exact hl,by simpa using rv⟩) (λb u z=>by have z':(none:Option HO)=some u:=z;cases z') (λb z=>absurd rfl z) λz=>absurd rfl z
 | none=>
  refine core (λb=>if b=a then some (.frz { cls:=.type "list", data:=.seq vs.toArray } (.lst (ns.map V.int))) else none) (λb=>?_) (.inl (.inr ⟨{ cls:=.type "list", data:=.seq vs.toArray },if_pos rfl⟩)) (λb u z=>?_) (λb z=>?_) λ_=>hk
  ·by_cases hb:b=a
   ·exact .inr ⟨_,_,if_pos hb⟩
   ·exact .inl (if_neg hb)
  ·by_cases hb:b=a
   ·have z':=(if_pos hb).symm.trans z
    cases z'
    subst hb
    exact ⟨ha,by rw[W9];exact hl,vs,_,rv,ha⟩
   ·have z':=(if_neg hb).symm.trans z
    cases z'
  ·by_cases hb:b=a
   ·exact hb
   ·exact absurd (if_neg hb) z
end L2
namespace L2
open PySem PySem.Spec PyProof.Rows
theorem MV {l:zcp}{n k:Nat}{q:XO}{loose:List Str}{XP:(Str->Option Xb)->Heap->Prop}{YP:X2->Heap->Prop}{d:DefRec}{K:zeB->W7}{CX:X2->CXT}{sp:X2->Sp}{x:Str}
  (hn:l.most=some n) (hn2:n<=sizeLine) (hdf:d.params.defaults=[]) (hr:gD k zcf)
  (hY:∀ (w:X2) (h:Heap),YP w h->(K w.params).In h)
  (F:∀ (w:X2) (mg:Str->Option Xb) (fa:Addr) (h:Heap),(K w.params).In h->h.Ns YE mg->mg d.name=some (.ref fa)->
   ∃ fd:Xy,(∀ (s:Xe) (u:Xb),zdA s fd ⟨[u],[]⟩ [(x,u)])/\
    ∀ base:Heap,(K w.params).In base->base.Ns YE mg->jo l.prog w (K w.params) mg base (CX w) k fa fd [x] (sp w))
  (hsp:∀ (w:X2) (H:Hp) (a:Addr) (ns:List Int),ns.length<=n->KZ H->SqL (K w.params) H a (ns.map V.int)->sp w [.ref a] H (λv _=>v=.bl true) λ_ _ _=>False)
  (hCX:∀ (w:X2) (H:Hp) (s:Xe) (e:Xb) (s':Xe),CX w [] H s (λ_ _ _=>False) e s'->False) :
  zeS q loose XP YP l.row.toRowW d [] (λf vs=>zeC f vs):=by
 refine Att.xM hn hdf λw s₀ s₁ mg mb fa o pm cd doc a vs ns G Y ho hd hcd hmg hobj hints hlen hg=>?_
 have KX:=hY w _ Y
 obtain ⟨fd,hb,hF⟩:=F w mg fa _ KX G.T.g hmg
 exact Jz KX G.T.g G.T.b G.T.builtins G.T.nolimit hg hobj hints (XZ hlen hn2) hr hF hb (λH hO hS=>hsp w H a ns hlen hO hS) λH e s'=>hCX w H s₁ e s'
end L2
namespace L2
open PySem PySem.Spec PyProof.Rows
def mC (s:Stmt):Arguments:=match s with
 | .FunctionDef _ a _ _ _ _ _ _ _ _=>a
 | _=>{ posonlyargs:=[],args:=[],vararg:=none,kwonlyargs:=[],kw_defaults:=[],kwarg:=none,defaults:=[] }
def gW (s:Stmt):List Stmt:=match s with
 | .FunctionDef _ _ b _ _ _ _ _ _ _=>b
 | _=>[]
def aw (s:Stmt):Scope:=match s with
 | .FunctionDef _ _ _ _ _ _ sc _ _ _=>sc
 | _=>{ kind:=.function,names:=[],isGenerator:=false,isCoroutine:=false }
abbrev CX0:CXT:=λ_ _ _ _ _ _=>False
abbrev E0:XK:=λ_ _ _=>False
theorem Vq {X:Cx}:Passes CX0 X E0:=λ_ _ _ _ _ _ _ h=>h.elim
structure Fun (K:W7) (x qual:Str) (st:Stmt) (f:Addr) (fd:Xy):Prop where
 ex:∃ (oc:Xb) (od:Option Addr) (kV doc pm:Xb) (an:Option Addr) (cdv ct:Xb) (osl:Array (Option Xb)),
  fd=ZY x qual (mC st) (gW st) (aw st) .none kV doc pm an cdv ct/\K.lookup f=some ⟨oc,od,.func fd,osl⟩/\zcI K cdv qual=true
 kp:zav K (.ref f)=true
section
variable {P:XO} {w:X2} {K:W7} {mg:Str->Option Xb} {base:Heap}
theorem Fun.ok {x qual:Str}{st:Stmt}{f:Addr}{fd:Xy}{N ps:List Str}{k:Nat}{sp:Sp}(F:Fun K x qual st f fd)(S:aH N ps (aw st))(len:∀ vs H Q E,sp vs H Q E->vs.length=ps.length)
  (hbody:∀ (cdv:Xb) (A:Yh) (outer:List Env) (s:Xe) (H:Hp) (vs:List V) (Q:VK) (E:XK),gD k (A.deeper (zbm qual (aw st) s.heap.objs.size f cdv))->sp vs H Q E->
   ∃ t,PSs (xS CX0 P w K mg base N qual (aw st) f cdv A outer s H E).nox (gW st) t/\t { nx:=λ_ H'=>Q .non H',rt:=Q } (start N vs) H):jo P w K mg base CX0 (k+1) f fd ps sp:=by
 obtain ⟨oc,od,kV,doc,pm,an,cdv,ct,osl,rfl,lk,hcd⟩:=F.ex
 refine Tw lk hcd S len λA outer s H vs Q E hr hsp=>?_
 obtain ⟨t,h,q⟩:=hbody cdv A outer s H vs Q E hr hsp
 exact ⟨t,h.nox,q⟩
theorem Fun.binds {x qual:Str}{st:Stmt}{f:Addr}{fd:Xy}{ps:List Str}(F:Fun K x qual st f fd)
  (h:∀ (kV doc pm:Xb) (an:Option Addr) (cdv ct:Xb) (us:List Xb),us.length=ps.length->bindArgs (ZY x qual (mC st) (gW st) (aw st) .none kV doc pm an cdv ct) ⟨us,[]⟩=pure (ps.zip us)):Binds K fd ps []:=by
 obtain ⟨oc,od,kV,doc,pm,an,cdv,ct,osl,rfl,lk,hcd⟩:=F.ex
 exact .all (h kV doc pm an cdv ct)
theorem aS {x qual:Str}{st:Stmt}{f:Addr}{oc:Xb}{od an:Option Addr}{osl:Array (Option Xb)}{kV doc pm cdv ct:Xb}(l:K.lookup f=some ⟨oc,od,.func (ZY x qual (mC st) (gW st) (aw st) .none kV doc pm an cdv ct),osl⟩)
  (c:zcI K cdv qual=true) (k:zav K (.ref f)=true):Fun K x qual st f (ZY x qual (mC st) (gW st) (aw st) .none kV doc pm an cdv ct):=⟨⟨oc,od,kV,doc,pm,an,cdv,ct,osl,rfl,l,c⟩,k⟩
end
section
variable {X:Cx}
theorem pv (i:Nat){x:Str}{pos:Pos}(hN:X.N[i]? = some x:=by rfl)(hv:Vis X.env.scope x:=by first | exact zay rfl | exact zaz (zay rfl) | exact zaz (zaz rfl))(hd:(x == ("__debug__" : Str))=false:=by decide)
  (hcd:(x == ("__classdict__" : Str))=false:=by decide):PE X (.Name x pos) (UC i):=Kc hN hv hd hcd
end
theorem rD {A B:Prop}(h:B):if false=true then A else B:=by
 rw[if_neg Zy]
 exact h
theorem p8 {A B:Prop}(h:A):if true=true then A else B:=by
 rw[if_pos rfl]
 exact h
def Aa (H H':Hp):Prop:=∀ b o,H b=some o->H' b=some o
theorem Aa.trans {H H1 H2:Hp}(a:Aa H H1)(b:Aa H1 H2):Aa H H2:=λc o h=>b c o (a c o h)
theorem Aa.free {H H':Hp}(e:Aa H H'){l:Addr}(h:H' l=ze7):H l=ze7:=by
 cases q:H l with
 | none=>rfl
 | some o=>
  rw[e l o q] at h
  cases h
theorem Aa.seq {K:W7}{H H':Hp}{a:Addr}{xs:List V}(e:Aa H H')(h:SqL K H a xs):SqL K H' a xs:=by
 rcases h with (h | ⟨o,h⟩) | h
 ·exact .inl (.inl (e _ _ h))
 ·exact .inl (.inr ⟨o,e _ _ h⟩)
 ·exact .inr h
end L2
namespace L2
open PySem PySem.Spec PyProof.Rows
section
variable {κ:Type} [DecidableEq κ]
def hU (kvs:List (κ×V))(k:κ):Option V:=(kvs.find? λkv=>decide (kv.1=k)).map (·.2)
def putK (kvs:List (κ×V))(k:κ)(v:V):List (κ×V):=
 if (kvs.any λkv=>decide (kv.1=k))=true then kvs.map (λkv=>if kv.1=k then (kv.1,v) else kv) else kvs++[(k,v)]
def OM (kvs:List (κ×V))(k:κ):List (κ×V):=kvs.filter λkv=>decide (kv.1≠k)
theorem mw {p:κ×V}{r:List (κ×V)}{k:κ}(e:p.1=k):hU (p::r) k=some p.2:=by simp[hU,Ym,e]
theorem lJ {p:κ×V}{r:List (κ×V)}{k:κ}(e:¬ p.1=k):hU (p::r) k=hU r k:=by simp[hU,Ym,e]
theorem p9 (k:κ):∀ kvs:List (κ×V),(kvs.any λkv=>decide (kv.1=k))=(hU kvs k).isSome
 | []=>rfl
 | p::r=>by
  rw[Zl]
  by_cases e:p.1=k
  ·simp only[mw e,decide_eq_true e,zeZ,Option.isSome_some]
  ·rw[lJ e,decide_eq_false e,zda];exact p9 k r
theorem jA (kvs:List (κ×V))(k:κ)(v:V):(putK kvs k v).length<=kvs.length+1:=by
 unfold putK
 split
 ·rw[W9];omega
 ·rw[Xi,XI,za2];omega
theorem Je {kvs:List (κ×V)}{k:κ}(v:V)(h:hU kvs k=none):putK kvs k v=kvs++[(k,v)]:=by
 unfold putK
 rw[p9,h]
 exact if_neg (by decide)
theorem o9.EM {o:Option V}{u:Option Xb}(r:o9 o u):o.isSome=u.isSome:=by
 cases o with
 | none=>cases u with
  | none=>rfl
  | some _=>exact (show False from r).elim
 | some _=>cases u with
  | none=>exact (show False from r).elim
  | some _=>rfl
theorem o9.getD {o:Option V}{u:Option Xb}{d:V}{d':Xb}(r:o9 o u)(rd:RelV d d'):RelV (o.getD d) (u.getD d'):=by
 cases o with
 | none=>cases u with
  | none=>exact rd
  | some _=>exact (show False from r).elim
 | some _=>cases u with
  | none=>exact (show False from r).elim
  | some _=>exact r
theorem KV.val {kvs:List (κ×V)}{vs:List (κ×Xb)}(r:KV kvs vs)(k:κ):o9 (hU kvs k) (zcY vs k):=by
 unfold KV at r
 induction r with
 | nil=>exact YQ
 | @cons p q ps qs h t ih=>
  obtain ⟨h1,h2⟩:=h
  by_cases e:p.1=k
  ·have e':q.1=k:=h1.symm.trans e
   have b:zcY (q::qs) k=some q.2:=by simp[zcY,Ym,e']
   rw[mw e,b];exact h2
  ·have e':¬ q.1=k:=λz=>e (h1.trans z)
   have b:zcY (q::qs) k=zcY qs k:=by simp[zcY,Ym,e']
   rw[lJ e,b];exact ih
theorem KV.any {kvs:List (κ×V)}{vs:List (κ×Xb)}(r:KV kvs vs)(k:κ):(kvs.any λkv=>decide (kv.1=k))=vs.any λkv=>decide (kv.1=k):=by
 unfold KV at r
 induction r with
 | nil=>rfl
 | cons h t ih=>rw[Zl,Zl,ih,h.1]
theorem KV.PU {kvs:List (κ×V)}{vs:List (κ×Xb)}(r:KV kvs vs)(k:κ){y:V}{u:Xb}(ry:RelV y u) :
  KV (kvs.map λkv=>if kv.1=k then (kv.1,y) else kv) (vs.map λkv=>if kv.1=k then (kv.1,u) else kv):=by
 unfold KV at r ⊢
 induction r with
 | nil=>exact .nil
 | @cons p q ps qs h t ih=>
  rw[Xh,Xh]
  refine .cons ?_ ih
  obtain ⟨h1,h2⟩:=h
  by_cases e:p.1=k
  ·rw[if_pos e,if_pos (h1.symm.trans e)];exact ⟨h1,ry⟩
  ·rw[if_neg e,if_neg (λz=>e (h1.trans z))];exact ⟨h1,h2⟩
theorem KV.put {kvs:List (κ×V)}{vs:List (κ×Xb)}(r:KV kvs vs)(k:κ){y:V}{u:Xb}(ry:RelV y u):KV (putK kvs k y) (stored vs k u):=by
 unfold putK stored
 rw[r.any k]
 by_cases e:(vs.any λkv=>decide (kv.1=k))=true
 ·rw[if_pos e,if_pos e];exact r.PU k ry
 ·rw[if_neg e,if_neg e];exact ze8 r ⟨rfl,ry⟩
theorem KV.drop {kvs:List (κ×V)}{vs:List (κ×Xb)}(r:KV kvs vs)(k:κ):KV (OM kvs k) (without vs k):=by
 unfold KV at r ⊢
 unfold OM without
 induction r with
 | nil=>exact .nil
 | @cons p q ps qs h t ih=>
  obtain ⟨h1,h2⟩:=h
  rw[Zt,Zt]
  by_cases e:p.1=k
  ·have a:¬ decide (p.1≠k)=true:=by simp[e]
   have b:¬ decide (q.1≠k)=true:=by simp[h1.symm.trans e]
   rw[if_neg a,if_neg b];exact ih
  ·have e':¬ q.1=k:=λz=>e (h1.trans z)
   have a:decide (p.1≠k)=true:=by simp[e]
   have b:decide (q.1≠k)=true:=by simp[e']
   rw[if_pos a,if_pos b];exact .cons ⟨h1,h2⟩ ih
theorem KV.keys {kvs:List (κ×V)}{vs:List (κ×Xb)}(r:KV kvs vs):kvs.map (·.1)=vs.map (·.1):=by
 unfold KV at r
 induction r with
 | nil=>rfl
 | cons h t ih=>rw[Xh,Xh,ih,h.1]
theorem KV.length {kvs:List (κ×V)}{vs:List (κ×Xb)}(r:KV kvs vs):kvs.length=vs.length:=zc6 r
end
theorem uo {P:XO}{w:X2}{k:Key}{u:Xb}(r:RelV (kV k) u):(bU P w).is k u=true:=by
 cases k with
 | inl i=>obtain ⟨t,e⟩:=(show ∃ t,u=zak i t from r);subst e;exact yL P w i t
 | inr x=>obtain ⟨t,e⟩:=(show ∃ t,u=zbf x t from r);subst e;exact xY P w x t
theorem uU {P:XO}{w:X2}:∀ {ks:List Key} {us:List Xb},Vals (ks.map kV) us->ItemsAre (bU P w) ks us
 | [],_,r=>by rw[Zf] at r;cases r;exact .nil
 | k::ks,_,r=>by
  rw[Xh] at r
  cases r with
  | cons h t=>exact .cons (uo h) (uU t)
abbrev KT (H:Hp):List (List Key×V)->List (List Key×Addr×Xb)->Prop:=zbD λp q=>p.1=q.1/\H q.2.1=some (.tup (p.1.map kV))/\RelV p.2 q.2.2
theorem KT.val {H:Hp}{kvs:List (List Key×V)}{xs:List (List Key×Addr×Xb)}(r:KT H kvs xs)(k:List Key):o9 (hU kvs k) ((zed xs k).map (·.2)):=by
 induction r with
 | nil=>exact YQ
 | @cons p q ps qs h t ih=>
  obtain ⟨h1,_,h2⟩:=h
  by_cases e:p.1=k
  ·have e':q.1=k:=h1.symm.trans e
   have b:zed (q::qs) k=some q.2:=by simp[zed,Ym,e']
   rw[mw e,b];exact h2
  ·have e':¬ q.1=k:=λz=>e (h1.trans z)
   have b:zed (q::qs) k=zed qs k:=by simp[zed,Ym,e']
   rw[lJ e,b];exact ih
theorem KT.PU {H:Hp}{kvs:List (List Key×V)}{xs:List (List Key×Addr×Xb)}(r:KT H kvs xs)(k:List Key){y:V}{u:Xb}(ry:RelV y u) :
  KT H (kvs.map λkv=>if kv.1=k then (kv.1,y) else kv) (xs.map (putAt k u)):=by
 induction r with
 | nil=>exact .nil
 | @cons p q ps qs h t ih=>
  rw[Xh,Xh]
  refine .cons ?_ ih
  obtain ⟨h1,h2,h3⟩:=h
  unfold putAt
  by_cases e:p.1=k
  ·rw[if_pos e,if_pos (h1.symm.trans e)];exact ⟨h1,h2,ry⟩
  ·rw[if_neg e,if_neg (λz=>e (h1.trans z))];exact ⟨h1,h2,h3⟩
theorem KT.put {H:Hp}{kvs:List (List Key×V)}{xs:List (List Key×Addr×Xb)}(r:KT H kvs xs)(k:List Key){b:Addr}{y:V}{u:Xb}(hb:H b=some (.tup (k.map kV)))(ry:RelV y u) :
  KT H (putK kvs k y) (storedH xs k b u):=by
 have e:(kvs.any λkv=>decide (kv.1=k))=(zed xs k).isSome:=by
  rw[p9,(r.val k).EM,Option.isSome_map]
 unfold putK storedH
 rw[e]
 by_cases q:(zed xs k).isSome=true
 ·rw[if_pos q,if_pos q];exact r.PU k ry
 ·rw[if_neg q,if_neg q];exact ze8 r ⟨rfl,hb,ry⟩
theorem KT.keeps {H H':Hp}{kvs:List (List Key×V)}{xs:List (List Key×Addr×Xb)}(r:KT H kvs xs)(ht:∀ b ys,H b=some (.tup ys)->H' b=some (.tup ys)):KT H' kvs xs:=
 zbD.Sm r λ_ _ z=>⟨z.1,ht _ _ z.2.1,z.2.2⟩
section
variable {P:XO} {w:X2} {H:Hp} {h:Heap} {a:Addr}
theorem O3 {u:HO}(ok:HOk P w H h)(e:Rd H a u):df P w H h a u:=e.ok ok
theorem xr {kvs:List (Key×V)}(ok:HOk P w H h)(e:Rd H a (.dK kvs)):kvs.length<=sizeLine/\(a == Zj)=false/\∃ vs,KV kvs vs/\h.DictOf (bU P w) a vs:=
 show df P w H h a (.dK kvs) from O3 ok e
theorem Ow {kvs:List (Key×V)}(ok:HOk P w H h)(e:H a=some (.dK kvs)):kvs.length<=sizeLine/\(a == Zj)=false/\∃ vs,KV kvs vs/\h.DictOf (bU P w) a vs:=xr ok (.inl e)
theorem wu {ks:List Key}(ok:HOk P w H h)(e:H a=some (.tup (ks.map kV))):(zbR (bU P w)).is h ks a:=by
 obtain ⟨_,its,r,n,h1⟩:=(show df P w H h a (.tup (ks.map kV)) from ok a _ e)
 exact ⟨_,its.toArray,n,h1,rfl,rfl,by simpa using uU r⟩
theorem xj {kvs:List (List Key×V)}(ok:HOk P w H h)(e:Rd H a (.dT kvs)):kvs.length<=sizeLine/\(a == Zj)=false/\
  ∃ xs,KT H kvs xs/\h.DictOfH (zbR (bU P w)) a xs:=by
 obtain ⟨z,y,xs,r,o,es,ep,h1,h2,h3,h4,h5⟩:=(show df P w H h a (.dT kvs) from O3 ok e)
 refine ⟨z,y,xs,r,o,es,ep,h1,h2,h3,h4,λx hx=>?_,h5⟩
 have all:∀ {l:List (List Key×V)} {m:List (List Key×Addr×Xb)},KT H l m->∀ x∈m,(zbR (bU P w)).is h x.1 x.2.1:=by
  intro l m q
  induction q with
  | nil=>intro x hx;exact nomatch hx
  | @cons p q ps qs hq t ih=>
   intro x hx
   rcases Xr.mp hx with e | hx
   ·subst e
    exact wu ok (by rw[← hq.1];exact hq.2.1)
   ·exact ih x hx
 exact all r x hx
theorem Uy {kvs:List (List Key×V)}(ok:HOk P w H h)(e:H a=some (.dT kvs)):kvs.length<=sizeLine/\(a == Zj)=false/\
  ∃ xs,KT H kvs xs/\h.DictOfH (zbR (bU P w)) a xs:=xj ok (.inl e)
end
def nh (H:Hp)(a:Addr)(y:V)(r:Option V):Prop:=
 (∃ kvs k,Rd H a (.dK kvs)/\y=kV k/\r=hU kvs k)∨∃ kvs k b,Rd H a (.dT kvs)/\y=.ref b/\H b=some (.tup (k.map kV))/\r=hU kvs k
def qr (H:Hp)(a:Addr)(y v:V)(H':Hp):Prop:=
 (∃ kvs k,H a=some (.dK kvs)/\y=kV k/\kvs.length < sizeLine/\H'=upd H a (.dK (putK kvs k v)))∨
 ∃ kvs k b,H a=some (.dT kvs)/\y=.ref b/\H b=some (.tup (k.map kV))/\kvs.length < sizeLine/\H'=upd H a (.dT (putK kvs k v))
theorem nh.k {H:Hp}{a:Addr}{kvs:List (Key×V)}{k:Key}(e:H a=some (.dK kvs)):nh H a (kV k) (hU kvs k):=.inl ⟨kvs,k,.inl e,rfl,rfl⟩
theorem nh.t {H:Hp}{a b:Addr}{kvs:List (List Key×V)}{k:List Key}(e:H a=some (.dT kvs))(eb:H b=some (.tup (k.map kV))):nh H a (.ref b) (hU kvs k):=.inr ⟨kvs,k,b,.inl e,rfl,eb,rfl⟩
theorem qr.k {H:Hp}{a:Addr}{kvs:List (Key×V)}{k:Key}{v:V}(e:H a=some (.dK kvs))(hl:kvs.length < sizeLine):qr H a (kV k) v (upd H a (.dK (putK kvs k v))):=.inl ⟨kvs,k,e,rfl,hl,rfl⟩
theorem qr.t {H:Hp}{a b:Addr}{kvs:List (List Key×V)}{k:List Key}{v:V}(e:H a=some (.dT kvs))(eb:H b=some (.tup (k.map kV)))(hl:kvs.length < sizeLine) :
  qr H a (.ref b) v (upd H a (.dT (putK kvs k v))):=.inr ⟨kvs,k,b,e,rfl,eb,hl,rfl⟩
section
variable {X:Cx} {pins:List (Addr×Obj)} {σ:St} {H:Hp} {s:Xe} {a:Addr} {y v:V} {u r:Xb} {o:Option V} {A:Yh} {E:Xb->Xe->Prop}
theorem Inv.big (I:Inv X pins σ H s):Zj < s.heap.objs.size:=by
 have h:YE < s.heap.objs.size:=(I.mod.glob.keeps I.bk).lt
 exact zdE (by decide) h
theorem uC {Q:Xb->Xe->Prop}(hu:A.units+1 < cLine)(I:Inv X pins σ H s)(g:nh H a y (some v))(ry:RelV y u)(h:∀ w' s',Inv X pins σ H s'->RelV v w'->Q w' s') :
  XB (XD X.prog X.w) A (zbc (.ref a) u) Q E s:=by
 rcases g with ⟨kvs,k,e,ey,l⟩ | ⟨kvs,k,b,e,ey,eb,l⟩
 ·subst ey
  obtain ⟨z,hd,vs,rel,dd⟩:=xr I.hok e
  obtain ⟨w',hw,rw'⟩:=o9.some_of (v:=v) (o:=zcY vs k) (by rw[l];exact rel.val k)
  exact wpAny_getItem_of (uo ry) dd.mapOf hw (h w' _ (I.tok _) rw')
 ·subst ey
  cases (show u=XT b from ry)
  obtain ⟨z,hd,xs,rel,dd⟩:=xj I.hok e
  obtain ⟨w',hw,rw'⟩:=o9.some_of (v:=v) (o:=(zed xs k).map (·.2)) (by rw[l];exact rel.val k)
  obtain ⟨p,hp,hp2⟩:=zch.mp hw
  refine wpAny_getItem_heap (zbr hu) (wu I.hok eb) dd hp ?_
  rw[hp2]
  exact h w' _ (I.tok _) rw'
theorem vt {h':Heap}{t':Nat}{ob:HO}(I:Inv X pins σ H s)(mu:Mut (H a))(hs:ZV a s.heap h')(he:∃ q,h'.get? a=some q)(new:df X.prog X.w (upd H a ob) h' a ob) :
  Inv X pins σ (upd H a ob) { s with heap:=h',toks:=t' }:=
 I.write (x:=a) (e:=a) mu (.inl rfl) (λb q hb z=>(hs.2 b hb).trans z) he new
theorem Cw {P:XO}{w:X2}{H':Hp}{h':Heap}{kvs:List (Key×V)}{vs:List (Key×Xb)}(z:kvs.length<=sizeLine)(hd:(a == Zj)=false)(rel:KV kvs vs)(dd:h'.DictOf (bU P w) a vs) :
  df P w H' h' a (.dK kvs):=⟨z,hd,vs,rel,dd⟩
theorem uG {H':Hp}{Q:Unit->Xe->Prop}(hu:A.units+1 < cLine)(I:Inv X pins σ H s)(g:qr H a y v H')(ry:RelV y u)(rv:RelV v r)(h:∀ s',Inv X pins σ H' s'->Q () s') :
  XB (XD X.prog X.w) A (setItem (.ref a) u r) Q E s:=by
 rcases g with ⟨kvs,k,e,ey,l,eH⟩ | ⟨kvs,k,b,e,ey,eb,l,eH⟩
 ·subst ey eH
  obtain ⟨z,hd,vs,rel,dd⟩:=Ow I.hok e
  have hz:vs.length<=sizeLine:=by rw[← rel.length];exact z
  have hl:(putK kvs k v).length<=sizeLine:=by have:=jA kvs k v;omega
  refine wpAny_setItem_pairs (hsz:=hz) (uo ry) dd λh' dd' hs=>h _ ?_
  have he:∃ q,h'.get? a=some q:=let ⟨q,_,_,hq,_⟩:=dd';⟨q,hq⟩
  exact vt I (by rw[e];exact YQ) hs he (Cw hl hd (rel.put k rv) dd')
 ·subst ey eH
  cases (show u=XT b from ry)
  obtain ⟨z,hd,xs,rel,dd⟩:=Uy I.hok e
  have hz:xs.length<=sizeLine:=by rw[← zc6 rel];exact z
  have hl:(putK kvs k v).length<=sizeLine:=by have:=jA kvs k v;omega
  refine wpAny_setItem_heap (hsz:=hz) (zbr hu) (wu I.hok eb) dd λh' dd' hs=>h _ ?_
  obtain ⟨q,es,ep,hq,h2,h3,h4,_,h5⟩:=dd'
  refine vt I (by rw[e];exact YQ) hs ⟨q,hq⟩ ⟨hl,hd,_,(rel.put k eb rv).keeps λc ys ec=>?_,q,es,ep,hq,h2,h3,h4,h5⟩
  rw[aP (UJ ec e (λz=>nomatch z))]
  exact ec
end
section
variable {X:Cx} {pins:List (Addr×Obj)} {σ:St} {H:Hp} {s:Xe} {a:Addr} {kvs:List (Key×V)} {k:Key} {u:Xb} {A:Yh} {E:Xb->Xe->Prop}
end
def QC (i:XG):Prop:=∀ ov iv,zcJ i false ov iv=operate [ov,iv] (zbc ov iv)
theorem MS {prog:XO}{w:X2}{A:Yh}{E:Xb->Xe->Prop}{s:Xe}{env:Env}{value slice:XG}{pos:Pos}{T id:String}{Q:Xb->Xe->Prop}
  (hl:zez (.type T) "__getitem__" = pure (some (.builtin id))) (hs:QC slice)
  (h:XB (XD prog w) A (Yl value env) (λo s₁=>XB (XD prog w) A (Yl slice env) (λi s₂=>s₂.TypeIs o T/\XB (XD prog w) A (zbc o i) Q E s₂) E s₁) E s) :
  XB (XD prog w) A (Yl (.Subscript value slice pos) env) Q E s:=by
 refine zeA (Yq h (λo s₁ h₁=>Yq h₁ (λi s₂ h₂=>?_) λ_ _ x=>x) λ_ _ x=>x)
 obtain ⟨hT,h₂⟩:=h₂
 unfold zc9
 refine W8 ?_
 rw[getitemInPython_of_ne hT.not_modules]
 refine W8 (wpAny_specialOf hT hl ?_)
 have fin:XB (XD prog w) A (zcJ slice false o i) (λr s₃=>XB (XD prog w) A (letTemporaryGo value o r >>= λ_=>pure r) Q E s₃) E s₂:=by
  rw[hs o i]
  exact wpAny_operating (Yq h₂ (λr s₃ h₃=>W8 (wpAny_letTemporaryGo (Xj h₃))) λ_ _ x=>x)
 first
  | exact Xj (W8 fin)
  | exact W8 (Xj (W8 fin))
  | exact W8 fin
theorem ya {X:Cx}{pins:List (Addr×Obj)}{σ:St}{H:Hp}{s:Xe}{a:Addr}{y:V}{o:Option V}(I:Inv X pins σ H s)(g:nh H a y o):s.TypeIs (.ref a) "dict" := by
 rcases g with ⟨kvs,k,e,_,_⟩ | ⟨kvs,k,b,e,_,_,_⟩
 ·obtain ⟨_,_,vs,_,dd⟩:=xr I.hok e
  exact dd.typeIs
 ·obtain ⟨_,_,xs,_,dd⟩:=xj I.hok e
  exact dd.typeIs
def TV (td ty:TE):TE:=λσ H Q=>td σ H λx H1=>ty σ H1 λy H2=>∃ a v,x=.ref a/\nh H2 a y (some v)/\Q v H2
def UE (td ty tv:TE):TS:=λD σ H=>tv σ H λv H1=>td σ H1 λx H2=>ty σ H2 λy H3=>∃ a H4,x=.ref a/\qr H3 a y v H4/\D.nx σ H4
def OU (td ty tv:TE)(rd:V->V->Hp->VK->Prop):TS:=λD σ H=>td σ H λx H1=>ty σ H1 λy H2=>∃ a v,x=.ref a/\nh H2 a y (some v)/\
 tv σ H2 λy2 H3=>rd v y2 H3 λz H4=>∃ H5,qr H4 a y z H5/\D.nx σ H5
section
variable {X:Cx} {o i e value:XG} {pos pos' tpos:Pos} {td ty tv:TE}
theorem M8 (hu:X.A.units+1 < cLine)(ho:PE X o td)(hi:PE X i ty)(hs:QC i):PE X (.Subscript o i pos) (TV td ty):=by
 intro pins s σ H Q I h
 refine MS PySem.F.slot_dict_getitem.lookup hs (thn (ho pins s σ H _ I h) λu s1 ⟨x,H1,I1,rx,q1⟩=>thn (hi pins s1 σ H1 _ I1 q1) λiv s2 ⟨y,H2,I2,ry,a,v,ex,g,q2⟩=>?_)
 subst ex
 obtain rfl:u=XT a:=rx
 exact ⟨ya I2 g,uC hu I2 g ry λw' s3 I3 rw'=>⟨v,H2,I3,rw',q2⟩⟩
theorem vi (hu:X.A.units+1 < cLine)(ho:PE X o td)(hi:PE X i ty)(hv:PE X value tv)(hs:Y3 value (some (.Subscript o i pos')) pos.line X.env=pure false) :
  PS X (.Assign [.Subscript o i pos'] value pos) (UE td ty tv):=by
 intro pins s σ H D I h
 refine wpAny_Assign_Subscript (thn (hv pins s σ H _ I h) λr s1 ⟨v,H1,I1,rv,q1⟩=>thn (ho pins s1 σ H1 _ I1 q1) λu s2 ⟨x,H2,I2,rx,q2⟩=>thn (hi pins s2 σ H2 _ I2 q2) λiv s3 ⟨y,H3,I3,ry,a,H4,ex,g,q3⟩=>?_) hs
 subst ex
 obtain rfl:u=XT a:=rx
 exact uG hu I3 g ry rv λs4 I4=>⟨σ,H4,I4,q3⟩
theorem Mf {op:zcF}{rd:V->V->Hp->VK->Prop}(hu:X.A.units+1 < cLine)(ho:PE X o td)(hi:PE X i ty)(hv:PE X value tv)(hop:TU X op rd)
  (ha:∀ ov iv new,augStore i ov iv new=(do zb7 [new,ov,iv] (setItem ov iv new);release [new,ov,iv] [];pure .next)):PS X (.AugAssign (.Subscript o i tpos) op value pos) (OU td ty tv rd):=by
 intro pins s σ H D I h
 refine wpAny_AugAssign_SubscriptAny (thn (ho pins s σ H _ I h) λu s1 ⟨x,H1,I1,rx,q1⟩=>thn (hi pins s1 σ H1 _ I1 q1) λiv s2 ⟨y,H2,I2,ry,a,v,ex,g,q2⟩=>?_) ha
 subst ex
 obtain rfl:u=XT a:=rx
 refine uC hu I2 g ry λw' s3 I3 rw'=>thn (hv pins s3 σ H2 _ I3 q2) λw2 s4 ⟨y2,H3,I4,ry2,q3⟩=>thn (hop pins s4 σ H3 v y2 w' w2 _ I4 rw' ry2 q3) λw3 s5 ⟨z,H4,I5,rz,H5,g5,q4⟩=>?_
 exact uG hu I5 g5 ry rz λs6 I6=>⟨σ,H5,I6,q4⟩
end
theorem JZ {P:XO}{w:X2}{H:Hp}(h:Heap)(hb:Zj < h.objs.size):df P w H (h.push { cls:=.type "dict", data:=.dict #[] }) h.objs.size (.dK []):=
 ⟨YG _,beq_eq_false_iff_ne.mpr (XQ (XF hb)),[],.nil,zem h⟩
theorem Ha {P:XO}{w:X2}{H:Hp}(h:Heap)(hb:Zj < h.objs.size):df P w H (h.push { cls:=.type "dict", data:=.dict #[] }) h.objs.size (.dT []):=
 ⟨YG _,beq_eq_false_iff_ne.mpr (XQ (XF hb)),[],.nil,_,#[],0,Xu _ rfl,⟨rfl,rfl,rfl⟩,rfl,rfl,zeD⟩
def RY:TE:=λ_ H Q=>∀ p,H p=none->Q (.ref p) (upd H p (.dT []))
section
variable {X:Cx} {pos:Pos}
theorem J8:PE X (.Dict [] [] pos) RY:=λpins s σ H Q I h=>
 wpAny_Dict_empty ⟨.ref s.heap.objs.size,_,I.laid (a:=s.heap.objs.size) (o:=.dT []) (t':=s.toks) (λ_ _ q=>Xa _ q) (Xs _) (Ha s.heap I.big),rfl,h _ (I.hok.fresh (Xs _))⟩
end
def vI:List (TE×TE)->St->Hp->(List (V×V)->Hp->Prop)->Prop
 | [],_,H,Q=>Q [] H
 | (tk,tv)::r,σ,H,Q=>tk σ H λx H1=>tv σ H1 λy H2=>vI r σ H2 λps H3=>Q ((x,y)::ps) H3
abbrev VV:List (V×V)->List (Xb×Xb)->Prop:=zbD λp q=>RelV p.1 q.1/\RelV p.2 q.2
def PPs (X:Cx)(pos:Pos)(keys:List (Option XG))(values:List XG)(trs:List (TE×TE)):Prop:=
 ∀ (pins:List (Addr×Obj)) (s:Xe) (σ:St) (H:Hp) (Q:List (V×V)->Hp->Prop),Inv X pins σ H s->vI trs σ H Q->
  XB (XD X.prog X.w) X.A (evalPairs (pairTrees keys values X.env pos)) (λvs s'=>∃ ps H',Inv X pins σ H' s'/\VV ps vs/\Q ps H') X.xe s
theorem Lu {X:Cx}{pos:Pos}:PPs X pos [] [] []:=λpins s σ H Q I h=>pairTrees_nil_walk ⟨[],H,I,.nil,h⟩
theorem F9 {X:Cx}{pos:Pos}{k v:XG}{ks:List (Option XG)}{vs:List XG}{tk tv:TE}{trs:List (TE×TE)}(hk:PE X k tk)(hv:PE X v tv)(hr:PPs X pos ks vs trs) :
  PPs X pos (some k::ks) (v::vs) ((tk,tv)::trs):=λpins s σ H Q I h=>
 pairTrees_cons_walk (thn (hk pins s σ H _ I h) λu s1 ⟨x,H1,I1,rx,q1⟩=>thn (hv pins s1 σ H1 _ I1 q1) λw2 s2 ⟨y,H2,I2,ry,q2⟩=>
  thn (hr pins s2 σ H2 _ I2 q2) λws s3 ⟨ps,H3,I3,rel,q3⟩=>⟨(x,y)::ps,H3,I3,.cons ⟨rx,ry⟩ rel,q3⟩)
def eB (kvs more:List (Key×V)):List (Key×V):=more.foldl (λacc kv=>putK acc kv.1 kv.2) kvs
theorem KV.merge:∀ {more:List (Key×V)} {rs:List (Key×Xb)} {kvs:List (Key×V)} {vs:List (Key×Xb)},KV more rs->KV kvs vs->KV (eB kvs more) (merged vs rs):=by
 intro more rs kvs vs r
 unfold KV at r
 induction r generalizing kvs vs with
 | nil=>intro q;exact q
 | @cons p q ps qs h t ih=>
  intro r0
  have e:KV (putK kvs p.1 p.2) (stored vs q.1 q.2):=by
   have:=r0.put p.1 h.2
   rw[← h.1];exact this
  exact ih e
theorem ig:∀ (more kvs:List (Key×V)),(eB kvs more).length<=kvs.length+more.length
 | [],kvs=>by show kvs.length<=kvs.length+0;omega
 | p::r,kvs=>by
  have h1:=ig r (putK kvs p.1 p.2)
  have h2:=jA kvs p.1 p.2
  show (eB (putK kvs p.1 p.2) r).length<=_
  rw[XI];omega
theorem sP {P:XO}{w:X2}:∀ {kvs:List (Key×V)} {ws:List (Xb×Xb)},VV (kvs.map λkv=>(kV kv.1,kv.2)) ws->∃ rs,Carries (bU P w) ws rs/\KV kvs rs
 | [],_,r=>by rw[Zf] at r;cases r;exact ⟨[],YQ,.nil⟩
 | p::kvs,_,r=>by
  rw[Xh] at r
  cases r with
  | @cons a b as bs h t=>
   obtain ⟨rs,c,q⟩:=sP (P:=P) (w:=w) t
   obtain ⟨b1,b2⟩:=b
   exact ⟨(p.1,b2)::rs,⟨uo h.1,rfl,c⟩,.cons ⟨rfl,h.2⟩ q⟩
def UD (trs:List (TE×TE)):TE:=λσ H Q=>∀ p,H p=none->vI trs σ (upd H p (.dK [])) λps H2=>H2 p=some (.dK [])/\∃ kvs:List (Key×V),ps=kvs.map (λkv=>(kV kv.1,kv.2))/\kvs.length<=15/\Q (.ref p) (upd H2 p (.dK (eB [] kvs)))
theorem NQ {X:Cx}{pos:Pos}{keys:List (Option XG)}{values:List XG}{trs:List (TE×TE)}(h:PPs X pos keys values trs)(hall:keys.all (·.isSome)=true)(hl:keys.length=values.length)(h0:keys≠[])
  (h15:keys.length<=15):PE X (.Dict keys values pos) (UD trs):=by
 intro pins s σ H Q I q
 have hn:=I.hok.fresh (Xs s.heap.objs.size)
 have I1:=I.laid (a:=s.heap.objs.size) (o:=.dK []) (h':=s.heap.push { cls:=.type "dict", data:=.dict #[] }) (t':=s.toks) (λ_ _ q=>Xa _ q) (Xs _) (JZ s.heap I.big)
 refine wpAny_Dict_walk (knd:=bU X.prog X.w) hall hl h0 h15 (thn (h pins _ σ _ _ I1 (q _ hn)) λws s2 ⟨ps,H2,I2,rel,e,kvs,ep,lk,q2⟩=>?_)
 subst ep
 obtain ⟨rs,c,rk⟩:=sP (P:=X.prog) (w:=X.w) rel
 obtain ⟨z,hd,vs0,r0,dd⟩:=Ow I2.hok e
 cases r0
 refine ⟨rs,c,dd,λh' dd' hs=>⟨.ref s.heap.objs.size,_,?_,rfl,q2⟩⟩
 have hz:(eB [] kvs).length<=sizeLine:=by
  have h1:=ig kvs []
  rw[za2] at h1
  rw[zcH];omega
 have he:∃ q,h'.get? s.heap.objs.size=some q:=let ⟨q,_,_,hq,_⟩:=dd';⟨q,hq⟩
 exact vt I2 (by rw[e];exact YQ) hs he (Cw hz hd (rk.merge .nil) dd')
structure M2 (X:Cx) (o:XG) (m:Str) (apos:Pos) (e f:XG) (cpos:Pos):Prop where
 base:Z7 o m X.env (Yl o X.env)=Yl o X.env
 few:((YA cpos (Xp [e,f] X.env)).all (λx=>!x.1)&&(zbl cpos (ZM [] X.env)).all (λx=>x.1.isSome)
  && decide (([e,f]:List XG).length+([]:List ZW).length+(if ([]:List ZW).isEmpty then 0 else 1) < 30))=true
 line:(apos.endLine == cpos.line)=true
 trees:YA cpos (Xp [e,f] X.env)=[(false,Yl e X.env),(false,Yl f X.env)]
def IsD (H:Hp)(a:Addr):Prop:=(∃ kvs,Rd H a (.dK kvs))∨∃ kvs,Rd H a (.dT kvs)
theorem Pg {X:Cx}{pins:List (Addr×Obj)}{σ:St}{H:Hp}{s:Xe}{a:Addr}(I:Inv X pins σ H s)(d:IsD H a) :
  s.TypeIs (.ref a) "dict" /\ (∀ b,XT a=.ref b->∃ ob,s.heap.get? b=some ob/\ob.dict=none)/\(a == Zj)=false:=by
 rcases d with ⟨kvs,e⟩ | ⟨kvs,e⟩
 ·obtain ⟨_,hd,vs,_,dd⟩:=xr I.hok e
  refine ⟨dd.typeIs,λb q=>?_,hd⟩
  cases q
  obtain ⟨ob,_,_,h1,h2,_⟩:=dd
  exact ⟨ob,h1,h2.2.1⟩
 ·obtain ⟨_,hd,xs,_,dd⟩:=xj I.hok e
  refine ⟨dd.typeIs,λb q=>?_,hd⟩
  cases q
  obtain ⟨ob,_,_,h1,h2,_⟩:=dd
  exact ⟨ob,h1,h2.2.1⟩
section
variable {X:Cx} {pins:List (Addr×Obj)} {σ:St} {H:Hp} {s:Xe} {a:Addr} {y d:V} {u r:Xb} {o:Option V} {A:Yh} {E:Xb->Xe->Prop}
theorem QE {Q:Xb->Xe->Prop}(hu:A.units+1 < cLine)(I:Inv X pins σ H s)(g:nh H a y o)(ry:RelV y u)(rd:RelV d r)(h:∀ w' s',Inv X pins σ H s'->RelV (o.getD d) w'->Q w' s') :
  XB (XD X.prog X.w) A (zcG (.builtin "dict.get") [.ref a,u,r]) Q E s:=by
 rcases g with ⟨kvs,k,e,ey,l⟩ | ⟨kvs,k,b,e,ey,eb,l⟩
 ·subst ey
  obtain ⟨z,hd,vs,rel,dd⟩:=xr I.hok e
  refine call_meetsIn zaF dd.typeIs zci (zbW _ _ _) (meets_dict_get_default (bU X.prog X.w) a (uo ry) hd r) ⟨_,dd.mapOf,h _ _ (I.tok _) ?_⟩
  rw[l]
  exact (rel.val k).getD rd
 ·subst ey
  cases (show u=XT b from ry)
  obtain ⟨z,hd,xs,rel,dd⟩:=xj I.hok e
  refine call_meetsIn zaF dd.typeIs zci (zbW _ _ _) (meetsH_dict_get_default (zbR (bU X.prog X.w)) a b hd r) ⟨zbr hu,k,xs,wu I.hok eb,dd,h _ _ (I.tok _) ?_⟩
  rw[l]
  exact (rel.val k).getD rd
end
def RI (td ty tx:TE):TE:=λσ H Q=>td σ H λx H1=>∃ a,x=.ref a/\IsD H1 a/\ty σ H1 λy H2=>tx σ H2 λz H3=>∃ o,nh H3 a y o/\Q (o.getD z) H3
section
variable {X:Cx} {o e f:XG} {apos cpos:Pos} {td ty tx:TE}
theorem Ip (hu:X.A.units+1 < cLine)(ho:PE X o td)(he:PE X e ty)(hf:PE X f tx)(m:M2 X o "get" apos e f cpos):PE X (.Call (.Attribute o "get" apos) [e,f] [] cpos) (RI td ty tx):=by
 intro pins s σ H Q I h
 refine wpAny_Call_method m.base m.few m.line PySem.F.plainAttrs_dict zaF PySem.F.type_dict_get (thn (ho pins s σ H _ I h) λu s1 ⟨x,H1,I1,rx,a,ex,d,q1⟩=>?_)
 subst ex
 obtain rfl:u=XT a:=rx
 obtain ⟨t1,t2,_⟩:=Pg I1 d
 refine ⟨t1,t2,?_⟩
 rw[m.trees]
 refine zcd rfl (zcK (zae (thn (he pins s1 σ H1 _ I1 q1) λiv s2 ⟨y,H2,I2,ry,q2⟩=>
  zae (thn (hf pins s2 σ H2 _ I2 q2) λfv s3 ⟨z,H3,I3,rz,ov,g,q3⟩=>zbA ?_))))
 exact QE hu I3 g ry rz λw' s4 I4 rw'=>⟨_,H3,I4,rw',q3⟩
end
section
variable {X:Cx} {pins:List (Addr×Obj)} {σ:St} {H:Hp} {s:Xe} {a:Addr} {kvs:List (Key×V)} {A:Yh} {E:Xb->Xe->Prop}
end
section
variable {X:Cx} {pins:List (Addr×Obj)} {σ:St} {H:Hp} {s:Xe} {a:Addr} {y:V} {u:Xb} {A:Yh} {E:Xb->Xe->Prop}
end
end L2
namespace L3
open PySem
local macro_rules | `(tactic| walk_at "ln")=>`(tactic| (intro ds μ Q h;split at h;rfl;exact h.elim))
theorem Jn {p q:Prop}(a:p)(b:q):p/\q:=⟨a,b⟩
inductive D where
 | non | bl (b:Bool) | int (i:Int) | str (x:Str) | ty (n:String) | tup (ds:List D) | ls (ds:List D) | obj (a:Addr)
inductive MO where
 | lst (ds:List D)
 | dct (kvs:List (L2.Key×D))
 | dcT (kvs:List (List L2.Key×D))
abbrev Mu:=Addr->Option MO
def up (μ:Mu)(a:Addr)(o:MO):Mu:=λb=>if b=a then some o else μ b
theorem aI {μ:Mu}{a:Addr}{o:MO}:up μ a o a=some o:=by unfold up;rw[if_pos rfl]
theorem aU {μ:Mu}{a b:Addr}{o:MO}(h:b≠a):up μ a o b=μ b:=by unfold up;rw[if_neg h]
theorem iA {μ:Mu}{a:Addr}{o u:MO}:up (up μ a o) a u=up μ a u:=by
 funext b;unfold up;split<;>rfl
abbrev ST:=List (Option D)
abbrev DK:=D->Mu->Prop
abbrev ETr:=ST->Mu->DK->Prop
abbrev TTr:=ST->Mu->(Bool->Mu->Prop)->Prop
abbrev ATr:=ST->Mu->(List D->Mu->Prop)->Prop
abbrev DR:=D->Mu->DK->Prop
abbrev DR2:=D->D->Mu->DK->Prop
abbrev FSp:=List D->Mu->DK->Prop
def kcI (ds:List D)(f:Int->List D->Prop):Prop:=match ds with
 | .int i::r=>f i r
 | _=>False
theorem ecI {ds:List D}{f:Int->List D->Prop}(h:kcI ds f):∃ i r,ds=.int i::r/\f i r:=by
 cases ds with
 | nil=>exact Xf h
 | cons d r=>cases d<;>first | exact ⟨_,_,rfl,h⟩ | exact Xf h
theorem lcI {ds:List D}{f:Int->List D->Prop}{n:Nat}(h:kcI ds f)(k:∀ i r,f i r->r.length=n):ds.length=n+1:=by
 obtain ⟨i,r,e,h⟩:=ecI h
 rw[e,XI,k i r h]
def kcS (ds:List D)(f:Str->List D->Prop):Prop:=match ds with
 | .str i::r=>f i r
 | _=>False
theorem ecS {ds:List D}{f:Str->List D->Prop}(h:kcS ds f):∃ i r,ds=.str i::r/\f i r:=by
 cases ds with
 | nil=>exact Xf h
 | cons d r=>cases d<;>first | exact ⟨_,_,rfl,h⟩ | exact Xf h
theorem lcS {ds:List D}{f:Str->List D->Prop}{n:Nat}(h:kcS ds f)(k:∀ i r,f i r->r.length=n):ds.length=n+1:=by
 obtain ⟨i,r,e,h⟩:=ecS h
 rw[e,XI,k i r h]
def kcT (ds:List D)(f:List D->List D->Prop):Prop:=match ds with
 | .tup i::r=>f i r
 | _=>False
theorem ecT {ds:List D}{f:List D->List D->Prop}(h:kcT ds f):∃ i r,ds=.tup i::r/\f i r:=by
 cases ds with
 | nil=>exact Xf h
 | cons d r=>cases d<;>first | exact ⟨_,_,rfl,h⟩ | exact Xf h
theorem lcT {ds:List D}{f:List D->List D->Prop}{n:Nat}(h:kcT ds f)(k:∀ i r,f i r->r.length=n):ds.length=n+1:=by
 obtain ⟨i,r,e,h⟩:=ecT h
 rw[e,XI,k i r h]
def kcL (ds:List D)(f:List D->List D->Prop):Prop:=match ds with
 | .ls i::r=>f i r
 | _=>False
theorem ecL {ds:List D}{f:List D->List D->Prop}(h:kcL ds f):∃ i r,ds=.ls i::r/\f i r:=by
 cases ds with
 | nil=>exact Xf h
 | cons d r=>cases d<;>first | exact ⟨_,_,rfl,h⟩ | exact Xf h
theorem lcL {ds:List D}{f:List D->List D->Prop}{n:Nat}(h:kcL ds f)(k:∀ i r,f i r->r.length=n):ds.length=n+1:=by
 obtain ⟨i,r,e,h⟩:=ecL h
 rw[e,XI,k i r h]
def kcO (ds:List D)(f:Addr->List D->Prop):Prop:=match ds with
 | .obj i::r=>f i r
 | _=>False
theorem ecO {ds:List D}{f:Addr->List D->Prop}(h:kcO ds f):∃ i r,ds=.obj i::r/\f i r:=by
 cases ds with
 | nil=>exact Xf h
 | cons d r=>cases d<;>first | exact ⟨_,_,rfl,h⟩ | exact Xf h
theorem lcO {ds:List D}{f:Addr->List D->Prop}{n:Nat}(h:kcO ds f)(k:∀ i r,f i r->r.length=n):ds.length=n+1:=by
 obtain ⟨i,r,e,h⟩:=ecO h
 rw[e,XI,k i r h]
def kcA (ds:List D)(f:D->List D->Prop):Prop:=match ds with
 | i::r=>f i r
 | _=>False
theorem ecA {ds:List D}{f:D->List D->Prop}(h:kcA ds f):∃ i r,ds=i::r/\f i r:=by
 cases ds with
 | nil=>exact Xf h
 | cons d r=>exact ⟨_,_,rfl,h⟩
theorem lcA {ds:List D}{f:D->List D->Prop}{n:Nat}(h:kcA ds f)(k:∀ i r,f i r->r.length=n):ds.length=n+1:=by
 obtain ⟨i,r,e,h⟩:=ecA h
 rw[e,XI,k i r h]
def kcN (ds:List D)(P:Prop):Prop:=match ds with
 | []=>P
 | _=>False
theorem ecN {ds:List D}{P:Prop}(h:kcN ds P):ds=[]/\P:=by
 cases ds with
 | nil=>exact ⟨rfl,h⟩
 | cons d r=>exact Xf h
structure En where
 nx:ST->Mu->Prop
 rt:DK
 bk:ST->Mu->Prop:=λ_ _=>False
 ct:ST->Mu->Prop:=λ_ _=>False
abbrev STr:=En->ST->Mu->Prop
abbrev GTr:=D->ST->Mu->(ST->Mu->Prop)->Prop
def kIf (c:Bool)(A B:Prop):Prop:=match c with
 | true=>A
 | false=>B
def kB (x:D)(f:Bool->Prop):Prop:=match x with
 | .bl c=>f c
 | _=>False
def kI (x:D)(f:Int->Prop):Prop:=match x with
 | .int c=>f c
 | _=>False
def kO (x:Option D)(f:D->Prop):Prop:=match x with
 | some d=>f d
 | none=>False
def kS (x:D)(f:List D->Prop):Prop:=match x with
 | .tup ds=>f ds
 | .ls ds=>f ds
 | _=>False
def k2 (ds:List D)(f:D->D->Prop):Prop:=match ds with
 | [v,w]=>f v w
 | _=>False
def kL (μ:Mu)(a:Addr)(f:List D->Prop):Prop:=match μ a with
 | some (.lst ds)=>f ds
 | _=>False
def kD (μ:Mu)(a:Addr)(f:List (L2.Key×D)->Prop):Prop:=match μ a with
 | some (.dct ds)=>f ds
 | _=>False
def kN (x:Option Nat)(f:Nat->Prop):Prop:=match x with
 | some d=>f d
 | none=>False
def lk:ST->Nat->Option D
 | [],_=>none
 | o::_,0=>o
 | _::r,n+1=>lk r n
def ah (i:Nat):ETr:=λρ μ Q=>kO (lk ρ i) λd=>Q d μ
def TC (d:D):ETr:=λ_ μ Q=>Q d μ
def aj (r:DR2)(a b:ETr):ETr:=λρ μ Q=>a ρ μ λx μ1=>b ρ μ1 λy μ2=>r x y μ2 Q
def TUn (r:DR)(a:ETr):ETr:=λρ μ Q=>a ρ μ λx μ1=>r x μ1 Q
def S64 (i:Int):Prop:=-18446744073709551616 < i/\i < 18446744073709551616
def gw (i:Int):Prop:=-115792089237316195423570985008687907853269984665640564039457584007913129639936 < i/\i < 115792089237316195423570985008687907853269984665640564039457584007913129639936
def MulOk (i j:Int):Prop:=(S64 i∨S64 j)∨(gw i/\gw j)
def jO (j:Int):Prop:=j≠0/\gw j
def nH (i j:Int):Prop:=0<=j/\j<=1000000/\i.natAbs < 18446744073709551616
def U9:DR2:=λx y μ Q=>match x,y with
 | .int i,.int j=>Q (.int (i+j)) μ
 | .tup a,.tup b=>(a≠[]/\a.length+b.length<=1000000)/\Q (.tup (a++b)) μ
 | _,_=>False
def kn:DR2:=λx y μ Q=>match x,y with
 | .int i,.int j=>Q (.int (i - j)) μ
 | _,_=>False
def eK:DR2:=λx y μ Q=>match x,y with
 | .int i,.int j=>MulOk i j/\Q (.int (i*j)) μ
 | _,_=>False
def ni:DR2:=λx y μ Q=>match x,y with
 | .int i,.int j=>jO j/\Q (.int (i.fdiv j)) μ
 | _,_=>False
def lX:DR2:=λx y μ Q=>match x,y with
 | .int i,.int j=>j≠0/\Q (.int (i.fmod j)) μ
 | _,_=>False
def E7:DR2:=λx y μ Q=>match x,y with
 | .int i,.int j=>nH i j/\Q (.int (i ^ j.toNat)) μ
 | _,_=>False
def NK:DR:=λx μ Q=>match x with
 | .int i=>Q (.int (-i)) μ
 | _=>False
def GU (p:Int->Int->Bool):DR2:=λx y μ Q=>match x,y with
 | .int i,.int j=>Q (.bl (p i j)) μ
 | _,_=>False
def rLt:DR2:=GU λi j=>decide (i < j)
def rLe:DR2:=GU λi j=>decide (i<=j)
def rGt:DR2:=GU λi j=>decide (j < i)
def rGe:DR2:=GU λi j=>decide (j<=i)
mutual
def eqD:D->D->Bool
 | .non,.non=>true
 | .bl a,.bl b=>a == b
 | .int a,.int b=>decide (a=b)
 | .bl a,.int b=>decide ((if a then 1 else 0:Int)=b)
 | .int a,.bl b=>decide (a=(if b then 1 else 0:Int))
 | .str a,.str b=>decide (a=b)
 | .tup a,.tup b=>oH a b
 | .ls a,.ls b=>oH a b
 | _,_=>false
def oH:List D->List D->Bool
 | [],[]=>true
 | a::r,b::s=>eqD a b&&oH r s
 | _,_=>false
end
mutual
def okD:Nat->D->Bool
 | _,.non=>true
 | _,.bl _=>true
 | _,.int _=>true
 | _,.str x=>Xk x
 | n+1,.tup ds=>c6 n ds
 | n+1,.ls ds=>c6 n ds
 | _,_=>false
def c6:Nat->List D->Bool
 | _,[]=>true
 | n,d::ds=>okD n d&&c6 n ds
end
def rEq:DR2:=λx y μ Q=>(okD 40 x=true/\okD 40 y=true)/\Q (.bl (eqD x y)) μ
def rNe:DR2:=λx y μ Q=>(okD 40 x=true/\okD 40 y=true)/\Q (.bl (!eqD x y)) μ
def rIs:DR2:=λx y μ Q=>match y with
 | .non=>(match x with
  | .non=>Q (.bl true) μ
  | _=>Q (.bl false) μ)
 | _=>False
def iq:DR2:=λx y μ Q=>match y with
 | .non=>(match x with
  | .non=>Q (.bl false) μ
  | _=>Q (.bl true) μ)
 | _=>False
def iE (a b:ETr):ETr:=λρ μ Q=>a ρ μ λx μ1=>kB x λc=>kIf c (b ρ μ1 Q) (Q (.bl false) μ1)
def IJ (a b:ETr):ETr:=λρ μ Q=>a ρ μ λx μ1=>kB x λc=>kIf c (Q (.bl true) μ1) (b ρ μ1 Q)
def qc (a:ETr):ETr:=λρ μ Q=>a ρ μ λx μ1=>kB x λc=>Q (.bl (!c)) μ1
def TB (t:ETr):TTr:=λρ μ Q=>t ρ μ λx μ1=>kB x λc=>Q c μ1
def sQ (t u:TTr):TTr:=λρ μ Q=>t ρ μ λc μ1=>kIf c (u ρ μ1 Q) (Q false μ1)
def TOr (t u:TTr):TTr:=λρ μ Q=>t ρ μ λc μ1=>kIf c (Q true μ1) (u ρ μ1 Q)
def Bm (t:TTr):TTr:=λρ μ Q=>t ρ μ λc μ1=>Q (!c) μ1
def ly (c:TTr)(a b:ETr):ETr:=λρ μ Q=>c ρ μ λk μ1=>kIf k (a ρ μ1 Q) (b ρ μ1 Q)
def Bz (r r':DR2)(a b c:ETr):ETr:=λρ μ Q=>a ρ μ λx μ1=>b ρ μ1 λy μ2=>r x y μ2 λz μ3=>kB z λk=>kIf k (c ρ μ3 λy' μ4=>r' y y' μ4 Q) (Q (.bl false) μ3)
def ao:ATr:=λ_ μ Q=>Q [] μ
def af (a:ETr)(r:ATr):ATr:=λρ μ Q=>a ρ μ λx μ1=>r ρ μ1 λxs μ2=>Q (x::xs) μ2
def a7 (t:ATr):ETr:=λρ μ Q=>t ρ μ λds μ1=>ds.length<=1000000/\Q (.tup ds) μ1
def fB (t:ATr):ETr:=λρ μ Q=>t ρ μ λds μ1=>ds.length<=1000000/\Q (.ls ds) μ1
def kr (t:ATr):ETr:=λρ μ Q=>t ρ μ λds μ1=>ds.length<=1000000/\∀ p,μ1 p=none->Q (.obj p) (up μ1 p (.lst ds))
def au (sp:FSp)(t:ATr):ETr:=λρ μ Q=>t ρ μ λds μ1=>sp ds μ1 Q
def atD (ds:List D)(i:Int):Option D:=L2.atI ds i
def rIx:DR2:=λx y μ Q=>match x,y with
 | .tup ds,.int i=>kO (atD ds i) λd=>Q d μ
 | .ls ds,.int i=>kO (atD ds i) λd=>Q d μ
 | .obj a,.int i=>kL μ a λds=>kO (atD ds i) λd=>Q d μ
 | _,_=>False
def yO:FSp:=λds μ Q=>match ds with
 | [.int i]=>Q (.int (if i < 0 then -i else i)) μ
 | _=>False
def qN:FSp:=λds μ Q=>match ds with
 | [.int i,.int j]=>Q (.int (if j > i then j else i)) μ
 | _=>False
def uE:FSp:=λds μ Q=>match ds with
 | [.int i,.int j]=>Q (.int (if j < i then j else i)) μ
 | _=>False
def Cy:FSp:=λds μ Q=>match ds with
 | [.int i]=>Q (.int i) μ
 | [.bl k]=>Q (.int (if k then 1 else 0)) μ
 | _=>False
def c8:FSp:=λds μ Q=>match ds with
 | [.tup xs]=>Q (.int xs.length) μ
 | [.ls xs]=>Q (.int xs.length) μ
 | [.str x]=>x.length<=1000000/\Q (.int x.length) μ
 | [.obj a]=>kL μ a λxs=>Q (.int xs.length) μ
 | _=>False
def tyD:D->Option String
 | .non=>some "NoneType"
 | .bl _=>some "bool"
 | .int _=>some "int"
 | .str _=>some "str"
 | .tup _=>some "tuple"
 | .ls _=>some "list"
 | _=>none
def eM (t c:String):Bool:=t == c || (t == "bool" && c == "int")
def eX (c:String):DR:=λx μ Q=>match tyD x with
 | some t=>Q (.bl (eM t c)) μ
 | none=>False
def ba:STr:=λE ρ μ=>E.nx ρ μ
def aA (t u:STr):STr:=λE ρ μ=>t { E with nx:=u E } ρ μ
def Bi:STr:=λE ρ μ=>E.bk ρ μ
def Kj:STr:=λE ρ μ=>E.ct ρ μ
def eU (e:ETr):STr:=λE ρ μ=>e ρ μ λ_ μ1=>E.nx ρ μ1
def aV (e:ETr):STr:=λE ρ μ=>e ρ μ E.rt
def KA:STr:=λE _ μ=>E.rt .non μ
def bL (c:TTr)(t u:STr):STr:=λE ρ μ=>c ρ μ λb μ1=>kIf b (t E ρ μ1) (u E ρ μ1)
def ay (i:Nat):GTr:=λd ρ μ k=>k (ρ.set i (some d)) μ
def aO (e:ETr)(g:GTr):STr:=λE ρ μ=>e ρ μ λd μ1=>g d ρ μ1 E.nx
def ri (i j:Nat)(a:ATr):STr:=λE ρ μ=>a ρ μ λds μ1=>k2 ds λv w=>E.nx ((ρ.set i (some v)).set j (some w)) μ1
def Uz (x z y:D)(μ:Mu)(f:Mu->Prop):Prop:=match x,z with
 | .obj a,.int n=>kL μ a λds=>kN (L2.ixN ds.length n) λj=>f (up μ a (.lst (ds.set j y)))
 | _,_=>False
def Co (o k e:ETr):STr:=λE ρ μ=>e ρ μ λy μ1=>o ρ μ1 λx μ2=>k ρ μ2 λz μ3=>Uz x z y μ3 λμ4=>E.nx ρ μ4
def vm (c:TTr)(b:STr):STr:=λE ρ μ=>∃ (P:ST->Mu->Prop) (m:ST->Mu->Nat),P ρ μ/\∀ ρ μ,P ρ μ->
 c ρ μ λk μ1=>kIf k (b { E with nx:=λρ' μ'=>P ρ' μ'/\m ρ' μ' < m ρ μ,ct:=λρ' μ'=>P ρ' μ'/\m ρ' μ' < m ρ μ,bk:=E.nx } ρ μ1) (E.nx ρ μ1)
def forR (g:GTr)(b:STr)(E:En):List D->ST->Mu->Prop
 | [],ρ,μ=>E.nx ρ μ
 | d::r,ρ,μ=>g d ρ μ λρ1 μ1=>b { E with nx:=forR g b E r,ct:=forR g b E r,bk:=E.nx } ρ1 μ1
def eG (it:ATr)(g:GTr)(b:STr):STr:=λE ρ μ=>it ρ μ λds μ1=>forR g b E ds ρ μ1
def bX (lo:Int)(n:Nat):List D:=(XJ n).map λi=>.int (lo+(i:Nat))
def fM (a:ETr):ATr:=λρ μ Q=>a ρ μ λx μ1=>kI x λj=>(-4611686018427387904<=j/\j < 4611686018427387904)/\Q (bX 0 j.toNat) μ1
def cN (a:ETr):ATr:=λρ μ Q=>a ρ μ λx μ1=>kS x λds=>Q ds μ1
def dn (μ:Mu)(a:Addr):Mu:=λb=>if b=a then none else μ b
theorem sN {μ:Mu}{a:Addr}{o:MO}(h:μ a=none):dn (up μ a o) a=μ:=by
 funext b
 unfold dn up
 by_cases hb:b=a
 ·subst hb;simp[h]
 ·simp[hb]
def eZ (ρ:ST)(n:Nat)(caps:List Nat):ST:=YI n none++caps.map (lk ρ)
def fF (p:Addr)(G:GTr)(tt:TTr)(te:ETr)(ρc:ST)(K:Mu->Prop):List D->Mu->Prop
 | [],μ=>K μ
 | d::r,μ=>G d ρc μ λρ1 μ1=>tt ρ1 μ1 λb μ2=>kIf b (te ρ1 μ2 λy μ3=>kL μ3 p λzs=>zs.length < 1000000/\fF p G tt te ρc K r (up μ3 p (.lst (zs++[y])))) (fF p G tt te ρc K r μ2)
def bK (it:ATr)(G:GTr)(tt:TTr)(te:ETr)(n:Nat)(caps:List Nat):ETr:=λρ μ Q=>it ρ μ λds μ1=>∀ p,μ1 p=none->
 fF p G tt te (eZ ρ n caps) (λμ'=>kL μ' p λzs=>Q (.ls zs) (dn μ' p)) ds (up μ1 p (.lst []))
def dF:TTr:=λ_ μ Q=>Q true μ
def F0:FSp:=λds μ Q=>match ds with
 | [.ls xs]=>∃ bs:List Bool,xs=bs.map .bl/\Q (.bl (bs.all id)) μ
 | _=>False
theorem bu {g:GTr}{b:STr}{E:En}(P:List D->ST->Mu->Prop)(hnil:∀ ρ μ,P [] ρ μ->E.nx ρ μ)
  (hcons:∀ d r ρ μ (N:ST->Mu->Prop),P (d::r) ρ μ->(∀ ρ' μ',P r ρ' μ'->N ρ' μ')->g d ρ μ λρ1 μ1=>b { E with nx:=N,ct:=N,bk:=E.nx } ρ1 μ1) :
  ∀ (ds:List D) (ρ:ST) (μ:Mu),P ds ρ μ->forR g b E ds ρ μ
 | [],ρ,μ,h=>hnil ρ μ h
 | d::r,ρ,μ,h=>hcons d r ρ μ _ h λρ' μ' q=>bu P hnil hcons r ρ' μ' q
section
open PySem PySem.Spec PyProof.Rows L2
def SqF (K:W7)(H:Hp)(a:Addr)(xs:List V):Prop:=
 (∃ o,H a=some (.frz o (.lst xs)))∨
  ∃ (o:Obj) (its:Array Xb) (n:Nat),K.lookup a=some o/\o.cls=.type "list" /\ o.dict=none/\o.data=.seq its n/\its.size<=sizeLine/\Vals xs its.toList
theorem SqF.sq {K:W7}{H:Hp}{a:Addr}{xs:List V}(h:SqF K H a xs):SqL K H a xs:=by
 rcases h with h | h
 ·exact .inl (.inr h)
 ·exact .inr h
mutual
inductive Dp (K:W7) (H:Hp):V->D->Prop
 | non:Dp K H .non .non
 | bl (b:Bool):Dp K H (.bl b) (.bl b)
 | int (n:Int):Dp K H (.int n) (.int n)
 | str (z:Str):Dp K H (.str z) (.str z)
 | ty (n:String):Dp K H (.ty n) (.ty n)
 | tup {a:Addr} {xs:List V} {ds:List D}:SqT K H a xs->DpL K H xs ds->Dp K H (.ref a) (.tup ds)
 | ls {a:Addr} {xs:List V} {ds:List D}:SqF K H a xs->DpL K H xs ds->Dp K H (.ref a) (.ls ds)
 | obj (a:Addr):Dp K H (.ref a) (.obj a)
inductive DpL (K:W7) (H:Hp):List V->List D->Prop
 | nil:DpL K H [] []
 | cons {v:V} {d:D} {vs:List V} {ds:List D}:Dp K H v d->DpL K H vs ds->DpL K H (v::vs) (d::ds)
end
structure Tk (H H':Hp):Prop where
 tup:∀ a xs,H a=some (.tup xs)->H' a=some (.tup xs)
 frz:∀ a o u,H a=some (.frz o u)->H' a=some (.frz o u)
theorem Tk.refl (H:Hp):Tk H H:=⟨λ_ _ h=>h,λ_ _ _ h=>h⟩
theorem Tk.trans {H H1 H2:Hp}(a:Tk H H1)(b:Tk H1 H2):Tk H H2:=⟨λc xs h=>b.tup c xs (a.tup c xs h),λc o u h=>b.frz c o u (a.frz c o u h)⟩
theorem Tk.upd {H:Hp}{a:Addr}{o:HO}(h1:∀ xs,H a≠some (.tup xs))(h2:∀ o u,H a≠some (.frz o u)):Tk H (L2.upd H a o):=
 ⟨λb xs h=>by rw[aP (λz=>by subst z;exact h1 _ h)];exact h,λb o u h=>by rw[aP (λz=>by subst z;exact h2 _ _ h)];exact h⟩
theorem Tk.new {H:Hp}{a:Addr}{o:HO}(h:H a=none):Tk H (L2.upd H a o):=.upd (λ_ e=>by rw[h] at e;cases e) λ_ _ e=>by rw[h] at e;cases e
theorem Tk.sqT {K:W7}{H H':Hp}{a:Addr}{xs:List V}(t:Tk H H')(h:SqT K H a xs):SqT K H' a xs:=by
 rcases h with (h | ⟨o,h⟩) | h
 ·exact .inl (.inl (t.tup _ _ h))
 ·exact .inl (.inr ⟨o,t.frz _ _ _ h⟩)
 ·exact .inr h
theorem Tk.sqF {K:W7}{H H':Hp}{a:Addr}{xs:List V}(t:Tk H H')(h:SqF K H a xs):SqF K H' a xs:=by
 rcases h with ⟨o,h⟩ | h
 ·exact .inl ⟨o,t.frz _ _ _ h⟩
 ·exact .inr h
mutual
theorem Dp.mono {K:W7}{H H':Hp}(t:Tk H H'):∀ {v:V} {d:D},Dp K H v d->Dp K H' v d
 | _,_,.non=>.non
 | _,_,.bl b=>.bl b
 | _,_,.int i=>.int i
 | _,_,.str x=>.str x
 | _,_,.ty n=>.ty n
 | _,_,.tup h l=>.tup (t.sqT h) (DpL.mono t l)
 | _,_,.ls h l=>.ls (t.sqF h) (DpL.mono t l)
 | _,_,.obj a=>.obj a
theorem DpL.mono {K:W7}{H H':Hp}(t:Tk H H'):∀ {vs:List V} {ds:List D},DpL K H vs ds->DpL K H' vs ds
 | _,_,.nil=>.nil
 | _,_,.cons h l=>.cons (Dp.mono t h) (DpL.mono t l)
end
theorem DpL.length {K:W7}{H:Hp}:∀ {vs:List V} {ds:List D},DpL K H vs ds->vs.length=ds.length
 | _,_,.nil=>rfl
 | _,_,.cons _ l=>by rw[XI,XI,DpL.length l]
theorem DpL.get {K:W7}{H:Hp}:∀ {vs:List V} {ds:List D} {i:Nat} {d:D},DpL K H vs ds->ds[i]? = some d->∃ v,vs[i]? = some v/\Dp K H v d
 | _,_,_,_,.nil,e=>by simp at e
 | _,_,0,_,.cons h _,e=>by simp at e;subst e;exact ⟨_,rfl,h⟩
 | _,_,i+1,d,.cons _ l,e=>by
  obtain ⟨v,e1,h⟩:=DpL.get (i:=i) (d:=d) l (by simpa using e)
  exact ⟨v,by simpa using e1,h⟩
theorem DpL.get' {K:W7}{H:Hp}:∀ {vs:List V} {ds:List D} {i:Nat} {v:V},DpL K H vs ds->vs[i]? = some v->∃ d,ds[i]? = some d/\Dp K H v d
 | _,_,_,_,.nil,e=>by simp at e
 | _,_,0,_,.cons h _,e=>by simp at e;subst e;exact ⟨_,rfl,h⟩
 | _,_,i+1,d,.cons _ l,e=>by
  obtain ⟨v,e1,h⟩:=DpL.get' (i:=i) (v:=d) l (by simpa using e)
  exact ⟨v,by simpa using e1,h⟩
theorem DpL.set {K:W7}{H:Hp}{v:V}{d:D}(h:Dp K H v d):∀ {vs:List V} {ds:List D} (i:Nat),DpL K H vs ds->DpL K H (vs.set i v) (ds.set i d)
 | _,_,_,.nil=>.nil
 | _,_,0,.cons _ l=>.cons h l
 | _,_,i+1,.cons q l=>.cons q (DpL.set h i l)
theorem DpL.append {K:W7}{H:Hp}:∀ {vs ws:List V} {ds es:List D},DpL K H vs ds->DpL K H ws es->DpL K H (vs++ws) (ds++es)
 | _,_,_,_,.nil,s=>s
 | _,_,_,_,.cons h l,s=>.cons h (DpL.append l s)
theorem DpL.at {K:W7}{H:Hp}{vs:List V}{ds:List D}{i:Int}{d:D}(l:DpL K H vs ds)(e:atD ds i=some d):∃ v,atI vs i=some v/\Dp K H v d:=by
 unfold atD atI at e
 unfold atI
 rw[l.length]
 cases q:ixN ds.length i with
 | none=>rw[q] at e;cases e
 | some j=>
  rw[q] at e
  exact l.get e
def DpK {κ:Type}(K:W7)(H:Hp)(xs:List (κ×V))(kvs:List (κ×D)):Prop:=xs.map (·.1)=kvs.map (·.1)/\DpL K H (xs.map (·.2)) (kvs.map (·.2))
theorem DpK.mono {κ:Type}{K:W7}{H H':Hp}(t:Tk H H'){xs:List (κ×V)}{kvs:List (κ×D)}(h:DpK K H xs kvs):DpK K H' xs kvs:=⟨h.1,h.2.mono t⟩
def Ak (K:W7)(H:Hp)(a:Addr):MO->Prop
 | .lst ds=>∃ xs,H a=some (.lst xs)/\DpL K H xs ds
 | .dct kvs=>∃ xs,H a=some (.dK xs)/\DpK K H xs kvs
 | .dcT kvs=>∃ xs,H a=some (.dT xs)/\DpK K H xs kvs
theorem Ak.go {K:W7}{H H':Hp}{a:Addr}{o:MO}(h:Ak K H a o)(t:Tk H H')(k:∀ u,H a=some u->H' a=some u):Ak K H' a o:=by
 cases o<;>(obtain ⟨xs,z,l⟩:=h;exact ⟨xs,k _ z,l.mono t⟩)
theorem Ak.ne {K:W7}{H:Hp}{a q:Addr}{o:MO}{u:HO}(h:Ak K H a o)(t:Tk H (L2.upd H q u))(k:a≠q):Ak K (L2.upd H q u) a o:=h.go t λ_ e=>by rw[aP k];exact e
def bM (K:W7)(H:Hp)(μ:Mu):Prop:=∀ a o,μ a=some o->Ak K H a o
theorem bM.free {K:W7}{H:Hp}{μ:Mu}(h:bM K H μ){a:Addr}(e:H a=none):μ a=none:=by
 cases q:μ a with
 | none=>rfl
 | some o=>
  cases o<;>(obtain ⟨xs,z,_⟩:=h a _ q;rw[e] at z;cases z)
theorem bM.keep {K:W7}{H H':Hp}{μ:Mu}(h:bM K H μ)(t:Tk H H')(k:∀ a u,μ a≠none->H a=some u->H' a=some u):bM K H' μ:=λa o e=>by
 exact (h a _ e).go t λu z=>k a u (by rw[e];simp) z
def Sub (μ μ':Mu):Prop:=∀ a o,μ a=some o->μ' a=some o
theorem Sub.refl (μ:Mu):Sub μ μ:=λ_ _ h=>h
theorem Sub.new {μ:Mu}{p:Addr}{o:MO}(h:μ p=none):Sub μ (up μ p o):=λa u e=>by
 rw[aU (λz=>by subst z;rw[h] at e;cases e)];exact e
theorem Sub.trans {μ μ1 μ2:Mu}(a:Sub μ μ1)(b:Sub μ1 μ2):Sub μ μ2:=λc o h=>b c o (a c o h)
theorem bM.sub {K:W7}{H:Hp}{μ μ':Mu}(h:bM K H μ')(s:Sub μ μ'):bM K H μ:=λa o e=>h a o (s a o e)
structure Rl (K:W7) (σ:L2.St) (H:Hp) (ρ:ST) (μ:Mu):Prop where
 len:ρ.length=σ.length
 loc:∀ i d,lk ρ i=some d->∃ v,σ[i]? = some (some v)/\Dp K H v d
 mu:bM K H μ
theorem Rl.go {K:W7}{σ:L2.St}{H H':Hp}{ρ:ST}{μ μ':Mu}(r:Rl K σ H ρ μ)(t:Tk H H')(m:bM K H' μ'):Rl K σ H' ρ μ':=
 ⟨r.len,λi d e=>let ⟨v,h1,h2⟩:=r.loc i d e;⟨v,h1,h2.mono t⟩,m⟩
theorem Ki:∀ (ρ:ST) (i j:Nat) (d:D),lk (ρ.set i (some d)) j=if i=j/\i < ρ.length then some d else lk ρ j
 | [],i,j,d=>by simp[lk]
 | o::r,0,0,d=>by simp[lk]
 | o::r,0,j+1,d=>by simp[lk]
 | o::r,i+1,0,d=>by simp[lk]
 | o::r,i+1,j+1,d=>by
  show lk (r.set i (some d)) j=_
  rw[Ki r i j d]
  simp[lk]
theorem Rl.set {K:W7}{σ:L2.St}{H:Hp}{ρ:ST}{μ:Mu}(r:Rl K σ H ρ μ){v:V}{d:D}(h:Dp K H v d)(i:Nat):Rl K (σ.set i (some v)) H (ρ.set i (some d)) μ:=by
 refine ⟨by simp[r.len],λj e q=>?_,r.mu⟩
 rw[Ki] at q
 split at q
 ·rename_i hc
  obtain ⟨rfl,hlt⟩:=hc
  cases q
  exact ⟨v,by rw[zau (by rw[← r.len];exact hlt)],h⟩
 ·rename_i hc
  obtain ⟨u,h1,h2⟩:=r.loc j e q
  by_cases hij:i=j
  ·subst hij
   have:¬ i < ρ.length:=λz=>hc ⟨rfl,z⟩
   have hn:σ[i]? = none:=Z2.mpr (by rw[← r.len];omega)
   rw[hn] at h1;cases h1
  ·exact ⟨u,by rw[Ze hij];exact h1,h2⟩
abbrev jw (K:W7)(H:Hp)(Q:DK)(Q':VK):Prop:=∀ v H' d μ',Tk H H'->bM K H' μ'->Dp K H' v d->Q d μ'->Q' v H'
def Sim (K:W7)(t:TE)(T:ETr):Prop:=∀ σ H ρ μ (Q:DK) (Q':VK),Rl K σ H ρ μ->T ρ μ Q->jw K H Q Q'->t σ H Q'
def Nb (K:W7)(t:TT)(T:TTr):Prop:=∀ σ H ρ μ (Q:Bool->Mu->Prop) (Q':Bool->Hp->Prop),Rl K σ H ρ μ->T ρ μ Q->(∀ b H' μ',Tk H H'->bM K H' μ'->Q b μ'->Q' b H')->t σ H Q'
def TQ (K:W7)(t:TA)(T:ATr):Prop:=∀ σ H ρ μ (Q:List D->Mu->Prop) (Q':List V->Hp->Prop),Rl K σ H ρ μ->T ρ μ Q->(∀ vs H' ds μ',Tk H H'->bM K H' μ'->DpL K H' vs ds->Q ds μ'->Q' vs H')->t σ H Q'
abbrev uP (K:W7)(H:Hp)(N:ST->Mu->Prop)(N':L2.St->Hp->Prop):Prop:=∀ σ' H' ρ' μ',Tk H H'->Rl K σ' H' ρ' μ'->N ρ' μ'->N' σ' H'
structure GC (K:W7) (H:Hp) (E:En) (E':Ends):Prop where
 nx:uP K H E.nx E'.nx
 rt:jw K H E.rt E'.rt
 bk:uP K H E.bk E'.bk
 ct:uP K H E.ct E'.ct
theorem GC.go {K:W7}{H H1:Hp}{E:En}{E':Ends}(e:GC K H E E')(t:Tk H H1):GC K H1 E E':=
 ⟨λ_ _ _ _ t'=>e.nx _ _ _ _ (t.trans t'),λ_ _ _ _ t'=>e.rt _ _ _ _ (t.trans t'),λ_ _ _ _ t'=>e.bk _ _ _ _ (t.trans t'),λ_ _ _ _ t'=>e.ct _ _ _ _ (t.trans t')⟩
def Ij (K:W7)(t:TS)(T:STr):Prop:=∀ σ H ρ μ (E:En) (E':Ends),Rl K σ H ρ μ->T E ρ μ->GC K H E E'->t E' σ H
def Qd (K:W7)(g:TG)(G:GTr):Prop:=∀ σ H ρ μ v d (k:ST->Mu->Prop) (k':L2.St->Hp->Prop),Rl K σ H ρ μ->Dp K H v d->G d ρ μ k->uP K H k k'->g v σ H k'
structure LE (X:Cx) (e:XG) (T:ETr):Prop where
 ex:∃ t,PE X e t/\Sim X.K t T
structure LT (X:Cx) (e:XG) (T:TTr):Prop where
 ex:∃ t,PT X e t/\Nb X.K t T
structure LW (X:Cx) (e:XG) (T:TTr):Prop where
 ex:∃ t,PW X e t/\Nb X.K t T
structure LA (X:Cx) (es:List XG) (T:ATr):Prop where
 ex:∃ t,PA X es t/\TQ X.K t T
structure LS (X:Cx) (st:Stmt) (T:STr):Prop where
 ex:∃ t,PS X st t/\Ij X.K t T
structure LSs (X:Cx) (sts:List Stmt) (T:STr):Prop where
 ex:∃ t,PSs X sts t/\Ij X.K t T
structure LG (X:Cx) (tg:XG) (G:GTr):Prop where
 ex:∃ g,PG X tg g/\Qd X.K g G
section
variable {X:Cx} {a b c e:XG} {Ta Tb Tc:ETr} {pos:Pos}
theorem ae (i:Nat){x:Str}(hN:X.N[i]? = some x:=by rfl)(hv:Vis X.env.scope x:=by first | exact zay rfl | exact zaz (zay rfl) | exact zaz (zaz rfl))(hd:(x == ("__debug__" : Str))=false:=by decide)
  (hcd:(x == ("__classdict__" : Str))=false:=by decide):LE X (.Name x pos) (ah i):=
 ⟨_,Kc hN hv hd hcd,λσ H ρ μ Q Q' r h k=>by
  have h:kO (lk ρ i) λd=>Q d μ:=h
  cases q:lk ρ i with
  | none=>rw[q] at h;exact Xf h
  | some d=>
   rw[q] at h
   have h:Q d μ:=h
   obtain ⟨v,e1,p⟩:=r.loc i d q
   exact ⟨v,e1,k v H d μ (.refl H) r.mu p h⟩⟩
theorem le_int {i:Int}{j}:LE X (.Constant (.int i) j pos) (TC (.int i)):=⟨_,Pa,λσ H ρ μ Q Q' r h k=>k _ H _ μ (.refl H) r.mu (.int i) h⟩
theorem Dt {b:Bool}{j}:LE X (.Constant (.bool b) j pos) (TC (.bl b)):=⟨_,U3,λσ H ρ μ Q Q' r h k=>k _ H _ μ (.refl H) r.mu (.bl b) h⟩
theorem cD {j}:LE X (.Constant .none j pos) (TC .non):=⟨_,QU,λσ H ρ μ Q Q' r h k=>k _ H _ μ (.refl H) r.mu .non h⟩
theorem le_str {x:Str}{j}:LE X (.Constant (.str x) j pos) (TC (.str x)):=⟨_,J5,λσ H ρ μ Q Q' r h k=>k _ H _ μ (.refl H) r.mu (.str x) h⟩
def gH (K:W7)(r:R2)(R:DR2):Prop:=∀ H μ x y dx dy (Q:DK) (Q':VK),bM K H μ->Dp K H x dx->Dp K H y dy->R dx dy μ Q->jw K H Q Q'->r x y H Q'
def UL (K:W7)(r:V->Hp->VK->Prop)(R:DR):Prop:=∀ H μ x dx (Q:DK) (Q':VK),bM K H μ->Dp K H x dx->R dx μ Q->jw K H Q Q'->r x H Q'
theorem jw.go {K:W7}{H H1:Hp}{Q:DK}{Q':VK}(k:jw K H Q Q')(t:Tk H H1):jw K H1 Q Q':=λv H' d μ' t'=>k v H' d μ' (t.trans t')
theorem pA {K:W7}{r:R2}{R:DR2}{ta tb:TE}(hr:gH K r R)(ha:Sim K ta Ta)(hb:Sim K tb Tb):Sim K (tOp r ta tb) (aj R Ta Tb):=λσ H ρ μ Q Q' rl h k=>
 ha σ H ρ μ _ _ rl h λx H1 dx μ1 t1 m1 p1 h1=>hb σ H1 ρ μ1 _ _ (rl.go t1 m1) h1 λy H2 dy μ2 t2 m2 p2 h2=>hr H2 μ2 x y dx dy Q Q' m2 (p1.mono t2) p2 h2 (k.go (t1.trans t2))
theorem qZ {op:zcF}{r:R2}{R:DR2}(ho:OpR X (Zs op) r)(hr:gH X.K r R)(ha:LE X a Ta)(hb:LE X b Tb):LE X (.BinOp a op b pos) (aj R Ta Tb):=by
 obtain ⟨ta,pa,sa⟩:=ha.ex
 obtain ⟨tb,pb,sb⟩:=hb.ex
 exact ⟨_,Ol ho pa pb,pA hr sa sb⟩
theorem pF {op:CmpOp}{r:R2}{R:DR2}(ho:OpR X (Zd op) r)(hr:gH X.K r R)(ha:LE X a Ta)(hb:LE X b Tb)(hm:ZF op b=false):LE X (.Compare a [op] [b] pos) (aj R Ta Tb):=by
 obtain ⟨ta,pa,sa⟩:=ha.ex
 obtain ⟨tb,pb,sb⟩:=hb.ex
 exact ⟨_,LJ ho pa pb hm,pA hr sa sb⟩
theorem RV {K:W7}{t:TE}{T:ETr}(h:Sim K t T):Nb K (OT t) (TB T):=λσ H ρ μ Q Q' rl hh k=>
 h σ H ρ μ _ _ rl hh λv H' d μ' t' m' p' h'=>by
  cases p' with
  | bl c=>exact ⟨c,rfl,k c H' μ' t' m' h'⟩
  | _=>exact Xf h'
theorem Ru {K:W7}{t:TE}{T:ETr}(h:Sim K t T):Nb K (tB t) (TB T):=λσ H ρ μ Q Q' rl hh k=>
 h σ H ρ μ _ _ rl hh λv H' d μ' t' m' p' h'=>by
  cases p' with
  | bl c=>exact ⟨c,rfl,k c H' μ' t' m' h'⟩
  | _=>exact Xf h'
theorem fY {op:CmpOp}{r:R2}{R:DR2}(ho:OpR X (Zd op) r)(hr:gH X.K r R)(ha:LE X a Ta)(hb:LE X b Tb)(hm:ZF op b=false):LT X (.Compare a [op] [b] pos) (TB (aj R Ta Tb)):=by
 obtain ⟨ta,pa,sa⟩:=ha.ex
 obtain ⟨tb,pb,sb⟩:=hb.ex
 exact ⟨_,Lj ho pa pb hm,RV (pA hr sa sb)⟩
theorem wI {K:W7}{C:Int->Int->Prop}{g:Int->Int->V}{R:DR2}(f:Int->Int->D)(hg:∀ H i j,Dp K H (g i j) (f i j))(hR:∀ i j μ Q,R (.int i) (.int j) μ Q->C i j/\Q (f i j) μ)
  (hn:∀ dx dy μ Q,R dx dy μ Q->(∃ i,dx=.int i)/\∃ j,dy=.int j):gH K (rI C g) R:=λH μ x y dx dy Q Q' m px py h k=>by
 obtain ⟨⟨i,rfl⟩,j,rfl⟩:=hn _ _ _ _ h
 cases px;cases py
 obtain ⟨h1,h2⟩:=hR _ _ _ _ h
 exact ⟨i,j,rfl,rfl,h1,k _ H _ μ (.refl H) m (hg H i j) h2⟩
theorem D0 {K:W7}{g:Int->Int->V}{R:DR2}(f:Int->Int->D)(hg:∀ H i j,Dp K H (g i j) (f i j))(hR:∀ i j μ Q,R (.int i) (.int j) μ Q->Q (f i j) μ)
  (hn:∀ dx dy μ Q,R dx dy μ Q->(∃ i,dx=.int i)/\∃ j,dy=.int j):gH K (rI0 g) R:=λH μ x y dx dy Q Q' m px py h k=>by
 obtain ⟨⟨i,rfl⟩,j,rfl⟩:=hn _ _ _ _ h
 cases px;cases py
 exact ⟨i,j,rfl,rfl,k _ H _ μ (.refl H) m (hg H i j) (hR _ _ _ _ h)⟩
theorem fE (ha:LE X a Ta)(hb:LE X b Tb):LE X (.BinOp a .Sub b pos) (aj kn Ta Tb):=qZ R5 (D0 (λi j=>.int (i - j)) (λ_ _ _=>.int _) (λ_ _ _ _ h=>h) (λdx dy μ Q h=>by cases dx<;>cases dy<;>first | exact ⟨⟨_,rfl⟩,_,rfl⟩ | exact Xf h)) ha hb
theorem gw.abs {j:Int}(h:gw j):j.natAbs < 2 ^ 256:=by
 have e:(2:Nat) ^ 256=115792089237316195423570985008687907853269984665640564039457584007913129639936:=by decide +kernel
 rw[e]
 obtain ⟨h1,h2⟩:=h
 omega
theorem MulOk.ok {i j:Int}(h:MulOk i j):IntMulOk i j:=by
 rcases h with (⟨h1,h2⟩ | ⟨h1,h2⟩) | ⟨h1,h2⟩
 ·exact .of_left (zbG h1 h2)
 ·exact .of_right (zbG h1 h2)
 ·exact .of_le (zbX h1.abs) (zbX h2.abs) (by decide)
theorem LD:OpR X (Zs .Mult) (rI MulOk λi j=>.int (i*j)):=opI λ_ _ _ _ _ _ _ hc q=>mul_int q hc.ok
theorem jO.np {i j:Int}(h:jO j):Builtin.divisionGoesByPylong i j=false:=by
 refine PyProof.noPylong_of_log2 ?_
 have h0:j.natAbs≠0:=by have:=h.1;omega
 have:=(Nat.log2_lt h0).mpr h.2.abs
 omega
theorem N8:OpR X (Zs .FloorDiv) (rI (λ_ j=>jO j) λi j=>.int (i.fdiv j)):=opI λ_ _ _ _ _ _ _ hc q=>floordiv_int hc.1 q (.inl hc.np)
theorem jM (ha:LE X a Ta)(hb:LE X b Tb):LE X (.BinOp a .FloorDiv b pos) (aj ni Ta Tb):=qZ N8 (wI (λi j=>.int (i.fdiv j)) (λ_ _ _=>.int _) (λ_ _ _ _ h=>⟨h.1,h.2⟩) (λdx dy μ Q h=>by cases dx<;>cases dy<;>first | exact ⟨⟨_,rfl⟩,_,rfl⟩ | exact Xf h)) ha hb
theorem le_mul (ha:LE X a Ta)(hb:LE X b Tb):LE X (.BinOp a .Mult b pos) (aj eK Ta Tb):=qZ LD (wI (λi j=>.int (i*j)) (λ_ _ _=>.int _) (λ_ _ _ _ h=>⟨h.1,h.2⟩) (λdx dy μ Q h=>by cases dx<;>cases dy<;>first | exact ⟨⟨_,rfl⟩,_,rfl⟩ | exact Xf h)) ha hb
theorem i8 (ha:LE X a Ta)(hb:LE X b Tb):LE X (.BinOp a .Mod b pos) (aj lX Ta Tb):=qZ K0 (wI (λi j=>.int (i.fmod j)) (λ_ _ _=>.int _) (λ_ _ _ _ h=>⟨h.1,h.2⟩) (λdx dy μ Q h=>by cases dx<;>cases dy<;>first | exact ⟨⟨_,rfl⟩,_,rfl⟩ | exact Xf h)) ha hb
theorem le_pow (ha:LE X a Ta)(hb:LE X b Tb):LE X (.BinOp a .Pow b pos) (aj E7 Ta Tb):=qZ Ph (wI (λi j=>.int (i ^ j.toNat)) (λ_ _ _=>.int _) (λ_ _ _ _ h=>⟨h.1,h.2⟩) (λdx dy μ Q h=>by cases dx<;>cases dy<;>first | exact ⟨⟨_,rfl⟩,_,rfl⟩ | exact Xf h)) ha hb
theorem lZ {K:W7}(p:Int->Int->Bool):gH K (rI0 λi j=>.bl (p i j)) (GU p):=D0 (λi j=>.bl (p i j)) (λ_ _ _=>.bl _) (λ_ _ _ _ h=>h) (λdx dy μ Q h=>by cases dx<;>cases dy<;>first | exact ⟨⟨_,rfl⟩,_,rfl⟩ | exact Xf h)
theorem UT (ha:LE X a Ta)(hb:LE X b Tb):LE X (.Compare a [.Lt] [b] pos) (aj rLt Ta Tb):=pF O2 (lZ _) ha hb (ft _)
theorem US (ha:LE X a Ta)(hb:LE X b Tb):LE X (.Compare a [.GtE] [b] pos) (aj rGe Ta Tb):=pF OO (lZ _) ha hb (ft _)
theorem lY (ha:LE X a Ta)(hb:LE X b Tb):LT X (.Compare a [.Lt] [b] pos) (TB (aj rLt Ta Tb)):=fY O2 (lZ _) ha hb (ft _)
theorem om (ha:LE X a Ta)(hb:LE X b Tb):LT X (.Compare a [.Gt] [b] pos) (TB (aj rGt Ta Tb)):=fY TF (lZ _) ha hb (ft _)
theorem OP (ha:LE X a Ta)(hb:LE X b Tb):LT X (.Compare a [.GtE] [b] pos) (TB (aj rGe Ta Tb)):=fY OO (lZ _) ha hb (ft _)
theorem S4 {op:UnaryOp}{r:V->Hp->VK->Prop}{R:DR}(ho:UnR X (unaryOp op) r)(hr:UL X.K r R)(ha:LE X a Ta):LE X (.UnaryOp op a pos) (TUn R Ta):=by
 obtain ⟨ta,pa,sa⟩:=ha.ex
 exact ⟨_,Vk ho pa,λσ H ρ μ Q Q' rl h k=>sa σ H ρ μ _ _ rl h λx H1 dx μ1 t1 m1 p1 h1=>hr H1 μ1 x dx Q Q' m1 p1 h1 (k.go t1)⟩
theorem lC (ha:LE X a Ta)(he:∀ whole,isTrue a X.env whole=(do let v ← whole;standAt a.pos;zb7 [v] (truthy v)):=by intro _;rfl):LT X a (TB Ta):=by
 obtain ⟨ta,pa,sa⟩:=ha.ex
 exact ⟨_,Ri pa he,Ru sa⟩
variable {tA tB' tC':TTr} {rest:List XG}
theorem GO (ha:LT X a tA):LT X (.UnaryOp .Not a pos) (Bm tA):=by
 obtain ⟨ta,pa,sa⟩:=ha.ex
 exact ⟨_,QS pa,λσ H ρ μ Q Q' rl h k=>sa σ H ρ μ _ _ rl h λc H1 μ1 t1 m1 h1=>k (!c) H1 μ1 t1 m1 h1⟩
theorem LW.lt (h:LW X a tA):LT X a tA:=by
 obtain ⟨ta,pa,sa⟩:=h.ex
 exact ⟨_,pa.pt,sa⟩
theorem pQ (ha:LT X a tA):LW X (.BoolOp .And [a] pos) tA:=by
 obtain ⟨ta,pa,sa⟩:=ha.ex
 exact ⟨_,pw_and1 pa,sa⟩
theorem vo (ha:LT X a tA):LW X (.BoolOp .Or [a] pos) tA:=by
 obtain ⟨ta,pa,sa⟩:=ha.ex
 exact ⟨_,pw_or1 pa,sa⟩
theorem wJ (ha:LT X a tA)(hb:LW X (.BoolOp .And (b::rest) pos) tB'):LW X (.BoolOp .And (a::b::rest) pos) (sQ tA tB'):=by
 obtain ⟨ta,pa,sa⟩:=ha.ex
 obtain ⟨tb,pb,sb⟩:=hb.ex
 refine ⟨_,pw_and pa pb,λσ H ρ μ Q Q' rl h k=>sa σ H ρ μ _ _ rl h λc H1 μ1 t1 m1 h1=>?_⟩
 cases c with
 | true=>exact p8 (sb σ H1 ρ μ1 Q Q' (rl.go t1 m1) h1 λb H2 μ2 t2=>k b H2 μ2 (t1.trans t2))
 | false=>exact rD (k false H1 μ1 t1 m1 h1)
theorem Dd (ha:LT X a tA)(hb:LW X (.BoolOp .Or (b::rest) pos) tB'):LW X (.BoolOp .Or (a::b::rest) pos) (TOr tA tB'):=by
 obtain ⟨ta,pa,sa⟩:=ha.ex
 obtain ⟨tb,pb,sb⟩:=hb.ex
 refine ⟨_,pw_or pa pb,λσ H ρ μ Q Q' rl h k=>sa σ H ρ μ _ _ rl h λc H1 μ1 t1 m1 h1=>?_⟩
 cases c with
 | true=>exact p8 (k true H1 μ1 t1 m1 h1)
 | false=>exact rD (sb σ H1 ρ μ1 Q Q' (rl.go t1 m1) h1 λb H2 μ2 t2=>k b H2 μ2 (t1.trans t2))
theorem uY {op}(h:LE X a Ta):LE X (.BoolOp op [a] pos) Ta:=by
 obtain ⟨ta,pa,sa⟩:=h.ex
 exact ⟨_,Qn pa,sa⟩
theorem wx (ha:LE X a Ta)(hb:LE X (.BoolOp .And (b::rest) pos) Tb):LE X (.BoolOp .And (a::b::rest) pos) (iE Ta Tb):=by
 obtain ⟨ta,pa,sa⟩:=ha.ex
 obtain ⟨tb,pb,sb⟩:=hb.ex
 refine ⟨_,QA pa pb,λσ H ρ μ Q Q' rl h k=>sa σ H ρ μ _ _ rl h λx H1 dx μ1 t1 m1 p1 h1=>?_⟩
 cases p1 with
 | bl c=>
  refine ⟨c,rfl,?_⟩
  cases c with
  | true=>exact p8 (sb σ H1 ρ μ1 Q Q' (rl.go t1 m1) h1 (k.go t1))
  | false=>exact rD (k _ H1 _ μ1 t1 m1 (.bl _) h1)
 | _=>exact Xf h1
theorem Tv (ha:LE X a Ta)(hb:LE X (.BoolOp .Or (b::rest) pos) Tb):LE X (.BoolOp .Or (a::b::rest) pos) (IJ Ta Tb):=by
 obtain ⟨ta,pa,sa⟩:=ha.ex
 obtain ⟨tb,pb,sb⟩:=hb.ex
 refine ⟨_,TX pa pb,λσ H ρ μ Q Q' rl h k=>sa σ H ρ μ _ _ rl h λx H1 dx μ1 t1 m1 p1 h1=>?_⟩
 cases p1 with
 | bl c=>
  refine ⟨c,rfl,?_⟩
  cases c with
  | true=>exact p8 (k _ H1 _ μ1 t1 m1 (.bl _) h1)
  | false=>exact rD (sb σ H1 ρ μ1 Q Q' (rl.go t1 m1) h1 (k.go t1))
 | _=>exact Xf h1
theorem RB (ha:LE X a Ta):LE X (.UnaryOp .Not a pos) (qc Ta):=by
 obtain ⟨ta,pa,sa⟩:=ha.ex
 refine ⟨_,SG pa,λσ H ρ μ Q Q' rl h k=>sa σ H ρ μ _ _ rl h λx H1 dx μ1 t1 m1 p1 h1=>?_⟩
 cases p1 with
 | bl c=>exact ⟨c,rfl,k _ H1 _ μ1 t1 m1 (.bl _) h1⟩
 | _=>exact Xf h1
theorem hV (hc:LT X c tC')(ha:LE X a Ta)(hb:LE X b Tb):LE X (.IfExp c a b pos) (ly tC' Ta Tb):=by
 obtain ⟨tc,pc,sc⟩:=hc.ex
 obtain ⟨ta,pa,sa⟩:=ha.ex
 obtain ⟨tb,pb,sb⟩:=hb.ex
 refine ⟨_,Kt pc pa pb,λσ H ρ μ Q Q' rl h k=>sc σ H ρ μ _ _ rl h λq H1 μ1 t1 m1 h1=>?_⟩
 cases q with
 | true=>exact p8 (sa σ H1 ρ μ1 Q Q' (rl.go t1 m1) h1 (k.go t1))
 | false=>exact rD (sb σ H1 ρ μ1 Q Q' (rl.go t1 m1) h1 (k.go t1))
variable {es:List XG} {At:ATr}
theorem ai:LA X [] ao:=⟨_,hX,λσ H ρ μ Q Q' rl h k=>k [] H [] μ (.refl H) rl.mu .nil h⟩
theorem aa (ha:LE X e Ta)(hr:LA X es At)(hs:Xp (e::es) X.env=(false,Yl e X.env)::Xp es X.env:=by rfl):LA X (e::es) (af Ta At):=by
 obtain ⟨ta,pa,sa⟩:=ha.ex
 obtain ⟨tr,pr,sr⟩:=hr.ex
 exact ⟨_,dB pa pr hs,λσ H ρ μ Q Q' rl h k=>sa σ H ρ μ _ _ rl h λx H1 dx μ1 t1 m1 p1 h1=>sr σ H1 ρ μ1 _ _ (rl.go t1 m1) h1 λxs H2 ds μ2 t2 m2 p2 h2=>k _ H2 _ μ2 (t1.trans t2) m2 (.cons (p1.mono t2) p2) h2⟩
theorem b7 {K:W7}{H:Hp}{μ:Mu}{p:Addr}{o:HO}(m:bM K H μ)(hp:H p=none):bM K (L2.upd H p o) μ:=m.keep (.new hp) λa' xs' _ e=>by rw[aP (bx e hp)];exact e
theorem big {n:Nat}(h:n<=1000000):n<=sizeLine:=XZ h (by decide)
theorem aK {x1}(h:LA X es At):LE X (.Tuple es x1 pos) (a7 At):=by
 obtain ⟨ta,pa,sa⟩:=h.ex
 refine ⟨_,AJ pa,λσ H ρ μ Q Q' rl h k=>sa σ H ρ μ _ _ rl h λxs H1 ds μ1 t1 m1 p1 h1=>⟨by rw[p1.length];exact big h1.1,λp hp=>?_⟩⟩
 exact k _ _ _ μ1 (t1.trans (.new hp)) (b7 m1 hp) (.tup (SqT.of aN) (p1.mono (.new hp))) h1.2
theorem gq (h:LA X es At):LE X (.List es pos) (kr At):=by
 obtain ⟨ta,pa,sa⟩:=h.ex
 refine ⟨_,Kr pa,λσ H ρ μ Q Q' rl h k=>sa σ H ρ μ _ _ rl h λxs H1 ds μ1 t1 m1 p1 h1=>⟨by rw[p1.length];exact big h1.1,λp hp=>?_⟩⟩
 refine k _ _ _ (up μ1 p (.lst ds)) (t1.trans (.new hp)) (λa o e=>?_) (.obj p) (h1.2 p (m1.free hp))
 by_cases ha:a=p
 ·subst ha
  rw[aI] at e;cases e
  exact ⟨xs,aN,p1.mono (.new hp)⟩
 ·rw[aU ha] at e
  exact b7 m1 hp a o e
def EG (t:TE):TE:=λσ H Q=>t σ H λv H1=>∃ a xs,v=.ref a/\H1 a=some (.lst xs)/\∀ o,Q v (L2.upd H1 a (.frz o (.lst xs)))
theorem jS {t:TE}(h:PE X e t):PE X e (EG t):=by
 intro pins s σ H Q I hh
 refine thn (h pins s σ H _ I hh) λu s1 ⟨v,H1,I1,r,a,xs,ev,ea,q⟩=>?_
 obtain ⟨z,its,n,rv,hg⟩:=(show df X.prog X.w H1 s1.heap a (.lst xs) from I1.hok a _ ea)
 have nl:∀ b o,H1 b=some o->(∀ ys,o≠.lst ys)->b≠a:=λb o e1 e2 z=>by subst z;rw[ea] at e1;cases e1;exact e2 _ rfl
 refine ⟨v,_,I1.un (h':=s1.heap) (t':=s1.toks) (H':=L2.upd H1 a (.frz { cls:=.type "list", data:=.seq its.toArray n } (.lst xs))) ⟨λb o e _ _ _=>e,λb o e _ _ _=>⟨o.slots,e⟩,λb o e n _=>?_,λb o e _=>⟨o,e⟩,λb ys e=>?_,λb o u e=>?_,λb ps e=>⟨#[],?_⟩⟩ (λb u e=>?_),r,q _⟩
 ·rw[aP (λz=>by subst z;rw[ea] at n;cases n)];exact n
 ·rw[aP (nl b _ e (λ_=>nofun))];exact e
 ·rw[aP (nl b _ e (λ_=>nofun))];exact e
 ·rw[aP (nl b _ e (λ_=>nofun)),e];simp
 ·by_cases hb:b=a
  ·subst hb
   rw[aN] at e;cases e
   exact ⟨hg,z,its,n,rv,hg⟩
  ·rw[aP hb] at e
   refine (I1.hok b u e).o8 (λc w _ q=>q) (λc q=>?_) λc ys q=>?_
   ·rw[aP (nl c _ q (λ_=>nofun))];exact q
   ·rw[aP (nl c _ q (λ_=>nofun))];exact q
theorem dD (h:LA X es At):LE X (.List es pos) (fB At):=by
 obtain ⟨ta,pa,sa⟩:=h.ex
 refine ⟨_,jS (Kr pa),λσ H ρ μ Q Q' rl h k=>sa σ H ρ μ _ _ rl h λxs H1 ds μ1 t1 m1 p1 h1=>⟨by rw[p1.length];exact big h1.1,λp hp=>⟨p,xs,rfl,aN,λo=>?_⟩⟩⟩
 have e:L2.upd (L2.upd H1 p (.lst xs)) p (.frz o (.lst xs))=L2.upd H1 p (.frz o (.lst xs)):=vk
 rw[e]
 exact k _ _ _ μ1 (t1.trans (.new hp)) (b7 m1 hp) (.ls (.inl ⟨o,aN⟩) (p1.mono (.new hp))) h1.2
end
end
section
open PySem PySem.Spec PyProof.Rows L2
mutual
def toP:D->PyData
 | .non=>.none
 | .bl b=>.bool b
 | .int i=>.int i
 | .str x=>.str x
 | .tup ds=>.tuple (mI ds)
 | .ls ds=>.list (mI ds)
 | .ty _=>.none
 | .obj _=>.none
def mI:List D->List PyData
 | []=>[]
 | d::r=>toP d::mI r
end
mutual
theorem iJ:∀ (n:Nat) (d:D),okD n d=true->(toP d).canLay0=true/\(toP d).depth<=n
 | n,.non,_=>⟨rfl,YG _⟩
 | n,.bl b,_=>⟨rfl,YG _⟩
 | n,.int i,_=>⟨rfl,YG _⟩
 | n,.str x,h=>⟨by cases n<;>exact h,YG _⟩
 | n+1,.tup ds,h=>by
  obtain ⟨h1,h2⟩:=qS n ds h
  exact ⟨h1,zbV h2⟩
 | n+1,.ls ds,h=>by
  obtain ⟨h1,h2⟩:=qS n ds h
  exact ⟨h1,zbV h2⟩
 | 0,.tup ds,h=>by cases h
 | 0,.ls ds,h=>by cases h
 | n,.ty _,h=>by cases n<;>cases h
 | n,.obj _,h=>by cases n<;>cases h
theorem qS:∀ (n:Nat) (ds:List D),c6 n ds=true->zdF (mI ds)=true/\zen (mI ds)<=n
 | n,[],_=>⟨rfl,YG _⟩
 | n,d::r,h=>by
  have h':okD n d=true/\c6 n r=true:=by simpa[c6] using h
  obtain ⟨a1,a2⟩:=iJ n d h'.1
  obtain ⟨b1,b2⟩:=qS n r h'.2
  refine ⟨?_,?_⟩
  ·show (zeE (toP d)&&zdF (mI r))=true
   rw[a1,b1];rfl
  ·show max (PyData.depth (toP d)) (zen (mI r))<=n
   exact Nat.max_le.mpr ⟨a2,b2⟩
end
theorem str_beq (a b:Str):(a == b)=decide (a=b):=by
 by_cases h:a=b
 ·subst h;simp
 ·rw[decide_eq_false h];exact beq_eq_false_iff_ne.mpr h
mutual
theorem pI:∀ (n m:Nat) (a b:D),okD n a=true->okD m b=true->Zm (toP a) (toP b)=eqD a b
 | n,m,.non,b,_,hb=>by cases b<;>first | rfl | (cases m<;>cases hb)
 | n,m,.bl x,b,_,hb=>by
  cases b with
  | int y=>simp only[toP,Zm,eqD];rw[zaG]
  | ty _=>cases m<;>cases hb
  | obj _=>cases m<;>cases hb
  | _=>rfl
 | n,m,.int x,b,_,hb=>by
  cases b with
  | int y=>simp only[toP,Zm,eqD];rw[zaG]
  | bl y=>simp only[toP,Zm,eqD];rw[zaG]
  | ty _=>cases m<;>cases hb
  | obj _=>cases m<;>cases hb
  | _=>rfl
 | n,m,.str x,b,_,hb=>by
  cases b with
  | str y=>simp only[toP,Zm,eqD];exact str_beq x y
  | ty _=>cases m<;>cases hb
  | obj _=>cases m<;>cases hb
  | _=>rfl
 | n+1,m,.tup xs,b,ha,hb=>by
  cases b with
  | tup ys=>
   cases m with
   | zero=>cases hb
   | succ m=>simp only[toP,Zm,eqD];exact sy n m xs ys ha hb
  | ty _=>cases m<;>cases hb
  | obj _=>cases m<;>cases hb
  | _=>rfl
 | n+1,m,.ls xs,b,ha,hb=>by
  cases b with
  | ls ys=>
   cases m with
   | zero=>cases hb
   | succ m=>simp only[toP,Zm,eqD];exact sy n m xs ys ha hb
  | ty _=>cases m<;>cases hb
  | obj _=>cases m<;>cases hb
  | _=>rfl
 | 0,_,.tup ds,_,h,_=>by cases h
 | 0,_,.ls ds,_,h,_=>by cases h
 | n,_,.ty _,_,h,_=>by cases n<;>cases h
 | n,_,.obj _,_,h,_=>by cases n<;>cases h
theorem sy:∀ (n m:Nat) (a b:List D),c6 n a=true->c6 m b=true->zbI (mI a) (mI b)=oH a b
 | _,_,[],[],_,_=>rfl
 | _,_,[],_::_,_,_=>by simp[mI,zbI,oH]
 | _,_,_::_,[],_,_=>by simp[mI,zbI,oH]
 | n,m,a::r,b::s,ha,hb=>by
  have ha':okD n a=true/\c6 n r=true:=by simpa[c6] using ha
  have hb':okD m b=true/\c6 m s=true:=by simpa[c6] using hb
  show (Zm (toP a) (toP b)&&zbI (mI r) (mI s))=(eqD a b&&oH r s)
  rw[pI n m a b ha'.1 hb'.1,sy n m r s ha'.2 hb'.2]
end
section
variable {X:Cx} {pins:List (Addr×Obj)} {σ:L2.St} {H:Hp} {s:Xe}
mutual
theorem fm (I:Inv X pins σ H s):∀ {n:Nat} {v:V} {d:D} {u:Xb},Dp X.K H v d->okD n d=true->RelV v u->∃ as,Reads s.heap u (toP d) as
 | n,_,_,u,.non,_,r=>by cases (show u=YX from r);exact ⟨_,.none⟩
 | n,_,_,u,.bl b,_,r=>by cases (show u=zbg b from r);exact ⟨_,.bool b⟩
 | n,_,_,u,.int i,_,r=>by obtain ⟨t,e⟩:=(show ∃ t,u=zak i t from r);subst e;exact ⟨_,.int i t⟩
 | n,_,_,u,.str x,_,r=>by obtain ⟨t,e⟩:=(show ∃ t,u=zbf x t from r);subst e;exact ⟨_,.str x t⟩
 | n,_,_,u,.ty _,h,_=>by cases n<;>cases h
 | n+1,_,_,u,@Dp.tup _ _ a xs ds q l,h,r=>by
  cases (show u=XT a from r)
  obtain ⟨its,rv,⟨o,e1,e2,k,e3⟩,_⟩:=I.tuple q
  obtain ⟨as,ra⟩:=jD I (n:=n) l h rv
  exact ⟨_,.tuple e1 e2 e3 (by simpa using ra)⟩
 | n+1,_,_,u,@Dp.ls _ _ a xs ds q l,h,r=>by
  cases (show u=XT a from r)
  obtain ⟨its,rv,⟨o,k,e1,e2,_,e3⟩,_⟩:=I.list q.sq
  obtain ⟨as,ra⟩:=jD I (n:=n) l h rv
  exact ⟨_,.list e1 e2 e3 (by simpa using ra)⟩
 | 0,_,_,u,@Dp.tup _ _ a xs ds q l,h,r=>by cases h
 | 0,_,_,u,@Dp.ls _ _ a xs ds q l,h,r=>by cases h
 | n,_,_,u,.obj _,h,_=>by cases n<;>cases h
theorem jD (I:Inv X pins σ H s):∀ {n:Nat} {vs:List V} {ds:List D} {us:List Xb},DpL X.K H vs ds->c6 n ds=true->Vals vs us->∃ as,ReadsAll s.heap us (mI ds) as
 | n,_,_,_,.nil,_,.nil=>⟨_,.nil⟩
 | n,_,_,_,@DpL.cons _ _ v d vs ds h l,ho,.cons r rs=>by
  have ho':okD n d=true/\c6 n ds=true:=by simpa[c6] using ho
  obtain ⟨as,ra⟩:=fm I h ho'.1 r
  obtain ⟨bs,rb⟩:=jD I l ho'.2 rs
  exact ⟨_,.cons ra rb⟩
end
end
def Ln (K:W7)(f:Bool->Bool):R2:=λx y H Q=>∃ dx dy,Dp K H x dx/\Dp K H y dy/\okD 40 dx=true/\okD 40 dy=true/\Q (.bl (f (eqD dx dy))) H
section
variable {X:Cx} {a b c e:XG} {Ta Tb Tc:ETr} {pos:Pos}
theorem Kw (hu:X.A.units+64 < cLine):OpR X (Zd .Eq) (Ln X.K id):=λpins s σ H x y v u Q I rx ry ⟨dx,dy,px,py,ox,oy,q⟩=>by
 obtain ⟨as,ra⟩:=fm I px ox rx
 obtain ⟨bs,rb⟩:=fm I py oy ry
 obtain ⟨l1,d1⟩:=iJ 40 dx ox
 obtain ⟨l2,d2⟩:=iJ 40 dy oy
 exact SeqAt.compareEq_reads ra rb l1 l2 (by have:=zcq (toP dx).depth (toP dy).depth;omega) ⟨.bl _,H,I,rfl,by rw[pI 40 40 dx dy ox oy];exact q⟩
theorem SM (hu:X.A.units+64 < cLine):OpR X (Zd .NotEq) (Ln X.K not):=λpins s σ H x y v u Q I rx ry ⟨dx,dy,px,py,ox,oy,q⟩=>by
 obtain ⟨as,ra⟩:=fm I px ox rx
 obtain ⟨bs,rb⟩:=fm I py oy ry
 obtain ⟨l1,d1⟩:=iJ 40 dx ox
 obtain ⟨l2,d2⟩:=iJ 40 dy oy
 exact SeqAt.compareNe_reads ra rb l1 l2 (by have:=zcq (toP dx).depth (toP dy).depth;omega) ⟨.bl _,H,I,rfl,by rw[pI 40 40 dx dy ox oy];exact q⟩
theorem HB {K:W7}:gH K (Ln K id) rEq:=λH μ x y dx dy Q Q' m px py h k=>⟨dx,dy,px,py,h.1.1,h.1.2,k _ H _ μ (.refl H) m (.bl _) h.2⟩
theorem Rm {K:W7}:gH K (Ln K not) rNe:=λH μ x y dx dy Q Q' m px py h k=>⟨dx,dy,px,py,h.1.1,h.1.2,k _ H _ μ (.refl H) m (.bl _) h.2⟩
theorem le_eq (hu:X.A.units+64 < cLine)(ha:LE X a Ta)(hb:LE X b Tb):LE X (.Compare a [.Eq] [b] pos) (aj rEq Ta Tb):=pF (Kw hu) HB ha hb (ft _)
theorem lt_eq (hu:X.A.units+64 < cLine)(ha:LE X a Ta)(hb:LE X b Tb):LT X (.Compare a [.Eq] [b] pos) (TB (aj rEq Ta Tb)):=fY (Kw hu) HB ha hb (ft _)
theorem zY (hu:X.A.units+64 < cLine)(ha:LE X a Ta)(hb:LE X b Tb):LT X (.Compare a [.NotEq] [b] pos) (TB (aj rNe Ta Tb)):=fY (SM hu) Rm ha hb (ft _)
theorem ID {K:W7}:gH K (λx y H Q=>y=.non/\Q (.bl (decide (x=.non))) H) rIs:=λH μ x y dx dy Q Q' m px py h k=>by
 cases py with
 | non=>
  refine ⟨rfl,?_⟩
  cases px with
  | non=>exact k _ H _ μ (.refl H) m (.bl _) h
  | _=>exact k _ H _ μ (.refl H) m (.bl _) h
 | _=>exact Xf h
theorem E5 {K:W7}:gH K (λx y H Q=>y=.non/\Q (.bl (!decide (x=.non))) H) iq:=λH μ x y dx dy Q Q' m px py h k=>by
 cases py with
 | non=>
  refine ⟨rfl,?_⟩
  cases px with
  | non=>exact k _ H _ μ (.refl H) m (.bl _) h
  | _=>exact k _ H _ μ (.refl H) m (.bl _) h
 | _=>exact Xf h
theorem TL (ha:LE X a Ta)(hb:LE X b Tb):LE X (.Compare a [.Is] [b] pos) (aj rIs Ta Tb):=pF Hn ID ha hb (ft _)
theorem oq (ha:LE X a Ta)(hb:LE X b Tb):LT X (.Compare a [.Is] [b] pos) (TB (aj rIs Ta Tb)):=fY Hn ID ha hb (ft _)
theorem Ag (ha:LE X a Ta)(hb:LE X b Tb):LT X (.Compare a [.IsNot] [b] pos) (TB (aj iq Ta Tb)):=fY LC E5 ha hb (ft _)
theorem ML {K:W7}:UL K (rU λi=>.int (-i)) NK:=λH μ x dx Q Q' m px h k=>by
 cases px with
 | int i=>exact ⟨i,rfl,k _ H _ μ (.refl H) m (.int _) h⟩
 | _=>exact Xf h
theorem le_neg (ha:LE X a Ta):LE X (.UnaryOp .USub a pos) (TUn NK Ta):=S4 Qy ML ha
theorem lA {o:Option D}{f:D->Prop}(h:kO o f):∃ d,o=some d/\f d:=by
 cases o with
 | none=>exact Xf h
 | some d=>exact ⟨d,rfl,h⟩
theorem bT {μ:Mu}{a:Addr}{f:List D->Prop}(h:kL μ a f):∃ ds,μ a=some (.lst ds)/\f ds:=by
 unfold kL at h
 cases e:μ a with
 | none=>rw[e] at h;exact Xf h
 | some o=>cases o with
  | lst ds=>rw[e] at h;exact ⟨ds,rfl,h⟩
  | _=>rw[e] at h;exact Xf h
theorem rK {μ:Mu}{a:Addr}{f:List (Key×D)->Prop}(h:kD μ a f):∃ ds,μ a=some (.dct ds)/\f ds:=by
 unfold kD at h
 cases e:μ a with
 | none=>rw[e] at h;exact Xf h
 | some o=>cases o with
  | dct ds=>rw[e] at h;exact ⟨ds,rfl,h⟩
  | _=>rw[e] at h;exact Xf h
theorem JM {o:Option Nat}{f:Nat->Prop}(h:kN o f):∃ d,o=some d/\f d:=by
 cases o with
 | none=>exact Xf h
 | some d=>exact ⟨d,rfl,h⟩
theorem O8 {K:W7}:gH K (L2.rIx K) L3.rIx:=λH μ x y dx dy Q Q' m px py h k=>by
 cases px with
 | @tup a xs ds q l=>
  cases py with
  | int i=>
   obtain ⟨d,e,h'⟩:=lA h
   obtain ⟨v,e1,p⟩:=l.at e
   exact .inr (.inl ⟨a,xs,i,v,rfl,rfl,q,e1,k _ H _ μ (.refl H) m p h'⟩)
  | _=>exact Xf h
 | @ls a xs ds q l=>
  cases py with
  | int i=>
   obtain ⟨d,e,h'⟩:=lA h
   obtain ⟨v,e1,p⟩:=l.at e
   exact .inl ⟨a,xs,i,v,rfl,rfl,q.sq,e1,k _ H _ μ (.refl H) m p h'⟩
  | _=>exact Xf h
 | obj a=>
  cases py with
  | int i=>
   obtain ⟨ds,e0,h1⟩:=bT h
   obtain ⟨d,e,h'⟩:=lA h1
   obtain ⟨xs,ex,l⟩:=m a _ e0
   obtain ⟨v,e1,p⟩:=l.at e
   exact .inl ⟨a,xs,i,v,rfl,rfl,SqL.of ex,e1,k _ H _ μ (.refl H) m p h'⟩
  | _=>exact Xf h
 | _=>cases py<;>exact Xf h
theorem av (ha:LE X a Ta)(hb:LE X b Tb)(hs:CO b:=by intro _ _;rfl):LE X (.Subscript a b pos) (aj L3.rIx Ta Tb):=by
 obtain ⟨ta,pa,sa⟩:=ha.ex
 obtain ⟨tb,pb,sb⟩:=hb.ex
 exact ⟨_,Tf Ql pa pb hs,pA O8 sa sb⟩
variable {es:List XG} {At:ATr} {x:Str} {p:Pos} {id T:String}
def kX (K:W7)(r:List V->Hp->VK->Prop)(R:FSp):Prop:=∀ H μ xs ds (Q:DK) (Q':VK),bM K H μ->DpL K H xs ds->R ds μ Q->jw K H Q Q'->r xs H Q'
theorem uT {K:W7}{r:List V->Hp->VK->Prop}{R:FSp}{ta:TA}(hr:kX K r R)(ha:TQ K ta At):Sim K (tCB r ta) (au R At):=λσ H ρ μ Q Q' rl h k=>
 ha σ H ρ μ _ _ rl h λxs H1 ds μ1 t1 m1 p1 h1=>hr H1 μ1 xs ds Q Q' m1 p1 h1 (k.go t1)
theorem aY {r:List V->Hp->VK->Prop}{R:FSp}(hc:b6 X (.builtin id) r)(hr:kX X.K r R)(hg:Gl X x)(hm:X.mg x=none)(hv:Yt x=some (.builtin id))(ha:LA X (e::es) At)(hn:x ≠ "__name__" := by decide)(hdb:(x == ("__debug__" : Str))=false:=by decide)
  (h1:Xp (e::es) X.env=(false,Yl e X.env)::Xp es X.env:=by rfl) (h2:(YA pos (Xp es X.env)).any (·.1)=false:=by rfl):LE X (.Call (.Name x p) (e::es) [] pos) (au R At):=by
 obtain ⟨ta,pa,sa⟩:=ha.ex
 exact ⟨_,l4 hc hg hm hv pa hn hdb h1 h2,uT hr sa⟩
theorem aW {r:List V->Hp->VK->Prop}{R:FSp}(hc:b6 X (.type T) r)(hr:kX X.K r R)(hg:Gl X x)(hm:X.mg x=none)(hv:Yt x=some (.type T))(ha:LA X (e::es) At)(hn:x ≠ "__name__" := by decide)(hdb:(x == ("__debug__" : Str))=false:=by decide)
  (h1:Xp (e::es) X.env=(false,Yl e X.env)::Xp es X.env:=by rfl) (h2:(YA pos (Xp es X.env)).any (·.1)=false:=by rfl):LE X (.Call (.Name x p) (e::es) [] pos) (au R At):=by
 obtain ⟨ta,pa,sa⟩:=ha.ex
 exact ⟨_,uc hc hg hm hv pa hn hdb h1 h2,uT hr sa⟩
theorem Oq {n:String}(hg:Gl X x)(hm:X.mg x=none)(hv:Yt x=some (.type n))(hn:x ≠ "__name__" := by decide)(hd:(x == ("__debug__" : Str))=false:=by decide):LE X (.Name x pos) (TC (.ty n)):=
 ⟨_,DH hg hm hv (v:=.ty n) rfl hn hd,λσ H ρ μ Q Q' r h k=>k _ H _ μ (.refl H) r.mu (.ty n) h⟩
theorem ve {K:W7}:kX K (λxs H Q=>∃ i,xs=[.int i]/\Q (.int (if i < 0 then -i else i)) H) yO:=λH μ xs ds Q Q' m p h k=>by
 unfold yO at h
 split at h
 ·cases p with | cons p1 p2=>cases p2;cases p1;exact ⟨_,rfl,k _ H _ μ (.refl H) m (.int _) h⟩
 ·exact Xf h
theorem qk {K:W7}:kX K (λxs H Q=>∃ i j,xs=[.int i,.int j]/\Q (.int (if j > i then j else i)) H) qN:=λH μ xs ds Q Q' m p h k=>by
 unfold qN at h
 split at h
 ·cases p with | cons p1 p2=>cases p2 with | cons p2 p3=>cases p3;cases p1;cases p2;exact ⟨_,_,rfl,k _ H _ μ (.refl H) m (.int _) h⟩
 ·exact Xf h
theorem Kb {K:W7}:kX K (λxs H Q=>∃ i j,xs=[.int i,.int j]/\Q (.int (if j < i then j else i)) H) uE:=λH μ xs ds Q Q' m p h k=>by
 unfold uE at h
 split at h
 ·cases p with | cons p1 p2=>cases p2 with | cons p2 p3=>cases p3;cases p1;cases p2;exact ⟨_,_,rfl,k _ H _ μ (.refl H) m (.int _) h⟩
 ·exact Xf h
theorem MX {K:W7}:kX K (λxs H Q=>(∃ i,xs=[.int i]/\Q (.int i) H)∨∃ k,xs=[.bl k]/\Q (.int (if k then 1 else 0)) H) Cy:=λH μ xs ds Q Q' m p h k=>by
 unfold Cy at h
 split at h
 ·cases p with | cons p1 p2=>cases p2;cases p1;exact .inl ⟨_,rfl,k _ H _ μ (.refl H) m (.int _) h⟩
 ·cases p with | cons p1 p2=>cases p2;cases p1;exact .inr ⟨_,rfl,k _ H _ μ (.refl H) m (.int _) h⟩
 ·exact Xf h
theorem b6.or {f:Xb}{r r':List V->Hp->VK->Prop}(h:b6 X f r)(h':b6 X f r'):b6 X f (λxs H Q=>r xs H Q∨r' xs H Q):=λpins s σ H xs us Q I rx q=>by
 rcases q with q | q
 ·exact h pins s σ H xs us Q I rx q
 ·exact h' pins s σ H xs us Q I rx q
theorem bI {K:W7}:kX K (λxs H Q=>(∃ p ys,xs=[.ref p]/\(SqL K H p ys∨SqT K H p ys)/\Q (.int ys.length) H)∨∃ z,xs=[.str z]/\z.length<=sizeLine/\Q (.int z.length) H) c8:=λH μ xs ds Q Q' m p h k=>by
 unfold c8 at h
 split at h
 ·cases p with | cons p1 p2=>cases p2;cases p1 with | tup q l=>exact .inl ⟨_,_,rfl,.inr q,k _ H _ μ (.refl H) m (by rw[l.length];exact .int _) h⟩
 ·cases p with | cons p1 p2=>cases p2;cases p1 with | ls q l=>exact .inl ⟨_,_,rfl,.inl q.sq,k _ H _ μ (.refl H) m (by rw[l.length];exact .int _) h⟩
 ·cases p with | cons p1 p2=>cases p2;cases p1;exact .inr ⟨_,rfl,big h.1,k _ H _ μ (.refl H) m (.int _) h.2⟩
 ·rename_i a
  cases p with | cons p1 p2=>
  cases p2;cases p1
  obtain ⟨ys,e0,h⟩:=bT h
  obtain ⟨xs,ex,l⟩:=m a _ e0
  exact .inl ⟨_,_,rfl,.inl (SqL.of ex),k _ H _ μ (.refl H) m (by rw[l.length];exact .int _) h⟩
 ·exact Xf h
theorem bc:b6 X (.builtin "len") (λxs H Q=>(∃ p ys,xs=[.ref p]/\(SqL X.K H p ys∨SqT X.K H p ys)/\Q (.int ys.length) H)∨∃ z,xs=[.str z]/\z.length<=sizeLine/\Q (.int z.length) H):=b6.or vy vh
end
end
section
open PySem PySem.Spec PyProof.Rows L2
def tys:List String:=["NoneType", "bool", "int", "str", "tuple", "list"]
def zc:List String:=["bool", "int", "str", "tuple", "list", "dict"]
theorem C2 (K:W7):∀ t∈tys,∀ c∈zc,PySem.W.kitOne K (.type t) (.type c)=some (eM t c):=by
 intro t ht c hc
 simp only[tys,Xr,XW,or_false] at ht
 simp only[zc,Xr,XW,or_false] at hc
 rcases ht with rfl | rfl | rfl | rfl | rfl | rfl<;>rcases hc with rfl | rfl | rfl | rfl | rfl | rfl<;>with_unfolding_all rfl
theorem HD {d:D}{t:String}(h:tyD d=some t):t∈tys:=by
 cases d<;>simp[tyD] at h<;>subst h<;>decide
def Vn (K:W7):List V->Hp->VK->Prop:=λxs H Q=>∃ x d t c,xs=[x,.ty c]/\Dp K H x d/\tyD d=some t/\c∈zc/\Q (.bl (eM t c)) H
theorem Jt {X:Cx}:b6 X (.builtin "isinstance") (Vn X.K):=λpins s σ H xs us Q I rx ⟨x,d,t,c,ex,px,et,hc,q⟩=>by
 subst ex
 cases rx with | @cons _ u _ _ r1 r2=>cases r2 with | cons r2 r3=>
 cases r3
 cases (show _=zdn c from r2)
 have e:=C2 X.K t (HD et) c hc
 have fin:∀ tk,EP X pins σ Q (.bool (eM t c)) { s with toks:=tk }:=λtk=>⟨.bl _,H,I.tok tk,rfl,q⟩
 cases px with
 | non=>cases et;cases (show u=YX from r1);exact ZC zdG I.kIn YQ e (λz=>nomatch z) fin
 | bl y=>cases et;cases (show u=zbg y from r1);exact ZC zdH I.kIn YQ e (λz=>nomatch z) fin
 | int i=>cases et;obtain ⟨t,z⟩:=(show ∃ t,u=zak i t from r1);cases z;exact ZC zd4 I.kIn YQ e (λz=>nomatch z) fin
 | str y=>cases et;obtain ⟨t,z⟩:=(show ∃ t,u=zbf y t from r1);cases z;exact ZC zd5 I.kIn YQ e (λz=>nomatch z) fin
 | ty _=>cases et
 | obj _=>cases et
 | @tup a xs ds sq l=>
  cases et
  cases (show u=XT a from r1)
  obtain ⟨its,_,⟨o,h1,h2,_⟩,_⟩:=I.tuple sq
  exact ZC zdq I.kIn ⟨o,h1,h2⟩ e (λz=>nomatch z) fin
 | @ls a xs ds sq l=>
  cases et
  cases (show u=XT a from r1)
  obtain ⟨its,_,⟨o,n,h1,h2,_⟩,_⟩:=I.list sq.sq
  exact ZC zdI I.kIn ⟨o,h1,h2⟩ e (λz=>nomatch z) fin
theorem jE {X:Cx}{x y:Str}{p p2 pos:Pos}{c:String}{e:XG}{Ta:ETr}(hg:Gl X x)(hm:X.mg x=none)(hv:Yt x=some (.builtin "isinstance"))(ha:LE X e Ta)(hg2:Gl X y)(hm2:X.mg y=none)(hv2:Yt y=some (.type c))(hc:c∈zc:=by decide)
  (hn:x ≠ "__name__" := by decide) (hdb:(x == ("__debug__" : Str))=false:=by decide) (hn2:y ≠ "__name__" := by decide) (hdb2:(y == ("__debug__" : Str))=false:=by decide)
  (h0:Xp [.Name y p2] X.env=[(false,Yl (.Name y p2) X.env)]:=by rfl) (h1:Xp (e::[.Name y p2]) X.env=(false,Yl e X.env)::Xp [.Name y p2] X.env:=by rfl) (h2:(YA pos (Xp [.Name y p2] X.env)).any (·.1)=false:=by rfl) :
  LE X (.Call (.Name x p) [e,.Name y p2] [] pos) (TUn (eX c) Ta):=by
 obtain ⟨ta,pa,sa⟩:=ha.ex
 refine ⟨_,l4 Jt hg hm hv (dB pa (dB (DH hg2 hm2 hv2 (v:=.ty c) rfl hn2 hdb2) hX h0) h1) hn hdb h1 h2,λσ H ρ μ Q Q' rl h k=>sa σ H ρ μ _ _ rl h λv H1 d μ1 t1 m1 p1 h1=>?_⟩
 have h1':(match tyD d with | some t=>Q (.bl (eM t c)) μ1 | none=>False):=h1
 cases et:tyD d with
 | none=>rw[et] at h1';exact Xf h1'
 | some t=>rw[et] at h1';exact ⟨v,d,t,c,rfl,p1,et,hc,k _ H1 _ μ1 t1 m1 (.bl _) h1'⟩
section
variable {X:Cx} {a b c e tg o:XG} {Ta Tb Tc:ETr} {pos:Pos} {es:List XG} {At:ATr} {x:Str} {p:Pos} {id T:String} {st:Stmt} {rest:List Stmt} {T1 T2:STr} {tA:TTr}
theorem a5:LSs X [] ba:=⟨_,Me,λσ H ρ μ E E' rl h k=>k.nx _ _ _ _ (.refl H) rl h⟩
theorem ak (h1:LS X st T1)(h2:LSs X rest T2):LSs X (st::rest) (aA T1 T2):=by
 obtain ⟨t1,p1,s1⟩:=h1.ex
 obtain ⟨t2,p2,s2⟩:=h2.ex
 exact ⟨_,Ik p1 p2,λσ H ρ μ E E' rl h k=>s1 σ H ρ μ _ _ rl h ⟨λσ' H' ρ' μ' t' r' q=>s2 σ' H' ρ' μ' E E' r' q (k.go t'),k.rt,k.bk,k.ct⟩⟩
theorem ax (h1:LS X st T1):LSs X [st] T1:=by
 obtain ⟨t1,p1,s1⟩:=h1.ex
 exact ⟨_,K8 p1,s1⟩
theorem c7 (he:LE X e Ta)(hs:Y3 e none pos.line X.env=pure false:=by rfl):LS X (.Expr e pos) (eU Ta):=by
 obtain ⟨ta,pa,sa⟩:=he.ex
 exact ⟨_,K7 pa hs,λσ H ρ μ E E' rl h k=>sa σ H ρ μ _ _ rl h λv H' d μ' t' m' p' h'=>k.nx _ _ _ _ t' (rl.go t' m') h'⟩
theorem aE (he:LE X e Ta):LS X (.Return (some e) pos) (aV Ta):=by
 obtain ⟨ta,pa,sa⟩:=he.ex
 exact ⟨_,QG pa,λσ H ρ μ E E' rl h k=>sa σ H ρ μ _ _ rl h k.rt⟩
theorem bH {sa sb:List Stmt}(hc:LT X c tA)(ha:LSs X sa T1)(hb:LSs X sb T2):LS X (.If c sa sb pos) (bL tA T1 T2):=by
 obtain ⟨tc,pc,sc⟩:=hc.ex
 obtain ⟨t1,p1,s1⟩:=ha.ex
 obtain ⟨t2,p2,s2⟩:=hb.ex
 refine ⟨_,U0 pc p1 p2,λσ H ρ μ E E' rl h k=>sc σ H ρ μ _ _ rl h λq H1 μ1 t1' m1 h1=>?_⟩
 cases q with
 | true=>exact p8 (s1 σ H1 ρ μ1 E E' (rl.go t1' m1) h1 (k.go t1'))
 | false=>exact rD (s2 σ H1 ρ μ1 E E' (rl.go t1' m1) h1 (k.go t1'))
theorem iI {K:W7}(i:Nat):Qd K (mq i) (ay i):=λσ H ρ μ v d k k' rl p h q=>q _ _ _ _ (.refl H) (rl.set p i) h
theorem cG (i:Nat)(hN:X.N.Nodup)(hi:X.N[i]? = some x:=by rfl)(hx:Loc X.env.scope x:=by first | exact zay rfl | exact zaz rfl)(hf:X.fn x=true∨X.env.scope.names.lookup x=some .local:=by first | exact .inl rfl | exact .inr rfl | assumption):LG X (.Name x pos) (ay i):=
 ⟨_,iW hN hi hx hf,iI i⟩
theorem aC (i:Nat){pos':Pos}(hN:X.N.Nodup)(he:LE X e Ta)(hi:X.N[i]? = some x:=by rfl)(hx:Loc X.env.scope x:=by first | exact zay rfl | exact zaz rfl)(hs:Y3 e (some (.Name x pos')) pos.line X.env=pure false:=by rfl)
  (hf:X.fn x=true∨X.env.scope.names.lookup x=some .local:=by first | exact .inl rfl | exact .inr rfl | assumption):LS X (.Assign [.Name x pos'] e pos) (aO Ta (ay i)):=by
 obtain ⟨ta,pa,sa⟩:=he.ex
 exact ⟨_,QP hN hi hx pa hs hf,λσ H ρ μ E E' rl h k=>sa σ H ρ μ _ _ rl h λv H' d μ' t' m' p' h'=>iI i σ H' ρ μ' v d _ _ (rl.go t' m') p' h' (k.go t').nx⟩
theorem vG (i j:Nat){y:Str}{px py pt:Pos}{kt k2 pt2}(hc:X.calm=true)(hN:X.N.Nodup)(ha:LA X [a,b] At)(hi:X.N[i]? = some x:=by rfl)(hj:X.N[j]? = some y:=by rfl)(hij:i≠j:=by decide)
  (hx:X.env.scope.names.lookup x=some .local:=by rfl) (hy:X.env.scope.names.lookup y=some .local:=by rfl)
  (hw:zbF [.Tuple [.Name x px,.Name y py] kt pt] (.Tuple [a,b] k2 pt2) X.env=pure (some [x,y]):=by rfl)
  (hs:zbE [.Tuple [.Name x px,.Name y py] kt pt] (.Tuple [a,b] k2 pt2) pos.line X.env=pure false:=by rfl) :
  LS X (.Assign [.Tuple [.Name x px,.Name y py] kt pt] (.Tuple [a,b] k2 pt2) pos) (ri i j At):=by
 obtain ⟨ta,pa,sa⟩:=ha.ex
 refine ⟨_,Rq hc hN hi hj hij hx hy pa hw hs,λσ H ρ μ E E' rl h k=>sa σ H ρ μ _ _ rl h λvs H' ds μ' t' m' p' h'=>?_⟩
 unfold L3.k2 at h'
 split at h'
 ·rename_i dv dw
  cases p' with | cons p1 p2=>cases p2 with | cons p2 p3=>
  cases p3
  exact ⟨_,_,rfl,k.nx _ _ _ _ t' (((rl.go t' m').set p1 i).set p2 j) h'⟩
 ·exact Xf h'
theorem qG {body:List Stmt}(hp:zdZ (XD X.prog X.w) X.A X.env X.xe)(hc:LT X c tA)(hb:LSs X body T1):LS X (.While c body [] pos) (vm tA T1):=by
 obtain ⟨tc,pc,sc⟩:=hc.ex
 obtain ⟨t1,p1,s1⟩:=hb.ex
 refine ⟨_,HP hp pc p1,λσ H ρ μ E E' rl h k=>?_⟩
 obtain ⟨P,m,h0,hs⟩:=h
 refine ⟨λn σ' H'=>∃ ρ' μ',Tk H H'/\Rl X.K σ' H' ρ' μ'/\P ρ' μ'/\n=m ρ' μ',⟨_,ρ,μ,.refl H,rl,h0,rfl⟩,?_⟩
 rintro n σ1 H1 ⟨ρ1,μ1,t1',rl1,hP,rfl⟩
 refine sc σ1 H1 ρ1 μ1 _ _ rl1 (hs ρ1 μ1 hP) λq H2 μ2 t2 m2 h2=>?_
 have t12:=t1'.trans t2
 cases q with
 | true=>
  refine p8 ⟨λσ' H'=>∃ ρ' μ',Tk H H'/\Rl X.K σ' H' ρ' μ'/\P ρ' μ'/\m ρ' μ' < m ρ1 μ1,λσ' H' ⟨ρ',μ',a1,a2,a3,a4⟩=>⟨_,a4,ρ',μ',a1,a2,a3,rfl⟩,?_⟩
  have h2':=h2
  refine s1 σ1 H2 ρ1 μ2 _ _ (rl1.go t2 m2) h2' ⟨λσ' H' ρ' μ' t' r' q=>⟨ρ',μ',t12.trans t',r',q.1,q.2⟩,(k.go t12).rt,(k.go t12).nx,λσ' H' ρ' μ' t' r' q=>⟨ρ',μ',t12.trans t',r',q.1,q.2⟩⟩
 | false=>exact rD (k.nx _ _ _ _ t12 (rl1.go t2 m2) h2)
theorem nz (lo:Int)(n:Nat):bX lo (n+1)=.int lo::bX (lo+1) n:=by
 unfold bX
 rw[zcj]
 rw[Xh,Xg]
 congr 1
 ·simp
 ·refine XA λi _=>?_
  show D.int _=D.int _
  congr 1
  show lo+((i+1:Nat):Int)=lo+1+(i:Int)
  omega
end
def lift (K:W7)(sp:FSp):Sp:=λvs H Q _=>∃ ds μ QQ,DpL K H vs ds/\bM K H μ/\sp ds μ QQ/\jw K H QQ Q
def RT (Q:DK):DK:=λd μ'=>∃ μ,Sub μ μ'/\Q d μ
def ini (n:Nat)(ds:List D):ST:=ds.map some++YI (n - ds.length) none
theorem Rx:∀ (ds:List D) (n i:Nat) (d:D),lk (ini n ds) i=some d->ds[i]? = some d:=by
 intro ds
 have rep:∀ m i (d:D),lk (YI m none) i=some d->False:=by
  intro m
  induction m with
  | zero=>intro i d h;cases i<;>cases h
  | succ m ih=>intro i d h;cases i with
   | zero=>cases h
   | succ i=>exact ih i d h
 have gen:∀ (ds:List D) m i d,lk (ds.map some++YI m none) i=some d->ds[i]? = some d:=by
  intro ds
  induction ds with
  | nil=>intro m i d h;exact (rep m i d h).elim
  | cons x r ih=>intro m i d h;cases i with
   | zero=>simpa[lk] using h
   | succ i=>simpa using ih m i d h
 exact λn i d h=>gen ds _ i d h
section
variable {P:XO} {w:X2} {K:W7} {mg:Str->Option Xb} {base:Heap}
theorem IM {x qual:Str}{st:Stmt}{f:Addr}{fd:Xy}{N ps:List Str}{k:Nat}{sp:FSp}{T:STr}(F:Fun K x qual st f fd)(S:aH N ps (aw st))(len:∀ ds μ Q,sp ds μ Q->ds.length=ps.length)
  (hb:∀ (cdv:Xb) (A:Yh) (outer:List Env) (s:Xe) (H:Hp) (E:XK),gD k (A.deeper (zbm qual (aw st) s.heap.objs.size f cdv))->
   LSs (xS CX0 P w K mg base N qual (aw st) f cdv A outer s H E).nox (gW st) T)
  (hr:∀ ds μ Q,sp ds μ Q->T { nx:=λ_ μ'=>RT Q .non μ',rt:=RT Q } (ini N.length ds) μ):jo P w K mg base CX0 (k+1) f fd ps (lift K sp):=by
 refine F.ok S (λvs H Q E h=>?_) (λcdv A outer s H vs Q E hroom h=>?_)
 ·obtain ⟨ds,μ,QQ,l,m,h1,k⟩:=h
  rw[l.length];exact len ds μ QQ h1
 ·obtain ⟨ds,μ,QQ,l,m,h1,k⟩:=h
  obtain ⟨t,pt,stt⟩:=(hb cdv A outer s H E hroom).ex
  have hl:vs.length=ds.length:=l.length
  refine ⟨t,pt,stt (L2.start N vs) H (ini N.length ds) μ _ _ ⟨?_,λi d e=>?_,m⟩ (hr ds μ QQ h1) ⟨λσ' H' ρ' μ' t' r' q=>?_,λv H' d μ' t' m' p' q=>?_,λ_ _ _ _ _ _ q=>q,λ_ _ _ _ _ _ q=>q⟩⟩
  ·unfold ini L2.start;simp[hl]
  ·have e':=Rx ds _ i d e
   obtain ⟨v,e1,p⟩:=l.get e'
   refine ⟨v,?_,p⟩
   unfold L2.start
   have hi:i < vs.length:=(XR.mp e1).1
   rw[Z0 (by simpa using hi),Yp,e1]
   rfl
  ·obtain ⟨μ2,s2,q2⟩:=q
   exact k _ _ _ μ2 t' (r'.mu.sub s2) .non q2
  ·obtain ⟨μ2,s2,q2⟩:=q
   exact k _ _ _ μ2 t' (m'.sub s2) p' q2
end
section
variable {X:Cx} {k:Nat} {f:Addr} {fd:Xy} {ps:List Str} {sp:FSp} {x:Str} {p pos:Pos} {e:XG} {es:List XG} {At:ATr}
theorem CW (F:jo X.prog X.w X.K X.mg X.base CX0 k f fd ps (lift X.K sp))(hr:gD k X.A)(hg:Gl X x)(hm:X.mg x=some (.ref f))(hk:zav X.K (.ref f)=true)(hb:Binds X.K fd ps [])
  (ha:LA X (e::es) At) (hdb:(x == ("__debug__" : Str))=false:=by decide) (he:Xp (e::es) X.env=(false,Yl e X.env)::Xp es X.env:=by rfl) (hpl:(YA pos (Xp es X.env)).any (·.1)=false:=by rfl) :
  LE X (.Call (.Name x p) (e::es) [] pos) (au sp At):=by
 obtain ⟨ta,pa,sa⟩:=ha.ex
 refine ⟨_,MJ F hr hg hm hk hb .nil Vq pa hdb he hpl,λσ H ρ μ Q Q' rl h k=>sa σ H ρ μ _ _ rl h λxs H1 ds μ1 t1 m1 p1 h1=>?_⟩
 rw[XH]
 exact ⟨ds,μ1,Q,p1,m1,h1,k.go t1⟩
end
end
section
open PySem PySem.Spec PyProof.Rows L2
theorem DpL.ints {K:W7}{H:Hp}:∀ ns:List Int,DpL K H (ns.map V.int) (ns.map D.int)
 | []=>.nil
 | n::r=>.cons (.int n) (DpL.ints r)
theorem SqF.only {K:W7}{H:Hp}{a:Addr}{xs:List V}(hO:KZ H)(h:SqL K H a xs):SqF K H a xs:=by
 rcases h with (h | h) | h
 ·rcases hO a with z | ⟨o,ys,z⟩
  ·rw[h] at z;cases z
  ·rw[h] at z;cases z
 ·exact .inl h
 ·exact .inr h
theorem U6 {l:zcp}{k:Nat}{q:XO}{loose:List Str}{XP:(Str->Option Xb)->Heap->Prop}{YP:X2->Heap->Prop}{d:DefRec}{K:zeB->W7}{sp:FSp}{x:Str}
  (hn:l.most=some 63) (hdf:d.params.defaults=[]) (hr:gD k zcf) (hY:∀ (w:X2) (h:Heap),YP w h->(K w.params).In h)
  (hl:∀ ns:List Int,ns.length<=63->∀ μ,sp [.ls (ns.map .int)] μ (λd _=>d=.bl true))
  (F:∀ (w:X2) (mg:Str->Option Xb) (fa:Addr) (h:Heap),(K w.params).In h->h.Ns YE mg->mg d.name=some (.ref fa)->
   ∃ fd:Xy,(∀ (s:Xe) (u:Xb),zdA s fd ⟨[u],[]⟩ [(x,u)])/\∀ base:Heap,(K w.params).In base->base.Ns YE mg->jo l.prog w (K w.params) mg base CX0 k fa fd [x] (lift (K w.params) sp)) :
  zeS q loose XP YP l.row.toRowW d [] (λf vs=>zeC f vs):=
 L2.MV (n:=63) (k:=k) (x:=x) (CX:=λ_=>CX0) (sp:=λw=>lift (K w.params) sp) hn (by decide) hdf hr hY F
  (λw H a ns hl' hO hS=>⟨[.ls (ns.map .int)],λ_=>none,_,.cons (.ls (.only hO hS) (.ints ns)) .nil,(λa o e=>by cases e),hl ns hl' _,λv H' d μ' _ _ p e=>by
   have e':d=.bl true:=e
   subst e'
   cases p;rfl⟩) λ_ _ _ _ _ z=>z
end
section
open PySem PySem.Spec PyProof.Rows L2
def scB (N P:List Str)(sc:Scope):Bool:=decide N.Nodup&&decide (∀ x∈P,sc.names.lookup x=some .local∨sc.names.lookup x=some .cell)&&decide (∀ y∈sc.names,y.2≠.free)
theorem Tx {N P:List Str}{sc:Scope}(h1:sc.kind=.function)(h2:sc.isCoroutine=false)(h3:sc.isGenerator=false)(h4:N.take P.length=P)(h:scB N P sc=true):aH N P sc:=by
 unfold scB at h
 rw[XX,XX] at h
 exact ⟨h1,h2,h3,of_decide_eq_true h.1.1,h4,of_decide_eq_true h.1.2,of_decide_eq_true h.2⟩
structure aR (P:XO) (w:X2) (K:W7) (mg:Str->Option Xb) (base:Heap) (k:Nat) (x:Str) (ps:List Str) (sp:FSp):Prop where
 ex:∃ f fd,jo P w K mg base CX0 k f fd ps (lift K sp)/\mg x=some (.ref f)/\zav K (.ref f)=true/\Binds K fd ps []
section
variable {P:XO} {w:X2} {K:W7} {mg:Str->Option Xb} {base:Heap}
theorem aM {x qual:Str}{st:Stmt}{f:Addr}{fd:Xy}{N ps:List Str}{k:Nat}{sp:FSp}{T:STr}(m:mg x=some (.ref f))(F:Fun K x qual st f fd)(S:aH N ps (aw st))(len:∀ ds μ Q,sp ds μ Q->ds.length=ps.length)
  (hr:∀ ds μ Q,sp ds μ Q->T { nx:=λ_ μ'=>RT Q .non μ',rt:=RT Q } (ini N.length ds) μ)
  (b:∀ (kV doc pm:Xb) (an:Option Addr) (cdv ct:Xb) (us:List Xb),us.length=ps.length->bindArgs (ZY x qual (mC st) (gW st) (aw st) .none kV doc pm an cdv ct) ⟨us,[]⟩=pure (ps.zip us))
  (hb:∀ (cdv:Xb) (A:Yh) (outer:List Env) (s:Xe) (H:Hp) (E:XK),gD k (A.deeper (zbm qual (aw st) s.heap.objs.size f cdv))->(A.deeper (zbm qual (aw st) s.heap.objs.size f cdv)).units+64 < cLine->
   LSs (xS CX0 P w K mg base N qual (aw st) f cdv A outer s H E).nox (gW st) T):aR P w K mg base (k+1) x ps sp:=
 ⟨f,fd,IM F S len (λcdv A outer s H E h=>hb cdv A outer s H E h h.units) hr,m,F.kp,F.binds b⟩
end
theorem ar {X:Cx}{k n:Nat}{x:Str}{ps:List Str}{sp:FSp}{e:XG}{es:List XG}{At:ATr}{p pos:Pos}(C:aR X.prog X.w X.K X.mg X.base k x ps sp)(hr:gD n X.A)(hg:Gl X x)
  (ha:LA X (e::es) At) (hle:k<=n:=by decide) (hdb:(x == ("__debug__" : Str))=false:=by decide) (he:Xp (e::es) X.env=(false,Yl e X.env)::Xp es X.env:=by rfl) (hpl:(YA pos (Xp es X.env)).any (·.1)=false:=by rfl) :
  LE X (.Call (.Name x p) (e::es) [] pos) (au sp At):=by
 obtain ⟨f,fd,F,m,kp,b⟩:=C.ex
 exact CW F (hr.mono hle) hg m kp b ha hdb he hpl
end
section
open PySem PySem.Spec PyProof.Rows L2
def bf (X:Cx)(scope:Scope)(Nc:List Str)(cl:List (Str×Addr))(C:Addr)(s₀:Xe)(H₀:Hp)(ex:List Addr):Cx:=
 { X with env:=zeF scope cl C X.env,N:=Nc,s₀:=s₀,H₀:=H₀,outer:=X.stack,ex:=ex,fn:=λ_=>false,pn:=[] }
theorem Cn {scope:Scope}{env:Env}(h:∀ y∈scope.names,y.2=.free->∃ c,env.cells.lookup y.1=some c) :
  ∃ cl,closureFor scope env=pure cl/\(∀ x c,cl.lookup x=some c->env.cells.lookup x=some c)/\∀ y∈scope.names,y.2=.free->∃ c,cl.lookup y.1=some c:=by
 have gen:∀ (ns:List (Str×zaS)) (cs:List (Str×Addr)),(∀ y∈ns,y.2=.free->∃ c,env.cells.lookup y.1=some c)->(∀ x c,cs.lookup x=some c->env.cells.lookup x=some c)->
   ∃ cl,(forIn ns cs λx r=>if (x.2 == YU)=true then do let c ← cellOf env x.1;pure (YY ((x.1,c)::r)) else pure (YY r):Sem _)=pure cl/\(∀ x c,cl.lookup x=some c->env.cells.lookup x=some c)/\
    (∀ x,(cs.lookup x).isSome=true->(cl.lookup x).isSome=true)/\∀ y∈ns,y.2=.free->∃ c,cl.lookup y.1=some c:=by
  intro ns
  induction ns with
  | nil=>intro cs _ h2;exact ⟨cs,rfl,h2,λ_ z=>z,λ_ z=>nomatch z⟩
  | cons y r ih=>
   intro cs h1 h2
   obtain ⟨n,k⟩:=y
   by_cases hk:k=.free
   ·subst hk
    obtain ⟨c,hc⟩:=h1 (n,.free) Xl rfl
    have h2':∀ x c',((n,c)::cs).lookup x=some c'->env.cells.lookup x=some c':=λx c' e=>by
     rw[YR] at e
     split at e
     ·rename_i hx
      cases e
      have:x=n:=by simpa using hx
      subst this;exact hc
     ·exact h2 x c' e
    obtain ⟨cl,e1,e2,e3,e4⟩:=ih ((n,c)::cs) (λy hy=>h1 y (Xo _ hy)) h2'
    refine ⟨cl,?_,e2,λx hx=>e3 x ?_,λy hy hf=>?_⟩
    ·rw[za3]
     have:cellOf env n=pure c:=by unfold cellOf;rw[hc]
     simp only[beq_self_eq_true,if_true,this,pure_bind]
     exact e1
    ·rw[YR];split
     ·rfl
     ·exact hx
    ·obtain rfl | hy:=Xr.mp hy
     ·have:(cl.lookup n).isSome=true:=e3 n (by simp[YR])
      exact zbH.mp this
     ·exact e4 y hy hf
   ·obtain ⟨cl,e1,e2,e3,e4⟩:=ih cs (λy hy=>h1 y (Xo _ hy)) h2
    refine ⟨cl,?_,e2,e3,λy hy hf=>?_⟩
    ·rw[za3]
     have:(k == YU)=false:=by simpa using hk
     simp only[this,zag,if_false,pure_bind]
     exact e1
    ·obtain rfl | hy:=Xr.mp hy
     ·exact absurd hf hk
     ·exact e4 y hy hf
 obtain ⟨cl,e1,e2,_,e4⟩:=gen scope.names [] h λx c e=>by cases e
 refine ⟨cl,?_,e2,e4⟩
 show ((forIn scope.names ([]:List (Str×Addr)) λx r=>if (x.2 == YU)=true then do let c ← cellOf env x.1;pure (YY ((x.1,c)::r)) else pure (YY r):Sem _) >>= λs=>pure s)=pure cl
 rw[e1]
 rfl
def yH (Y:Cx)(ifs:List XG)(t:TT):Prop:=
 ∀ (pins:List (Addr×Obj)) (s:Xe) (σ:L2.St) (H:Hp) (Q:Bool->Hp->Prop),Inv Y pins σ H s->t σ H Q->
  XB (XD Y.prog Y.w) Y.A (forIn ifs true λc r=>if r=true then do let ok ← isTrue c Y.env (Yl c Y.env);pure (YY ok) else pure (YY r)) (TP Y pins σ Q) Y.xe s
def V7:TT:=λ_ H Q=>Q true H
theorem Ma {Y:Cx}:yH Y [] V7:=λpins s σ H Q I h=>wpAny_tests_nil ⟨H,I,h⟩
theorem L8 {Y:Cx}{c:XG}{t:TT}(h:PT Y c t):yH Y [c] t:=λpins s σ H Q I hh=>wpAny_tests_one (h pins s σ H Q I hh)
def ko (σ:L2.St)(n:Nat)(caps:List Nat):L2.St:=YI n none++caps.map λi=>(σ[i]?).join
def Wk (σ' σ:L2.St):Prop:=σ'.length=σ.length/\∀ (i:Nat) v,σ'[i]? = some (some v)->σ[i]? = some (some v)
def kT (wi:TI)(g:TG)(tt:TT)(te:TE)(n:Nat)(caps:List Nat):TE:=λσ H Q=>wi σ H λJ H1=>∀ D,H1 D=none->
 ∃ W:Nat->Nat->List V->Hp->Prop,(∃ m,W 0 m [] (L2.upd H1 D (.lst [])))/\∀ i m ys H2,W i m ys H2->
  (J.stop i H2/\Q (.ref D) H2)∨(J.go i H2/\∃ N:List V->Hp->Prop,(∀ ys' H',N ys' H'->∃ m',m' < m/\W (i+1) m' ys' H')/\
   ∀ x H3,J.yld i H2 x H3->g x (ko σ n caps) H3 λσ4 H4=>Wk (ko σ n caps) σ4/\tt σ4 H4 λb H5=>if b=true then te σ4 H5 λy H6=>∃ zs,H6 D=some (.lst zs)/\zs.length < sizeLine/\N (zs++[y]) (L2.upd H6 D (.lst (zs++[y]))) else N ys H5)
theorem Ef {prog:XO}{w:X2}{A:Yh}{R:zd1->Xe->Prop}{s:Xe}{elt target iter:XG}{ifs:List XG}{scope:Scope}{pos:Pos}{it acc:Xb}{env:Env}(J:Nat->Xe->Prop)
  (turn:∀ n s,J n s->XB (XD prog w) A (zad it) (λo t₁=>match o with
   | none=>R (.ok .next) t₁
   | some v=>XB (XD prog w) A (za1 target it v) (λ_ t₁=>XB (XD prog w) A (zb8 target env v) (λ_ t₂=>
     XB (XD prog w) A (forIn ifs true λc r=>
      if r=true then do let ok ← isTrue c env (Yl c env);pure (YY ok) else pure (YY r)) (λok t₃=>
      if ok=true then XB (XD prog w) A (Yl elt env) (λx t₄=>
       XB (XD prog w) A (zcG (.builtin "list.append") [acc,x]) (λ_ t₅=>∃ m,m < n/\J m t₅) (λ_ _=>False) t₄) (λ_ _=>False) t₃
      else ∃ m,m < n/\J m t₃) (λ_ _=>False) t₂) (λ_ _=>False) t₁) (λ_ _=>False) t₁) (λ_ _=>False) s)
  (n:Nat) (h:J n s):ZK (XD prog w) A (.compLoop (.ListComp elt [⟨target,iter,ifs,0⟩] scope pos) 0 it acc env) R s:=by
 refine codeAny_loop rfl J (λn s hJ=>?_) n h
 show XB _ A ((compTurn (.ListComp elt [⟨target,iter,ifs,0⟩] scope pos) 0 it acc env).onRaise
  (λx=>do noteFrame x env;theTreesLotGoes x)) _ _ s
 refine wpAny_noted ?_
 rw[compTurn_list]
 refine W8 (zaQ (W8 (Yq (turn n s hJ) (λr t₁ g₁=>?_) λ_ _ h'=>h'.elim)))
 cases r with
 | none=>exact Xj g₁
 | some v=>
  refine W8 (Yq g₁ (λ_ t₁' g₁'=>?_) λ_ _ h'=>h'.elim)
  refine W8 (Yq g₁' (λ_ t₂ g₂=>W8 (Yq g₂ (λok t₃ g₃=>?_) λ_ _ h'=>h'.elim)) λ_ _ h'=>h'.elim)
  cases ok with
  | false=>exact Xj ⟨rfl,g₃⟩
  | true=>
   exact W8 (W8 (Yq g₃ (λx t₄ g₄=>W8 (Yq g₄ (λ_ t₅ g₅=>Xj (Xj ⟨rfl,g₅⟩)) λ_ _ h'=>h'.elim)) λ_ _ h'=>h'.elim))
theorem jK {σ:L2.St}{n:Nat}{caps:List Nat}{i:Nat}{v:V}(h:(ko σ n caps)[i]? = some (some v)):∃ j k,i=n+j/\caps[j]? = some k/\σ[k]? = some (some v):=by
 unfold ko at h
 by_cases hi:i < n
 ·rw[Z0 (by simpa using hi),zbS,if_pos hi] at h
  cases h
 ·rw[ZN (by simpa using hi)] at h
  rw[zaE,Yp] at h
  cases e:caps[i - n]? with
  | none=>rw[e] at h;cases h
  | some k=>
   rw[e] at h
   have h':(σ[k]?).join=some v:=XY h
   cases e2:σ[k]? with
   | none=>rw[e2] at h';cases h'
   | some o=>
    rw[e2] at h'
    have h'':o=some v:=h'
    subst h''
    exact ⟨i - n,k,by omega,e,e2⟩
theorem fG {env:Env}(hk:env.scope.kind=.function):∀ {names:List (Str×zaS)} {x:Str},env.kindOf x=some .cell->names.lookup x=some .free->
  (names.map λ(n,k)=>if (k == YU&&env.scope.kind == .function&&env.kindOf n == some .cell) then (n,zdb) else (n,k)).lookup x=some .cell
 | [],_,_,h=>by simp at h
 | (n,k)::r,x,hc,h=>by
  have ih:=@fG env hk r x hc
  show List.lookup x ((if (k == YU&&env.scope.kind == .function&&env.kindOf n == some .cell)=true
   then (n,zdb) else (n,k))::_)=_
  cases hx:x == n with
  | true=>
   simp only[hx,YR] at h
   cases h
   have e:x=n:=by simpa using hx
   subst e
   simp[YR,hk,hc]
  | false=>
   simp only[hx,YR] at h
   by_cases hcc:(k == YU&&env.scope.kind == .function&&env.kindOf n == some .cell)=true
   ·rw[if_pos hcc];simp only[YR,hx];exact ih h
   ·rw[if_neg hcc];simp only[YR,hx];exact ih h
theorem nE {env:Env}:∀ {names:List (Str×zaS)} {x:Str} {k':zaS},(∀ y∈names,y.2≠.cell)->(k'=.cell∨k'=.free)->
  (x,k')∈(names.map λ(n,k)=>if (k == YU&&env.scope.kind == .function&&env.kindOf n == some .cell) then (n,zdb) else (n,k))->(x,YU)∈names:=by
 intro names x k' hn hk h
 obtain ⟨⟨n,k⟩,hm,e⟩:=Xd.mp h
 dsimp only at e
 split at e
 ·rename_i hc
  cases e
  have:k=.free:=by simp at hc;exact hc.1.1
  subst this;exact hm
 ·cases e
  rcases hk with rfl | rfl
  ·exact absurd rfl (hn _ hm)
  ·exact hm
theorem G0 {X:Cx}{pins:List (Addr×Obj)}{σ:L2.St}{H H5:Hp}{s:Xe}{C:Addr}{h':Heap}(I:Inv X pins σ H s)(f0:H C=none)(fC:sV X pins H5 C)(hs:ZV C s.heap h'):Inv X pins σ H { s with heap:=h' }:=by
 have keep:∀ b o',b≠C->s.heap.get? b=some o'->h'.get? b=some o':=λb o' hb e'=>(hs.2 b hb).trans e'
 refine I.OE (ch:=[C]) (s':={ s with heap:=h' }) rfl ⟨λb o' e' _ _ nx=>keep b o' (λz=>nx (by rw[z];exact Xl)) e',λb o' e' _ _ nx=>⟨o'.slots,keep b o' (λz=>nx (by rw[z];exact Xl)) e'⟩,λb o' _ w _=>w,λb o' e' nx=>⟨o',keep b o' (λz=>nx (by rw[z];exact Xl)) e'⟩,λb ys e'=>e',λb o' u e'=>e',λb ps e'=>⟨#[],by simpa using e'⟩⟩ (λb u e'=>?_) I.bare λb hb=>?_
 ·refine (I.hok b u e').o8 (λc w' hc q=>keep c w' ?_ q) (λ_ q=>q) λ_ _ q=>q
  rintro rfl
  rcases hc with z | z
  ·rw[← z,f0] at e';cases e'
  ·rw[f0] at z;cases z
 ·cases Y7.mp hb
  exact ⟨fC.2.2.2.1,fC.2.1,fC.2.2.2.2.1,fC.2.2.2.2.2⟩
theorem zE {X:Cx}{tg iter elt:XG}{ifs:List XG}{scope:Scope}{pos:Pos}{wi:TI}{g:TG}{tt:TT}{te:TE}{Nc:List Str}{n:Nat}{caps:List Nat}
  (hxe:X.xe=λ_ _=>False) (hcalm:X.calm=true) (hi:PI X tg iter wi)
  (hbody:∀ (cl:List (Str×Addr)) (C:Addr) (s₀:Xe) (H₀:Hp) (ex:List Addr),PG (bf X scope Nc cl C s₀ H₀ ex) tg g/\yH (bf X scope Nc cl C s₀ H₀ ex) ifs tt/\PE (bf X scope Nc cl C s₀ H₀ ex) elt te)
  (hfree:∀ y∈scope.names,y.2=.free->X.env.kindOf y.1=some .cell) (hcell:∀ y∈scope.names,y.2≠.cell) (gk:scope.kind=.function)
  (hnames:∀ y∈scope.names,y.2=.local->scope.names.lookup y.1=some .local) (hlen:Nc.length=n+caps.length)
  (hcap:∀ (j k:Nat),caps[j]? = some k->∃ x,Nc[n+j]? = some x/\X.N[k]? = some x/\scope.names.lookup x=some .free)
  {use:Option (Xb->Sem Unit)} {Qv:Xb->Xe->Prop} {pins:List (Addr×Obj)} {s:Xe} {σ:L2.St} {H:Hp} {Q:VK} {ps:Pos} (I:Inv X pins σ H s) (h:kT wi g tt te n caps σ H Q)
  (hfin:∀ (D C:Addr) (s5:Xe) (H5:Hp) (m:Str->Option Xb),Inv X pins σ H5 s5->sV X pins H5 C->s5.heap.Ns C m->Q (.ref D) H5->zeG (XD X.prog X.w) X.A (λ_ _=>False) use Qv (.ref D) C (.ok .next) s5)
  (hs:∀ x,X4 iter X.env x=pure x:=by intro _;rfl) :
  XB (XD X.prog X.w) X.A (comprehension (.ListComp elt [⟨tg,iter,ifs,0⟩] scope pos) scope X.env ps (newList []) false (Yl iter X.env) use) Qv (λ_ _=>False) s:=by
 obtain ⟨cl,hclos,clin,clfree⟩:=Cn (scope:=scope) (env:=X.env) λy hy hf=>I.ok.has y.1 (.inl (hfree y hy hf))
 refine wpAny_comprehension_free (use:=use) rfl hs hclos gk hnames ?_
 have hi':=hi pins s σ H _ I h
 rw[hxe] at hi'
 refine Yq hi' (λxv s1 h1=>Yq h1 (λitv s2 h2=>?_) λ_ _ z=>z) λ_ _ z=>z
 obtain ⟨it,fp,tn,J,H1,rfl,I2,T,st2,f2,hh⟩:=h2
 -- the new list
 refine Yf ?_
 have hD:H1 s2.heap.objs.size=none:=I2.hok.fresh (Xs _)
 obtain ⟨W,⟨m0,w0⟩,turn⟩:=hh _ hD
 have I3:Inv X pins σ (L2.upd H1 s2.heap.objs.size (.lst [])) { s2 with heap:=s2.heap.push { cls:=.type "list", dict:=none,data:=.seq ([]:List Xb).toArray } }:=
  I2.laid (t':=s2.toks) (λb u e=>Xa _ e) (Xs _) ⟨YG _,[],0,.nil,Xu _ rfl⟩
 have k3:∀ b u,s2.heap.get? b=some u->(s2.heap.push { cls:=.type "list", dict:=none,data:=.seq ([]:List Xb).toArray }).get? b=some u:=λb u e=>Xa _ e
 have fne:∀ b∈fp,b≠s2.heap.objs.size:=λb hb=>by
  obtain ⟨o,ho,_⟩:=T.obj 0 _ st2 b hb
  exact XF (Xq ho)
 generalize eD:s2.heap.objs.size=D at *
 generalize eh3:s2.heap.push { cls:=.type "list", dict:=none,data:=.seq ([]:List Xb).toArray }=h3 at *
 generalize eH3:L2.upd H1 D (.lst [])=H3 at *
 have st3:tn 0 h3:=T.keep 0 _ _ st2 λb hb o e=>k3 b o e
 have f3:∀ b∈fp,sV X pins H3 b:=λb hb=>⟨by rw[← eH3,aP (fne b hb)];exact (f2 b hb).1,(f2 b hb).2⟩
 have lt3:∀ b∈fp,b < h3.objs.size:=λb hb=>by
  obtain ⟨o,ho,_⟩:=T.obj 0 _ st3 b hb
  exact Xq ho
 generalize es3:({ s2 with heap:=h3 }:Xe)=s3 at *
 have hs3:s3.heap=h3:=by rw[← es3]
 refine wpAny_newFunctionEnv hcell (λy hy=>(by cases hy)) (λh4 hns hsb=>?_) gk
 show ZK _ _ (.compStart _ 0 (.ref it) (.ref D) (zeF scope cl s3.heap.objs.size X.env)) (zeG _ _ _ _ _ (.ref D) s3.heap.objs.size) _
 have k4:∀ b u,s3.heap.get? b=some u->h4.get? b=some u:=λb u e=>hsb.extBut b u (XF (Xq e)) (Xa _ e)
 have okY:(bf X scope Nc cl s3.heap.objs.size s3 H3 fp).Ok:=by
  refine ⟨I3.ok.mod,gk,I3.ok.glob,I3.ok.blt,Xs _,λx y c e1 e2=>I3.ok.inj x y c (clin _ _ e1) (clin _ _ e2),λx hx=>?_,λx c hf=>(by cases hf),I3.ok.hd,I3.ok.frames,.inl rfl,λb hb=>⟨?_,λx c e z=>?_⟩,I3.bs,XZ I3.ok.bsz I3.sz,λb o e hb=>?_,λb hb hz=>?_,I3.stack,I3.Dj⟩
  ·have hx':(relabel scope X.env).names.lookup x=some .cell∨(relabel scope X.env).names.lookup x=some .free:=hx
   have hm:(x,YU)∈scope.names:=by
    rcases hx' with q | q
    ·exact nE hcell (.inl rfl) (Yu q)
    ·exact nE hcell (.inr rfl) (Yu q)
   exact clfree _ hm rfl
  ·show b≠s3.heap.objs.size
   rw[hs3];exact XF (lt3 b hb)
  ·exact (f3 b hb).2.2.2.2.1 x c (clin _ _ e) z
  ·rcases (f3 b hb).2.2.2.1 with z | z
   ·exact I3.ok.Hm b o e z
   ·exact absurd (Xw (Xq e) (XZ I3.ok.bsz z)) (Y2 _)
  ·rcases Xr.mp (I3.Ap b hz) with z | z
   ·exact (f3 b hb).2.1 z
   ·exact (f3 b hb).2.2.1 z
 have SW:∀ c v,s3.heap.IsCell c v->h4.IsCell c v:=λc v ⟨o,ho,hd⟩=>⟨o,k4 c o ho,hd⟩
 have J0:Inv (bf X scope Nc cl s3.heap.objs.size s3 H3 fp) [] (ko σ n caps) H3 { s3 with heap:=h4,toks:=s3.toks+([]:List (Str×Xb)).length }:=by
  refine ⟨okY,rfl,I3.bare,Un.kept k4,⟨_,hns,λi x v e1 e2 e3=>?_⟩,λx c e=>?_,I3.hok.fresh (Xs _),λx c e=>I3.js x c (clin _ _ e),(λp hp=>(by cases hp)),I3.hok.kept k4,?_⟩
  ·obtain ⟨j,k,rfl,ej,ek⟩:=jK e2
   obtain ⟨x',n1,n2,n3⟩:=hcap j k ej
   have e1':Nc[n+j]? = some x:=e1
   rw[n1] at e1';cases e1'
   have hmem:(x,YU)∈scope.names:=Yu n3
   have hcellx:X.env.kindOf x=some .cell:=hfree _ hmem rfl
   obtain ⟨m,hn,hl⟩:=I3.loc
   obtain ⟨u,ru,lk⟩:=hl k x v n2 ek (.inr (.inl hcellx))
   refine ⟨u,ru,.inr ⟨.inl (fG I3.ok.kind hcellx n3),?_⟩⟩
   rcases lk with ⟨q,_⟩ | ⟨_,c,ec,ic⟩
   ·rw[hcellx] at q;cases q
   ·obtain ⟨c',ec'⟩:=clfree _ hmem rfl
    have:=clin _ _ ec'
    rw[ec] at this;cases this
    exact ⟨c,ec',SW _ _ ic⟩
  ·obtain ⟨v,q⟩:=I3.cell x c (clin _ _ e)
   exact ⟨v,SW _ _ q⟩
  ·unfold ko
   show _=Nc.length
   rw[Xi,zaE,W9,hlen]
 obtain ⟨pg,pifs,pelt⟩:=hbody cl s3.heap.objs.size s3 H3 fp
 generalize eY:bf X scope Nc cl s3.heap.objs.size s3 H3 fp=Y at *
 have yP:Y.prog=X.prog:=by rw[← eY];rfl
 have yw:Y.w=X.w:=by rw[← eY];rfl
 have yK:Y.K=X.K:=by rw[← eY];rfl
 have yA:Y.A=X.A:=by rw[← eY];rfl
 have yx:Y.xe=λ_ _=>False:=by rw[← eY];exact hxe
 have yc:Y.calm=true:=by rw[← eY];exact hcalm
 have ye:Y.env=zeF scope cl s3.heap.objs.size X.env:=by rw[← eY];rfl
 have yfs:Y.fs=frs X.stack:=by rw[← eY];rfl
 have yex:Y.ex=fp:=by rw[← eY];rfl
 have ys0:Y.s₀=s3:=by rw[← eY];rfl
 have yH0:Y.H₀=H3:=by rw[← eY];rfl
 have ypn:Y.pn=[]:=by rw[← eY];rfl
 have Bn:∀ {H':Hp},(∀ b∈fp,H' b=none)->∀ b∈fp,sV Y [] H' b:=λhn b hb=>⟨hn b hb,by rw[ye];show b≠s3.heap.objs.size;rw[hs3];exact XF (lt3 b hb),okY.Gs b (by rw[yex];exact hb),.inl (by rw[yex];exact hb),
  λx c e=>by rw[ye] at e;exact (f3 b hb).2.2.2.2.1 x c (clin _ _ e),λp hp=>by rw[ypn] at hp;exact nomatch hp⟩
 have tn4:∀ t,tn 0 ({ s3 with heap:=h4,toks:=t }:Xe).heap:=λt=>T.keep 0 _ _ st3 λb hb o e=>k4 b o (by rw[hs3];exact e)
 -- the end
 have fin:∀ (s5:Xe) (H5:Hp),Inv Y [] (ko σ n caps) H5 s5->Q (.ref D) H5->zeG (XD X.prog X.w) X.A (λ_ _=>False) use Qv (.ref D) s3.heap.objs.size (.ok .next) s5:=λs5 H5 I5 q5=>by
  obtain ⟨m,hn,_⟩:=I5.loc
  rw[ye] at hn
  have un:=I5.base
  rw[yfs,yex,yH0,ys0] at un
  have hfreeC0:=I5.free
  rw[ye] at hfreeC0
  have hfreeC:H5 s3.heap.objs.size=none:=hfreeC0
  have hok5:=I5.hok
  rw[yP,yw] at hok5
  have I5X:Inv X pins σ H5 s5:=I3.OE (ch:=fp) (s':=s5) (by have:=I5.os;rw[ys0] at this;exact this) un hok5 I5.bare λb hb=>⟨(f3 b hb).2.2.2.1,(f3 b hb).2.1,(f3 b hb).2.2.2.2.1,(f3 b hb).2.2.2.2.2⟩
  exact hfin _ _ s5 H5 m I5X (I3.Fq (Xs _) hfreeC) hn q5
 have loop:ZK (XD X.prog X.w) X.A (.compLoop (.ListComp elt [⟨tg,iter,ifs,0⟩] scope pos) 0 (.ref it) (.ref D) (zeF scope cl s3.heap.objs.size X.env)) (zeG (XD X.prog X.w) X.A (λ_ _=>False) use Qv (.ref D) s3.heap.objs.size)
   { s3 with heap:=h4,toks:=s3.toks+([]:List (Str×Xb)).length }:=by
  refine Ef (λk s'=>∃ i ys H',Inv Y [] (ko σ n caps) H' s'/\tn i s'.heap/\(∀ b∈fp,H' b=none)/\W i k ys H') ?_ m0 ⟨0,[],H3,J0,tn4 _,λb hb=>(f3 b hb).1,w0⟩
  rintro k s5 ⟨i,ys,H5,I5,st5,fr5,w5⟩
  rcases turn i k ys H5 w5 with ⟨stop,q⟩ | ⟨go,N,hN,step⟩
  ·have d:=T.done Y yP yw yK yc i [] s5 _ H5 (λ_ _=>False) I5 (Bn fr5) st5 stop
   rw[yA] at d
   refine thn d λr s6 ⟨hr,I6⟩=>?_
   subst hr
   exact fin s6 H5 I6 q
  ·have d:=T.item Y yP yw yK yc i [] s5 _ H5 (λ_ _=>False) I5 (Bn fr5) st5 go
   rw[yA] at d
   refine thn d λr s6 ⟨u,hr,h6⟩=>?_
   subst hr
   refine thn h6 λ_ s7 ⟨x,H7,I7,r7,y7,st7,fr7⟩=>?_
   have I7':=I7.pinned (Bn fr7) (T.obj _ _ st7)
   have a:=pg _ s7 _ H7 x u _ I7' r7 (step x H7 y7)
   rw[yP,yw,yA,yx,ye] at a
   refine thn a λ_ s8 ⟨σ8,H8,I8,wk,q8⟩=>?_
   have b:=pifs _ s8 σ8 H8 _ I8 q8
   rw[yP,yw,yA,yx,ye] at b
   have again:∀ {s9:Xe} {ys9:List V} {H9:Hp},Inv Y ([]++rA fp s7.heap) σ8 H9 s9->N ys9 H9->∃ m,m < k/\∃ i ys H',Inv Y [] (ko σ n caps) H' s9/\tn i s9.heap/\(∀ b∈fp,H' b=none)/\W i m ys H':=λ{s9 ys9 H9} I9 n9=>by
    obtain ⟨m',hm,w9⟩:=hN ys9 H9 n9
    have hp:∀ b∈fp,∀ o,s7.heap.get? b=some o->s9.heap.get? b=some o/\H9 b=none:=λb hb o e=>
     ⟨(I9.pin (b,o) (XC _ (XC _ (gr hb e)))).1,(I9.pin (b,o) (XC _ (XC _ (gr hb e)))).2.1⟩
    refine ⟨m',hm,i+1,ys9,H9,I9.jz.weak wk.1 wk.2,T.keep _ _ _ st7 λb hb o e=>(hp b hb o e).1,λb hb=>?_,w9⟩
    obtain ⟨o,e,_⟩:=T.obj _ _ st7 b hb
    exact (hp b hb o e).2
   refine thn b λok s9 ⟨H9,I9,q9⟩=>?_
   cases ok with
   | false=>
    rw[if_neg Zy] at q9 ⊢
    exact again I9 q9
   | true=>
    rw[if_pos rfl] at q9 ⊢
    have c:=pelt _ s9 σ8 H9 _ I9 q9
    rw[yP,yw,yA,yx,ye] at c
    refine thn c λv s10 ⟨y,H10,I10,r10,zs,ez,lz,n10⟩=>?_
    have d:=uM (X:=Y) _ s10 σ8 H10 (.ref D) [y] (.ref D) [v] (λ_ H'=>N (zs++[y]) H') I10 rfl (.cons r10 .nil) ⟨D,zs,y,rfl,rfl,ez,lz,n10⟩
    rw[yP,yw,yA,yx] at d
    exact thn d λ_ s11 ⟨_,H11,I11,_,q11⟩=>again I11 q11
 refine codeAny_compStart_list loop ?_
 exact T.self X.A 0 _ _ _ (tn4 _) loop
theorem Df {X:Cx}{tg iter elt:XG}{ifs:List XG}{scope:Scope}{pos:Pos}{wi:TI}{g:TG}{tt:TT}{te:TE}{Nc:List Str}{n:Nat}{caps:List Nat}
  (hxe:X.xe=λ_ _=>False) (hcalm:X.calm=true) (hi:PI X tg iter wi)
  (hbody:∀ (cl:List (Str×Addr)) (C:Addr) (s₀:Xe) (H₀:Hp) (ex:List Addr),PG (bf X scope Nc cl C s₀ H₀ ex) tg g/\yH (bf X scope Nc cl C s₀ H₀ ex) ifs tt/\PE (bf X scope Nc cl C s₀ H₀ ex) elt te)
  (hfree:∀ y∈scope.names,y.2=.free->X.env.kindOf y.1=some .cell) (hcell:∀ y∈scope.names,y.2≠.cell) (gk:scope.kind=.function)
  (hnames:∀ y∈scope.names,y.2=.local->scope.names.lookup y.1=some .local) (hlen:Nc.length=n+caps.length)
  (hcap:∀ (j k:Nat),caps[j]? = some k->∃ x,Nc[n+j]? = some x/\X.N[k]? = some x/\scope.names.lookup x=some .free)
  (hs:∀ x,X4 iter X.env x=pure x:=by intro _;rfl) :
  PE X (.ListComp elt [⟨tg,iter,ifs,0⟩] scope pos) (kT wi g tt te n caps):=by
 intro pins s σ H Q I h
 rw[hxe,eval_ListComp]
 exact zE hxe hcalm hi hbody hfree hcell gk hnames hlen hcap (use:=none) I h (λD C s5 H5 m I5 fC hn q=>⟨m,hn,λh6 hs6=>⟨.ref D,H5,G0 I5 fC.1 fC hs6,rfl,q⟩⟩) hs
theorem y3 {X:Cx}{tg iter elt:XG}{ifs:List XG}{scope:Scope}{pos spos py:Pos}{y:Str}{iy:Nat}{wi:TI}{g:TG}{tt:TT}{te:TE}{Nc:List Str}{n:Nat}{caps:List Nat}{Z:TE->TE}
  (hxe:X.xe=λ_ _=>False) (hcalm:X.calm=true) (hi:PI X tg iter wi)
  (hbody:∀ (cl:List (Str×Addr)) (C:Addr) (s₀:Xe) (H₀:Hp) (ex:List Addr),PG (bf X scope Nc cl C s₀ H₀ ex) tg g/\yH (bf X scope Nc cl C s₀ H₀ ex) ifs tt/\PE (bf X scope Nc cl C s₀ H₀ ex) elt te)
  (hfree:∀ y∈scope.names,y.2=.free->X.env.kindOf y.1=some .cell) (hcell:∀ y∈scope.names,y.2≠.cell) (gk:scope.kind=.function)
  (hnames:∀ y∈scope.names,y.2=.local->scope.names.lookup y.1=some .local) (hlen:Nc.length=n+caps.length)
  (hcap:∀ (j k:Nat),caps[j]? = some k->∃ x,Nc[n+j]? = some x/\X.N[k]? = some x/\scope.names.lookup x=some .free)
  (pgy:PG X (.Name y py) (mq iy))
  (hsw:Y3 (.ListComp elt [⟨tg,iter,ifs,0⟩] scope pos) (some (.Name y py)) spos.line X.env=pure true)
  (hz:∀ (σ:L2.St) (H:Hp) (Q:VK),Z (kT wi g tt te n caps) σ H Q->∃ Q',kT wi g tt te n caps σ H Q'/\∀ pins D H5 s5,Inv X pins σ H5 s5->Q' (.ref D) H5->∃ H6,(∀ b,H5 b=none->H6 b=none)/\Inv X pins σ H6 s5/\Q (.ref D) H6)
  (hs:∀ x,X4 iter X.env x=pure x:=by intro _;rfl) :
  PS X (.Assign [.Name y py] (.ListComp elt [⟨tg,iter,ifs,0⟩] scope pos) spos) (GD (Z (kT wi g tt te n caps)) (mq iy)):=by
 intro pins s σ H E' I h
 rw[hxe]
 rewrite [exec_Assign_Name_used _ _ _ _ hsw]
 refine W8 (zaQ ?_)
 refine W8 ?_
 refine (show XB _ X.A (do let _ ← comprehension (.ListComp elt [⟨tg,iter,ifs,0⟩] scope pos) scope X.env _ (newList []) false (Yl iter X.env) (some (zb8 (.Name y py) X.env))) _ _ s from ?_)
 obtain ⟨Q',h',hq⟩:=hz σ H _ h
 refine W8 (Yq (zE hxe hcalm hi hbody hfree hcell gk hnames hlen hcap (use:=some (zb8 (.Name y py) X.env)) (Qv:=λ_ s'=>SP X pins E' .next s') I h' (λD C s5 H5 m I5 fC hn q=>?_) hs) (λ_ s' hq=>Xj (Xj hq)) λ_ _ e=>e)
 obtain ⟨H6,fr,I6,q6⟩:=hq pins D H5 s5 I5 q
 have f0:=fr C fC.1
 have fC6:sV X pins H6 C:=⟨f0,fC.2⟩
 obtain ⟨oC,gC,dC⟩:∃ oC,s5.heap.get? C=some oC/\∀ v,oC.data≠.cell v:=by
  obtain ⟨oC,es,ep,ho,hd,_⟩:=hn
  exact ⟨oC,ho,λv z=>by rw[hd] at z;cases z⟩
 have I5P:=I6.pinned (fp:=[C]) (λb hb=>by cases Y7.mp hb;exact fC6) (λb hb=>by cases Y7.mp hb;exact ⟨oC,gC,dC⟩)
 have as:=pgy _ s5 σ _ (.ref D) (.ref D) E'.nx I5P rfl q6
 rw[hxe] at as
 refine thn as λ_ s6 ⟨σ6,H7,I7,n7⟩=>?_
 obtain ⟨g7,f7,_⟩:=I7.pin (C,oC) (XC _ (XC _ (gr Xl gC)))
 exact ⟨m,hn.at' (λo' e'=>by have e'':s5.heap.get? C=some o':=e';rw[gC] at e'';cases e'';exact g7),λh8 hs8=>⟨σ6,H7,G0 I7.jz f7 fC6 hs8,n7⟩⟩
end
section
open PySem PySem.Spec PyProof.Rows L2
structure F7 (K:W7) (J:It) (H1:Hp) (ds:List D):Prop where
 go:∀ i H',Tk H1 H'->i < ds.length->J.go i H'
 yld:∀ i H' x H'',Tk H1 H'->i < ds.length->J.yld i H' x H''->Tk H' H''/\(∃ d,ds[i]? = some d/\Dp K H'' x d)/\∀ μ,bM K H' μ->bM K H'' μ
 stop:∀ i H',Tk H1 H'->ds.length<=i->J.stop i H'
def Qu (K:W7)(wi:TI)(It':ATr):Prop:=∀ σ H ρ μ (Q:List D->Mu->Prop) (R:It->Hp->Prop),Rl K σ H ρ μ->It' ρ μ Q->(∀ J H1 ds μ1,Tk H H1->bM K H1 μ1->F7 K J H1 ds->Q ds μ1->R J H1)->wi σ H R
structure LI (X:Cx) (tg iter:XG) (It':ATr):Prop where
 ex:∃ wi,PI X tg iter wi/\Qu X.K wi It'
section
variable {X:Cx} {tg a b c e elt iter:XG} {Ta Tb Te:ETr} {Tt:TTr} {pos:Pos} {It':ATr} {G:GTr}
theorem Gn {K:W7}{H:Hp}{p:Addr}{xs:List V}{ds:List D}(q:SqT K H p xs)(l:DpL K H xs ds):F7 K (Itt K p) H ds where
 go:=λi H' t hi=>by
  have hl:=l.length
  exact ⟨xs,xs[i],t.sqT q,by simp[show i < xs.length by omega]⟩
 yld:=λi H' x H'' t hi ⟨e,y⟩=>by
  subst e
  have ex:=y xs (t.sqT q)
  obtain ⟨d,ed,p⟩:=l.get' ex
  exact ⟨.refl _,⟨d,ed,p.mono t⟩,λ_ m=>m⟩
 stop:=λi H' t hi=>⟨xs,t.sqT q,by rw[l.length];exact hi⟩
theorem MB {K:W7}{H:Hp}{p:Addr}{xs:List V}{ds:List D}(q:SqF K H p xs)(l:DpL K H xs ds):F7 K (Itl K p) H ds where
 go:=λi H' t hi=>by
  have hl:=l.length
  exact ⟨xs,xs[i],(t.sqF q).sq,by simp[show i < xs.length by omega]⟩
 yld:=λi H' x H'' t hi ⟨e,y⟩=>by
  subst e
  have ex:=y xs (t.sqF q).sq
  obtain ⟨d,ed,p⟩:=l.get' ex
  exact ⟨.refl _,⟨d,ed,p.mono t⟩,λ_ m=>m⟩
 stop:=λi H' t hi=>⟨xs,(t.sqF q).sq,by rw[l.length];exact hi⟩
theorem eC (lo:Int)(n:Nat):(bX lo n).length=n:=by unfold bX;simp
theorem xq {K:W7}{H:Hp}(lo:Int)(n:Nat):F7 K (Itr lo n) H (bX lo n) where
 go:=λi H' t hi=>by rw[eC] at hi;exact hi
 yld:=λi H' x H'' t hi ⟨e,y⟩=>by
  rw[eC] at hi
  subst e y
  exact ⟨.refl _,⟨.int (lo+i),by unfold bX;simp[hi],.int _⟩,λ_ m=>m⟩
 stop:=λi H' t hi=>by rw[eC] at hi;exact hi
def Ve (a:ETr):ATr:=λρ μ Q=>a ρ μ λx μ1=>match x with
 | .tup ds=>Q ds μ1
 | _=>False
def ILs (a:ETr):ATr:=λρ μ Q=>a ρ μ λx μ1=>match x with
 | .ls ds=>Q ds μ1
 | _=>False
theorem kl {rp rpos:Pos}(hg:Gl X "range")(hm:X.mg "range" = none)(ha:LE X a Ta)(hs:Xp [a] X.env=[(false,Yl a X.env)]:=by rfl):LI X tg (.Call (.Name "range" rp) [a] [] rpos) (fM Ta):=by
 obtain ⟨ta,pa,sa⟩:=ha.ex
 refine ⟨_,Fy hg hm (dB pa hX hs) hs,λσ H ρ μ Q R rl h k=>sa σ H ρ μ _ _ rl h λx H1 d μ1 t1 m1 p1 h1=>?_⟩
 cases p1 with
 | int j=>
  obtain ⟨⟨h2,h3⟩,h4⟩:=h1
  exact ⟨j,rfl,by simpa using h2,by simpa using h3,k _ H1 _ μ1 t1 m1 (xq 0 _) h4⟩
 | _=>exact Xf h1
theorem Ue {t1:TS}{T1:STr}{g:TG}{E:En}{E':Ends}{K:W7}{H0 H1:Hp}{J:It}{ds:List D}(sg:Qd K g G)(s1:Ij K t1 T1)(k:GC K H0 E E')(Y:F7 K J H1 ds){σ:L2.St}{ρ:ST}{μ:Mu}(t0:Tk H0 H1)(rl:Rl K σ H1 ρ μ)(h:forR G T1 E ds ρ μ) :
  ∃ W:Nat->Nat->L2.St->Hp->Prop,(∃ m,W 0 m σ H1)/\∀ i m σ H,W i m σ H->
   (J.stop i H/\E'.nx σ H)∨(J.go i H/\∃ N:L2.St->Hp->Prop,(∀ σ' H',N σ' H'->∃ m',m' < m/\W (i+1) m' σ' H')/\∀ x H',J.yld i H x H'->g x σ H' λσ2 H2=>t1 { E' with nx:=N,ct:=N,bk:=E'.nx } σ2 H2):=by
 refine ⟨λi m σ' H'=>m=ds.length - i/\i<=ds.length/\Tk H1 H'/\∃ ρ' μ',Rl K σ' H' ρ' μ'/\forR G T1 E (ds.drop i) ρ' μ',⟨ds.length,by simp,YG _,.refl _,ρ,μ,rl,by simpa using h⟩,?_⟩
 rintro i m σ1 H2 ⟨rfl,hi,t12,ρ1,μ1,r1,h1⟩
 by_cases hlt:i < ds.length
 ·refine .inr ⟨Y.go i H2 t12 hlt,λσ' H'=>Tk H1 H'/\∃ ρ' μ',Rl K σ' H' ρ' μ'/\forR G T1 E (ds.drop (i+1)) ρ' μ',λσ' H' ⟨t',ρ',μ',r',h'⟩=>⟨ds.length - (i+1),by omega,rfl,hlt,t',ρ',μ',r',h'⟩,λx H3 y=>?_⟩
  obtain ⟨t23,⟨d,ed,pd⟩,mk⟩:=Y.yld i H2 x H3 t12 hlt y
  have e:ds.drop i=d::ds.drop (i+1):=by
   refine (YO hlt).trans ?_
   congr 1
   rw[Xt hlt] at ed
   exact XY ed
  rw[e] at h1
  have t13:=t12.trans t23
  refine sg σ1 H3 ρ1 μ1 _ _ _ _ (r1.go t23 (mk _ r1.mu)) pd h1 λσ4 H4 ρ4 μ4 t4 r4 h4=>?_
  have t14:=t13.trans t4
  have t04:=t0.trans t14
  exact s1 σ4 H4 ρ4 μ4 _ _ r4 h4 ⟨λσ' H' ρ' μ' t' r' q=>⟨t14.trans t',ρ',μ',r',q⟩,(k.go t04).rt,(k.go t04).nx,λσ' H' ρ' μ' t' r' q=>⟨t14.trans t',ρ',μ',r',q⟩⟩
 ·have e:i=ds.length:=by omega
  subst e
  rw[Y4] at h1
  exact .inl ⟨Y.stop _ H2 t12 (Xs _),k.nx _ _ _ _ (t0.trans t12) r1 h1⟩
theorem bN {body:List Stmt}{T1:STr}(hp:zdZ (XD X.prog X.w) X.A X.env X.xe)(hc:X.calm=true)(hi:LI X tg iter It')(hG:LG X tg G)(hb:LSs X body T1)(hf:∀ x,X4 iter X.env x=pure x:=by intro _;rfl) :
  LS X (.For tg iter body [] pos) (eG It' G T1):=by
 obtain ⟨wi,pi,si⟩:=hi.ex
 obtain ⟨g,pg,sg⟩:=hG.ex
 obtain ⟨t1,p1,s1⟩:=hb.ex
 exact ⟨_,Sg hp hc pi pg p1 hf,λσ H ρ μ E E' rl h k=>si σ H ρ μ _ _ rl h λJ H1 ds μ1 t1' m1 Y h1=>Ue sg s1 k Y t1' (rl.go t1' m1) h1⟩
def lW (K:W7)(T:ETr):TE:=λσ H Q'=>∃ ρ μ Q,Rl K σ H ρ μ/\T ρ μ Q/\jw K H Q Q'
def liftT (K:W7)(T:TTr):TT:=λσ H Q'=>∃ ρ μ Q,Rl K σ H ρ μ/\T ρ μ Q/\∀ b H' μ',Tk H H'->bM K H' μ'->Q b μ'->Q' b H'
abbrev OA (K:W7)(n:Nat)(σ:L2.St)(H:Hp)(k:ST->Mu->Prop)(k':L2.St->Hp->Prop):Prop:=∀ σ' H' ρ' μ',Tk H H'->Rl K σ' H' ρ' μ'->(σ'.length=σ.length/\∀ j,n<=j->σ'[j]? = σ[j]?)->k ρ' μ'->k' σ' H'
def mE (K:W7)(n:Nat)(G:GTr):TG:=λv σ H k'=>∃ ρ μ d k,Rl K σ H ρ μ/\Dp K H v d/\G d ρ μ k/\OA K n σ H k k'
theorem LE.pe (h:LE X e Te):PE X e (lW X.K Te):=by
 obtain ⟨t,p,s⟩:=h.ex
 exact λpins st σ H Q I ⟨ρ,μ,Q0,rl,hT,k⟩=>p pins st σ H Q I (s σ H ρ μ Q0 Q rl hT k)
structure xp (X:Cx) (ifs:List XG) (Tt:TTr):Prop where
 pe:yH X ifs (liftT X.K Tt)
theorem bJ:xp X [] dF:=⟨λpins s σ H Q I ⟨ρ,μ,Q0,rl,hT,k⟩=>Ma pins s σ H Q I (k true H μ (.refl H) rl.mu hT)⟩
theorem fg (h:LT X c Tt):xp X [c] Tt:=by
 obtain ⟨t,p,s⟩:=h.ex
 exact ⟨λpins st σ H Q I ⟨ρ,μ,Q0,rl,hT,k⟩=>L8 p pins st σ H Q I (s σ H ρ μ Q0 Q rl hT k)⟩
structure LGc (X:Cx) (n:Nat) (tg:XG) (G:GTr):Prop where
 pe:PG X tg (mE X.K n G)
theorem bj {x:Str}{n:Nat}(i:Nat)(hN:X.N.Nodup)(hin:i < n:=by decide)(hi:X.N[i]? = some x:=by rfl)(hx:Loc X.env.scope x:=by first | exact zay rfl | exact zaz rfl)(hf:X.fn x=true∨X.env.scope.names.lookup x=some .local:=by first | exact .inr rfl | exact .inl rfl | assumption):LGc X n (.Name x pos) (ay i):=
 ⟨λpins s σ H v u k' I r ⟨ρ,μ,d,k,rl,p,h,post⟩=>iW hN hi hx hf pins s σ H v u k' I r (post _ H _ μ (.refl H) (rl.set p i) ⟨by simp,λj hj=>by rw[Ze (by omega)]⟩ h)⟩
theorem pw {K:W7}{σ:L2.St}{H:Hp}{ρ:ST}{μ:Mu}(rl:Rl K σ H ρ μ)(n:Nat)(caps:List Nat):Rl K (ko σ n caps) H (eZ ρ n caps) μ:=by
 refine ⟨by unfold ko eZ;simp,λi d e=>?_,rl.mu⟩
 have gen:∀ (n i:Nat),lk (YI n none++caps.map (lk ρ)) i=some d->∃ j,i=n+j/\∃ k,caps[j]? = some k/\lk ρ k=some d:=by
  intro n
  induction n with
  | zero=>
   intro i h
   have h':lk (caps.map (lk ρ)) i=some d:=by simpa using h
   have g2:∀ (cs:List Nat) (i:Nat),lk (cs.map (lk ρ)) i=some d->∃ k,cs[i]? = some k/\lk ρ k=some d:=by
    intro cs
    induction cs with
    | nil=>intro i h;cases i<;>cases h
    | cons c r ih=>intro i h;cases i with
     | zero=>exact ⟨c,rfl,h⟩
     | succ i=>simpa using ih i h
   exact ⟨i,by omega,g2 caps i h'⟩
  | succ n ih=>
   intro i h
   cases i with
   | zero=>cases h
   | succ i=>
    obtain ⟨j,rfl,k,h1,h2⟩:=ih i h
    exact ⟨j,by omega,k,h1,h2⟩
 obtain ⟨j,rfl,k,h1,h2⟩:=gen n i e
 obtain ⟨v,h3,h4⟩:=rl.loc k d h2
 refine ⟨v,?_,h4⟩
 unfold ko
 rw[ZN (by simp)]
 simp[h1,h3]
theorem N4 {ifs:List XG}{scope:Scope}{Nc:List Str}{n:Nat}{caps:List Nat}(hxe:X.xe=λ_ _=>False)(hcalm:X.calm=true)(hi:LI X tg iter It')
  (hbody:∀ (cl:List (Str×Addr)) (C:Addr) (s₀:Xe) (H₀:Hp) (ex:List Addr),LGc (bf X scope Nc cl C s₀ H₀ ex) n tg G/\xp (bf X scope Nc cl C s₀ H₀ ex) ifs Tt/\LE (bf X scope Nc cl C s₀ H₀ ex) elt Te)
  (hfree:∀ y∈scope.names,y.2=.free->X.env.kindOf y.1=some .cell) (hcell:∀ y∈scope.names,y.2≠.cell) (gk:scope.kind=.function)
  (hnames:∀ y∈scope.names,y.2=.local->scope.names.lookup y.1=some .local) (hlen:Nc.length=n+caps.length)
  (hcap:∀ (j k:Nat),caps[j]? = some k->∃ x,Nc[n+j]? = some x/\X.N[k]? = some x/\scope.names.lookup x=some .free)
  (hs:∀ x,X4 iter X.env x=pure x:=by intro _;rfl) :
  LE X (.ListComp elt [⟨tg,iter,ifs,0⟩] scope pos) (bK It' G Tt Te n caps):=by
 obtain ⟨wi,pi,si⟩:=hi.ex
 refine ⟨_,jS (Df (g:=mE X.K n G) (tt:=liftT X.K Tt) (te:=lW X.K Te) hxe hcalm pi (λcl C s₀ H₀ ex=>let ⟨h1,h2,h3⟩:=hbody cl C s₀ H₀ ex;⟨h1.pe,h2.pe,h3.pe⟩) hfree hcell gk hnames hlen hcap hs),?_⟩
 intro σ H ρ μ Q Q' rl h k
 refine si σ H ρ μ _ _ rl h λJ H1 ds μ1 t1 m1 Y h1 D hD=>?_
 have hp:=h1 D (m1.free hD)
 have tD:Tk H1 (L2.upd H1 D (.lst [])):=.new hD
 have mD:bM X.K (L2.upd H1 D (.lst [])) (up μ1 D (.lst [])):=λa o e=>by
  by_cases ha:a=D
  ·subst ha
   rw[aI] at e;cases e
   exact ⟨[],aN,.nil⟩
  ·rw[aU ha] at e
   exact b7 m1 hD a o e
 refine ⟨λi m ys H2=>m=ds.length - i/\i<=ds.length/\Tk H1 H2/\∃ μ2,bM X.K H2 μ2/\fF D G Tt Te (eZ ρ n caps) (λμ'=>kL μ' D λzs=>Q (.ls zs) (dn μ' D)) (ds.drop i) μ2,
  ⟨ds.length,by simp,YG _,tD,_,mD,by simpa using hp⟩,?_⟩
 rintro i m ys H2 ⟨rfl,hi,t12,μ2,m2,h2⟩
 by_cases hlt:i < ds.length
 ·refine .inr ⟨Y.go i H2 t12 hlt,λys' H'=>Tk H1 H'/\∃ μ',bM X.K H' μ'/\fF D G Tt Te (eZ ρ n caps) (λμ'=>kL μ' D λzs=>Q (.ls zs) (dn μ' D)) (ds.drop (i+1)) μ',λys' H' ⟨t',μ',m',h'⟩=>⟨ds.length - (i+1),by omega,rfl,hlt,t',μ',m',h'⟩,λx H3 y=>?_⟩
  obtain ⟨t23,⟨d,ed,pd⟩,mk⟩:=Y.yld i H2 x H3 t12 hlt y
  have e:ds.drop i=d::ds.drop (i+1):=by
   refine (YO hlt).trans ?_
   congr 1
   rw[Xt hlt] at ed
   exact XY ed
  rw[e] at h2
  have t13:=t12.trans t23
  have r3:Rl X.K (ko σ n caps) H3 (eZ ρ n caps) μ2:=pw (rl.go (t1.trans t13) (mk _ m2)) n caps
  refine ⟨_,_,d,_,r3,pd,h2,λσ4 H4 ρ4 μ4 t4 r4 kp h4=>⟨⟨kp.1.symm,λj v ej=>?_⟩,_,_,_,r4,h4,λb H5 μ5 t5 m5 h5=>?_⟩⟩
  ·by_cases hj:n<=j
   ·rw[kp.2 j hj];exact ej
   ·obtain ⟨j',k',e1,_⟩:=jK ej
    omega
  ·have t15:=t13.trans (t4.trans t5)
   cases b with
   | false=>exact rD ⟨t15,μ5,m5,h5⟩
   | true=>
    refine p8 ⟨_,_,_,r4.go t5 m5,h5,λv H6 d6 μ6 t6 m6 p6 h6=>?_⟩
    obtain ⟨zs,ez,lz,h7⟩:=bT h6
    obtain ⟨xs,ex,lx⟩:=m6 D _ ez
    have t67:Tk H6 (L2.upd H6 D (.lst (xs++[v]))):=.upd (λys z=>by rw[ex] at z;cases z) λo' u z=>by rw[ex] at z;cases z
    refine ⟨xs,ex,by rw[lx.length];exact Xw lz (by decide),(t15.trans t6).trans t67,up μ6 D (.lst (zs++[d6])),λa o ea=>?_,h7⟩
    by_cases ha:a=D
    ·subst ha
     rw[aI] at ea;cases ea
     exact ⟨_,aN,(lx.append (.cons p6 .nil)).mono t67⟩
    ·rw[aU ha] at ea
     exact (m6 a _ ea).ne t67 ha
 ·have e:i=ds.length:=by omega
  subst e
  rw[Y4] at h2
  obtain ⟨zs,ez,hq⟩:=bT (show kL μ2 D λzs=>Q (.ls zs) (dn μ2 D) from h2)
  obtain ⟨xs,ex,lx⟩:=m2 D _ ez
  refine .inl ⟨Y.stop _ H2 t12 (Xs _),D,xs,rfl,ex,λo=>?_⟩
  have t2f:Tk H2 (L2.upd H2 D (.frz o (.lst xs))):=.upd (λys z=>by rw[ex] at z;cases z) λo' u z=>by rw[ex] at z;cases z
  refine k _ _ _ (dn μ2 D) ((t1.trans t12).trans t2f) (λa o' ea=>?_) (.ls (.inl ⟨o,aN⟩) (lx.mono t2f)) hq
  have ha:a≠D:=λz=>by subst z;unfold dn at ea;rw[if_pos rfl] at ea;cases ea
  have ea':μ2 a=some o':=by unfold dn at ea;rw[if_neg ha] at ea;exact ea
  exact (m2 a _ ea').ne t2f ha
end
end
section
open PySem PySem.Spec PyProof.Rows L2
def ik (fn:List (Str×zaS))(XN:List Str)(sc:Scope)(Nc:List Str)(n:Nat)(caps:List Nat):Bool:=
 sc.names.all (λy=>(y.2 != .free || fn.lookup y.1 == some .cell)&&y.2 != .cell&&(y.2 != .local || sc.names.lookup y.1 == some .local))&&sc.kind == .function&&Nc.length == n+caps.length &&
 (XJ caps.length).all λj=>match caps[j]? with
  | some k=>(match XN[k]? with
   | some x=>Nc[n+j]? == some x&&sc.names.lookup x == some .free
   | none=>false)
  | none=>false
section
variable {X:Cx} {tg a b c e elt iter:XG} {Ta Tb Te:ETr} {Tt:TTr} {pos:Pos} {It':ATr} {G:GTr}
theorem bD {ifs:List XG}{scope fsc:Scope}(XN Nc:List Str)(n:Nat)(caps:List Nat)(hxe:X.xe=λ_ _=>False)(hcalm:X.calm=true)(hi:LI X tg iter It')
  (hbody:∀ (cl:List (Str×Addr)) (C:Addr) (s₀:Xe) (H₀:Hp) (ex:List Addr),LGc (bf X scope Nc cl C s₀ H₀ ex) n tg G/\xp (bf X scope Nc cl C s₀ H₀ ex) ifs Tt/\LE (bf X scope Nc cl C s₀ H₀ ex) elt Te)
  (hsc:X.env.scope=fsc) (hXN:X.N=XN) (hok:ik fsc.names XN scope Nc n caps=true)
  (hs:∀ x,X4 iter X.env x=pure x:=by intro _;rfl) :
  LE X (.ListComp elt [⟨tg,iter,ifs,0⟩] scope pos) (bK It' G Tt Te n caps):=by
 unfold ik at hok
 simp only[XX,ZZ] at hok
 obtain ⟨⟨⟨h1,h2⟩,h3⟩,h4⟩:=hok
 refine N4 hxe hcalm hi hbody (λy hy hf=>?_) (λy hy hf=>?_) (by simpa using h2) (λy hy hf=>?_) (by simpa using h3) (λj k hj=>?_) hs
 ·have:=(h1 y hy).1.1
  show X.env.scope.names.lookup y.1=_
  rw[hsc]
  simpa[hf] using this
 ·have:=(h1 y hy).1.2
  simp[hf] at this
 ·have:=(h1 y hy).2
  simpa[hf] using this
 ·have hl:j < caps.length:=(XR.mp hj).1
  have:=h4 j (Zr.mpr hl)
  rw[hj] at this
  dsimp only at this
  rw[hXN]
  cases e:XN[k]? with
  | none=>rw[e] at this;cases this
  | some x=>
   rw[e] at this
   dsimp only at this
   rw[XX] at this
   exact ⟨x,by simpa using this.1,rfl,by simpa using this.2⟩
end
theorem oA:∀ {bs:List Bool} {us:List Xb},Vals (bs.map V.bl) us->LSm.BoolsAre us bs
 | [],_,.nil=>.nil
 | b::r,_,.cons h t=>by
  cases (show _=zbg b from h)
  exact .cons b (oA t)
theorem FP {X:Cx}(hc:X.calm=true):b6 X (.builtin "all") (λxs H Q=>∃ (p:Addr) (ys:List V) (bs:List Bool),xs=[.ref p]/\SqL X.K H p ys/\ys=bs.map V.bl/\Q (.bl (bs.all id)) H):=λpins s σ H xs us Q I rx ⟨p,ys,bs,e1,sq,e2,q⟩=>by
 subst e1 e2
 cases rx with | cons r1 r2=>
 cases r2
 cases (show _=XT p from r1)
 obtain ⟨its,rv,pl,_⟩:=I.list sq
 have ils:s.heap.IsList p its.toArray:=by
  obtain ⟨o,n,h1,h2,_,h3⟩:=pl
  exact ⟨o,h1,h2,n,h3⟩
 have bls:=oA rv
 have hlt:p < s.heap.objs.size:=by obtain ⟨_,e,_⟩:=ils;exact Xq e
 refine call_all_walk (ZJ ils ?_)
 refine ⟨s.heap.objs.size,[s.heap.objs.size,p],[s.heap.objs.size],its.toArray.size,_,_,λi=>(bs[i]?).getD true,rfl,zfd (A:=X.A.in1) (I.ok.hd hc) _ p (XF hlt) its.toArray,
  ⟨⟨_,Xu _ rfl,rfl,rfl⟩,ils.push _⟩,λi v s' Q' E' gP gQ=>?_,λh' tk hk=>?_⟩
 ·obtain ⟨b,e,rfl⟩:=bls.get i v (by simpa using gP)
  simp only[e,zaL] at gQ
  exact YW gQ
 ·have e:((XJ its.toArray.size).all λi=>(bs[i]?).getD true)=bs.all id:=by
   rw[Xv,bls.length];exact LSm.range_all bs
  rw[e]
  exact ⟨.bl _,H,I.kept (LSm.kept_iter hk),rfl,q⟩
theorem DpL.bools {K:W7}{H:Hp}:∀ {xs:List V} {bs:List Bool},DpL K H xs (bs.map .bl)->xs=bs.map V.bl
 | _,[],.nil=>rfl
 | _,b::r,.cons h l=>by cases h;rw[DpL.bools l];rfl
theorem LM {K:W7}:kX K (λxs H Q=>∃ (p:Addr) (ys:List V) (bs:List Bool),xs=[.ref p]/\SqL K H p ys/\ys=bs.map V.bl/\Q (.bl (bs.all id)) H) F0:=λH μ xs ds Q Q' m p h k=>by
 unfold F0 at h
 split at h
 ·obtain ⟨bs,rfl,h⟩:=h
  cases p with | cons p1 p2=>cases p2;cases p1 with | ls q l=>exact ⟨_,_,bs,rfl,q.sq,l.bools,k _ H _ μ (.refl H) m (.bl _) h⟩
 ·exact h.elim
end
section
open PySem PySem.Spec PyProof.Rows L2
def GV (K:W7)(mg:Str->Option Xb)(x:Str)(d:D):Prop:=∃ u v,mg x=some u/\RelV v u/\∀ H,Dp K H v d
theorem aF {X:Cx}{x:Str}{pos:Pos}{d:D}(hg:Gl X x)(h:GV X.K X.mg x d)(hd:(x == ("__debug__" : Str))=false:=by decide):LE X (.Name x pos) (TC d):=by
 obtain ⟨u,v,hm,r,p⟩:=h
 exact ⟨_,Nf hg hm r hd,λσ H ρ μ Q Q' rl h k=>k v H d μ (.refl H) rl.mu (p H) h⟩
section
variable {K:W7} {h:Heap} {mg:Str->Option Xb} {x:Str}
theorem bz {i:Int}{t:Tok}(X:K.In h)(G:h.Ns YE mg)(a:ze0 K YE x=some (some (.int i t))):GV K mg x (.int i):=⟨_,.int i,zeT X G a,⟨t,rfl⟩,λ_=>.int i⟩
theorem Bt {p:Addr}{o:Obj}{its:Array Xb}{n:Nat}{xs:List V}{ds:List D}(X:K.In h)(G:h.Ns YE mg)(a:ze0 K YE x=some (some (.ref p)))(l:K.lookup p=some o)(c:o.cls=.type "tuple")(dn:o.dict=none)(d:o.data=.seq its n)
  (z:its.size<=sizeLine) (r:Vals xs its.toList) (q:∀ H,DpL K H xs ds):GV K mg x (.tup ds):=⟨_,.ref p,zeT X G a,rfl,λH=>.tup (.inr ⟨o,its,n,l,c,dn,d,z,r⟩) (q H)⟩
end
def jB:ST->List Nat->List D->ST
 | ρ,i::is,d::ds=>jB (ρ.set i (some d)) is ds
 | ρ,_,_=>ρ
def dh (is:List Nat):GTr:=λd ρ μ k=>match d with
 | .tup ds=>ds.length=is.length/\k (jB ρ is ds) μ
 | _=>False
def TH (K:W7)(t:TGs)(is:List Nat):Prop:=∀ σ H ρ μ vs ds (k:ST->Mu->Prop) (k':L2.St->Hp->Prop),Rl K σ H ρ μ->DpL K H vs ds->ds.length=is.length->k (jB ρ is ds) μ->uP K H k k'->t vs σ H k'
structure LGs (X:Cx) (es:List XG) (is:List Nat):Prop where
 ex:∃ t,PGs X es t/\TH X.K t is
section
variable {X:Cx} {e tg:XG} {es:List XG} {is:List Nat} {pos:Pos} {x:Str} {Ta:ETr} {G:GTr}
theorem eu:LGs X [] []:=⟨_,wq,λσ H ρ μ vs ds k k' rl l hl h q=>by
 cases ds with
 | nil=>cases l;exact ⟨rfl,q _ _ _ _ (.refl H) rl h⟩
 | cons=>cases hl⟩
theorem a9 (i:Nat)(hN:X.N.Nodup)(h2:LGs X es is)(hi:X.N[i]? = some x:=by rfl)(hx:Loc X.env.scope x:=by first | exact zay rfl | exact zaz rfl)(hf:X.fn x=true∨X.env.scope.names.lookup x=some .local:=by first | exact .inl rfl | exact .inr rfl | assumption)
  (hs:(X7 (.Name x pos::es) X.env).map (·.2)=zb8 (.Name x pos) X.env::(X7 es X.env).map (·.2):=by rfl):LGs X (.Name x pos::es) (i::is):=by
 obtain ⟨t,pt,st⟩:=h2.ex
 refine ⟨_,rN (iW hN hi hx hf) pt hs,λσ H ρ μ vs ds k k' rl l hl h q=>?_⟩
 cases l with
 | nil=>cases hl
 | @cons v d vs ds p l=>exact ⟨v,vs,rfl,st _ H _ μ vs ds k k' (rl.set p i) l (by simpa using hl) h q⟩
theorem gf {k:Nat}(hc:X.calm=true)(h:LGs X es is)(hn:(X7 es X.env).length=is.length:=by rfl)(hst:(X7 es X.env).findIdx? (·.1)=none:=by rfl):LG X (.Tuple es k pos) (dh is):=by
 obtain ⟨t,pt,st⟩:=h.ex
 refine ⟨_,AK hc pt hn hst,λσ H ρ μ v d k k' rl p h q=>?_⟩
 cases p with
 | @tup a xs ds sq l=>exact ⟨a,xs,rfl,sq,by rw[l.length];exact h.1,st σ H ρ μ xs ds k k' rl l h.1 h.2 q⟩
 | _=>exact Xf h
theorem J1 (he:LE X e Ta)(hG:LG X tg G)(hs:zbE [tg] e pos.line X.env=pure false:=by rfl)(hw:zbF [tg] e X.env=pure none:=by rfl)
  (h1:(X7 [tg] X.env).map (·.2)=[zb8 tg X.env]:=by rfl):LS X (.Assign [tg] e pos) (aO Ta G):=by
 obtain ⟨ta,pa,sa⟩:=he.ex
 obtain ⟨g,pg,sg⟩:=hG.ex
 exact ⟨_,PD pa pg hs hw h1,λσ H ρ μ E E' rl h k=>sa σ H ρ μ _ _ rl h λv H' d μ' t' m' p' h'=>sg σ H' ρ μ' v d _ _ (rl.go t' m') p' h' (k.go t').nx⟩
end
end
section
open PySem PySem.Spec PyProof.Rows L2
def ix (tp:Bool)(h:Heap)(it a:Addr)(i:Nat):Prop:=match tp with
 | true=>h.IsTupleIter it a i
 | false=>h.IsListIter it a i
def fQ (tp:Bool)(h:Heap)(a:Addr)(xs:Array Xb):Prop:=match tp with
 | true=>h.IsTuple a xs
 | false=>h.IsList a xs
theorem ix.at {tp:Bool}{h g:Heap}{it a:Addr}{i:Nat}(x:ix tp h it a i)(k:∀ o,h.get? it=some o->g.get? it=some o):ix tp g it a i:=by
 cases tp with
 | true=>obtain ⟨o,e,r⟩:=x;exact ⟨o,k o e,r⟩
 | false=>obtain ⟨o,e,r⟩:=x;exact ⟨o,k o e,r⟩
theorem fQ.at {tp:Bool}{h g:Heap}{a:Addr}{xs:Array Xb}(x:fQ tp h a xs)(k:∀ o,h.get? a=some o->g.get? a=some o):fQ tp g a xs:=by
 cases tp with
 | true=>obtain ⟨o,e,r⟩:=x;exact ⟨o,k o e,r⟩
 | false=>obtain ⟨o,e,r⟩:=x;exact ⟨o,k o e,r⟩
theorem ix.ex {tp:Bool}{h:Heap}{it a:Addr}{i:Nat}(x:ix tp h it a i):∃ o,h.get? it=some o/\∃ vs,o.data=.fields vs:=by
 cases tp with
 | true=>obtain ⟨o,e,_,d⟩:=x;exact ⟨o,e,_,d⟩
 | false=>obtain ⟨o,e,_,d⟩:=x;exact ⟨o,e,_,d⟩
section
variable {prog:XO} {w:X2} {A:Yh} {E:Xb->Xe->Prop} {s:Xe}
theorem IE {it t:Addr}{i:Nat}{xs:Array Xb}{x:Xb}{Q:Xb->Xe->Prop}(hi:s.heap.IsTupleIter it t i)(ht:s.heap.IsTuple t xs)(hx:xs[i]? = some x)
  (k:∀ g,g.IsTupleIter it t (i+1)->ZV it s.heap g->Q x { s with heap:=g }):XB (XD prog w) A (XS (.ref it)) Q E s:=by
 obtain ⟨ob,gb,cb,db⟩:=id hi
 obtain ⟨ot,gt,_,nt,dt⟩:=ht
 delta XS
 refine W8 (Ye (name:=OF "__next__") hi.typeIs Y8 (YF Y8 hi.typeIs zbd ?_ (za4 _)))
 refine W8 (m:=zcL (.ref it) 0) (X6 gb db (x:=.ref t) rfl ?_)
 refine (show XB _ _ (if (XT t == YX)=true then _ else _) _ _ s from ?_)
 rw[if_neg (show ¬ ((XT t == YX)=true) by intro z;cases z)]
 refine W8 (m:=zcL (.ref it) 1) (X6 gb db (x:=.int i 0) rfl ?_)
 refine W8 (m:=zcZ (.ref t)) (Yr gt dt ?_)
 simp only[hx,zax]
 refine W8 (wpAny_setField gb db (by simp) (Xj ⟨x,rfl,Xj (k _ ⟨_,zaH _ gb (Obj.isFreed_of_fields (zdr db _)),(Obj.cls_mapFields ..).trans cb,?_⟩ (zc2 ..))⟩))
 rw[zdr db];simp[zbj]
theorem pN {tp:Bool}{it a:Addr}{i:Nat}{xs:Array Xb}{x:Xb}{Q:Xb->Xe->Prop}(hi:ix tp s.heap it a i)(hs:fQ tp s.heap a xs)(hx:xs[i]? = some x)
  (k:∀ g,ix tp g it a (i+1)->ZV it s.heap g->Q x { s with heap:=g }):XB (XD prog w) A (XS (.ref it)) Q E s:=by
 cases tp with
 | true=>exact IE hi hs hx k
 | false=>exact wpAny_nextOf_list_item hi hs hx k
theorem N5 {it t:Addr}{i:Nat}{xs:Array Xb}{Q:Xb->Xe->Prop}(hh:A.handled=none)(hi:s.heap.IsTupleIter it t i)(ht:s.heap.IsTuple t xs)(hx:xs[i]? = none)
  (k:∀ g e,zee it s.heap g->(∃ o,g.get? e=some o/\o.cls=.type "StopIteration")->E (.ref e) { s with heap:=g }):XB (XD prog w) A (XS (.ref it)) Q E s:=by
 obtain ⟨ob,gb,cb,db⟩:=id hi
 obtain ⟨ot,gt,_,nt,dt⟩:=ht
 delta XS
 refine W8 (Ye (name:=OF "__next__") hi.typeIs Y8 (YF Y8 hi.typeIs zbd ?_ (za4 _)))
 refine W8 (m:=zcL (.ref it) 0) (X6 gb db (x:=.ref t) rfl ?_)
 refine (show XB _ _ (if (XT t == YX)=true then _ else _) _ _ s from ?_)
 rw[if_neg (show ¬ ((XT t == YX)=true) by intro z;cases z)]
 refine W8 (m:=zcL (.ref it) 1) (X6 gb db (x:=.int i 0) rfl ?_)
 refine W8 (m:=zcZ (.ref t)) (Yr gt dt ?_)
 simp only[hx,zax]
 refine W8 (Zx (W8 (wpAny_setField gb db (by simp) (W8 (m:=newExc (.type "StopIteration") []) ?_))))
 simp only[newExc,newTuple]
 refine W8 (Yf (W8 (m:=firstArgMember _ _) (zef (a:=YX) (by first | rfl | (simp only[firstArgMember];rfl)) (Yf ?_ (by size_fits)))) (by size_fits))
 simp only[raiseNew]
 refine W8 <| wpAny_handled ?_
 rw[(show A.in1.handled=none from hh)]
 exact W8 (Xj (wpAny_throw (k _ _ (((zc2 ..).extBut.push _).push _) ⟨_,Xu _ rfl,rfl⟩)))
theorem Bk {tp:Bool}{it a:Addr}{i:Nat}{xs:Array Xb}{Q:Xb->Xe->Prop}(hh:A.handled=none)(hi:ix tp s.heap it a i)(hs:fQ tp s.heap a xs)(hx:xs[i]? = none)
  (k:∀ g e,zee it s.heap g->(∃ o,g.get? e=some o/\o.cls=.type "StopIteration")->E (.ref e) { s with heap:=g }):XB (XD prog w) A (XS (.ref it)) Q E s:=by
 cases tp with
 | true=>exact N5 hh hi hs hx k
 | false=>exact wpAny_nextOf_list_end hh hi hs hx k
structure Zp (z ti to i j a b:Addr):Prop where
 nd:[z,ti,to,i,j].Nodup
 na:a ∉ [z,to,i,j]
 nb:b ∉ [z,to,i,j]
structure ZAt (ta tb:Bool) (h:Heap) (z ti to i j a b:Addr) (k:Nat):Prop where
 zz:Zg h z ti to .none
 zt:YJ h ti (.ref i) (.ref j)
 zo:∃ u v,YJ h to u v
 zi:ix ta h i a k
 zj:ix tb h j b k
theorem E2 {ta tb:Bool}{z ti to i j a b:Addr}{k:Nat}{xs ys:Array Xb}{x y:Xb}{Q:Option Xb->Xe->Prop}(Z:Zp z ti to i j a b)(S:ZAt ta tb s.heap z ti to i j a b k)(ha:fQ ta s.heap a xs)(hb:fQ tb s.heap b ys)(hx:xs[k]? = some x)(hy:ys[k]? = some y)
  (q:∀ g,Zg g z ti to (zbj s.heap.objs.size)->YJ g ti (.ref i) (.ref j)->YJ g to x y->ix ta g i a (k+1)->ix tb g j b (k+1)->YJ g s.heap.objs.size x y->
   (∀ c o,c≠z->c≠to->c≠i->c≠j->s.heap.get? c=some o->g.get? c=some o)->Q (some (.ref s.heap.objs.size)) { s with heap:=g }):XB (XD prog w) A (zad (.ref z)) Q E s:=by
 obtain ⟨zz,zt,⟨u,v,zo⟩,zi,zj⟩:=S
 obtain ⟨nd,na,nb⟩:=Z
 simp only[X5,Xr,XW,or_false,not_or] at nd na nb
 obtain ⟨⟨n1,n2,n3,n4⟩,⟨n5,n6,n7⟩,⟨n8,n9⟩,n10,_⟩:=nd
 obtain ⟨a1,a2,a3,a4⟩:=na
 obtain ⟨b1,b2,b3,b4⟩:=nb
 have hT:s.TypeIs (.ref z) "zip" := ⟨_,zz,rfl⟩
 unfold zad
 refine W8 (zbJ (Ye (name:=OF "__next__") hT za5 (YF za5 hT zd6 ?_ (zdJ _))))
 refine W8 (m:=zcL (.ref z) 2) (X6 zz rfl (x:=.bool false) rfl ?_)
 refine W8 (m:=zcL (.ref z) 3) (X6 zz rfl (x:=.ref ti) rfl (W8 (Yr zt rfl (W8 (m:=X3 (.ref z)) ?_))))
 delta X3
 refine W8 (X6 zz rfl (x:=.none) rfl (Xj ?_))
 simp only[if_true]
 refine W8 (Zx (W8 (X6 zz rfl (x:=.ref to) rfl (W8 (X9 zz (by simp) λg1 zz1 k1=>W8 ?_)))))
 have zz1:Zg g1 z ti to .ellipsis:=zz1
 simp only[zeo,zaM,zeH,za3]
 refine W8 (W8 (zbK (W8 (m:=XS (.ref i)) (pN (s:={ s with heap:=g1 }) (zi.at λo e=>(k1.2 i (XQ n3)).trans e) (ha.at λo e=>(k1.2 a a1).trans e) hx λg2 zi2 k2=>Xj ?_))))
 have zo2:YJ g2 to u v:=(k2.2 to n8).trans ((k1.2 to (XQ n2)).trans zo)
 refine W8 (Yr zo2 rfl (W8 (ZP zo2 λg3 zo3 k3=>W8 (ZQ (Xj ?_)))))
 have zo3:YJ g3 to x v:=zo3
 refine W8 (W8 (zbK (W8 (m:=XS (.ref j)) (pN (s:={ s with heap:=g3 }) (zj.at λo e=>(k3.2 j (XQ n9)).trans ((k2.2 j (XQ n10)).trans ((k1.2 j (XQ n4)).trans e)))
  (hb.at λo e=>(k3.2 b b2).trans ((k2.2 b b3).trans ((k1.2 b b1).trans e))) hy λg4 zj4 k4=>Xj ?_))))
 have zo4:YJ g4 to x v:=(k4.2 to n9).trans zo3
 refine W8 (Yr zo4 rfl (W8 (ZP zo4 λg5 zo5 k5=>W8 (ZQ (Xj (Xj ?_))))))
 have zo5:YJ g5 to x y:=zo5
 refine W8 (Yr zo5 rfl (W8 (wpAny_newTuple (W8 (m:=Yv (.ref z) (.ref g5.objs.size)) ?_))))
 have sz:g5.objs.size=s.heap.objs.size:=by rw[k5.1,k4.1,k3.1,k2.1,k1.1]
 have zz5:Zg g5 z ti to .ellipsis:=(k5.2 z n2).trans ((k4.2 z n4).trans ((k3.2 z n2).trans ((k2.2 z n3).trans zz1)))
 have zlt:z < g5.objs.size:=Xq zz5
 delta Yv
 have zz6:Zg (g5.push { cls:=.type "tuple", data:=.seq #[x,y] }) z ti to .ellipsis:=Xa _ zz5
 refine W8 (X9 zz6 (by simp) λg7 zz7 k7=>?_)
 have zz7:Zg g7 z ti to (zbj g5.objs.size):=zz7
 refine X9 zz7 (by simp) λg8 zz8 k8=>Xj ⟨_,rfl,Xj ?_⟩
 have up5:∀ c o,c≠z->g5.get? c=some o->g8.get? c=some o:=λc o c1 e=>(k8.2 c c1).trans ((k7.2 c c1).trans (Xa _ e))
 have UY:YJ g8 g5.objs.size x y:=(k8.2 _ (Zz zlt)).trans ((k7.2 _ (Zz zlt)).trans (Xu _ rfl))
 have zz8:Zg g8 z ti to (zbj g5.objs.size):=zz8
 rw[sz] at zz8 UY
 have all:∀ c o,c≠z->c≠to->c≠i->c≠j->s.heap.get? c=some o->g8.get? c=some o:=λc o c1 c2 c3 c4 e=>up5 c o c1 ((k5.2 c c2).trans ((k4.2 c c4).trans ((k3.2 c c2).trans ((k2.2 c c3).trans ((k1.2 c c1).trans e)))))
 have fin:=q g8 zz8 (all ti _ (XQ n1) n5 n6 n7 zt) (up5 to _ (XQ n2) zo5) (zi2.at λo e=>up5 i o (XQ n3) ((k5.2 i (XQ n8)).trans ((k4.2 i n10).trans ((k3.2 i (XQ n8)).trans e)))) (zj4.at λo e=>up5 j o (XQ n4) ((k5.2 j (XQ n9)).trans e)) UY all
 rw[← sz] at fin
 exact fin
theorem Js {ta tb:Bool}{z ti to i j a b:Addr}{k:Nat}{xs ys:Array Xb}{Q:Option Xb->Xe->Prop}(hh:A.handled=none)(Z:Zp z ti to i j a b)(S:ZAt ta tb s.heap z ti to i j a b k)(ha:fQ ta s.heap a xs)(hb:fQ tb s.heap b ys)(he:xs[k]? = none∨ys[k]? = none)
  (q:∀ g,(∀ c o,c≠z->c≠to->c≠i->c≠j->s.heap.get? c=some o->g.get? c=some o)->Q none { s with heap:=g }):XB (XD prog w) A (zad (.ref z)) Q E s:=by
 obtain ⟨zz,zt,⟨u,v,zo⟩,zi,zj⟩:=S
 obtain ⟨nd,na,nb⟩:=Z
 simp only[X5,Xr,XW,or_false,not_or] at nd na nb
 obtain ⟨⟨n1,n2,n3,n4⟩,⟨n5,n6,n7⟩,⟨n8,n9⟩,n10,_⟩:=nd
 obtain ⟨a1,a2,a3,a4⟩:=na
 obtain ⟨b1,b2,b3,b4⟩:=nb
 have hT:s.TypeIs (.ref z) "zip" := ⟨_,zz,rfl⟩
 have stop:∀ g e,(∃ o,g.get? e=some o/\o.cls=.type "StopIteration")->(∀ c o,c≠z->c≠to->c≠i->c≠j->s.heap.get? c=some o->g.get? c=some o)->
   XB (XD prog w) A (isInstance (.ref e) (.type "StopIteration") >>= λy=>if y=true then pure none else throw (.ref e)) Q E { s with heap:=g }:=λg e ⟨o,ho,hc⟩ al=>by
  refine W8 <| wpAny_isInstance (T := "StopIteration") (b:=true) ⟨o,ho,hc⟩ isSubtype_stop ?_
  exact Xj (q g al)
 unfold zad
 refine W8 (zbJ (Ye (name:=OF "__next__") hT za5 (YF za5 hT zd6 ?_ (zdJ _))))
 refine W8 (m:=zcL (.ref z) 2) (X6 zz rfl (x:=.bool false) rfl ?_)
 refine W8 (m:=zcL (.ref z) 3) (X6 zz rfl (x:=.ref ti) rfl (W8 (Yr zt rfl (W8 (m:=X3 (.ref z)) ?_))))
 delta X3
 refine W8 (X6 zz rfl (x:=.none) rfl (Xj ?_))
 simp only[if_true]
 refine W8 (Zx (W8 (X6 zz rfl (x:=.ref to) rfl (W8 (X9 zz (by simp) λg1 zz1 k1=>W8 ?_)))))
 have zz1:Zg g1 z ti to .ellipsis:=zz1
 simp only[zeo,zaM,zeH,za3]
 have zi1:ix ta g1 i a k:=zi.at λo e=>(k1.2 i (XQ n3)).trans e
 have ha1:fQ ta g1 a xs:=ha.at λo e=>(k1.2 a a1).trans e
 refine W8 (W8 (zbK (W8 (m:=XS (.ref i)) ?_)))
 cases hx:xs[k]? with
 | none=>
  refine Bk (s:={ s with heap:=g1 }) hh zi1 ha1 hx λg2 e k2 he2=>?_
  obtain ⟨oe,ge,ce⟩:=he2
  have zz2:Zg g2 z ti to .ellipsis:=k2 z _ n3 zz1
  have ez:e≠z:=λy=>by subst y;rw[zz2] at ge;cases ge;simp at ce
  refine X9 zz2 (by simp) λg3 _ k3=>stop g3 e ⟨oe,(k3.2 e ez).trans ge,ce⟩ λc o c1 _ c3 _ y=>(k3.2 c c1).trans (k2 c o c3 ((k1.2 c c1).trans y))
 | some x=>
  have hy:ys[k]? = none:=by rcases he with h | h;rw[hx] at h;cases h;exact h
  refine pN (s:={ s with heap:=g1 }) zi1 ha1 hx λg2 zi2 k2=>Xj ?_
  have zo2:YJ g2 to u v:=(k2.2 to n8).trans ((k1.2 to (XQ n2)).trans zo)
  refine W8 (Yr zo2 rfl (W8 (ZP zo2 λg3 zo3 k3=>W8 (ZQ (Xj ?_)))))
  refine W8 (W8 (zbK (W8 (m:=XS (.ref j)) (Bk (s:={ s with heap:=g3 }) hh (zj.at λo e=>(k3.2 j (XQ n9)).trans ((k2.2 j (XQ n10)).trans ((k1.2 j (XQ n4)).trans e)))
   (hb.at λo e=>(k3.2 b b2).trans ((k2.2 b b3).trans ((k1.2 b b1).trans e))) hy λg4 e k4 he4=>?_))))
  obtain ⟨oe,ge,ce⟩:=he4
  have zz4:Zg g4 z ti to .ellipsis:=k4 z _ n4 ((k3.2 z n2).trans ((k2.2 z n3).trans zz1))
  have ez:e≠z:=λy=>by subst y;rw[zz4] at ge;cases ge;simp at ce
  refine X9 zz4 (by simp) λg5 _ k5=>stop g5 e ⟨oe,(k5.2 e ez).trans ge,ce⟩ λc o c1 c2 c3 c4 y=>(k5.2 c c1).trans (k4 c o c4 ((k3.2 c c2).trans ((k2.2 c c3).trans ((k1.2 c c1).trans y))))
abbrev itO (tp:Bool)(a:Addr):Obj:={ cls:=.type (match tp with | true => "tuple_iterator" | false => "list_iterator"),data:=.fields #[.ref a,.int 0 0] }
theorem K6 {tp:Bool}{a:Addr}{xs:Array Xb}{Q:Xb->Xe->Prop}(h:fQ tp s.heap a xs)(q:Q (.ref s.heap.objs.size) { s with heap:=s.heap.push (itO tp a) }):XB (XD prog w) A (pyIter (.ref a)) Q E s:=by
 cases tp with
 | true=>exact zds h q
 | false=>exact ZJ h q
abbrev zg1 (ta:Bool)(h:Heap)(a:Addr):Heap:=h.push (itO ta a)
abbrev zg2 (ta tb:Bool)(h:Heap)(a b:Addr):Heap:=(zg1 ta h a).push (itO tb b)
abbrev zg3 (ta tb:Bool)(h:Heap)(a b:Addr):Heap:=(zg2 ta tb h a b).push { cls:=.type "tuple", data:=.seq #[.ref h.objs.size,.ref (zg1 ta h a).objs.size] }
abbrev zg4 (ta tb:Bool)(h:Heap)(a b:Addr):Heap:=(zg3 ta tb h a b).push { cls:=.type "tuple", data:=.seq #[.none,.none] }
abbrev zg5 (ta tb:Bool)(h:Heap)(a b:Addr):Heap:=(zg4 ta tb h a b).push { cls:=.type "zip", data:=.fields #[.none,.bool false,.bool false,.ref (zg2 ta tb h a b).objs.size,.ref (zg3 ta tb h a b).objs.size] }
theorem Hw (ta tb:Bool)(a b:Addr)(xs ys:Array Xb):Meets (zaR.«zip.__new__» ⟨[.type "zip", .ref a,.ref b],[]⟩) (λ_ R s=>fQ ta s.heap a xs/\fQ tb s.heap b ys/\R (.ok (.ret (.ref (zg4 ta tb s.heap a b).objs.size))) { s with heap:=zg5 ta tb s.heap a b }):=
 .of_wp λprog w A R s h=>by
  rcases s with ⟨hp,g,d,tk,os⟩
  obtain ⟨h1,h2,h⟩:=h
  have hs0:=PySem.sub_zip
  have H1:fQ ta (zeg ⟨hp,g,d,tk,os⟩) a xs:=h1
  have H2:fQ tb (zeg ⟨hp.push (itO ta a),g,d,tk,os⟩) b ys:=fQ.at h2 λo e=>Xa _ e
  wp_walk using K6 H1,K6 H2
  exact ⟨_,rfl,h⟩
theorem Ey {ta tb:Bool}{a b:Addr}{xs ys:Array Xb}{Q:Xb->Xe->Prop}(h1:fQ ta s.heap a xs)(h2:fQ tb s.heap b ys)
  (q:∀ g,ZAt ta tb g (s.heap.objs.size+4) (s.heap.objs.size+2) (s.heap.objs.size+3) s.heap.objs.size (s.heap.objs.size+1) a b 0->(∀ c o,s.heap.get? c=some o->g.get? c=some o)->Q (.ref (s.heap.objs.size+4)) { s with heap:=g }) :
  XB (XD prog w) A (zcG (.type "zip") [.ref a,.ref b]) Q E s:=by
 refine callType_new F.called_zip (by decide) (F.typeCall_zip_2 _ _) (F.newCall_zip_2 _ _) (λobj=>F.args_object_init_3 obj _ _) F.entry_zip_new (Hw ta tb a b xs ys) ⟨h1,h2,?_⟩
 have s1:(zg1 ta s.heap a).objs.size=s.heap.objs.size+1:=ZR ..
 have s2:(zg2 ta tb s.heap a b).objs.size=s.heap.objs.size+2:=by rw[ZR,s1]
 have s3:(zg3 ta tb s.heap a b).objs.size=s.heap.objs.size+3:=by rw[ZR,s2]
 have s4:(zg4 ta tb s.heap a b).objs.size=s.heap.objs.size+4:=by rw[ZR,s3]
 have p5:(zg5 ta tb s.heap a b).get? (zg4 ta tb s.heap a b).objs.size=some _:=Xu _ rfl
 have p4:(zg5 ta tb s.heap a b).get? (zg3 ta tb s.heap a b).objs.size=some _:=Xa _ (Xu _ rfl)
 have p3:(zg5 ta tb s.heap a b).get? (zg2 ta tb s.heap a b).objs.size=some _:=Xa _ (Xa _ (Xu _ rfl))
 have p2:(zg5 ta tb s.heap a b).get? (zg1 ta s.heap a).objs.size=some (itO tb b):=Xa _ (Xa _ (Xa _ (Xu _ rfl)))
 have p1:(zg5 ta tb s.heap a b).get? s.heap.objs.size=some (itO ta a):=Xa _ (Xa _ (Xa _ (Xa _ (Xu _ rfl))))
 have i1:ix ta (zg5 ta tb s.heap a b) s.heap.objs.size a 0:=by cases ta<;>exact ⟨_,p1,rfl,rfl⟩
 have i2:ix tb (zg5 ta tb s.heap a b) (zg1 ta s.heap a).objs.size b 0:=by cases tb<;>exact ⟨_,p2,rfl,rfl⟩
 show _/\_
 rw[s2,s3,s4] at p5
 rw[s1,s2] at p3
 rw[s3] at p4
 rw[s1] at i2
 rw[s4]
 exact ⟨⟨_,p5,rfl⟩,q _ ⟨p5,p3,⟨_,_,p4⟩,i1,i2⟩ λc o x=>Xa _ (Xa _ (Xa _ (Xa _ (Xa _ x))))⟩
end
def Sq (tp:Bool)(K:W7)(H:Hp)(a:Addr)(xs:List V):Prop:=match tp with
 | true=>SqT K H a xs
 | false=>SqF K H a xs
theorem Inv.sq {X:Cx}{pins:List (Addr×Obj)}{σ:L2.St}{H:Hp}{s:Xe}{tp:Bool}{a:Addr}{xs:List V}(I:Inv X pins σ H s)(h:Sq tp X.K H a xs):∃ its:List Xb,Vals xs its/\fQ tp s.heap a its.toArray:=by
 cases tp with
 | true=>obtain ⟨its,r,p,_⟩:=I.tuple h;exact ⟨its,r,p⟩
 | false=>
  obtain ⟨its,r,⟨o,n,e1,e2,_,e3⟩,_⟩:=I.list (SqF.sq h)
  exact ⟨its,r,o,e1,e2,n,e3⟩
theorem Inv.BL {X:Cx}{pins:List (Addr×Obj)}{σ:L2.St}{H:Hp}{s:Xe}{tp:Bool}{a:Addr}{xs ys:List V}(I:Inv X pins σ H s)(h:Sq tp X.K H a xs)(h':Sq tp X.K H a ys):xs=ys:=by
 cases tp with
 | true=>exact I.uI h h'
 | false=>exact I.zA (SqF.sq h) (SqF.sq h')
def Itz (ta tb:Bool)(K:W7)(a b:Addr):It:=
 ⟨λi H=>∃ xs ys x y,Sq ta K H a xs/\Sq tb K H b ys/\xs[i]? = some x/\ys[i]? = some y,
  λi H v H'=>∃ x y p,(∀ xs,Sq ta K H a xs->xs[i]? = some x)/\(∀ ys,Sq tb K H b ys->ys[i]? = some y)/\v=.ref p/\H p=none/\H'=L2.upd H p (.tup [x,y]),
  λi H=>∃ xs ys,Sq ta K H a xs/\Sq tb K H b ys/\(xs.length<=i∨ys.length<=i)⟩
theorem JQ {P:XO}{w:X2}{K:W7}{es:List XG}{ek:Nat}{ep:Pos}{ta tb:Bool}{z ti to i j a b:Addr}(Z:Zp z ti to i j a b) :
  Turn P w K (.Tuple es ek ep) (Itz ta tb K a b) [z,ti,to,i,j] z (λk h=>ZAt ta tb h z ti to i j a b k) where
 mem:=by simp
 obj:=λk h S c hc=>by
  obtain ⟨zz,zt,⟨u,v,zo⟩,zi,zj⟩:=S
  simp only[Xr,XW,or_false] at hc
  rcases hc with rfl | rfl | rfl | rfl | rfl
  ·exact ⟨_,zz,λv y=>by cases y⟩
  ·exact ⟨_,zt,λv y=>by cases y⟩
  ·exact ⟨_,zo,λv y=>by cases y⟩
  ·obtain ⟨o,e,vs,d⟩:=zi.ex;exact ⟨o,e,λv y=>by rw[d] at y;cases y⟩
  ·obtain ⟨o,e,vs,d⟩:=zj.ex;exact ⟨o,e,λv y=>by rw[d] at y;cases y⟩
 keep:=λk h g S kp=>by
  obtain ⟨zz,zt,⟨u,v,zo⟩,zi,zj⟩:=S
  exact ⟨kp z (by simp) _ zz,kp ti (by simp) _ zt,⟨u,v,kp to (by simp) _ zo⟩,zi.at λo e=>kp i (by simp) o e,zj.at λo e=>kp j (by simp) o e⟩
 item:=by
  intro X hP hw hK hc k pins s σ H E I hf S hg
  subst hP hw hK
  obtain ⟨xs,ys,x,y,qa,qb,ex,ey⟩:=hg
  obtain ⟨ia,ra,sa⟩:=Inv.sq I qa
  obtain ⟨ib,rb,sb⟩:=Inv.sq I qb
  obtain ⟨ux,hux,rx⟩:=ra.get ex
  obtain ⟨uy,huy,ry⟩:=rb.get ey
  refine E2 Z S sa sb (x:=ux) (y:=uy) (by simpa using hux) (by simpa using huy) λg zz zt zo zi zj new al=>⟨_,rfl,wpAny_letOwnedTupleGo_zip zz λg2 zz2 k2=>?_⟩
  have nd:=Z.nd
  simp only[X5,Xr,XW,or_false,not_or] at nd
  obtain ⟨⟨n1,n2,n3,n4⟩,_⟩:=nd
  have zlt:z < s.heap.objs.size:=Xq S.zz
  have fr:H s.heap.objs.size=none:=I.hok.fresh (Xs _)
  have new2:YJ g2 s.heap.objs.size ux uy:=(k2.2 _ (Zz zlt)).trans new
  have all:∀ c o,c ∉ [z,ti,to,i,j]->s.heap.get? c=some o->g2.get? c=some o:=λc o hc e=>by
   simp only[Xr,XW,or_false,not_or] at hc
   exact (k2.2 c hc.1).trans (al c o hc.1 hc.2.2.1 hc.2.2.2.1 hc.2.2.2.2 e)
  have nfp:∀ c u,H c=some u->c ∉ [z,ti,to,i,j]:=λc u e hc=>by rw[(hf c hc).1] at e;cases e
  refine ⟨.ref s.heap.objs.size,L2.upd H s.heap.objs.size (.tup [x,y]),?_,rfl,⟨x,y,_,λxs' q=>by rw[Inv.BL I q qa];exact ex,λys' q=>by rw[Inv.BL I q qb];exact ey,rfl,fr,rfl⟩,⟨zz2,(k2.2 ti (XQ n1)).trans zt,⟨_,_,(k2.2 to (XQ n2)).trans zo⟩,zi.at λo e=>(k2.2 i (XQ n3)).trans e,zj.at λo e=>(k2.2 j (XQ n4)).trans e⟩,λc hc=>?_⟩
  ·refine L2.Inv.step (s:=s) (H:=H) (H':=L2.upd H s.heap.objs.size (.tup [x,y])) (g':=s.gens) (d':=s.drawn) (t':=s.toks) (h':=g2) (ch:=[z,ti,to,i,j]) I (λc hc=>⟨(hf c hc).2.2.2.1,(hf c hc).2.1,(hf c hc).2.2.2.2.1,(hf c hc).2.2.2.2.2⟩) (λc o _ _ hc e _=>all c o hc e) (λc o _ _ hc e _=>⟨o.slots,all c o hc e⟩) (λc o hc e n=>?_) (λc o hc e=>⟨o,all c o hc e⟩)
    (λc xs e=>?_) (λc o u e=>?_) (λc ps e=>⟨#[],?_⟩) (λm hm=>?_) (λc u e=>?_) I.bare
   ·rw[aP (XF (Xq e))];exact n
   ·rw[aP (bx e fr)];exact e
   ·rw[aP (bx e fr)];exact e
   ·rw[aP (bx e fr),e];simp
   ·obtain ⟨o,es',ep',ho,r⟩:=hm
    exact ⟨o,es',ep',all _ o (λhc=>(hf _ hc).2.1 rfl) ho,r⟩
   ·by_cases hcT:c=s.heap.objs.size
    ·subst hcT
     rw[aN] at e;cases e
     exact ⟨by show 2<=sizeLine;decide,[ux,uy],.cons rx (.cons ry .nil),⟨_,new2⟩⟩
    ·rw[aP hcT] at e
     refine (I.hok c u e).o8 (λc' v hc' q=>all c' v ?_ q) (λc' q=>by rw[aP (bx q fr)];exact q) λc' xs q=>by rw[aP (bx q fr)];exact q
     rcases hc' with rfl | hc'
     ·exact nfp _ _ e
     ·exact nfp _ _ hc'
  ·have hcl:c≠s.heap.objs.size:=by
    obtain ⟨zz,zt,⟨u,v,zo⟩,zi,zj⟩:=S
    simp only[Xr,XW,or_false] at hc
    rcases hc with rfl | rfl | rfl | rfl | rfl
    ·exact XF (Xq zz)
    ·exact XF (Xq zt)
    ·exact XF (Xq zo)
    ·obtain ⟨o,e,_⟩:=zi.ex;exact XF (Xq e)
    ·obtain ⟨o,e,_⟩:=zj.ex;exact XF (Xq e)
   rw[aP hcl];exact (hf c hc).1
 done:=by
  intro X hP hw hK hc k pins s σ H E I hf S hg
  subst hP hw hK
  obtain ⟨xs,ys,qa,qb,he⟩:=hg
  obtain ⟨ia,ra,sa⟩:=Inv.sq I qa
  obtain ⟨ib,rb,sb⟩:=Inv.sq I qb
  have la:=ra.length
  have lb:=rb.length
  refine Js (I.ok.hd hc) Z S sa sb (he.imp (λh=>by simp;omega) λh=>by simp;omega) λg al=>⟨rfl,?_⟩
  have all:∀ c o,c ∉ [z,ti,to,i,j]->s.heap.get? c=some o->g.get? c=some o:=λc o hc e=>by
   simp only[Xr,XW,or_false,not_or] at hc
   exact al c o hc.1 hc.2.2.1 hc.2.2.2.1 hc.2.2.2.2 e
  have nfp:∀ c u,H c=some u->c ∉ [z,ti,to,i,j]:=λc u e hc=>by rw[(hf c hc).1] at e;cases e
  refine L2.Inv.step (s:=s) (H:=H) (H':=H) (g':=s.gens) (d':=s.drawn) (t':=s.toks) (h':=g) (ch:=[z,ti,to,i,j]) I (λc hc=>⟨(hf c hc).2.2.2.1,(hf c hc).2.1,(hf c hc).2.2.2.2.1,(hf c hc).2.2.2.2.2⟩) (λc o _ _ hc e _=>all c o hc e) (λc o _ _ hc e _=>⟨o.slots,all c o hc e⟩) (λc o hc e n=>n) (λc o hc e=>⟨o,all c o hc e⟩)
   (λc xs e=>e) (λc o u e=>e) (λc ps e=>⟨#[],by rw[e];simp⟩) (λm hm=>?_) (λc u e=>?_) I.bare
  ·obtain ⟨o,es',ep',ho,r⟩:=hm
   exact ⟨o,es',ep',all _ o (λhc=>(hf _ hc).2.1 rfl) ho,r⟩
  ·refine (I.hok c u e).o8 (λc' v hc' q=>all c' v ?_ q) (λc' q=>q) λc' xs q=>q
   rcases hc' with rfl | hc'
   ·exact nfp _ _ e
   ·exact nfp _ _ hc'
 self:=λ_ _ _ _ _ S h=>zd7 S.zz h
theorem Ul (n a b:Nat)(ha:a < n)(hb:b < n):Zp (n+4) (n+2) (n+3) n (n+1) a b:=by
 refine ⟨?_,?_,?_⟩
 ·show ([n+4,n+2,n+3,n,n+1]:List Nat).Nodup
  simp only[X5,Xr,XW,or_false,not_or,zeD,and_true,not_false_eq_true]
  and_intros<;>omega
 ·show a ∉ ([n+4,n+3,n,n+1]:List Nat)
  simp only[Xr,XW,or_false,not_or]
  omega
 ·show b ∉ ([n+4,n+3,n,n+1]:List Nat)
  simp only[Xr,XW,or_false,not_or]
  omega
theorem OI (n c:Nat)(h:c∈([n+4,n+2,n+3,n,n+1]:List Nat)):n<=c:=by
 simp only[Xr,XW,or_false] at h
 omega
section
variable {X:Cx} {ea eb:XG} {es:List XG} {ek:Nat} {ep p pos:Pos}
def kQ (tp:Bool)(x:D)(f:List D->Prop):Prop:=match tp,x with
 | true,.tup ds=>f ds
 | false,.ls ds=>f ds
 | _,_=>False
theorem CC {K:W7}{H:Hp}{tp:Bool}{v:V}{x:D}{f:List D->Prop}(p:Dp K H v x)(h:kQ tp x f):∃ a xs ds,v=.ref a/\Sq tp K H a xs/\DpL K H xs ds/\f ds:=by
 cases tp with
 | true=>cases p with
  | @tup a xs ds q l=>exact ⟨a,xs,ds,rfl,q,l,h⟩
  | _=>exact Xf h
 | false=>cases p with
  | @ls a xs ds q l=>exact ⟨a,xs,ds,rfl,q,l,h⟩
  | _=>exact Xf h
theorem Tk.sq {K:W7}{H H':Hp}{tp:Bool}{a:Addr}{xs:List V}(t:Tk H H')(h:Sq tp K H a xs):Sq tp K H' a xs:=by
 cases tp with
 | true=>exact t.sqT h
 | false=>exact t.sqF h
end
end
section
open PySem PySem.Spec PyProof.Rows L2
def kObj (x:D)(f:Addr->Prop):Prop:=match x with
 | .obj a=>f a
 | _=>False
theorem iP (a:Addr)(f):kObj (.obj a) f=f a:=rfl
section
variable {X:Cx} {o a b c e:XG} {To Ta Tb Tc Te T T':ETr} {pos:Pos}
theorem UG {K:W7}{H:Hp}{μ:Mu}{q:Addr}{u:HO}(m:bM K H μ)(t:Tk H (L2.upd H q u)):bM K (L2.upd H q u) (dn μ q):=λz y ez=>by
 have zq:z≠q:=λw=>by subst w;unfold dn at ez;rw[if_pos rfl] at ez;cases ez
 have ez':μ z=some y:=by unfold dn at ez;rw[if_neg zq] at ez;exact ez
 exact (m z _ ez').ne t zq
theorem kY {H:Hp}{q:Addr}{u:HO}{xs:List V}(ex:H q=some (.lst xs)):Tk H (L2.upd H q u):=
 .upd (λys z=>by rw[ex] at z;cases z) λo' w z=>by rw[ex] at z;cases z
theorem Jj {K:W7}{H:Hp}{μ:Mu}{q:Addr}{xs ys:List V}{ds:List D}(m:bM K H μ)(ex:H q=some (.lst xs))(l:DpL K H ys ds):bM K (L2.upd H q (.lst ys)) (up μ q (.lst ds)):=λz y ez=>by
 by_cases zq:z=q
 ·subst zq
  rw[aI] at ez;cases ez
  exact ⟨ys,aN,l.mono (kY ex)⟩
 ·rw[aU zq] at ez
  exact (m z _ ez).ne (kY ex) zq
theorem A4 {K:W7}{H:Hp}{μ:Mu}{q:Addr}{ys:List V}{ds:List D}(m:bM K H μ)(hq:H q=none)(l:DpL K H ys ds):bM K (L2.upd H q (.lst ys)) (up μ q (.lst ds)):=λz y ez=>by
 by_cases zq:z=q
 ·subst zq
  rw[aI] at ez;cases ez
  exact ⟨ys,aN,l.mono (.new hq)⟩
 ·rw[aU zq] at ez
  exact b7 m hq z y ez
def wj (T:ETr):ETr:=λρ μ Q=>T ρ μ λx μ1=>kObj x λa=>kL μ1 a λds=>Q (.ls ds) (dn μ1 a)
theorem vJ (h:LE X e T):LE X e (wj T):=by
 obtain ⟨t,p,s⟩:=h.ex
 refine ⟨_,jS p,λσ H ρ μ Q Q' rl h k=>s σ H ρ μ _ _ rl h λv H1 d μ1 t1 m1 p1 h1=>?_⟩
 cases p1 with
 | obj q=>
  obtain ⟨ds,e0,h2⟩:=bT h1
  obtain ⟨xs,ex,l⟩:=m1 q _ e0
  refine ⟨q,xs,rfl,ex,λu=>?_⟩
  have t2:Tk H1 (L2.upd H1 q (.frz u (.lst xs))):=kY ex
  exact k _ _ _ (dn μ1 q) (t1.trans t2) (UG m1 t2) (.ls (.inl ⟨u,aN⟩) (l.mono t2)) h2
 | _=>exact Xf h1
def kx (To Te:ETr):ETr:=λρ μ Q=>To ρ μ λx μ1=>kObj x λa=>kL μ1 a λ_=>Te ρ μ1 λy μ2=>kL μ2 a λds=>ds.length < 1000000/\Q .non (up μ2 a (.lst (ds++[y])))
theorem le_app {apos cpos:Pos}(ho:LE X o To)(he:LE X e Te)
  (hbase:Z7 o (OF "append") X.env (Yl o X.env)=Yl o X.env:=by rfl)
  (hfew:((YA cpos (Xp [e] X.env)).all (λx=>!x.1)&&(zbl cpos (ZM [] X.env)).all (λx=>x.1.isSome)
   && decide ([e].length+([]:List ZW).length+(if ([]:List ZW).isEmpty then 0 else 1) < 30))=true:=by rfl)
  (hline:(apos.endLine == cpos.line)=true:=by rfl) (hs:Xp [e] X.env=(false,Yl e X.env)::Xp [] X.env:=by rfl) (hplain:(YA cpos (Xp [] X.env)).any (·.1)=false:=by rfl) :
  LE X (.Call (.Attribute o (OF "append") apos) [e] [] cpos) (kx To Te):=by
 obtain ⟨to,po,so⟩:=ho.ex
 obtain ⟨te,pe,se⟩:=he.ex
 refine ⟨_,C0 Zu PySem.F.slot_list_append PySem.F.type_list_append uM po (dB pe hX hs) hbase hfew hline hs hplain,λσ H ρ μ Q Q' rl h k=>so σ H ρ μ _ _ rl h λx H1 dx μ1 t1 m1 p1 h1=>?_⟩
 cases p1 with
 | obj q=>
  obtain ⟨ds0,e0,h2⟩:=bT h1
  obtain ⟨xs0,ex0,_⟩:=m1 q _ e0
  refine ⟨.inl ⟨rfl,_,SqL.of ex0⟩,se σ H1 ρ μ1 _ _ (rl.go t1 m1) h2 λy H2 dy μ2 t2 m2 p2 h3=>?_⟩
  obtain ⟨ds,e1,lz,h4⟩:=bT h3
  obtain ⟨xs,ex,l⟩:=m2 q _ e1
  exact ⟨q,xs,y,rfl,rfl,ex,by rw[l.length];exact Xw lz (by decide),k _ _ _ _ ((t1.trans t2).trans (kY ex)) (Jj m2 ex (l.append (.cons p2 .nil))) .non h4⟩
 | _=>exact Xf h1
def bw:FSp:=λds μ Q=>match ds with
 | [.tup xs]=>Q (.tup xs) μ
 | [.ls xs]=>Q (.tup xs) μ
 | [.obj a]=>kL μ a λxs=>Q (.tup xs) μ
 | _=>False
theorem a6 {K:W7}:kX K (λxs H Q=>∃ p ys,xs=[.ref p]/\((SqL K H p ys/\∀ l,H l=none->Q (.ref l) (L2.upd H l (.tup ys)))∨(SqT K H p ys/\Q (.ref p) H))) bw:=λH μ xs ds Q Q' m p h k=>by
 unfold bw at h
 split at h
 ·cases p with | cons p1 p2=>cases p2;cases p1 with | tup q l=>exact ⟨_,_,rfl,.inr ⟨q,k _ H _ μ (.refl H) m (.tup q l) h⟩⟩
 ·cases p with | cons p1 p2=>cases p2;cases p1 with | ls q l=>exact ⟨_,_,rfl,.inl ⟨q.sq,λz hz=>k _ _ _ μ (.new hz) (b7 m hz) (.tup (SqT.of aN) (l.mono (.new hz))) h⟩⟩
 ·rename_i q
  cases p with | cons p1 p2=>
  cases p2;cases p1
  obtain ⟨ys,e0,h⟩:=bT h
  obtain ⟨xs,ex,l⟩:=m q _ e0
  exact ⟨_,_,rfl,.inl ⟨SqL.of ex,λz hz=>k _ _ _ μ (.new hz) (b7 m hz) (.tup (SqT.of aN) (l.mono (.new hz))) h⟩⟩
 ·exact Xf h
def ju:FSp:=λds μ Q=>match ds with
 | [.tup xs]=>∀ p,μ p=none->Q (.obj p) (up μ p (.lst xs))
 | [.ls xs]=>∀ p,μ p=none->Q (.obj p) (up μ p (.lst xs))
 | [.obj a]=>kL μ a λxs=>∀ p,μ p=none->Q (.obj p) (up μ p (.lst xs))
 | _=>False
theorem ua {K:W7}:kX K (λxs H Q=>∃ p ys,xs=[.ref p]/\(SqL K H p ys∨SqT K H p ys)/\∀ l,H l=none->Q (.ref l) (L2.upd H l (.lst ys))) ju:=λH μ xs ds Q Q' m p h k=>by
 unfold ju at h
 split at h
 ·cases p with | cons p1 p2=>cases p2;cases p1 with | tup q l=>exact ⟨_,_,rfl,.inr q,λz hz=>k _ _ _ _ (.new hz) (A4 m hz l) (.obj _) (h z (m.free hz))⟩
 ·cases p with | cons p1 p2=>cases p2;cases p1 with | ls q l=>exact ⟨_,_,rfl,.inl q.sq,λz hz=>k _ _ _ _ (.new hz) (A4 m hz l) (.obj _) (h z (m.free hz))⟩
 ·rename_i q
  cases p with | cons p1 p2=>
  cases p2;cases p1
  obtain ⟨ys,e0,h⟩:=bT h
  obtain ⟨xs,ex,l⟩:=m q _ e0
  exact ⟨_,_,rfl,.inl (SqL.of ex),λz hz=>k _ _ _ _ (.new hz) (A4 m hz l) (.obj _) (h z (m.free hz))⟩
 ·exact Xf h
def j2:FSp:=λds μ Q=>match ds with
 | [.tup xs]=>Q (.ls xs) μ
 | [.ls xs]=>Q (.ls xs) μ
 | [.obj a]=>kL μ a λxs=>Q (.ls xs) μ
 | _=>False
def Pw (Q:VK):VK:=λv H1=>∃ a xs,v=.ref a/\H1 a=some (.lst xs)/\∀ o,Q v (L2.upd H1 a (.frz o (.lst xs)))
theorem gG {K:W7}{H:Hp}{μ:Mu}{ys:List V}{ds:List D}{Q:DK}{Q':VK}{z:Addr}(m:bM K H μ)(l:DpL K H ys ds)(h:Q (.ls ds) μ)(k:jw K H Q Q')(hz:H z=none):Pw Q' (.ref z) (L2.upd H z (.lst ys)):=
 ⟨z,ys,rfl,aN,λo=>by
  have e:L2.upd (L2.upd H z (.lst ys)) z (.frz o (.lst ys))=L2.upd H z (.frz o (.lst ys)):=vk
  rw[e]
  exact k _ _ _ μ (.new hz) (b7 m hz) (.ls (.inl ⟨o,aN⟩) (l.mono (.new hz))) h⟩
theorem EU {K:W7}:kX K (λxs H Q=>∃ p ys,xs=[.ref p]/\(SqL K H p ys∨SqT K H p ys)/\∀ l,H l=none->Pw Q (.ref l) (L2.upd H l (.lst ys))) j2:=λH μ xs ds Q Q' m p h k=>by
 unfold j2 at h
 split at h
 ·cases p with | cons p1 p2=>cases p2;cases p1 with | tup q l=>exact ⟨_,_,rfl,.inr q,λz hz=>gG m l h k hz⟩
 ·cases p with | cons p1 p2=>cases p2;cases p1 with | ls q l=>exact ⟨_,_,rfl,.inl q.sq,λz hz=>gG m l h k hz⟩
 ·rename_i q
  cases p with | cons p1 p2=>
  cases p2;cases p1
  obtain ⟨ys,e0,h⟩:=bT h
  obtain ⟨xs,ex,l⟩:=m q _ e0
  exact ⟨_,_,rfl,.inl (SqL.of ex),λz hz=>gG m l h k hz⟩
 ·exact Xf h
theorem JW {x:Str}{p:Pos}{At:ATr}(hx:x = "list")(hg:Gl X x)(hm:X.mg x=none)(hv:Yt x=some (.type "list"))(ha:LA X [e] At)(hn:x ≠ "__name__" := by decide)(hdb:(x == ("__debug__" : Str))=false:=by decide)
  (h1:Xp [e] X.env=(false,Yl e X.env)::Xp [] X.env:=by rfl) (h2:(YA pos (Xp [] X.env)).any (·.1)=false:=by rfl):LE X (.Call (.Name x p) [e] [] pos) (au j2 At):=by
 obtain ⟨ta,pa,sa⟩:=ha.ex
 exact ⟨_,jS (uc i7 hg hm hv pa hn hdb h1 h2),λσ H ρ μ Q Q' rl h k=>sa σ H ρ μ _ _ rl h λxs H1 ds μ1 t1 m1 p1 h1=>EU H1 μ1 xs ds Q Q' m1 p1 h1 (k.go t1)⟩
def ja:D->Bool
 | .non=>true
 | .bl _=>true
 | .int _=>true
 | .str _=>true
 | _=>false
def inD (x:D)(xs:List D):Bool:=xs.any λy=>eqD y x
def rIn (neg:Bool):DR2:=λx y μ Q=>match y with
 | .tup xs=>(ja x=true/\xs.all ja=true)/\Q (.bl (if neg then !inD x xs else inD x xs)) μ
 | .ls xs=>(ja x=true/\xs.all ja=true)/\Q (.bl (if neg then !inD x xs else inD x xs)) μ
 | .obj a=>kL μ a λxs=>(ja x=true/\xs.all ja=true)/\Q (.bl (if neg then !inD x xs else inD x xs)) μ
 | _=>False
end
end
section
open PySem PySem.Spec PyProof.Rows L2
section
variable {X:Cx} {a b e:XG} {Ta Tb T:ETr} {pos:Pos}
def TM (t:TE):TE:=λσ H Q=>t σ H λv H1=>Q v H1∨Pw Q v H1
theorem DA {t:TE}(h:PE X e t):PE X e (TM t):=by
 have g:PE X e (λσ H Q=>∃ P:VK,EG t σ H P/\∀ v H',P v H'->Q v H'):=λpins s σ H Q I ⟨P,hP,k⟩=>
  thn (jS h pins s σ H P I hP) λu s1 ⟨v,H1,I1,r,q⟩=>⟨v,H1,I1,r,k _ _ q⟩
 intro pins s σ H Q I hh
 refine thn (h pins s σ H _ I hh) λu s1 ⟨v,H1,I1,r,q⟩=>?_
 rcases q with q | ⟨c,xs,rfl,ec,q⟩
 ·exact ⟨v,H1,I1,r,q⟩
 ·have hz:=I1.hok c _ ec
  obtain ⟨z,its,n,rv,hg⟩:=hz
  have nl:∀ d o,H1 d=some o->(∀ ys,o≠.lst ys)->d≠c:=λd o e1 e2 w=>by subst w;rw[ec] at e1;cases e1;exact e2 _ rfl
  refine ⟨.ref c,_,I1.un (h':=s1.heap) (t':=s1.toks) (H':=L2.upd H1 c (.frz { cls:=.type "list", data:=.seq its.toArray n } (.lst xs))) ⟨λd o e _ _ _=>e,λd o e _ _ _=>⟨o.slots,e⟩,λd o e w _=>?_,λd o e _=>⟨o,e⟩,λd ys e=>?_,λd o u e=>?_,λd ps e=>⟨#[],?_⟩⟩ (λd u e=>?_),r,q _⟩
  ·rw[aP (λz=>by subst z;rw[ec] at w;cases w)];exact w
  ·rw[aP (nl d _ e (λ_=>nofun))];exact e
  ·rw[aP (nl d _ e (λ_=>nofun))];exact e
  ·rw[aP (nl d _ e (λ_=>nofun)),e];simp
  ·by_cases hd:d=c
   ·subst hd
    rw[aN] at e;cases e
    exact ⟨hg,z,its,n,rv,hg⟩
   ·rw[aP hd] at e
    refine (I1.hok d u e).o8 (λk w _ q=>q) (λk q=>?_) λk ys q=>?_
    ·rw[aP (nl k _ q (λ_=>nofun))];exact q
    ·rw[aP (nl k _ q (λ_=>nofun))];exact q
def OV (K:W7):R2:=λx y H Q=>∃ p q ys,x=.ref p/\y=.ref q/\SqT K H p []/\SqT K H q ys/\Q (.ref q) H
theorem MP:OpR X (Zs .Add) (OV X.K):=λpins s σ H x y v u Q I rx ry ⟨p,q,ys,e1,e2,hp,hq,h⟩=>by
 subst e1 e2
 cases rx
 cases ry
 obtain ⟨its,r1,p1,_⟩:=I.tuple hp
 obtain ⟨its2,r2,p2,_⟩:=I.tuple hq
 cases r1
 obtain ⟨⟨c1,d1,t1,l1⟩,ho,hc,n,hd⟩:=id p1
 obtain ⟨⟨c2,d2,t2,l2⟩,ho2,hc2,n2,hd2⟩:=id p2
 simp only at hc hd hc2 hd2
 subst hc hd hc2 hd2
 exact zcb ⟨_,ho,rfl⟩ ⟨_,ho2,rfl⟩ zbT zc8 zaw zam (Z6 _ _)
  (tuple_addW0 p q #[] its2.toArray n n2 d1 d2 l1 l2 rfl) ⟨ho,ho2,⟨.ref q,H,I,rfl,h⟩⟩
def Oy (K:W7):R2:=λx y H Q=>∃ p q xs ys,x=.ref p/\y=.ref q/\SqL K H p xs/\SqL K H q ys/\xs.length+ys.length<=sizeLine/\∀ z,H z=none->Q (.ref z) (L2.upd H z (.lst (xs++ys)))
theorem N1:OpR X (Zs .Add) (Oy X.K):=λpins s σ H x y v u Q I rx ry ⟨p,q,xs,ys,e1,e2,hp,hq,hz,h⟩=>by
 subst e1 e2
 cases rx
 cases ry
 obtain ⟨its,r1,p1,_⟩:=I.list hp
 obtain ⟨its2,r2,p2,_⟩:=I.list hq
 obtain ⟨⟨c1,d1,t1,l1⟩,n,ho,hc,hx,hd⟩:=id p1
 obtain ⟨⟨c2,d2,t2,l2⟩,n2,ho2,hc2,hx2,hd2⟩:=id p2
 simp only at hc hd hc2 hd2
 subst hc hd hc2 hd2
 have z1:=r1.length
 have z2:=r2.length
 refine zcb ⟨_,ho,rfl⟩ ⟨_,ho2,rfl⟩ PySem.noFill_list_add PySem.seq_list_add PySem.F.slot_list_add PySem.F.entry_list_add (PySem.F.args_list_add_2 _ _)
  (list_addW p q its.toArray its2.toArray n n2 d1 d2 l1 l2 (by rw[Xv,Xv];omega)) ⟨ho,ho2,?_⟩
 have ea:its.toArray++its2.toArray=(its++its2).toArray:=by simp
 rw[ea]
 exact ⟨.ref _,_,I.VI (t':=s.toks) (r1.append r2) (by rw[Xi];omega),rfl,h _ I.fresh⟩
def aQ:DR2:=λx y μ Q=>match x,y with
 | .int i,.int j=>Q (.int (i+j)) μ
 | .str i,.str j=>i.length+j.length<=1000000/\Q (.str (i++j)) μ
 | .tup a,.tup b=>a.length+b.length<=1000000/\Q (.tup (a++b)) μ
 | .ls a,.ls b=>a.length+b.length<=1000000/\Q (.ls (a++b)) μ
 | _,_=>False
def rPl (K:W7):R2:=λx y H Q=>(rI0 λi j=>.int (i+j)) x y H Q∨(∃ i j,x=.str i/\y=.str j/\i.length+j.length<=sizeLine/\Q (.str (i++j)) H)∨OG K x y H Q∨OV K x y H Q∨Oy K x y H Q
theorem ND:OpR X (Zs .Add) (rPl X.K):=λpins s σ H x y v u Q I rx ry h=>by
 rcases h with h | h | h | h | h
 ·exact RJ pins s σ H x y v u Q I rx ry h
 ·exact B7 pins s σ H x y v u Q I rx ry h
 ·exact MD pins s σ H x y v u Q I rx ry h
 ·exact MP pins s σ H x y v u Q I rx ry h
 ·exact N1 pins s σ H x y v u Q I rx ry h
theorem aJ (ha:LE X a Ta)(hb:LE X b Tb):LE X (.BinOp a .Add b pos) (aj aQ Ta Tb):=by
 obtain ⟨ta,pa,sa⟩:=ha.ex
 obtain ⟨tb,pb,sb⟩:=hb.ex
 refine ⟨_,DA (Ol ND pa pb),λσ H ρ μ Q Q' rl h k=>sa σ H ρ μ _ _ rl h λx H1 dx μ1 t1 m1 p1 h1=>sb σ H1 ρ μ1 _ _ (rl.go t1 m1) h1 λy H2 dy μ2 t2 m2 p2 h2=>?_⟩
 have p1:=p1.mono t2
 have k:=k.go (t1.trans t2)
 cases p1 with
 | int i=>
  cases p2 with
  | int j=>exact .inl ⟨i,j,rfl,rfl,.inl (k _ H2 _ μ2 (.refl H2) m2 (.int _) h2)⟩
  | _=>exact Xf h2
 | str i=>
  cases p2 with
  | str j=>exact .inr (.inl ⟨i,j,rfl,rfl,big h2.1,.inl (k _ H2 _ μ2 (.refl H2) m2 (.str _) h2.2)⟩)
  | _=>exact Xf h2
 | @tup q xs ds sq l=>
  cases p2 with
  | @tup q' ys es sq' l'=>
   obtain ⟨hz,h3⟩:=h2
   by_cases hx:xs=[]
   ·subst hx
    cases l
    exact .inr (.inr (.inr (.inl ⟨q,q',ys,rfl,rfl,sq,sq',.inl (k _ H2 _ μ2 (.refl H2) m2 (.tup sq' l') h3)⟩)))
   ·refine .inr (.inr (.inl ⟨q,q',xs,ys,rfl,rfl,sq,sq',hx,by rw[l.length,l'.length];exact big hz,λhy=>?_,λ_ z hzn=>.inl ?_⟩))
    ·subst hy
     cases l'
     rw[XH] at h3
     exact .inl (k _ H2 _ μ2 (.refl H2) m2 (.tup sq l) h3)
    ·exact k _ _ _ μ2 (.new hzn) (b7 m2 hzn) (.tup (SqT.of aN) ((l.append l').mono (.new hzn))) h3
  | _=>exact Xf h2
 | @ls q xs ds sq l=>
  cases p2 with
  | @ls q' ys es sq' l'=>exact .inr (.inr (.inr (.inr ⟨q,q',xs,ys,rfl,rfl,sq.sq,sq'.sq,by rw[l.length,l'.length];exact big h2.1,λz hz=>.inr (gG m2 (l.append l') h2.2 k hz)⟩)))
  | _=>exact Xf h2
 | _=>cases p2<;>exact Xf h2
abbrev OTr:=ST->Mu->(Option Int->Mu->Prop)->Prop
def ONo:OTr:=λ_ μ Q=>Q none μ
def gj (T:ETr):OTr:=λρ μ Q=>T ρ μ λx μ1=>kI x λi=>Q (some i) μ1
def VR (K:W7)(t:TO)(T:OTr):Prop:=∀ σ H ρ μ (Q:Option Int->Mu->Prop) (Q':Option Int->Hp->Prop),Rl K σ H ρ μ->T ρ μ Q->(∀ i H' μ',Tk H H'->bM K H' μ'->Q i μ'->Q' i H')->t σ H Q'
structure LO (X:Cx) (o:Option XG) (T:OTr):Prop where
 ex:∃ t,PO X o t/\VR X.K t T
theorem ji:LO X none ONo:=⟨_,My,λσ H ρ μ Q Q' rl h k=>k none H μ (.refl H) rl.mu h⟩
theorem dE (h:LE X e T):LO X (some e) (gj T):=by
 obtain ⟨t,p,s⟩:=h.ex
 refine ⟨_,Na p,λσ H ρ μ Q Q' rl h k=>s σ H ρ μ _ _ rl h λv H1 d μ1 t1 m1 p1 h1=>?_⟩
 cases p1 with
 | int i=>exact ⟨i,rfl,k _ H1 μ1 t1 m1 h1⟩
 | _=>exact Xf h1
def cutD {α:Type}(xs:List α)(lo hi:Option Int):List α:=(xs.drop (HT.sIx xs.length 0 lo)).take (HT.sIx xs.length xs.length hi - HT.sIx xs.length 0 lo)
theorem AB {α:Type}{xs:List α}{lo hi:Option Int}(h:HT.sIx xs.length 0 lo=0/\HT.sIx xs.length xs.length hi=xs.length):cutD xs lo hi=xs:=by
 unfold cutD;rw[h.1,h.2];simp
theorem DpL.take {K:W7}{H:Hp}:∀ {vs:List V} {ds:List D} (n:Nat),DpL K H vs ds->DpL K H (vs.take n) (ds.take n)
 | _,_,0,_=>.nil
 | _,_,_+1,.nil=>.nil
 | _,_,n+1,.cons h l=>.cons h (DpL.take n l)
theorem DpL.drop {K:W7}{H:Hp}:∀ {vs:List V} {ds:List D} (n:Nat),DpL K H vs ds->DpL K H (vs.drop n) (ds.drop n)
 | _,_,0,l=>l
 | _,_,_+1,.nil=>.nil
 | _,_,n+1,.cons _ l=>DpL.drop n l
theorem DpL.cut {K:W7}{H:Hp}{vs:List V}{ds:List D}(lo hi:Option Int)(l:DpL K H vs ds):DpL K H (yM vs lo hi) (cutD ds lo hi):=by
 unfold yM cutD;rw[l.length];exact (l.drop _).take _
theorem xJ {prog:XO}{w:X2}{A:Yh}{E:Xb->Xe->Prop}{s:Xe}{t sl:Addr}{items:Array Xb}{vl vu:Xb}{lo hi:Option Int}{Q:Xb->Xe->Prop}(ht:zec s.heap t items)(hs:s.heap.IsSliceOf sl vl vu .none)(pl:IsPart vl lo)(pu:IsPart vu hi)
  (hw:HT.sIx items.size 0 lo=0/\HT.sIx items.size items.size hi=items.size) (h:Q (.ref t) s):XB (XD prog w) A (zbc (.ref t) (.ref sl)) Q E s:=by
 obtain ⟨os,hos,hcs,hds⟩:=id hs
 have hTs:s.TypeIs (.ref sl) "slice" := ⟨os,hos,hcs⟩
 unfold zbc
 try with_reducible refine Zk ?_
 first | refine W8 (Xj ?_) | skip
 refine W8 (zdC ht.typeIs (by decide) ?_)
 refine W8 (Ye (name:=OF "__getitem__") ht.typeIs Yb (YF Yb ht.typeIs zc1 ?_ (zdp _ _)))
 show XB _ _ (zbp (.ref t) >>= _) _ _ s
 refine W8 (tupleItemsOf_ ht ?_)
 refine W8 <| wpAny_typeOf hTs ?_
 rw[if_pos (by decide)]
 refine W8 (HT.iF hs pl pu ?_)
 rw[hw.1,hw.2]
 refine (show XB _ _ (if (((0:Nat):Int) == 0&&(1:Int) == 1&&(items.size - 0) == items.size)=true then _ else _) _ _ s from ?_)
 rw[if_pos (by simp)]
 unfold zeI
 refine W8 (W8 (wpAny_typeOf ht.typeIs (Xj ?_)))
 rw[if_pos (by decide)]
 first
  | exact W8 (Zx (W8 (Xj (Xj ⟨_,rfl,Xj h⟩))))
  | exact W8 (Zx (Xj ⟨_,rfl,Xj h⟩))
  | exact W8 (W8 (Zx (Xj (Xj ⟨_,rfl,Xj h⟩))))
def WS (K:W7):V->Option Int->Option Int->Hp->VK->Prop:=λx lo hi H Q=>∃ a xs,x=.ref a/\SqT K H a xs/\(HT.sIx xs.length 0 lo=0/\HT.sIx xs.length xs.length hi=xs.length)/\Q (.ref a) H
theorem FZ:SlR X (WS X.K):=λpins s σ H x v vl vu lo hi sl Q I rx hs pl pu ⟨q,xs,e,hx,hw,h⟩=>by
 subst e
 cases rx
 obtain ⟨its,r,ht,_⟩:=I.tuple hx
 have hlen:its.toArray.size=xs.length:=by rw[Xv];exact r.length.symm
 exact ⟨"tuple", _,Yb.lookup,ht.typeIs,xJ ht hs pl pu (by rw[hlen];exact hw) ⟨.ref q,H,I,rfl,h⟩⟩
def rSl:D->Option Int->Option Int->Mu->DK->Prop:=λx lo hi μ Q=>match x with
 | .tup xs=>Q (.tup (cutD xs lo hi)) μ
 | .ls xs=>Q (.ls (cutD xs lo hi)) μ
 | .obj a=>kL μ a λxs=>Q (.ls (cutD xs lo hi)) μ
 | _=>False
def TSl (a:ETr)(lo hi:OTr):ETr:=λρ μ Q=>a ρ μ λx μ1=>lo ρ μ1 λl μ2=>hi ρ μ2 λh μ3=>rSl x l h μ3 Q
theorem jm {lo hi:Option XG}{Tl Th:OTr}{p2:Pos}(ha:LE X a Ta)(hl:LO X lo Tl)(hh:LO X hi Th):LE X (.Subscript a (.Slice lo hi none p2) pos) (TSl Ta Tl Th):=by
 obtain ⟨ta,pa,sa⟩:=ha.ex
 obtain ⟨tl,pl,sl⟩:=hl.ex
 obtain ⟨th,ph,sh⟩:=hh.ex
 refine ⟨_,DA (yI (SlR.or FZ (SlR.or II M4)) pa pl ph),λσ H ρ μ Q Q' rl h k=>sa σ H ρ μ _ _ rl h λx H1 dx μ1 t1 m1 p1 h1=>sl σ H1 ρ μ1 _ _ (rl.go t1 m1) h1 λi H2 μ2 t2 m2 h2=>sh σ H2 ρ μ2 _ _ (rl.go (t1.trans t2) m2) h2 λj H3 μ3 t3 m3 h3=>?_⟩
 have p1:=p1.mono (t2.trans t3)
 have k:=k.go (t1.trans (t2.trans t3))
 cases p1 with
 | @tup q xs ds sq l=>
  by_cases hw:HT.sIx xs.length 0 i=0/\HT.sIx xs.length xs.length j=xs.length
  ·refine .inl ⟨q,xs,rfl,sq,hw,.inl (k _ H3 _ μ3 (.refl H3) m3 (.tup sq l) ?_)⟩
   rw[l.length] at hw
   have h3:Q (.tup (cutD ds i j)) μ3:=h3
   rw[AB hw] at h3;exact h3
  ·exact .inr (.inl ⟨q,xs,rfl,sq,hw,λz hz=>.inl (k _ _ _ μ3 (.new hz) (b7 m3 hz) (.tup (SqT.of aN) ((l.cut i j).mono (.new hz))) h3)⟩)
 | @ls q xs ds sq l=>exact .inr (.inr ⟨q,xs,rfl,sq.sq,λz hz=>.inr (gG m3 (l.cut i j) h3 k hz)⟩)
 | obj q=>
  obtain ⟨ds,e0,h4⟩:=bT h3
  obtain ⟨xs,ex,l⟩:=m3 q _ e0
  exact .inr (.inr ⟨q,xs,rfl,SqL.of ex,λz hz=>.inr (gG m3 (l.cut i j) h4 k hz)⟩)
 | _=>exact Xf h3
theorem Dy {α:Type}(xs:List α)(k:Nat):cutD xs none (some (k:Int))=xs.take k:=by
 unfold cutD
 rw[HT.zZ,HT.C8,List.drop_zero,Nat.sub_zero]
 rcases ze1 k xs.length with h | h
 ·rw[zcr h]
 ·rw[zbY h,List.take_length,ZA h]
theorem uk {α:Type}(xs:List α)(k:Nat):cutD xs (some (k:Int)) none=xs.drop k:=by
 unfold cutD
 rw[HT.zZ,HT.C8]
 rcases ze1 k xs.length with h | h
 ·rw[zcr h,ZA (by rw[zaK];omega)]
 ·rw[zbY h,Y4,List.drop_of_length_le h];simp
end
end
section
open PySem PySem.Spec PyProof.Rows L2
theorem iZ:∀ {us:List Xb} {ns:List Int},Z9 us ns->Vals (ns.map V.int) us
 | _,_,.nil=>.nil
 | _,_,.cons n t h=>.cons ⟨t,rfl⟩ (iZ h)
def RA (K:W7):List V->Hp->VK->Prop:=λxs H Q=>∃ (p:Addr) (ns:List Int),xs=[.ref p]/\SqL K H p (ns.map V.int)/\ns.length < 64/\∀ ns':List Int,ns'.Perm ns->ns'.Pairwise (·<=·)->∀ z,H z=none->Q (.ref z) (L2.upd H z (.lst (ns'.map V.int)))
theorem AS {X:Cx}:b6 X (.builtin "sorted") (RA X.K):=λpins s σ H xs us Q I rx ⟨p,ns,e1,sq,hl,q⟩=>by
 subst e1
 obtain ⟨u,rfl,ru⟩:=vals1 rx
 cases ru
 obtain ⟨its,rv,pl,hz⟩:=I.list sq
 have hi:Z9 its ns:=intsAre_of rv
 have hlen:its.length < 64:=by rw[hi.length];exact hl
 refine sorted_ints pl.isList hi hlen λout ns' a1 a2 a3=>?_
 obtain ⟨n,en⟩:=sortedAll_at s.heap its out
 refine ⟨.ref _,_,I.laid (t':=s.toks) (o:=.lst (ns'.map V.int)) (λb o e=>sortedAll_old e) (zaT _) ?_,rfl,q ns' a2 a3 _ (I.hok.fresh (zaT _))⟩
 have z1:ns'.length=ns.length:=a2.length_eq
 exact ⟨by rw[W9,z1];exact zat (Xw hl (by decide)),out.toList,n,iZ a1,by simpa[za6] using en⟩
theorem DpL.ints_of {K:W7}{H:Hp}:∀ {xs:List V} {ns:List Int},DpL K H xs (ns.map .int)->xs=ns.map V.int
 | _,[],.nil=>rfl
 | _,n::r,.cons h l=>by cases h;rw[DpL.ints_of l];rfl
end
section
open PySem PySem.Spec PyProof.Rows L2
theorem _root_.L2.Inv.frz {X:Cx}{pins:List (Addr×Obj)}{σ:L2.St}{H:Hp}{s:Xe}{c:Addr}{xs:List V}(I1:Inv X pins σ H s)(ec:H c=some (.lst xs)):∃ o,Inv X pins σ (L2.upd H c (.frz o (.lst xs))) s:=by
 obtain ⟨z,its,n,rv,hg⟩:=I1.hok c _ ec
 have nl:∀ d o,H d=some o->(∀ ys,o≠.lst ys)->d≠c:=λd o e1 e2 w=>by subst w;rw[ec] at e1;cases e1;exact e2 _ rfl
 refine ⟨_,I1.un (h':=s.heap) (t':=s.toks) (H':=L2.upd H c (.frz { cls:=.type "list", data:=.seq its.toArray n } (.lst xs))) ⟨λd o e _ _ _=>e,λd o e _ _ _=>⟨o.slots,e⟩,λd o e w _=>?_,λd o e _=>⟨o,e⟩,λd ys e=>?_,λd o u e=>?_,λd ps e=>⟨#[],?_⟩⟩ (λd u e=>?_)⟩
 ·rw[aP (λz=>by subst z;rw[ec] at w;cases w)];exact w
 ·rw[aP (nl d _ e (λ_=>nofun))];exact e
 ·rw[aP (nl d _ e (λ_=>nofun))];exact e
 ·rw[aP (nl d _ e (λ_=>nofun)),e];simp
 ·by_cases hd:d=c
  ·subst hd
   rw[aN] at e;cases e
   exact ⟨hg,z,its,n,rv,hg⟩
  ·rw[aP hd] at e
   refine (I1.hok d u e).o8 (λk w _ q=>q) (λk q=>?_) λk ys q=>?_
   ·rw[aP (nl k _ q (λ_=>nofun))];exact q
   ·rw[aP (nl k _ q (λ_=>nofun))];exact q
theorem DY {X:Cx}{tg iter elt:XG}{ifs:List XG}{scope:Scope}{pos spos py:Pos}{y:Str}{iy:Nat}{wi:TI}{g:TG}{tt:TT}{te:TE}{Nc:List Str}{n:Nat}{caps:List Nat}
  (hxe:X.xe=λ_ _=>False) (hcalm:X.calm=true) (hi:PI X tg iter wi)
  (hbody:∀ (cl:List (Str×Addr)) (C:Addr) (s₀:Xe) (H₀:Hp) (ex:List Addr),PG (bf X scope Nc cl C s₀ H₀ ex) tg g/\yH (bf X scope Nc cl C s₀ H₀ ex) ifs tt/\PE (bf X scope Nc cl C s₀ H₀ ex) elt te)
  (hfree:∀ y∈scope.names,y.2=.free->X.env.kindOf y.1=some .cell) (hcell:∀ y∈scope.names,y.2≠.cell) (gk:scope.kind=.function)
  (hnames:∀ y∈scope.names,y.2=.local->scope.names.lookup y.1=some .local) (hlen:Nc.length=n+caps.length)
  (hcap:∀ (j k:Nat),caps[j]? = some k->∃ x,Nc[n+j]? = some x/\X.N[k]? = some x/\scope.names.lookup x=some .free)
  (pgy:PG X (.Name y py) (mq iy))
  (hsw:Y3 (.ListComp elt [⟨tg,iter,ifs,0⟩] scope pos) (some (.Name y py)) spos.line X.env=pure true)
  (hs:∀ x,X4 iter X.env x=pure x:=by intro _;rfl) :
  PS X (.Assign [.Name y py] (.ListComp elt [⟨tg,iter,ifs,0⟩] scope pos) spos) (GD (EG (kT wi g tt te n caps)) (mq iy)):=
 y3 (Z:=EG) hxe hcalm hi hbody hfree hcell gk hnames hlen hcap pgy hsw (λσ H Q h=>⟨_,h,λpins D H5 s5 I5 ⟨a,xs,ea,eH,q⟩=>by
  cases ea
  obtain ⟨o,I6⟩:=I5.frz eH
  exact ⟨_,λb hb=>by rw[aP (λz=>by rw[z,eH] at hb;cases hb)];exact hb,I6,q o⟩⟩) hs
theorem KJ {K:W7}{wi:TI}{It':ATr}{G:GTr}{Tt:TTr}{Te:ETr}{n:Nat}{caps:List Nat}(si:Qu K wi It'):Sim K (EG (kT wi (mE K n G) (liftT K Tt) (lW K Te) n caps)) (bK It' G Tt Te n caps):=by
 intro σ H ρ μ Q Q' rl h k
 refine si σ H ρ μ _ _ rl h λJ H1 ds μ1 t1 m1 Y h1 D hD=>?_
 have hp:=h1 D (m1.free hD)
 have tD:Tk H1 (L2.upd H1 D (.lst [])):=.new hD
 have mD:bM K (L2.upd H1 D (.lst [])) (up μ1 D (.lst [])):=λa o e=>by
  by_cases ha:a=D
  ·subst ha
   rw[aI] at e;cases e
   exact ⟨[],aN,.nil⟩
  ·rw[aU ha] at e
   exact b7 m1 hD a o e
 refine ⟨λi m ys H2=>m=ds.length - i/\i<=ds.length/\Tk H1 H2/\∃ μ2,bM K H2 μ2/\fF D G Tt Te (eZ ρ n caps) (λμ'=>kL μ' D λzs=>Q (.ls zs) (dn μ' D)) (ds.drop i) μ2,
  ⟨ds.length,by simp,YG _,tD,_,mD,by simpa using hp⟩,?_⟩
 rintro i m ys H2 ⟨rfl,hi,t12,μ2,m2,h2⟩
 by_cases hlt:i < ds.length
 ·refine .inr ⟨Y.go i H2 t12 hlt,λys' H'=>Tk H1 H'/\∃ μ',bM K H' μ'/\fF D G Tt Te (eZ ρ n caps) (λμ'=>kL μ' D λzs=>Q (.ls zs) (dn μ' D)) (ds.drop (i+1)) μ',λys' H' ⟨t',μ',m',h'⟩=>⟨ds.length - (i+1),by omega,rfl,hlt,t',μ',m',h'⟩,λx H3 y=>?_⟩
  obtain ⟨t23,⟨d,ed,pd⟩,mk⟩:=Y.yld i H2 x H3 t12 hlt y
  have e:ds.drop i=d::ds.drop (i+1):=by
   refine (YO hlt).trans ?_
   congr 1
   rw[Xt hlt] at ed
   exact XY ed
  rw[e] at h2
  have t13:=t12.trans t23
  have r3:Rl K (ko σ n caps) H3 (eZ ρ n caps) μ2:=pw (rl.go (t1.trans t13) (mk _ m2)) n caps
  refine ⟨_,_,d,_,r3,pd,h2,λσ4 H4 ρ4 μ4 t4 r4 kp h4=>⟨⟨kp.1.symm,λj v ej=>?_⟩,_,_,_,r4,h4,λb H5 μ5 t5 m5 h5=>?_⟩⟩
  ·by_cases hj:n<=j
   ·rw[kp.2 j hj];exact ej
   ·obtain ⟨j',k',e1,_⟩:=jK ej
    omega
  ·have t15:=t13.trans (t4.trans t5)
   cases b with
   | false=>exact rD ⟨t15,μ5,m5,h5⟩
   | true=>
    refine p8 ⟨_,_,_,r4.go t5 m5,h5,λv H6 d6 μ6 t6 m6 p6 h6=>?_⟩
    obtain ⟨zs,ez,lz,h7⟩:=bT h6
    obtain ⟨xs,ex,lx⟩:=m6 D _ ez
    have t67:Tk H6 (L2.upd H6 D (.lst (xs++[v]))):=.upd (λys z=>by rw[ex] at z;cases z) λo' u z=>by rw[ex] at z;cases z
    refine ⟨xs,ex,by rw[lx.length];exact Xw lz (by decide),(t15.trans t6).trans t67,up μ6 D (.lst (zs++[d6])),λa o ea=>?_,h7⟩
    by_cases ha:a=D
    ·subst ha
     rw[aI] at ea;cases ea
     exact ⟨_,aN,(lx.append (.cons p6 .nil)).mono t67⟩
    ·rw[aU ha] at ea
     exact (m6 a _ ea).ne t67 ha
 ·have e:i=ds.length:=by omega
  subst e
  rw[Y4] at h2
  obtain ⟨zs,ez,hq⟩:=bT (show kL μ2 D λzs=>Q (.ls zs) (dn μ2 D) from h2)
  obtain ⟨xs,ex,lx⟩:=m2 D _ ez
  refine .inl ⟨Y.stop _ H2 t12 (Xs _),D,xs,rfl,ex,λo=>?_⟩
  have t2f:Tk H2 (L2.upd H2 D (.frz o (.lst xs))):=.upd (λys z=>by rw[ex] at z;cases z) λo' u z=>by rw[ex] at z;cases z
  refine k _ _ _ (dn μ2 D) ((t1.trans t12).trans t2f) (λa o' ea=>?_) (.ls (.inl ⟨o,aN⟩) (lx.mono t2f)) hq
  have ha:a≠D:=λz=>by subst z;unfold dn at ea;rw[if_pos rfl] at ea;cases ea
  have ea':μ2 a=some o':=by unfold dn at ea;rw[if_neg ha] at ea;exact ea
  exact (m2 a _ ea').ne t2f ha
theorem gu {X:Cx}{tg elt iter:XG}{Te:ETr}{Tt:TTr}{pos spos py:Pos}{y:Str}{It':ATr}{G:GTr}{ifs:List XG}{scope fsc:Scope}(iy:Nat)(hN:X.N.Nodup)(XN Nc:List Str)(n:Nat)(caps:List Nat)(hxe:X.xe=λ_ _=>False)(hcalm:X.calm=true)(hi:LI X tg iter It')
  (hbody:∀ (cl:List (Str×Addr)) (C:Addr) (s₀:Xe) (H₀:Hp) (ex:List Addr),LGc (bf X scope Nc cl C s₀ H₀ ex) n tg G/\xp (bf X scope Nc cl C s₀ H₀ ex) ifs Tt/\LE (bf X scope Nc cl C s₀ H₀ ex) elt Te)
  (hsc:X.env.scope=fsc) (hXN:X.N=XN) (hok:ik fsc.names XN scope Nc n caps=true)
  (hiy:X.N[iy]? = some y:=by rfl) (hx:Loc X.env.scope y:=by first | exact zay rfl | exact zaz rfl) (hf:X.fn y=true∨X.env.scope.names.lookup y=some .local:=by first | exact .inl rfl | exact .inr rfl | assumption)
  (hsw:Y3 (.ListComp elt [⟨tg,iter,ifs,0⟩] scope pos) (some (.Name y py)) spos.line X.env=pure true:=by rfl)
  (hs:∀ x,X4 iter X.env x=pure x:=by intro _;rfl) :
  LS X (.Assign [.Name y py] (.ListComp elt [⟨tg,iter,ifs,0⟩] scope pos) spos) (aO (bK It' G Tt Te n caps) (ay iy)):=by
 unfold ik at hok
 simp only[XX,ZZ] at hok
 obtain ⟨⟨⟨h1,h2⟩,h3⟩,h4⟩:=hok
 obtain ⟨wi,pi,si⟩:=hi.ex
 refine ⟨_,DY (g:=mE X.K n G) (tt:=liftT X.K Tt) (te:=lW X.K Te) hxe hcalm pi (λcl C s₀ H₀ ex=>let ⟨h1,h2,h3⟩:=hbody cl C s₀ H₀ ex;⟨h1.pe,h2.pe,h3.pe⟩) (λy hy hf=>?_) (λy hy hf=>?_) (by simpa using h2) (λy hy hf=>?_) (by simpa using h3) (λj k hj=>?_) (iW hN hiy hx hf) hsw hs,λσ H ρ μ E E' rl h k=>KJ si σ H ρ μ _ _ rl h λv H' d μ' t' m' p' h'=>iI iy σ H' ρ μ' v d _ _ (rl.go t' m') p' h' (k.go t').nx⟩
 ·have:=(h1 y hy).1.1
  show X.env.scope.names.lookup y.1=_
  rw[hsc]
  simpa[hf] using this
 ·have:=(h1 y hy).1.2
  simp[hf] at this
 ·have:=(h1 y hy).2
  simpa[hf] using this
 ·have hl:j < caps.length:=(XR.mp hj).1
  have:=h4 j (Zr.mpr hl)
  rw[hj] at this
  dsimp only at this
  rw[hXN]
  cases e:XN[k]? with
  | none=>rw[e] at this;cases this
  | some x=>
   rw[e] at this
   dsimp only at this
   rw[XX] at this
   exact ⟨x,by simpa using this.1,rfl,by simpa using this.2⟩
end
section
open PySem PySem.Spec PyProof.Rows L2
section
variable {X:Cx} {ea:XG} {es:List XG} {ek:Nat} {ep p pos:Pos}
def gn (ds:List D):List D:=(XJ ds.length).zipWith (λi d=>.tup [.int (i:Nat),d]) ds
def Vh (t:ATr):ATr:=λρ μ Q=>t ρ μ λvs μ1=>match vs with
 | [.ls ds]=>Q (gn ds) μ1
 | _=>False
theorem uJ (ds:List D)(i:Nat):(gn ds)[i]? = (ds[i]?).map λd=>.tup [.int (i:Nat),d]:=by
 unfold gn
 rw[zcz]
 by_cases h:i < ds.length
 ·rw[zc3 h,Xt h];rfl
 ·rw[Z2.mpr (by simpa using h),Z2.mpr (by simpa using h)];rfl
theorem ug (ds:List D):(gn ds).length=ds.length:=by unfold gn;simp
variable {eb:XG} {tg:XG} {Ta Tb:ETr}
def wO (a b:ETr):ATr:=λρ μ Q=>a ρ μ λx μ1=>b ρ μ1 λy μ2=>kI x λi=>kI y λj=>((-4611686018427387904<=i/\i < 4611686018427387904)/\-4611686018427387904<=j/\j < 4611686018427387904)/\Q (bX i (j - i).toNat) μ2
theorem FO {rp rpos:Pos}(hg:Gl X "range")(hm:X.mg "range" = none)(ha:LE X ea Ta)(hb:LE X eb Tb)(hs:Xp [ea,eb] X.env=[(false,Yl ea X.env),(false,Yl eb X.env)]:=by rfl)(hs2:Xp [eb] X.env=[(false,Yl eb X.env)]:=by rfl):LI X tg (.Call (.Name "range" rp) [ea,eb] [] rpos) (wO Ta Tb):=by
 obtain ⟨ta,pa,sa⟩:=ha.ex
 obtain ⟨tb,pb,sb⟩:=hb.ex
 refine ⟨_,Es hg hm (dB pa (dB pb hX hs2) (by rw[hs,hs2])) hs hs2,λσ H ρ μ Q R rl h k=>sa σ H ρ μ _ _ rl h λx H1 d μ1 t1 m1 p1 h1=>sb σ H1 ρ μ1 _ _ (rl.go t1 m1) h1 λy H2 d2 μ2 t2 m2 p2 h2=>?_⟩
 cases p1 with
 | int i=>
  cases p2 with
  | int j=>
   obtain ⟨⟨⟨h3,h4⟩,h5,h6⟩,h7⟩:=h2
   exact ⟨i,j,rfl,⟨by simpa using h3,by simpa using h4,by simpa using h5,by simpa using h6⟩,k _ H2 _ μ2 (t1.trans t2) m2 (xq i _) h7⟩
  | _=>exact Xf h2
 | _=>exact Xf h2
end
end
section
open PySem PySem.Spec PyProof PyProof.Rows L2
theorem g9:∀ {us:List Xb} {ns:List Int},Z9 us ns->∃ ps:List (Int×Tok),us=ps.map (λp=>zak p.1 p.2)/\ps.map zeJ=ns
 | _,_,.nil=>⟨[],⟨rfl,rfl⟩⟩
 | _,_,.cons n t h=>by
  obtain ⟨ps,e1,e2⟩:=g9 h
  exact ⟨(n,t)::ps,by rw[e1];rfl,by rw[← e2];rfl⟩
theorem qE (ps:List (Int×Tok))(i:Nat):zeh ps.toArray i=((ps.map zeJ)[i]?).getD 0:=by
 unfold zeh
 simp only[List.getElem?_toArray,Yp]
section
variable {X:Cx} {a b:XG} {Ta Tb:ETr} {pos:Pos}
end
end
theorem wM (i j:Int)(μ Q):aQ (.int i) (.int j) μ Q=Q (.int (i+j)) μ:=rfl
theorem vO (i j:Str)(μ Q):aQ (.str i) (.str j) μ Q=(i.length+j.length<=1000000/\Q (.str (i++j)) μ):=rfl
theorem vY (a b:List D)(μ Q):aQ (.tup a) (.tup b) μ Q=(a.length+b.length<=1000000/\Q (.tup (a++b)) μ):=rfl
theorem u6 (a b:List D)(μ Q):aQ (.ls a) (.ls b) μ Q=(a.length+b.length<=1000000/\Q (.ls (a++b)) μ):=rfl
theorem sf (a:List D)(μ Q):bw [.tup a] μ Q=Q (.tup a) μ:=rfl
theorem qz (a:List D)(μ Q):bw [.ls a] μ Q=Q (.tup a) μ:=rfl
theorem rC (a:Addr)(μ Q):bw [.obj a] μ Q=kL μ a λxs=>Q (.tup xs) μ:=rfl
theorem rY (a:List D)(μ Q):j2 [.tup a] μ Q=Q (.ls a) μ:=rfl
theorem rn (a:List D)(μ Q):j2 [.ls a] μ Q=Q (.ls a) μ:=rfl
theorem qd (a:Addr)(μ Q):j2 [.obj a] μ Q=kL μ a λxs=>Q (.ls xs) μ:=rfl
theorem qV (a:List D)(μ Q):ju [.tup a] μ Q = ∀ p,μ p=none->Q (.obj p) (up μ p (.lst a)):=rfl
theorem sT (a:List D)(μ Q):ju [.ls a] μ Q = ∀ p,μ p=none->Q (.obj p) (up μ p (.lst a)):=rfl
theorem pT (a:Addr)(μ Q):ju [.obj a] μ Q=kL μ a λxs=>∀ p,μ p=none->Q (.obj p) (up μ p (.lst xs)):=rfl
theorem HF (a:List D)(lo hi)(μ Q):rSl (.tup a) lo hi μ Q=Q (.tup (cutD a lo hi)) μ:=rfl
theorem Ky (a:List D)(lo hi)(μ Q):rSl (.ls a) lo hi μ Q=Q (.ls (cutD a lo hi)) μ:=rfl
theorem JJ (a:Addr)(lo hi)(μ Q):rSl (.obj a) lo hi μ Q=kL μ a λxs=>Q (.ls (cutD xs lo hi)) μ:=rfl
theorem Gq (n:Bool)(x:D)(a:List D)(μ Q):L3.rIn n x (.tup a) μ Q=((ja x=true/\a.all ja=true)/\Q (.bl (if n then !inD x a else inD x a)) μ):=rfl
theorem HQ (n:Bool)(x:D)(a:List D)(μ Q):L3.rIn n x (.ls a) μ Q=((ja x=true/\a.all ja=true)/\Q (.bl (if n then !inD x a else inD x a)) μ):=rfl
theorem JH (n:Bool)(x:D)(a:Addr)(μ Q):L3.rIn n x (.obj a) μ Q=kL μ a λxs=>(ja x=true/\xs.all ja=true)/\Q (.bl (if n then !inD x xs else inD x xs)) μ:=rfl
theorem BD (a:Addr)(μ Q):c8 [.obj a] μ Q=kL μ a λxs=>Q (.int xs.length) μ:=rfl
theorem Au (x:Str)(μ Q):c8 [.str x] μ Q=(x.length<=1000000/\Q (.int x.length) μ):=rfl
theorem Gi (μ Q):rIs .non .non μ Q=Q (.bl true) μ:=rfl
theorem HW (i:Int)(μ Q):rIs (.int i) .non μ Q=Q (.bl false) μ:=rfl
theorem GZ (i:List D)(μ Q):rIs (.tup i) .non μ Q=Q (.bl false) μ:=rfl
theorem sv (μ Q):iq .non .non μ Q=Q (.bl false) μ:=rfl
theorem qD (i:Int)(μ Q):iq (.int i) .non μ Q=Q (.bl true) μ:=rfl
theorem qo (i:List D)(μ Q):iq (.tup i) .non μ Q=Q (.bl true) μ:=rfl
theorem B9 (c:String)(i:List D)(μ Q):eX c (.ls i) μ Q=Q (.bl (eM "list" c)) μ:=rfl
theorem AH (c:String)(i:Str)(μ Q):eX c (.str i) μ Q=Q (.bl (eM "str" c)) μ:=rfl
theorem Cs (c:String)(μ Q):eX c .non μ Q=Q (.bl (eM "NoneType" c)) μ:=rfl
theorem b5 (k:Nat)(ds:List D):atD ds (k:Int)=ds[k]?:=by
 unfold atD L2.atI L2.ixN
 rw[if_pos (zah k)]
 by_cases h:k < ds.length
 ·rw[if_pos (by omega)];simp
 ·rw[if_neg (by omega)];simp;omega
theorem xF (ds:List D):atD ds 0=ds[0]?:=b5 0 ds
theorem z9 (ds:List D):atD ds 1=ds[1]?:=b5 1 ds
theorem DO (ds:List D):atD ds 2=ds[2]?:=b5 2 ds
theorem Dg (ds:List D):atD ds 3=ds[3]?:=b5 3 ds
theorem DD (ds:List D):atD ds 4=ds[4]?:=b5 4 ds
theorem C5 (ds:List D):atD ds 5=ds[5]?:=b5 5 ds
theorem Mv (n k:Nat):L2.ixN n (k:Int)=if k < n then some k else none:=by
 unfold L2.ixN
 rw[if_pos (zah k)]
 by_cases h:k < n
 ·rw[if_pos (by omega),if_pos h];simp
 ·rw[if_neg (by omega),if_neg h]
theorem fN:eM "int" "int" = true:=by decide
theorem f6:eM "int" "bool" = false:=by decide
theorem fI:eM "bool" "bool" = true:=by decide
theorem fH:eM "bool" "int" = true:=by decide
theorem fO:eM "tuple" "tuple" = true:=by decide
theorem fP:eM "int" "tuple" = false:=by decide
theorem fX:eM "bool" "tuple" = false:=by decide
theorem fm0 {a n:Int}(h:0 < n):0<=a.fmod n:=Int.fmod_nonneg_of_pos a h
theorem fm1 {a n:Int}(h:0 < n):a.fmod n < n:=Int.fmod_lt_of_pos a h
theorem HY (A B:Prop):kIf true A B=A:=rfl
theorem Jw (A B:Prop):kIf false A B=B:=rfl
theorem KI (p:Prop) [Decidable p] (A B:Prop):kIf (decide p) A B=if p then A else B:=by by_cases h:p<;>simp[h,kIf]
theorem Hl (c:Bool)(A B:Prop):kIf (!c) A B=kIf c B A:=by cases c<;>rfl
theorem Gf (c:Bool)(f):kB (.bl c) f=f c:=rfl
theorem Av (c:Int)(f):kI (.int c) f=f c:=rfl
theorem pK (c:D)(f):kO (some c) f=f c:=rfl
theorem BS (c:List D)(f):kS (.tup c) f=f c:=rfl
theorem Ig (c:List D)(f):kS (.ls c) f=f c:=rfl
theorem B6 (a b:D)(f):k2 [a,b] f=f a b:=rfl
theorem vS (c:Nat)(f):kN (some c) f=f c:=rfl
theorem Dn (μ:Mu)(a:Addr)(ds:List D)(f):kL (up μ a (.lst ds)) a f=f ds:=by unfold kL;rw[aI]
theorem Ui {μ:Mu}{a:Addr}{ds:List D}(h:μ a=some (.lst ds))(f):kL μ a f=f ds:=by unfold kL;rw[h]
theorem qR (a:Addr)(n:Int)(y:D)(μ:Mu)(f):Uz (.obj a) (.int n) y μ f=kL μ a λds=>kN (L2.ixN ds.length n) λj=>f (up μ a (.lst (ds.set j y))):=rfl
theorem B3 (i j:Int)(μ Q):kn (.int i) (.int j) μ Q=Q (.int (i - j)) μ:=rfl
theorem Am (i j:Int)(μ Q):eK (.int i) (.int j) μ Q=(MulOk i j/\Q (.int (i*j)) μ):=rfl
theorem BX (i j:Int)(μ Q):ni (.int i) (.int j) μ Q=(jO j/\Q (.int (i.fdiv j)) μ):=rfl
theorem BZ (i j:Int)(μ Q):lX (.int i) (.int j) μ Q=(j≠0/\Q (.int (i.fmod j)) μ):=rfl
theorem A7 (i j:Int)(μ Q):E7 (.int i) (.int j) μ Q=(nH i j/\Q (.int (i ^ j.toNat)) μ):=rfl
theorem Bu (i:Int)(μ Q):NK (.int i) μ Q=Q (.int (-i)) μ:=rfl
theorem KL (i j:Int)(μ Q):rLt (.int i) (.int j) μ Q=Q (.bl (decide (i < j))) μ:=rfl
theorem Hr (i j:Int)(μ Q):rLe (.int i) (.int j) μ Q=Q (.bl (decide (i<=j))) μ:=rfl
theorem GQ (i j:Int)(μ Q):rGt (.int i) (.int j) μ Q=Q (.bl (decide (j < i))) μ:=rfl
theorem HI (i j:Int)(μ Q):rGe (.int i) (.int j) μ Q=Q (.bl (decide (j<=i))) μ:=rfl
theorem GS (x y:D)(μ Q):L3.rEq x y μ Q=((okD 40 x=true/\okD 40 y=true)/\Q (.bl (eqD x y)) μ):=rfl
theorem IX (x y:D)(μ Q):L3.rNe x y μ Q=((okD 40 x=true/\okD 40 y=true)/\Q (.bl (!eqD x y)) μ):=rfl
theorem rJ (ds:List D)(i:Int)(μ Q):L3.rIx (.tup ds) (.int i) μ Q=kO (atD ds i) λd=>Q d μ:=rfl
theorem CJ (ds:List D)(i:Int)(μ Q):L3.rIx (.ls ds) (.int i) μ Q=kO (atD ds i) λd=>Q d μ:=rfl
theorem KP (a:Addr)(i:Int)(μ Q):L3.rIx (.obj a) (.int i) μ Q=kL μ a λds=>kO (atD ds i) λd=>Q d μ:=rfl
theorem Ci (c:String)(i:Int)(μ Q):eX c (.int i) μ Q=Q (.bl (eM "int" c)) μ:=rfl
theorem AX (c:String)(i:Bool)(μ Q):eX c (.bl i) μ Q=Q (.bl (eM "bool" c)) μ:=rfl
theorem AD (c:String)(i:List D)(μ Q):eX c (.tup i) μ Q=Q (.bl (eM "tuple" c)) μ:=rfl
theorem Cc (i:Int)(μ Q):yO [.int i] μ Q=Q (.int (if i < 0 then -i else i)) μ:=rfl
theorem B8 (i j:Int)(μ Q):qN [.int i,.int j] μ Q=Q (.int (if j > i then j else i)) μ:=rfl
theorem Ck (i j:Int)(μ Q):uE [.int i,.int j] μ Q=Q (.int (if j < i then j else i)) μ:=rfl
theorem AN (i:Int)(μ Q):Cy [.int i] μ Q=Q (.int i) μ:=rfl
theorem AO (i:Bool)(μ Q):Cy [.bl i] μ Q=Q (.int (if i then 1 else 0)) μ:=rfl
theorem BA (i:List D)(μ Q):c8 [.tup i] μ Q=Q (.int i.length) μ:=rfl
theorem Cg (i:List D)(μ Q):c8 [.ls i] μ Q=Q (.int i.length) μ:=rfl
local macro_rules | `(tactic| walk_at "rd")=>zzS "L3.ah L3.TC L3.aj L3.TUn L3.iE L3.IJ L3.qc L3.TB L3.sQ L3.TOr L3.Bm L3.ly L3.Bz L3.ao L3.af L3.a7 L3.fB L3.kr L3.au L3.ba L3.aA L3.Bi L3.Kj L3.eU L3.aV L3.KA L3.bL L3.ay L3.aO L3.ri L3.Co L3.eG L3.fM L3.cN L3.HY L3.Jw L3.KI L3.Hl L3.Gf L3.Av L3.pK L3.BS L3.Ig L3.B6 L3.vS L3.Dn L3.qR L3.wM L3.vO L3.vY L3.u6 L3.kx L3.iP L3.wj L3.sf L3.qz L3.rC L3.rY L3.rn L3.qd L3.qV L3.sT L3.pT L3.TSl L3.ONo L3.gj L3.HF L3.Ky L3.JJ L3.Gq L3.HQ L3.JH L3.BD L3.Au L3.Gi L3.HW L3.GZ L3.sv L3.qD L3.qo L3.B9 L3.AH L3.Cs L3.B3 L3.Am L3.BX L3.BZ L3.A7 L3.Bu L3.KL L3.Hr L3.GQ L3.HI L3.GS L3.IX L3.rJ L3.CJ L3.KP L3.Ci L3.AX L3.AD L3.Cc L3.B8 L3.Ck L3.AN L3.AO L3.BA L3.Cg L3.lk L3.ini zdK Yy YI zei ze9 zbZ zaa zdL zdc zdd L3.xF L3.z9 L3.DO L3.Dg L3.DD L3.C5 zao zap L3.aI zdM zb0 if_true if_false true_and and_true zde zcM zcN zb1 zaU zcs decide_eq_true_eq zag ite_false ite_true ne_eq not_false_eq_true zct zdf zdg zdh zdi zdj zdN L3.okD L3.c6 L3.eqD L3.oH zdk zdl zdm L3.fN L3.f6 L3.fI L3.fH L3.fO L3.fP L3.fX"
local macro_rules | `(tactic| walk_at "ok")=>`(tactic| (simp only[L3.jO,L3.MulOk,L3.S64,L3.gw,L3.nH] at *;omega))
def Box (μ:Mu)(b:Addr):Prop:=∃ g s c:Int,μ b=some (.lst [.int g,.int s,.int c])/\0<=s/\s < 2147483647
structure pY (b:Addr) (μ μ':Mu):Prop where
 box:Box μ' b
 oth:∀ a,a≠b->μ' a=μ a
theorem pY.trans {b:Addr}{μ μ1 μ2:Mu}(x:pY b μ μ1)(y:pY b μ1 μ2):pY b μ μ2:=⟨y.box,λa h=>(y.oth a h).trans (x.oth a h)⟩
theorem y6 (x y:Int):XM y (x.fmod y)=XM x y:=by
 rw[Int.fmod_def,Int.gcd_sub_mul_left_right,zck]
theorem Ia (a:Int):(if a < 0 then -a else a)=(a.natAbs:Int):=by
 split<;>omega
def mz (i:Nat):ST->Mu->Nat:=λρ _=>match lk ρ i with
 | some (.int z)=>z.toNat
 | _=>0
structure Fr (p q:Int):Prop where
 q0:0 < q
 q1:q < 100000000000
 p0:-100000000000 < p
 p1:p < 100000000000
 g:XM p q=1
theorem jt {a b:Int}(h:0 < b):a.fdiv b=a / b:=Int.fdiv_eq_ediv_of_nonneg a (zcl h)
theorem Jo {ns:List Int}{k:Int}(h0:0<=k)(h1:k < (ns.length:Int)):∃ z,atD (ns.map D.int) k=some (.int z):=by
 rcases zaq h0 with ⟨j,rfl⟩
 rw[b5]
 have hj:j < ns.length:=by omega
 exact ⟨ns[j],by simp[hj]⟩
theorem kZ {lo:Int}{n:Nat}{d:D}(h:d∈bX lo n):∃ k:Int,d=.int k/\lo<=k/\k < lo+n:=by
 unfold bX at h
 rcases Xd.mp h with ⟨i,hi,rfl⟩
 have:=Zr.mp hi
 exact ⟨_,rfl,by omega,by omega⟩
def ip:FSp:=λds μ Q=>kcL ds λxs ds=>kcN ds ((∃ ns:List Int,xs=ns.map .int/\ns.length<=63)/\∀ μ',Q (.bl true) μ')
theorem uZ:∀ ds μ Q,ip ds μ Q->ds.length=1:=λ_ _ _ h=>lcL h λ_ _ h=>by rw[(ecN h).1];rfl
theorem nq (ns:List Int)(h:ns.length<=63)(μ:Mu):ip [.ls (ns.map .int)] μ (λd _=>d=.bl true):=⟨⟨ns,rfl,h⟩,λ_=>rfl⟩
local macro_rules | `(tactic| walk_at "rd")=>zzS "L3.ah L3.TC L3.aj L3.TUn L3.iE L3.IJ L3.qc L3.TB L3.sQ L3.TOr L3.Bm L3.ly L3.Bz L3.ao L3.af L3.a7 L3.fB L3.kr L3.au L3.ba L3.aA L3.Bi L3.Kj L3.eU L3.aV L3.KA L3.bL L3.ay L3.aO L3.ri L3.Co L3.eG L3.fM L3.cN L3.bK L3.fF L3.eZ L3.dF L3.Ve L3.ILs L3.HY L3.Jw L3.KI L3.Hl L3.Gf L3.Av L3.pK L3.BS L3.Ig L3.B6 L3.vS L3.Dn L3.qR L3.wM L3.vO L3.vY L3.u6 L3.kx L3.iP L3.wj L3.sf L3.qz L3.rC L3.rY L3.rn L3.qd L3.qV L3.sT L3.pT L3.TSl L3.ONo L3.gj L3.HF L3.Ky L3.JJ L3.Gq L3.HQ L3.JH L3.BD L3.Au L3.Gi L3.HW L3.GZ L3.sv L3.qD L3.qo L3.B9 L3.AH L3.Cs L3.B3 L3.Am L3.BX L3.BZ L3.A7 L3.Bu L3.KL L3.Hr L3.GQ L3.HI L3.GS L3.IX L3.rJ L3.CJ L3.KP L3.Ci L3.AX L3.AD L3.Cc L3.B8 L3.Ck L3.AN L3.AO L3.BA L3.Cg L3.lk L3.ini zdK Yy YI zei ze9 zbZ zaa zdL zdc zdd L3.xF L3.z9 L3.DO L3.Dg L3.DD L3.C5 zao zap L3.aI L3.iA zdM zb0 if_true if_false true_and and_true zde zcM zcN zb1 zaU zcs decide_eq_true_eq zag ite_false ite_true ne_eq not_false_eq_true zct zdf zdg zdh zdi zdj zdN L3.okD L3.c6 L3.eqD L3.oH zdk zdl zdm L3.fN L3.f6 L3.fI L3.fH L3.fO L3.fP L3.fX"
structure IsPart (a b p q:Int):Prop where
 q0:0 < q
 g:XM p q=1
 e:p*b=a*q
 pa:p.natAbs<=a.natAbs
 qb:q.natAbs<=b.natAbs
theorem qT {g c:Int}(hg:0 < g):c.natAbs<=(g*c).natAbs:=by
 rw[zeK]
 exact Nat.le_mul_of_pos_left _ (by omega)
theorem DZ {a b:Int}(hb:b≠0):IsPart a b (a.fdiv (if b < 0 then -(XM a b:Int) else XM a b)) (b.fdiv (if b < 0 then -(XM a b:Int) else XM a b)):=by
 have gp:0 < XM a b:=YZ a hb
 have gz:0 < (XM a b:Int):=by omega
 obtain ⟨c,hc⟩:=zd8 a b
 obtain ⟨d,hd⟩:=zdO a b
 have g1:=zbv gp
 have e1:a / (XM a b:Int)=c:=Y0 (by omega) hc
 have e2:b / (XM a b:Int)=d:=Y0 (by omega) hd
 rw[e1,e2] at g1
 generalize (XM a b:Int)=g at *
 clear e1 e2 gp
 subst hc hd
 have p1:=qT (c:=c) gz
 have p2:=qT (c:=d) gz
 split
 ·rename_i hneg
  have d0:d < 0:=by
   rcases zaA d 0 with h | h | h
   ·exact h
   ·subst h;omega
   ·have:=YH gz h;omega
  have x1:(g*c).fdiv (-g) = -c:=by rw[show g*c = -g * -c by rw[zep]];exact Zn _ (by omega)
  have x2:(g*d).fdiv (-g) = -d:=by rw[show g*d = -g * -d by rw[zep]];exact Zn _ (by omega)
  rw[x1,x2]
  refine ⟨by omega,by rw[Int.neg_gcd,Int.gcd_neg];exact g1,?_,by omega,by omega⟩
  rw[Int.neg_mul,Int.mul_neg,zdP,zeU]
 ·rename_i hneg
  have d0:0 < d:=by
   rcases zaA d 0 with h | h | h
   ·have:=Z3 gz h;omega
   ·subst h;omega
   ·exact h
  have x1:(g*c).fdiv g=c:=Zn _ (by omega)
  have x2:(g*d).fdiv g=d:=Zn _ (by omega)
  rw[x1,x2]
  refine ⟨d0,g1,?_,by omega,by omega⟩
  rw[zdP,zeU]
theorem Nk {p q p' q':Int}(q0:0 < q)(q0':0 < q')(g:XM p q=1)(g':XM p' q'=1)(e:p*q'=p'*q):p=p'/\q=q':=by
 have h1:q ∣ q':=by
  have:q ∣ p*q':=⟨p',by rw[e,YC]⟩
  have h:=Y1.mpr this
  rw[zck,g] at h
  simpa using h
 have h2:q' ∣ q:=by
  have:q' ∣ p'*q:=⟨p,by rw[← e,YC]⟩
  have h:=Y1.mpr this
  rw[zck,g'] at h
  simpa using h
 have e3:q=q':=Int.dvd_antisymm (by omega) (by omega) h1 h2
 subst e3
 exact ⟨ZS (by omega) e,rfl⟩
theorem IsPart.same {a b p q a' b' p' q':Int}(h:IsPart a b p q)(h':IsPart a' b' p' q')(hb:b≠0)(hb':b'≠0)(e:a*b'=a'*b):p=p'/\q=q':=by
 refine Nk h.q0 h'.q0 h.g h'.g ?_
 have e1:=h.e
 have e2:=h'.e
 have x:(p*q')*(b*b')=(p'*q)*(b*b'):=by
  calc (p*q')*(b*b')=(p*b)*(q'*b'):=by ac_rfl
   _=(a*q)*(q'*b'):=by rw[e1]
   _=(a*b')*(q*q'):=by ac_rfl
   _=(a'*b)*(q*q'):=by rw[e]
   _=(a'*q')*(q*b):=by ac_rfl
   _=(p'*b')*(q*b):=by rw[e2]
   _=(p'*q)*(b*b'):=by ac_rfl
 exact ZS (Int.mul_ne_zero hb hb') x
def fR:FSp:=λds μ Q=>kcI ds λa ds=>kcI ds λb ds=>kcN ds (Q (.int (XM a b)) μ)
theorem tW:∀ ds μ Q,fR ds μ Q->ds.length=2:=λ_ _ _ h=>lcI h λ_ _ h=>lcI h λ_ _ h=>by rw[(ecN h).1];rfl
def nI:STr:=aA (aO (au yO (af (ah 0) (ao))) (ay 2)) (aA (aO (au yO (af (ah 1) (ao))) (ay 3)) (aA (vm (TB (aj rGt (ah 3) (TC (.int 0)))) (aA (aO (aj lX (ah 2) (ah 3)) (ay 4)) (aA (aO (ah 3) (ay 2)) (aO (ah 4) (ay 3))))) (aV (ah 2))))
theorem vW:∀ ds μ Q,fR ds μ Q->nI { nx:=λ_ μ'=>RT Q .non μ',rt:=RT Q } (ini 5 ds) μ:=by
 intro ds μ Q k
 replace k:=ecI k
 obtain ⟨a,ds,rfl,k⟩:=k
 replace k:=ecI k
 obtain ⟨b,ds,rfl,k⟩:=k
 replace k:=ecN k
 obtain ⟨rfl,k⟩:=k
 unfold nI
 walk_at "rd"
 refine ⟨λρ μ'=>μ'=μ/\∃ (x y:Int) (z:Option D),ρ=[some (.int a),some (.int b),some (.int x),some (.int y),z]/\0<=x/\0<=y/\XM x y=XM a b,mz 3,⟨rfl,_,_,_,rfl,?_,?_,?_⟩,?_⟩
 ·split<;>omega
 ·split<;>omega
 ·rw[Ia,Ia];unfold XM;rw[zdt,zdt]
 ·rintro ρ _ ⟨rfl,x,y,z,rfl,x0,y0,e⟩
  walk_at "rd"
  split
  ·rename_i hy
   refine ⟨by omega,⟨_,_,_,rfl,y0,fm0 hy,?_⟩,?_⟩
   ·rw[y6];exact e
   ·have:=fm1 (a:=x) hy
    have:=fm0 (a:=x) hy
    simp only[mz,lk]
    omega
  ·rename_i hy
   have hy0:y=0:=by omega
   subst hy0
   rw[zdu] at e
   have hx:x=(XM a b:Int):=by omega
   subst hx
   exact ⟨_,.refl _,k⟩
def gU:FSp:=λds μ Q=>kcI ds λa ds=>kcI ds λb ds=>kcN ds ((b≠0/\gw b)/\∀ p q,IsPart a b p q->Q (.tup [.int p,.int q]) μ)
theorem IB:∀ ds μ Q,gU ds μ Q->ds.length=2:=λ_ _ _ h=>lcI h λ_ _ h=>lcI h λ_ _ h=>by rw[(ecN h).1];rfl
def FR:STr:=aA (aO (au fR (af (ah 0) (af (ah 1) (ao)))) (ay 2)) (aA (bL (TB (aj rLt (ah 1) (TC (.int 0)))) (aO (TUn NK (ah 2)) (ay 2)) (ba)) (aV (a7 (af (aj ni (ah 0) (ah 2)) (af (aj ni (ah 1) (ah 2)) (ao))))))
theorem Ob:∀ ds μ Q,gU ds μ Q->FR { nx:=λ_ μ'=>RT Q .non μ',rt:=RT Q } (ini 3 ds) μ:=by
 intro ds μ Q h
 replace h:=ecI h
 obtain ⟨a,ds,rfl,h⟩:=h
 replace h:=ecI h
 obtain ⟨b,ds,rfl,h⟩:=h
 replace h:=ecN h
 obtain ⟨rfl,h⟩:=h
 obtain ⟨⟨hb,hm⟩,k⟩:=h
 have P:=k _ _ (DZ (a:=a) hb)
 have gp:0 < XM a b:=YZ a hb
 have gl:XM a b<=b.natAbs:=Int.gcd_le_natAbs_right a hb
 unfold FR
 walk_at "rd"
 show (if b < 0 then _ else _)
 split
 ·rename_i hn
  rw[if_pos hn] at P
  have dv:jO (-(XM a b:Int)):=by walk_at "ok"
  exact ⟨dv,dv,_,.refl _,P⟩
 ·rename_i hn
  rw[if_neg hn] at P
  have dv:jO (XM a b:Int):=by walk_at "ok"
  exact ⟨dv,dv,_,.refl _,P⟩
structure FrB (lo hi p q:Int):Prop where
 q0:0 < q
 q1:q<=10000002
 g:XM p q=1
 ge:lo*q<=p
 le:p<=hi*q
structure FrA (lo hi p q:Int):Prop extends FrB lo hi p q where
 ab:lo*q < p
structure FrL (hi p q:Int):Prop extends FrB 0 hi p q where
 ab:0 < p
 be:p < hi*q
theorem j8 {a b:Int}(b0:0 < b):∃ g p q:Int,0 < g/\a=g*p/\b=g*q/\a.fdiv (XM a b)=p/\b.fdiv (XM a b)=q/\0 < q/\q<=b/\XM p q=1:=by
 have gp:0 < XM a b:=YZ a (by omega)
 have gz:0 < (XM a b:Int):=by omega
 obtain ⟨c,hc⟩:=zd8 a b
 obtain ⟨d,hd⟩:=zdO a b
 have g1:=zbv gp
 have e1:a / (XM a b:Int)=c:=Y0 (by omega) hc
 have e2:b / (XM a b:Int)=d:=Y0 (by omega) hd
 rw[e1,e2] at g1
 refine ⟨_,c,d,gz,hc,hd,by rw[jt gz];exact e1,by rw[jt gz];exact e2,?_,?_,g1⟩
 all_goals generalize (XM a b:Int)=g at *
 ·rcases zaA d 0 with h | h | h
  ·have:=Z3 gz h;omega
  ·subst h;omega
  ·exact h
 ·have d0:0 < d:=by
   rcases zaA d 0 with h | h | h
   ·have:=Z3 gz h;omega
   ·subst h;omega
   ·exact h
  have h:=Xz (show (1:Int)<=g by omega) (show (0:Int)<=d by omega)
  omega
theorem Ib {lo hi a b:Int}(b0:0 < b)(b1:b<=10000002)(h1:lo*b<=a)(h2:a<=hi*b):FrB lo hi (a.fdiv (XM a b)) (b.fdiv (XM a b)):=by
 obtain ⟨g,p,q,g0,ea,eb,ep,eq,q0,qb,gg⟩:=j8 (a:=a) b0
 rw[ep,eq]
 subst ea
 have e1:lo*b=g*(lo*q):=by rw[eb];ac_rfl
 have e2:hi*b=g*(hi*q):=by rw[eb];ac_rfl
 exact ⟨q0,by omega,gg,zbw (by rw[← e1];exact h1) g0,zbw (by rw[← e2];exact h2) g0⟩
theorem JN {lo hi a b:Int}(b0:0 < b)(b1:b<=10000002)(h1:lo*b < a)(h2:a<=hi*b):FrA lo hi (a.fdiv (XM a b)) (b.fdiv (XM a b)):=by
 refine ⟨Ib b0 b1 (by omega) h2,?_⟩
 obtain ⟨g,p,q,g0,ea,eb,ep,eq,q0,qb,gg⟩:=j8 (a:=a) b0
 rw[ep,eq]
 have e1:lo*b=g*(lo*q):=by rw[eb];ac_rfl
 exact Z4 (by rw[← e1,← ea];exact h1) (by omega)
theorem TJ {hi a b:Int}(b0:0 < b)(b1:b<=10000002)(h1:0 < a)(h2:a < hi*b):FrL hi (a.fdiv (XM a b)) (b.fdiv (XM a b)):=by
 refine ⟨Ib b0 b1 (by omega) (by omega),?_,?_⟩
 all_goals
  obtain ⟨g,p,q,g0,ea,eb,ep,eq,q0,qb,gg⟩:=j8 (a:=a) b0
 ·rw[ep]
  exact Z4 (a:=g) (by rw[← ea];simpa using h1) (by omega)
 ·rw[ep,eq]
  have e1:hi*b=g*(hi*q):=by rw[eb];ac_rfl
  exact Z4 (by rw[← e1,← ea];exact h2) (by omega)
theorem dH:(OF "still" = OF "step")=False:=eq_false (by decide +kernel)
theorem di:(OF "still" = OF "swell")=False:=eq_false (by decide +kernel)
theorem dO:(OF "still" = OF "heed")=False:=eq_false (by decide +kernel)
theorem dI:(OF "still" = OF "calm")=False:=eq_false (by decide +kernel)
theorem dW:(OF "step" = OF "still")=False:=eq_false (by decide +kernel)
theorem dR:(OF "step" = OF "swell")=False:=eq_false (by decide +kernel)
theorem eI:(OF "step" = OF "heed")=False:=eq_false (by decide +kernel)
theorem eQ:(OF "step" = OF "calm")=False:=eq_false (by decide +kernel)
theorem c9:(OF "swell" = OF "still")=False:=eq_false (by decide +kernel)
theorem dS:(OF "swell" = OF "step")=False:=eq_false (by decide +kernel)
theorem dQ:(OF "swell" = OF "heed")=False:=eq_false (by decide +kernel)
theorem dJ:(OF "swell" = OF "calm")=False:=eq_false (by decide +kernel)
theorem dU:(OF "heed" = OF "still")=False:=eq_false (by decide +kernel)
theorem eV:(OF "heed" = OF "step")=False:=eq_false (by decide +kernel)
theorem dY:(OF "heed" = OF "swell")=False:=eq_false (by decide +kernel)
theorem eR:(OF "heed" = OF "calm")=False:=eq_false (by decide +kernel)
theorem dN:(OF "calm" = OF "still")=False:=eq_false (by decide +kernel)
theorem eJ:(OF "calm" = OF "step")=False:=eq_false (by decide +kernel)
theorem dX:(OF "calm" = OF "swell")=False:=eq_false (by decide +kernel)
theorem eT:(OF "calm" = OF "heed")=False:=eq_false (by decide +kernel)
theorem nc:Xk (OF "still")=true:=by decide +kernel
theorem qJ:Xk (OF "step")=true:=by decide +kernel
theorem mM:Xk (OF "swell")=true:=by decide +kernel
theorem pZ:Xk (OF "heed")=true:=by decide +kernel
theorem rT:Xk (OF "calm")=true:=by decide +kernel
abbrev fr (p q:Int):D:=.tup [.int p,.int q]
theorem cq (i:Decidable (OF "still" = OF "step")):@decide (OF "still" = OF "step") i=false:=by cases i with | isTrue h=>exact absurd h (by rw[dH];exact not_false) | isFalse _=>rfl
theorem bY (i:Decidable (OF "still" = OF "swell")):@decide (OF "still" = OF "swell") i=false:=by cases i with | isTrue h=>exact absurd h (by rw[di];exact not_false) | isFalse _=>rfl
theorem cw (i:Decidable (OF "still" = OF "heed")):@decide (OF "still" = OF "heed") i=false:=by cases i with | isTrue h=>exact absurd h (by rw[dO];exact not_false) | isFalse _=>rfl
theorem cy (i:Decidable (OF "still" = OF "calm")):@decide (OF "still" = OF "calm") i=false:=by cases i with | isTrue h=>exact absurd h (by rw[dI];exact not_false) | isFalse _=>rfl
theorem cv (i:Decidable (OF "step" = OF "still")):@decide (OF "step" = OF "still") i=false:=by cases i with | isTrue h=>exact absurd h (by rw[dW];exact not_false) | isFalse _=>rfl
theorem cz (i:Decidable (OF "step" = OF "swell")):@decide (OF "step" = OF "swell") i=false:=by cases i with | isTrue h=>exact absurd h (by rw[dR];exact not_false) | isFalse _=>rfl
theorem cW (i:Decidable (OF "step" = OF "heed")):@decide (OF "step" = OF "heed") i=false:=by cases i with | isTrue h=>exact absurd h (by rw[eI];exact not_false) | isFalse _=>rfl
theorem cR (i:Decidable (OF "step" = OF "calm")):@decide (OF "step" = OF "calm") i=false:=by cases i with | isTrue h=>exact absurd h (by rw[eQ];exact not_false) | isFalse _=>rfl
theorem bZ (i:Decidable (OF "swell" = OF "still")):@decide (OF "swell" = OF "still") i=false:=by cases i with | isTrue h=>exact absurd h (by rw[c9];exact not_false) | isFalse _=>rfl
theorem cp (i:Decidable (OF "swell" = OF "step")):@decide (OF "swell" = OF "step") i=false:=by cases i with | isTrue h=>exact absurd h (by rw[dS];exact not_false) | isFalse _=>rfl
theorem cA (i:Decidable (OF "swell" = OF "heed")):@decide (OF "swell" = OF "heed") i=false:=by cases i with | isTrue h=>exact absurd h (by rw[dQ];exact not_false) | isFalse _=>rfl
theorem cB (i:Decidable (OF "swell" = OF "calm")):@decide (OF "swell" = OF "calm") i=false:=by cases i with | isTrue h=>exact absurd h (by rw[dJ];exact not_false) | isFalse _=>rfl
theorem cu (i:Decidable (OF "heed" = OF "still")):@decide (OF "heed" = OF "still") i=false:=by cases i with | isTrue h=>exact absurd h (by rw[dU];exact not_false) | isFalse _=>rfl
theorem cT (i:Decidable (OF "heed" = OF "step")):@decide (OF "heed" = OF "step") i=false:=by cases i with | isTrue h=>exact absurd h (by rw[eV];exact not_false) | isFalse _=>rfl
theorem cE (i:Decidable (OF "heed" = OF "swell")):@decide (OF "heed" = OF "swell") i=false:=by cases i with | isTrue h=>exact absurd h (by rw[dY];exact not_false) | isFalse _=>rfl
theorem cV (i:Decidable (OF "heed" = OF "calm")):@decide (OF "heed" = OF "calm") i=false:=by cases i with | isTrue h=>exact absurd h (by rw[eR];exact not_false) | isFalse _=>rfl
theorem ck (i:Decidable (OF "calm" = OF "still")):@decide (OF "calm" = OF "still") i=false:=by cases i with | isTrue h=>exact absurd h (by rw[dN];exact not_false) | isFalse _=>rfl
theorem cQ (i:Decidable (OF "calm" = OF "step")):@decide (OF "calm" = OF "step") i=false:=by cases i with | isTrue h=>exact absurd h (by rw[eJ];exact not_false) | isFalse _=>rfl
theorem cC (i:Decidable (OF "calm" = OF "swell")):@decide (OF "calm" = OF "swell") i=false:=by cases i with | isTrue h=>exact absurd h (by rw[dX];exact not_false) | isFalse _=>rfl
theorem cU (i:Decidable (OF "calm" = OF "heed")):@decide (OF "calm" = OF "heed") i=false:=by cases i with | isTrue h=>exact absurd h (by rw[eT];exact not_false) | isFalse _=>rfl
theorem iS (a:Str)(i:Decidable (a=a)):@decide (a=a) i=true:=by cases i with | isTrue _=>rfl | isFalse h=>exact absurd rfl h
def kLs (x:D)(f:List D->Prop):Prop:=match x with
 | .ls ds=>f ds
 | _=>False
def ie (sp:FSp)(ds:List D)(μ:Mu)(Q:DK):Prop:=sp ds μ Q
def LEN (ds:List D)(P:Prop):Prop:=ds.length<=1000000/\P
theorem Qi (d:D)(r:ST)(μ:Mu)(Q:DK):ah 0 (some d::r) μ Q=Q d μ:=propext Xc
theorem MK (x0:Option D)(r:ST)(d:D)(μ:Mu)(k:ST->Mu->Prop):ay 0 d (x0::r) μ k=k (some d::r) μ:=propext Xc
theorem Pf (x0:Option D)(d:D)(r:ST)(μ:Mu)(Q:DK):ah 1 (x0::some d::r) μ Q=Q d μ:=propext Xc
theorem NF (x0 x1:Option D)(r:ST)(d:D)(μ:Mu)(k:ST->Mu->Prop):ay 1 d (x0::x1::r) μ k=k (x0::some d::r) μ:=propext Xc
theorem Rt (x0 x1:Option D)(d:D)(r:ST)(μ:Mu)(Q:DK):ah 2 (x0::x1::some d::r) μ Q=Q d μ:=propext Xc
theorem Mb (x0 x1 x2:Option D)(r:ST)(d:D)(μ:Mu)(k:ST->Mu->Prop):ay 2 d (x0::x1::x2::r) μ k=k (x0::x1::some d::r) μ:=propext Xc
theorem SE (x0 x1 x2:Option D)(d:D)(r:ST)(μ:Mu)(Q:DK):ah 3 (x0::x1::x2::some d::r) μ Q=Q d μ:=propext Xc
theorem Np (x0 x1 x2 x3:Option D)(r:ST)(d:D)(μ:Mu)(k:ST->Mu->Prop):ay 3 d (x0::x1::x2::x3::r) μ k=k (x0::x1::x2::some d::r) μ:=propext Xc
theorem SF (x0 x1 x2 x3:Option D)(d:D)(r:ST)(μ:Mu)(Q:DK):ah 4 (x0::x1::x2::x3::some d::r) μ Q=Q d μ:=propext Xc
theorem Ly (x0 x1 x2 x3 x4:Option D)(r:ST)(d:D)(μ:Mu)(k:ST->Mu->Prop):ay 4 d (x0::x1::x2::x3::x4::r) μ k=k (x0::x1::x2::x3::some d::r) μ:=propext Xc
theorem QO (x0 x1 x2 x3 x4:Option D)(d:D)(r:ST)(μ:Mu)(Q:DK):ah 5 (x0::x1::x2::x3::x4::some d::r) μ Q=Q d μ:=propext Xc
theorem MC (x0 x1 x2 x3 x4 x5:Option D)(r:ST)(d:D)(μ:Mu)(k:ST->Mu->Prop):ay 5 d (x0::x1::x2::x3::x4::x5::r) μ k=k (x0::x1::x2::x3::x4::some d::r) μ:=propext Xc
theorem Qk (x0 x1 x2 x3 x4 x5:Option D)(d:D)(r:ST)(μ:Mu)(Q:DK):ah 6 (x0::x1::x2::x3::x4::x5::some d::r) μ Q=Q d μ:=propext Xc
theorem Mq (x0 x1 x2 x3 x4 x5 x6:Option D)(r:ST)(d:D)(μ:Mu)(k:ST->Mu->Prop):ay 6 d (x0::x1::x2::x3::x4::x5::x6::r) μ k=k (x0::x1::x2::x3::x4::x5::some d::r) μ:=propext Xc
theorem Sj (x0 x1 x2 x3 x4 x5 x6:Option D)(d:D)(r:ST)(μ:Mu)(Q:DK):ah 7 (x0::x1::x2::x3::x4::x5::x6::some d::r) μ Q=Q d μ:=propext Xc
theorem NO (x0 x1 x2 x3 x4 x5 x6 x7:Option D)(r:ST)(d:D)(μ:Mu)(k:ST->Mu->Prop):ay 7 d (x0::x1::x2::x3::x4::x5::x6::x7::r) μ k=k (x0::x1::x2::x3::x4::x5::x6::some d::r) μ:=propext Xc
theorem Rp (x0 x1 x2 x3 x4 x5 x6 x7:Option D)(d:D)(r:ST)(μ:Mu)(Q:DK):ah 8 (x0::x1::x2::x3::x4::x5::x6::x7::some d::r) μ Q=Q d μ:=propext Xc
theorem Lm (x0 x1 x2 x3 x4 x5 x6 x7 x8:Option D)(r:ST)(d:D)(μ:Mu)(k:ST->Mu->Prop):ay 8 d (x0::x1::x2::x3::x4::x5::x6::x7::x8::r) μ k=k (x0::x1::x2::x3::x4::x5::x6::x7::some d::r) μ:=propext Xc
theorem Qf (x0 x1 x2 x3 x4 x5 x6 x7 x8:Option D)(d:D)(r:ST)(μ:Mu)(Q:DK):ah 9 (x0::x1::x2::x3::x4::x5::x6::x7::x8::some d::r) μ Q=Q d μ:=propext Xc
theorem NI (x0 x1 x2 x3 x4 x5 x6 x7 x8 x9:Option D)(r:ST)(d:D)(μ:Mu)(k:ST->Mu->Prop):ay 9 d (x0::x1::x2::x3::x4::x5::x6::x7::x8::x9::r) μ k=k (x0::x1::x2::x3::x4::x5::x6::x7::x8::some d::r) μ:=propext Xc
theorem LZ (x0 x1 x2 x3 x4 x5 x6 x7 x8 x9:Option D)(d:D)(r:ST)(μ:Mu)(Q:DK):ah 10 (x0::x1::x2::x3::x4::x5::x6::x7::x8::x9::some d::r) μ Q=Q d μ:=propext Xc
theorem HS (x0 x1 x2 x3 x4 x5 x6 x7 x8 x9 x10:Option D)(r:ST)(d:D)(μ:Mu)(k:ST->Mu->Prop):ay 10 d (x0::x1::x2::x3::x4::x5::x6::x7::x8::x9::x10::r) μ k=k (x0::x1::x2::x3::x4::x5::x6::x7::x8::x9::some d::r) μ:=propext Xc
theorem Lv (x0 x1 x2 x3 x4 x5 x6 x7 x8 x9 x10:Option D)(d:D)(r:ST)(μ:Mu)(Q:DK):ah 11 (x0::x1::x2::x3::x4::x5::x6::x7::x8::x9::x10::some d::r) μ Q=Q d μ:=propext Xc
theorem JC (x0 x1 x2 x3 x4 x5 x6 x7 x8 x9 x10 x11:Option D)(r:ST)(d:D)(μ:Mu)(k:ST->Mu->Prop):ay 11 d (x0::x1::x2::x3::x4::x5::x6::x7::x8::x9::x10::x11::r) μ k=k (x0::x1::x2::x3::x4::x5::x6::x7::x8::x9::x10::some d::r) μ:=propext Xc
theorem MG (x0 x1 x2 x3 x4 x5 x6 x7 x8 x9 x10 x11:Option D)(d:D)(r:ST)(μ:Mu)(Q:DK):ah 12 (x0::x1::x2::x3::x4::x5::x6::x7::x8::x9::x10::x11::some d::r) μ Q=Q d μ:=propext Xc
theorem Gj (x0 x1 x2 x3 x4 x5 x6 x7 x8 x9 x10 x11 x12:Option D)(r:ST)(d:D)(μ:Mu)(k:ST->Mu->Prop):ay 12 d (x0::x1::x2::x3::x4::x5::x6::x7::x8::x9::x10::x11::x12::r) μ k=k (x0::x1::x2::x3::x4::x5::x6::x7::x8::x9::x10::x11::some d::r) μ:=propext Xc
theorem Gg (x0 x1 x2 x3 x4 x5 x6 x7 x8 x9 x10 x11 x12 x13:Option D)(r:ST)(d:D)(μ:Mu)(k:ST->Mu->Prop):ay 13 d (x0::x1::x2::x3::x4::x5::x6::x7::x8::x9::x10::x11::x12::x13::r) μ k=k (x0::x1::x2::x3::x4::x5::x6::x7::x8::x9::x10::x11::x12::some d::r) μ:=propext Xc
theorem NY (x0 x1 x2 x3 x4 x5 x6 x7 x8 x9 x10 x11 x12 x13:Option D)(d:D)(r:ST)(μ:Mu)(Q:DK):ah 14 (x0::x1::x2::x3::x4::x5::x6::x7::x8::x9::x10::x11::x12::x13::some d::r) μ Q=Q d μ:=propext Xc
theorem Jv (x0 x1 x2 x3 x4 x5 x6 x7 x8 x9 x10 x11 x12 x13 x14:Option D)(r:ST)(d:D)(μ:Mu)(k:ST->Mu->Prop):ay 14 d (x0::x1::x2::x3::x4::x5::x6::x7::x8::x9::x10::x11::x12::x13::x14::r) μ k=k (x0::x1::x2::x3::x4::x5::x6::x7::x8::x9::x10::x11::x12::x13::some d::r) μ:=propext Xc
theorem K4 (x0 x1 x2 x3 x4 x5 x6 x7 x8 x9 x10 x11 x12 x13 x14:Option D)(d:D)(r:ST)(μ:Mu)(Q:DK):ah 15 (x0::x1::x2::x3::x4::x5::x6::x7::x8::x9::x10::x11::x12::x13::x14::some d::r) μ Q=Q d μ:=propext Xc
theorem GY (x0 x1 x2 x3 x4 x5 x6 x7 x8 x9 x10 x11 x12 x13 x14 x15:Option D)(r:ST)(d:D)(μ:Mu)(k:ST->Mu->Prop):ay 15 d (x0::x1::x2::x3::x4::x5::x6::x7::x8::x9::x10::x11::x12::x13::x14::x15::r) μ k=k (x0::x1::x2::x3::x4::x5::x6::x7::x8::x9::x10::x11::x12::x13::x14::some d::r) μ:=propext Xc
theorem Ww (d:D)(ρ:ST)(μ:Mu)(Q:DK):TC d ρ μ Q=Q d μ:=propext Xc
theorem Qe (r:DR2)(a b:ETr)(ρ:ST)(μ:Mu)(Q:DK):aj r a b ρ μ Q=a ρ μ λx μ1=>b ρ μ1 λy μ2=>r x y μ2 Q:=propext Xc
theorem S2 (r:DR)(a:ETr)(ρ:ST)(μ:Mu)(Q:DK):TUn r a ρ μ Q=a ρ μ λx μ1=>r x μ1 Q:=propext Xc
theorem LU (a b:ETr)(ρ:ST)(μ:Mu)(Q:DK):iE a b ρ μ Q=a ρ μ λx μ1=>kB x λc=>kIf c (b ρ μ1 Q) (Q (.bl false) μ1):=propext Xc
theorem MM (a:ETr)(ρ:ST)(μ:Mu)(Q:DK):qc a ρ μ Q=a ρ μ λx μ1=>kB x λc=>Q (.bl (!c)) μ1:=propext Xc
theorem Wq (t:ETr)(ρ:ST)(μ:Mu)(Q:Bool->Mu->Prop):TB t ρ μ Q=t ρ μ λx μ1=>kB x λc=>Q c μ1:=propext Xc
theorem QF (t u:TTr)(ρ:ST)(μ:Mu)(Q:Bool->Mu->Prop):sQ t u ρ μ Q=t ρ μ λc μ1=>kIf c (u ρ μ1 Q) (Q false μ1):=propext Xc
theorem U7 (t u:TTr)(ρ:ST)(μ:Mu)(Q:Bool->Mu->Prop):TOr t u ρ μ Q=t ρ μ λc μ1=>kIf c (Q true μ1) (u ρ μ1 Q):=propext Xc
theorem Q7 (t:TTr)(ρ:ST)(μ:Mu)(Q:Bool->Mu->Prop):Bm t ρ μ Q=t ρ μ λc μ1=>Q (!c) μ1:=propext Xc
theorem Sb (c:TTr)(a b:ETr)(ρ:ST)(μ:Mu)(Q:DK):ly c a b ρ μ Q=c ρ μ λk μ1=>kIf k (a ρ μ1 Q) (b ρ μ1 Q):=propext Xc
theorem Pj (ρ:ST)(μ:Mu)(Q:List D->Mu->Prop):ao ρ μ Q=Q [] μ:=propext Xc
theorem M5 (a:ETr)(r:ATr)(ρ:ST)(μ:Mu)(Q:List D->Mu->Prop):af a r ρ μ Q=a ρ μ λx μ1=>r ρ μ1 λxs μ2=>Q (x::xs) μ2:=propext Xc
theorem PQ (t:ATr)(ρ:ST)(μ:Mu)(Q:DK):a7 t ρ μ Q=t ρ μ λds μ1=>LEN ds (Q (.tup ds) μ1):=propext Xc
theorem Qa (t:ATr)(ρ:ST)(μ:Mu)(Q:DK):fB t ρ μ Q=t ρ μ λds μ1=>LEN ds (Q (.ls ds) μ1):=propext Xc
theorem Pb (t:ATr)(ρ:ST)(μ:Mu)(Q:DK):kr t ρ μ Q=t ρ μ λds μ1=>LEN ds (∀ p,μ1 p=none->Q (.obj p) (up μ1 p (.lst ds))):=propext Xc
theorem MQ (sp:FSp)(t:ATr)(ρ:ST)(μ:Mu)(Q:DK):au sp t ρ μ Q=t ρ μ λds μ1=>ie sp ds μ1 Q:=propext Xc
theorem Mx (nx:ST->Mu->Prop)(rt:DK)(bk ct:ST->Mu->Prop)(ρ:ST)(μ:Mu):ba ⟨nx,rt,bk,ct⟩ ρ μ=nx ρ μ:=propext Xc
theorem SU (t u:STr)(nx:ST->Mu->Prop)(rt:DK)(bk ct:ST->Mu->Prop)(ρ:ST)(μ:Mu):aA t u ⟨nx,rt,bk,ct⟩ ρ μ=t ⟨u ⟨nx,rt,bk,ct⟩,rt,bk,ct⟩ ρ μ:=propext Xc
theorem Ml (e:ETr)(nx:ST->Mu->Prop)(rt:DK)(bk ct:ST->Mu->Prop)(ρ:ST)(μ:Mu):eU e ⟨nx,rt,bk,ct⟩ ρ μ=e ρ μ λ_ μ1=>nx ρ μ1:=propext Xc
theorem O9 (e:ETr)(nx:ST->Mu->Prop)(rt:DK)(bk ct:ST->Mu->Prop)(ρ:ST)(μ:Mu):aV e ⟨nx,rt,bk,ct⟩ ρ μ=e ρ μ rt:=propext Xc
theorem QZ (c:TTr)(t u:STr)(nx:ST->Mu->Prop)(rt:DK)(bk ct:ST->Mu->Prop)(ρ:ST)(μ:Mu):bL c t u ⟨nx,rt,bk,ct⟩ ρ μ=c ρ μ λb μ1=>kIf b (t ⟨nx,rt,bk,ct⟩ ρ μ1) (u ⟨nx,rt,bk,ct⟩ ρ μ1):=propext Xc
theorem QM (e:ETr)(g:GTr)(nx:ST->Mu->Prop)(rt:DK)(bk ct:ST->Mu->Prop)(ρ:ST)(μ:Mu):aO e g ⟨nx,rt,bk,ct⟩ ρ μ=e ρ μ λd μ1=>g d ρ μ1 nx:=propext Xc
theorem Pp (i j:Nat)(a:ATr)(nx:ST->Mu->Prop)(rt:DK)(bk ct:ST->Mu->Prop)(ρ:ST)(μ:Mu):ri i j a ⟨nx,rt,bk,ct⟩ ρ μ=a ρ μ λds μ1=>k2 ds λv w=>ay i v ρ μ1 λρ2 μ2=>ay j w ρ2 μ2 nx:=propext Xc
theorem RK (it:ATr)(g:GTr)(b:STr)(nx:ST->Mu->Prop)(rt:DK)(bk ct:ST->Mu->Prop)(ρ:ST)(μ:Mu):eG it g b ⟨nx,rt,bk,ct⟩ ρ μ=it ρ μ λds μ1=>forR g b ⟨nx,rt,bk,ct⟩ ds ρ μ1:=propext Xc
theorem Fz (a:ETr)(ρ:ST)(μ:Mu)(Q:List D->Mu->Prop):fM a ρ μ Q=a ρ μ λx μ1=>kI x λj=>(-4611686018427387904<=j/\j < 4611686018427387904)/\Q (bX 0 j.toNat) μ1:=propext Xc
theorem ke (a:ETr)(ρ:ST)(μ:Mu)(Q:List D->Mu->Prop):Vh (af a ao) ρ μ Q=a ρ μ λx μ1=>kLs x λds=>Q (gn ds) μ1:=propext (Iff.of_eq (congrArg (a ρ μ) (funext λx=>funext λμ1=>by cases x<;>rfl)))
theorem Fu (a b:ETr)(ρ:ST)(μ:Mu)(Q:List D->Mu->Prop):wO a b ρ μ Q=a ρ μ λx μ1=>b ρ μ1 λy μ2=>kI x λi=>kI y λj=>((-4611686018427387904<=i/\i < 4611686018427387904)/\-4611686018427387904<=j/\j < 4611686018427387904)/\Q (bX i (j - i).toNat) μ2:=propext Xc
theorem Pl (a:ETr)(ρ:ST)(μ:Mu)(Q:DK):wj a ρ μ Q=a ρ μ λx μ1=>kObj x λb=>kL μ1 b λds=>Q (.ls ds) (dn μ1 b):=propext Xc
theorem Qp (To Te:ETr)(ρ:ST)(μ:Mu)(Q:DK):kx To Te ρ μ Q=To ρ μ λx μ1=>kObj x λa=>kL μ1 a λ_=>Te ρ μ1 λy μ2=>kL μ2 a λds=>ds.length < 1000000/\Q .non (up μ2 a (.lst (ds++[y]))):=propext Xc
theorem Tp (a:ETr)(lo hi:OTr)(ρ:ST)(μ:Mu)(Q:DK):TSl a lo hi ρ μ Q=a ρ μ λx μ1=>lo ρ μ1 λl μ2=>hi ρ μ2 λh μ3=>rSl x l h μ3 Q:=propext Xc
theorem UW (ρ:ST)(μ:Mu)(Q:Option Int->Mu->Prop):ONo ρ μ Q=Q none μ:=propext Xc
theorem RR (T:ETr)(ρ:ST)(μ:Mu)(Q:Option Int->Mu->Prop):gj T ρ μ Q=T ρ μ λx μ1=>kI x λi=>Q (some i) μ1:=propext Xc
theorem Rn (i0 i1:Nat)(d0 d1:D)(ρ:ST)(μ:Mu)(k:ST->Mu->Prop):dh [i0,i1] (.tup [d0,d1]) ρ μ k=ay i0 d0 ρ μ λρ1 _=>ay i1 d1 ρ1 μ λρ2 _=>k ρ2 μ:=by simp[dh,jB,ay]
theorem Rk (i0 i1 i2:Nat)(d0 d1 d2:D)(ρ:ST)(μ:Mu)(k:ST->Mu->Prop):dh [i0,i1,i2] (.tup [d0,d1,d2]) ρ μ k=ay i0 d0 ρ μ λρ1 _=>ay i1 d1 ρ1 μ λρ2 _=>ay i2 d2 ρ2 μ λρ3 _=>k ρ3 μ:=by simp[dh,jB,ay]
theorem SY (P:Prop):LEN [] P=P:=by simp[LEN]
theorem Vr (x0:D)(P:Prop):LEN [x0] P=P:=by simp[LEN]
theorem Vo (x0 x1:D)(P:Prop):LEN [x0,x1] P=P:=by simp[LEN]
theorem UU (x0 x1 x2:D)(P:Prop):LEN [x0,x1,x2] P=P:=by simp[LEN]
theorem T4 (x0 x1 x2 x3:D)(P:Prop):LEN [x0,x1,x2,x3] P=P:=by simp[LEN]
theorem Vs (x0 x1 x2 x3 x4:D)(P:Prop):LEN [x0,x1,x2,x3,x4] P=P:=by simp[LEN]
theorem UP (x0 x1 x2 x3 x4 x5:D)(P:Prop):LEN [x0,x1,x2,x3,x4,x5] P=P:=by simp[LEN]
theorem UR (x0 x1 x2 x3 x4 x5 x6 x7:D)(P:Prop):LEN [x0,x1,x2,x3,x4,x5,x6,x7] P=P:=by simp[LEN]
theorem PX (x0 x1 x2 x3 x4 x5 x6 x7 x8 x9 x10:D)(P:Prop):LEN [x0,x1,x2,x3,x4,x5,x6,x7,x8,x9,x10] P=P:=by simp[LEN]
theorem SA (x0:D)(r:List D)(μ:Mu)(Q:DK):L3.rIx (.tup (x0::r)) (.int 0) μ Q=Q x0 μ:=by rw[rJ];exact congrArg (λo=>kO o λd=>Q d μ) (b5 0 _)
theorem PF (x0:D)(r:List D)(μ:Mu)(Q:DK):L3.rIx (.ls (x0::r)) (.int 0) μ Q=Q x0 μ:=by rw[CJ];exact congrArg (λo=>kO o λd=>Q d μ) (b5 0 _)
theorem RH (x0 x1:D)(r:List D)(μ:Mu)(Q:DK):L3.rIx (.tup (x0::x1::r)) (.int 1) μ Q=Q x1 μ:=by rw[rJ];exact congrArg (λo=>kO o λd=>Q d μ) (b5 1 _)
theorem Qs (x0 x1 x2:D)(r:List D)(μ:Mu)(Q:DK):L3.rIx (.tup (x0::x1::x2::r)) (.int 2) μ Q=Q x2 μ:=by rw[rJ];exact congrArg (λo=>kO o λd=>Q d μ) (b5 2 _)
theorem Q5 (x0 x1 x2 x3:D)(r:List D)(μ:Mu)(Q:DK):L3.rIx (.tup (x0::x1::x2::x3::r)) (.int 3) μ Q=Q x3 μ:=by rw[rJ];exact congrArg (λo=>kO o λd=>Q d μ) (b5 3 _)
theorem Qj (i j:Int)(μ:Mu)(Q:DK):L3.rEq (.int i) (.int j) μ Q=Q (.bl (decide (i=j))) μ:=by simp[L3.rEq,okD,eqD]
theorem PV (i j:Str)(μ:Mu)(Q:DK):L3.rEq (.str i) (.str j) μ Q=((Xk i=true/\Xk j=true)/\Q (.bl (decide (i=j))) μ):=by simp[L3.rEq,okD,eqD]
theorem SD (i j:Bool)(μ:Mu)(Q:DK):L3.rNe (.bl i) (.bl j) μ Q=Q (.bl (!(i == j))) μ:=by simp[L3.rNe,okD,eqD]
theorem Q3 (i:Int)(μ:Mu)(Q:DK):ie yO [.int i] μ Q=Q (.int (if i < 0 then -i else i)) μ:=propext Xc
theorem Ro (i j:Int)(μ:Mu)(Q:DK):ie qN [.int i,.int j] μ Q=Q (.int (max i j)) μ:=by show Q (.int (if j > i then j else i)) μ=_;congr 2;omega
theorem O6 (i j:Int)(μ:Mu)(Q:DK):ie uE [.int i,.int j] μ Q=Q (.int (min i j)) μ:=by show Q (.int (if j < i then j else i)) μ=_;congr 2;omega
theorem Q2 (i:Bool)(μ:Mu)(Q:DK):ie Cy [.bl i] μ Q=Q (.int (if i then 1 else 0)) μ:=propext Xc
theorem Gk (a:List D)(μ:Mu)(Q:DK):ie bw [.tup a] μ Q=Q (.tup a) μ:=propext Xc
theorem IH (a:List D)(μ:Mu)(Q:DK):ie bw [.ls a] μ Q=Q (.tup a) μ:=propext Xc
theorem IW (a:Addr)(μ:Mu)(Q:DK):ie bw [.obj a] μ Q=kL μ a λxs=>Q (.tup xs) μ:=propext Xc
theorem Ge (a:List D)(μ:Mu)(Q:DK):ie j2 [.ls a] μ Q=Q (.ls a) μ:=propext Xc
theorem Kg (a:List D)(μ:Mu)(Q:DK):ie ju [.tup a] μ Q = ∀ p,μ p=none->Q (.obj p) (up μ p (.lst a)):=propext Xc
theorem RE (a:Addr)(μ:Mu)(Q:DK):ie c8 [.obj a] μ Q=kL μ a λxs=>Q (.int xs.length) μ:=propext Xc
theorem Se (x:Str)(μ:Mu)(Q:DK):ie c8 [.str x] μ Q=(x.length<=1000000/\Q (.int x.length) μ):=propext Xc
theorem mT (a:List D)(μ:Mu)(Q:DK):ie c8 [.tup a] μ Q=Q (.int a.length) μ:=propext Xc
theorem mK (a:List D)(μ:Mu)(Q:DK):ie c8 [.ls a] μ Q=Q (.int a.length) μ:=propext Xc
theorem CH (n:Nat)(i:Int):okD n (.int i)=true:=by cases n<;>simp[okD]
theorem Cm (n:Nat)(x:Str):okD n (.str x)=Xk x:=by cases n<;>simp[okD]
theorem Fx (n:Nat)(ds:List D):okD (n+1) (.tup ds)=c6 n ds:=by simp[okD]
theorem Eh (n:Nat)(ds:List D):okD (n+1) (.ls ds)=c6 n ds:=by simp[okD]
theorem fj (n:Nat)(d:D)(r:List D):c6 n (d::r)=(okD n d&&c6 n r):=by simp[c6]
theorem qf (i j:Int):eqD (.int i) (.int j)=decide (i=j):=by simp[eqD]
theorem nC (i j:Str):eqD (.str i) (.str j)=decide (i=j):=by simp[eqD]
theorem uf (a b:List D):eqD (.tup a) (.tup b)=oH a b:=by simp[eqD]
theorem uu (a b:List D):eqD (.ls a) (.ls b)=oH a b:=by simp[eqD]
theorem Ld (A B:Prop):kIf true A B=A:=propext Xc
theorem Lh (A B:Prop):kIf false A B=B:=propext Xc
theorem NL (c:Bool)(f):kB (.bl c) f=f c:=propext Xc
theorem JX (c:Int)(f):kI (.int c) f=f c:=propext Xc
theorem ES (c:D)(f):kO (some c) f=f c:=propext Xc
theorem IZ (c:List D)(f):kS (.tup c) f=f c:=propext Xc
theorem MW (c:List D)(f):kS (.ls c) f=f c:=propext Xc
theorem IP (a b:D)(f):k2 [a,b] f=f a b:=propext Xc
theorem Fl (c:Nat)(f):kN (some c) f=f c:=propext Xc
theorem Fd (i j:Int)(μ Q):aQ (.int i) (.int j) μ Q=Q (.int (i+j)) μ:=propext Xc
theorem Ff (a b:List D)(μ Q):aQ (.tup a) (.tup b) μ Q=(a.length+b.length<=1000000/\Q (.tup (a++b)) μ):=propext Xc
theorem ET (a b:List D)(μ Q):aQ (.ls a) (.ls b) μ Q=(a.length+b.length<=1000000/\Q (.ls (a++b)) μ):=propext Xc
theorem GJ (i j:Int)(μ Q):kn (.int i) (.int j) μ Q=Q (.int (i - j)) μ:=propext Xc
theorem JL (i j:Int)(μ Q):eK (.int i) (.int j) μ Q=(MulOk i j/\Q (.int (i*j)) μ):=propext Xc
theorem Hb (i j:Int)(μ Q):ni (.int i) (.int j) μ Q=(jO j/\Q (.int (i.fdiv j)) μ):=propext Xc
theorem IG (i j:Int)(μ Q):lX (.int i) (.int j) μ Q=(j≠0/\Q (.int (i.fmod j)) μ):=propext Xc
theorem Jl (i j:Int)(μ Q):E7 (.int i) (.int j) μ Q=(nH i j/\Q (.int (i ^ j.toNat)) μ):=propext Xc
theorem Nl (i j:Int)(μ Q):rLt (.int i) (.int j) μ Q=Q (.bl (decide (i < j))) μ:=propext Xc
theorem NT (i j:Int)(μ Q):rGt (.int i) (.int j) μ Q=Q (.bl (decide (j < i))) μ:=propext Xc
theorem Of (i j:Int)(μ Q):rGe (.int i) (.int j) μ Q=Q (.bl (decide (j<=i))) μ:=propext Xc
theorem MZ (a:Addr)(i:Int)(μ Q):L3.rIx (.obj a) (.int i) μ Q=kL μ a λds=>kO (atD ds i) λd=>Q d μ:=propext Xc
theorem Jm (c:String)(i:Int)(μ Q):eX c (.int i) μ Q=Q (.bl (eM "int" c)) μ:=propext Xc
theorem Jr (c:String)(i:List D)(μ Q):eX c (.tup i) μ Q=Q (.bl (eM "tuple" c)) μ:=propext Xc
theorem Hc (c:String)(i:List D)(μ Q):eX c (.ls i) μ Q=Q (.bl (eM "list" c)) μ:=propext Xc
theorem JE (c:String)(i:Str)(μ Q):eX c (.str i) μ Q=Q (.bl (eM "str" c)) μ:=propext Xc
theorem IL (c:String)(μ Q):eX c .non μ Q=Q (.bl (eM "NoneType" c)) μ:=propext Xc
theorem L0 (μ Q):rIs .non .non μ Q=Q (.bl true) μ:=propext Xc
theorem MF (i:Int)(μ Q):rIs (.int i) .non μ Q=Q (.bl false) μ:=propext Xc
theorem MR (i:List D)(μ Q):rIs (.tup i) .non μ Q=Q (.bl false) μ:=propext Xc
theorem Bl (μ Q):iq .non .non μ Q=Q (.bl false) μ:=propext Xc
theorem BO (i:Int)(μ Q):iq (.int i) .non μ Q=Q (.bl true) μ:=propext Xc
theorem BE (i:List D)(μ Q):iq (.tup i) .non μ Q=Q (.bl true) μ:=propext Xc
theorem Mi (a:List D)(lo hi)(μ Q):rSl (.tup a) lo hi μ Q=Q (.tup (cutD a lo hi)) μ:=propext Xc
theorem kc (ds:List D)(i:Int)(μ Q):L3.rIx (.tup ds) (.int i) μ Q=kO (atD ds i) λd=>Q d μ:=propext Xc
theorem kg (ds:List D)(i:Int)(μ Q):L3.rIx (.ls ds) (.int i) μ Q=kO (atD ds i) λd=>Q d μ:=propext Xc
theorem kb (x y:D)(μ Q):L3.rEq x y μ Q=((okD 40 x=true/\okD 40 y=true)/\Q (.bl (eqD x y)) μ):=propext Xc
theorem ka (x y:D)(μ Q):L3.rNe x y μ Q=((okD 40 x=true/\okD 40 y=true)/\Q (.bl (!eqD x y)) μ):=propext Xc
theorem kif {p:Prop} [Decidable p] {A B:Prop}(h1:p->A)(h2:¬ p->B):kIf (decide p) A B:=by
 by_cases h:p
 ·rw[decide_eq_true h];exact h1 h
 ·rw[decide_eq_false h];exact h2 h
theorem W5 {p:Prop} [Decidable p] {A B:Prop}(h1:¬ p->A)(h2:p->B):kIf (!decide p) A B:=by
 by_cases h:p
 ·rw[decide_eq_true h];exact h2 h
 ·rw[decide_eq_false h];exact h1 h
theorem nS {p:Prop} [Decidable p] {A B:Prop}(h:p)(hA:A):kIf (decide p) A B:=by rw[decide_eq_true h];exact hA
theorem rG {p:Prop} [Decidable p] {A B:Prop}(h:¬ p)(hB:B):kIf (decide p) A B:=by rw[decide_eq_false h];exact hB
theorem Vm {c:Bool}{A B:Prop}(h1:c=true->A)(h2:c=false->B):kIf c A B:=by
 cases c
 ·exact h2 rfl
 ·exact h1 rfl
theorem GL {o:Option D}{d:D}{f:D->Prop}(e:o=some d)(h:f d):kO o f:=by rw[e];exact h
theorem bo {μ:Mu}{a:Addr}{ds:List D}{f:List D->Prop}(e:μ a=some (.lst ds))(h:f ds):kL μ a f:=by rw[Ui e];exact h
section
open PySem PySem.Spec PyProof.Rows L2
def Oo (kvs:List (Str×D))(s:Str):Option D:=(kvs.find? λkv=>decide (kv.1=s)).map (·.2)
def D7 (K:W7):List DictEntry->List (Str×D)->Prop
 | [],[]=>True
 | e::es,(x,d)::r=>(∃ t,e.key=.str x t)/\(∃ v,RelV v e.val/\∀ H,Dp K H v d)/\D7 K es r
 | _,_=>False
theorem yp (s x:Str)(t:Tok):ZE s (.str x t)=decide (x=s):=by
 by_cases h:x=s
 ·subst h;simp[ZE]
 ·rw[decide_eq_false h];simp[ZE];first | exact h | exact λz=>h z.symm
theorem D7.find {K:W7}(s:Str):∀ {es:List DictEntry} {kvs:List (Str×D)},D7 K es kvs->
  match Oo kvs s with
  | none=>(es.find? λe=>ZE s e.key)=none
  | some d=>∃ e v,(es.find? λe=>ZE s e.key)=some e/\RelV v e.val/\∀ H,Dp K H v d
 | [],[],_=>rfl
 | e::es,(x,d)::r,h=>by
  obtain ⟨⟨t,ht⟩,⟨v,rv,pv⟩,hr⟩:=h
  have ih:=D7.find s hr
  unfold Oo at ih ⊢
  rw[Ym,Ym,ht,yp]
  by_cases hx:x=s
  ·simp only[decide_eq_true hx,zcu]
   exact ⟨e,v,rfl,rv,pv⟩
  ·simp only[decide_eq_false hx]
   exact ih
 | [],_::_,h=>Xf h
 | _::_,[],h=>Xf h
section
variable {X:Cx} {a b c e:XG} {Ta Tb Te:ETr} {pos gpos:Pos} {x:Str} {kvs:List (Str×D)}
end
section
variable {X:Cx} {a b:XG} {Ta Tb:ETr} {pos:Pos}
end
end
section
open PySem PySem.Spec PyProof.Rows L2
def cF {κ:Type} [DecidableEq κ] (kvs:List (κ×D))(k:κ):Option D:=(kvs.find? λkv=>decide (kv.1=k)).map (·.2)
def putD {κ:Type} [DecidableEq κ] (kvs:List (κ×D))(k:κ)(v:D):List (κ×D):=
 if (kvs.any λkv=>decide (kv.1=k))=true then kvs.map (λkv=>if kv.1=k then (kv.1,v) else kv) else kvs++[(k,v)]
def sI (x:D)(f:Key->Prop):Prop:=match x with
 | .int i=>f (.inl i)
 | .str s=>f (.inr s)
 | _=>False
theorem DpK.nil {κ:Type}{K:W7}{H:Hp}:DpK (κ:=κ) K H [] []:=⟨rfl,.nil⟩
theorem DpK.cons {κ:Type}{K:W7}{H:Hp}{k:κ}{v:V}{d:D}{xs:List (κ×V)}{kvs:List (κ×D)}(h:Dp K H v d)(r:DpK K H xs kvs):DpK K H ((k,v)::xs) ((k,d)::kvs):=
 ⟨by simp[r.1],.cons h r.2⟩
theorem DpK.ind {κ:Type}{K:W7}{H:Hp}{P:List (κ×V)->List (κ×D)->Prop}(h0:P [] [])(h1:∀ k v d xs kvs,Dp K H v d->DpK K H xs kvs->P xs kvs->P ((k,v)::xs) ((k,d)::kvs)) :
  ∀ {xs:List (κ×V)} {kvs:List (κ×D)},DpK K H xs kvs->P xs kvs
 | [],[],_=>h0
 | [],_::_,h=>by cases h.1
 | _::_,[],h=>by cases h.1
 | (k,v)::xs,(k',d)::kvs,h=>by
  obtain ⟨h2,h3⟩:=h
  simp only[Xh,List.cons.injEq] at h2
  obtain ⟨rfl,h2⟩:=h2
  cases h3 with
  | cons p l=>exact h1 k v d xs kvs p ⟨h2,l⟩ (DpK.ind h0 h1 ⟨h2,l⟩)
theorem DpK.look {κ:Type} [DecidableEq κ] {K:W7}{H:Hp}{xs:List (κ×V)}{kvs:List (κ×D)}(h:DpK K H xs kvs)(k:κ) :
  (cF kvs k=none/\hU xs k=none)∨∃ v d,cF kvs k=some d/\hU xs k=some v/\Dp K H v d:=by
 refine DpK.ind (P:=λxs kvs=>(cF kvs k=none/\hU xs k=none)∨∃ v d,cF kvs k=some d/\hU xs k=some v/\Dp K H v d) (.inl ⟨rfl,rfl⟩) (λj v d xs kvs p _ ih=>?_) h
 by_cases e:j=k
 ·refine .inr ⟨v,d,?_,mw (p:=(j,v)) e,p⟩
  unfold cF;rw[Ym];simp[e]
 ·have e1:cF ((j,d)::kvs) k=cF kvs k:=by unfold cF;rw[Ym];simp[e]
  rw[e1,lJ (p:=(j,v)) e]
  exact ih
theorem DpK.any {κ:Type} [DecidableEq κ] {K:W7}{H:Hp}{xs:List (κ×V)}{kvs:List (κ×D)}(h:DpK K H xs kvs)(k:κ):(xs.any λkv=>decide (kv.1=k))=kvs.any λkv=>decide (kv.1=k):=by
 refine DpK.ind (P:=λxs kvs=>(xs.any λkv=>decide (kv.1=k))=kvs.any λkv=>decide (kv.1=k)) rfl (λj v d xs kvs p _ ih=>?_) h
 rw[Zl,Zl,ih]
theorem DpK.put {κ:Type} [DecidableEq κ] {K:W7}{H:Hp}{xs:List (κ×V)}{kvs:List (κ×D)}(h:DpK K H xs kvs)(k:κ){v:V}{d:D}(p:Dp K H v d):DpK K H (putK xs k v) (putD kvs k d):=by
 unfold putK putD
 rw[h.any k]
 split
 ·refine DpK.ind (P:=λxs kvs=>DpK K H (xs.map λkv=>if kv.1=k then (kv.1,v) else kv) (kvs.map λkv=>if kv.1=k then (kv.1,d) else kv)) .nil (λj v' d' xs kvs p' _ ih=>?_) h
  rw[Xh,Xh]
  by_cases e:j=k
  ·rw[if_pos e,if_pos e];exact .cons p ih
  ·rw[if_neg e,if_neg e];exact .cons p' ih
 ·refine DpK.ind (P:=λxs kvs=>DpK K H (xs++[(k,v)]) (kvs++[(k,d)])) (.cons p .nil) (λj v' d' xs kvs p' _ ih=>?_) h
  exact .cons p' ih
theorem DpK.length {κ:Type}{K:W7}{H:Hp}{xs:List (κ×V)}{kvs:List (κ×D)}(h:DpK K H xs kvs):xs.length=kvs.length:=by
 have:=h.2.length
 simpa using this
theorem lS {K:W7}{H:Hp}{y:V}{dy:D}{f:Key->Prop}(p:Dp K H y dy)(h:sI dy f):∃ k,y=kV k/\f k:=by
 cases p with
 | int i=>exact ⟨.inl i,rfl,h⟩
 | str s=>exact ⟨.inr s,rfl,h⟩
 | _=>exact Xf h
theorem eL {K:W7}{H:Hp}{x:V}{dx:D}{f:Addr->Prop}(p:Dp K H x dx)(h:kObj dx f):∃ a,x=.ref a/\f a:=by
 cases p with
 | obj a=>exact ⟨a,rfl,h⟩
 | _=>exact Xf h
theorem qC {H:Hp}{q:Addr}{u:HO}{xs:List (Key×V)}(ex:H q=some (.dK xs)):Tk H (L2.upd H q u):=
 .upd (λys z=>by rw[ex] at z;cases z) λo' w z=>by rw[ex] at z;cases z
theorem Ax {K:W7}{H:Hp}{μ:Mu}{q:Addr}{xs ys:List (Key×V)}{ds:List (Key×D)}(m:bM K H μ)(ex:H q=some (.dK xs))(l:DpK K H ys ds):bM K (L2.upd H q (.dK ys)) (up μ q (.dct ds)):=λz y ez=>by
 by_cases zq:z=q
 ·subst zq
  rw[aI] at ez;cases ez
  exact ⟨ys,aN,l.mono (qC ex)⟩
 ·rw[aU zq] at ez
  exact (m z _ ez).ne (qC ex) zq
theorem CL {K:W7}{H:Hp}{μ:Mu}{q:Addr}{ys:List (Key×V)}{ds:List (Key×D)}(m:bM K H μ)(hq:H q=none)(l:DpK K H ys ds):bM K (L2.upd H q (.dK ys)) (up μ q (.dct ds)):=λz y ez=>by
 by_cases zq:z=q
 ·subst zq
  rw[aI] at ez;cases ez
  exact ⟨ys,aN,l.mono (.new hq)⟩
 ·rw[aU zq] at ez
  exact b7 m hq z y ez
section
variable {X:Cx} {o i a b c e value:XG} {To Ti Ta Tb Te:ETr} {pos tpos:Pos}
theorem hu1 (hu:X.A.units+64 < cLine):X.A.units+1 < cLine:=by omega
def bQ (To Ti:ETr):ETr:=λρ μ Q=>To ρ μ λx μ1=>Ti ρ μ1 λy μ2=>kObj x λa=>kD μ2 a λkvs=>sI y λk=>kO (cF kvs k) λd=>Q d μ2
theorem cH (hu:X.A.units+64 < cLine)(ho:LE X o To)(hi:LE X i Ti)(hs:QC i:=by intro _ _;rfl):LE X (.Subscript o i pos) (bQ To Ti):=by
 obtain ⟨to,po,so⟩:=ho.ex
 obtain ⟨ti,pi,si⟩:=hi.ex
 refine ⟨_,M8 (hu1 hu) po pi hs,λσ H ρ μ Q Q' rl h k=>so σ H ρ μ _ _ rl h λx H1 dx μ1 t1 m1 p1 h1=>si σ H1 ρ μ1 _ _ (rl.go t1 m1) h1 λy H2 dy μ2 t2 m2 p2 h2=>?_⟩
 obtain ⟨q,rfl,h2⟩:=eL p1 h2
 obtain ⟨kvs,e0,h2⟩:=rK h2
 obtain ⟨kk,rfl,h2⟩:=lS p2 h2
 obtain ⟨d,e1,h2⟩:=lA h2
 obtain ⟨xs,ex,l⟩:=m2 q _ e0
 rcases l.look kk with ⟨z,_⟩ | ⟨v,d',z,ev,pv⟩
 ·rw[z] at e1;cases e1
 ·rw[z] at e1;cases e1
  exact ⟨q,v,rfl,by rw[← ev];exact nh.k ex,k _ H2 _ μ2 (t1.trans t2) m2 pv h2⟩
def jj (To Ti Te:ETr):STr:=λE ρ μ=>Te ρ μ λv μ1=>To ρ μ1 λx μ2=>Ti ρ μ2 λy μ3=>kObj x λa=>kD μ3 a λkvs=>sI y λk=>kvs.length < 1000000/\E.nx ρ (up μ3 a (.dct (putD kvs k v)))
theorem lO (hu:X.A.units+64 < cLine)(ho:LE X o To)(hi:LE X i Ti)(he:LE X value Te)(hs:Y3 value (some (.Subscript o i tpos)) pos.line X.env=pure false:=by rfl) :
  LS X (.Assign [.Subscript o i tpos] value pos) (jj To Ti Te):=by
 obtain ⟨to,po,so⟩:=ho.ex
 obtain ⟨ti,pi,si⟩:=hi.ex
 obtain ⟨te,pe,se⟩:=he.ex
 refine ⟨_,vi (hu1 hu) po pi pe hs,λσ H ρ μ E E' rl h k=>se σ H ρ μ _ _ rl h λv H1 dv μ1 t1 m1 p1 h1=>so σ H1 ρ μ1 _ _ (rl.go t1 m1) h1 λx H2 dx μ2 t2 m2 p2 h2=>
  si σ H2 ρ μ2 _ _ (rl.go (t1.trans t2) m2) h2 λy H3 dy μ3 t3 m3 p3 h3=>?_⟩
 obtain ⟨q,rfl,h3⟩:=eL p2 h3
 obtain ⟨kvs,e0,h3⟩:=rK h3
 obtain ⟨kk,rfl,h3⟩:=lS p3 h3
 obtain ⟨xs,ex,l⟩:=m3 q _ e0
 have t4:Tk H3 (L2.upd H3 q (.dK (putK xs kk v))):=qC ex
 have t14:=t1.trans (t2.trans (t3.trans t4))
 refine ⟨q,_,rfl,qr.k ex (by rw[l.length];exact Xw h3.1 (by decide)),k.nx _ _ ρ _ t14 (rl.go t14 (Ax m3 ex (l.put kk (p1.mono (t2.trans t3))))) h3.2⟩
def mG (f:Int->Int->Int)(To Ti Te:ETr):STr:=λE ρ μ=>To ρ μ λx μ1=>Ti ρ μ1 λy μ2=>kObj x λa=>kD μ2 a λkvs=>sI y λk=>kO (cF kvs k) λd=>kI d λm=>
 Te ρ μ2 λw μ3=>kI w λn=>kD μ3 a λkvs3=>kvs3.length < 1000000/\E.nx ρ (up μ3 a (.dct (putD kvs3 k (.int (f m n)))))
theorem Iv {to ti te:TE}{K:W7}{f:Int->Int->Int}{rd:V->V->Hp->VK->Prop}(hrd:∀ i j H Q,Q (.int (f i j)) H->rd (.int i) (.int j) H Q)(so:Sim K to To)(si:Sim K ti Ti)(se:Sim K te Te) :
  Ij K (OU to ti te rd) (mG f To Ti Te):=λσ H ρ μ E E' rl h k=>so σ H ρ μ _ _ rl h λx H1 dx μ1 t1 m1 p1 h1=>si σ H1 ρ μ1 _ _ (rl.go t1 m1) h1 λy H2 dy μ2 t2 m2 p2 h2=>by
  obtain ⟨q,rfl,h2⟩:=eL p1 h2
  obtain ⟨kvs,e0,h2⟩:=rK h2
  obtain ⟨kk,rfl,h2⟩:=lS p2 h2
  obtain ⟨d,e1,h2⟩:=lA h2
  obtain ⟨xs,ex,l⟩:=m2 q _ e0
  rcases l.look kk with ⟨z,_⟩ | ⟨v,d',z,ev,pv⟩
  ·rw[z] at e1;cases e1
  ·rw[z] at e1;cases e1
   cases pv with
   | int m=>
    refine ⟨q,.int m,rfl,by rw[← ev];exact nh.k ex,se σ H2 ρ μ2 _ _ (rl.go (t1.trans t2) m2) h2 λw H3 dw μ3 t3 m3 p3 h3=>?_⟩
    cases p3 with
    | int n=>
     obtain ⟨kvs3,e3,h3⟩:=rK (show kD μ3 q _ from h3)
     obtain ⟨xs3,ex3,l3⟩:=m3 q _ e3
     have t4:Tk H3 (L2.upd H3 q (.dK (putK xs3 kk (.int (f m n))))):=qC ex3
     have t14:=t1.trans (t2.trans (t3.trans t4))
     exact hrd m n H3 _ ⟨_,qr.k ex3 (by rw[l3.length];exact Xw h3.1 (by decide)),k.nx _ _ ρ _ t14 (rl.go t14 (Ax m3 ex3 (l3.put kk (.int _)))) h3.2⟩
    | _=>exact Xf h3
   | _=>exact Xf h2
theorem kW (hu:X.A.units+64 < cLine)(ho:LE X o To)(hi:LE X i Ti)(he:LE X value Te)(ha:∀ ov iv new,augStore i ov iv new=(do zb7 [new,ov,iv] (setItem ov iv new);release [new,ov,iv] [];pure .next):=by intros;rfl) :
  LS X (.AugAssign (.Subscript o i tpos) .Add value pos) (mG (λm n=>m+n) To Ti Te):=by
 obtain ⟨to,po,so⟩:=ho.ex
 obtain ⟨ti,pi,si⟩:=hi.ex
 obtain ⟨te,pe,se⟩:=he.ex
 exact ⟨_,Mf (hu1 hu) po pi pe Sh ha,Iv (λi j H Q q=>⟨i,j,rfl,rfl,q⟩) so si se⟩
def N0 (f:Int->Int->Int)(i:Nat)(Te:ETr):STr:=λE ρ μ=>kO (lk ρ i) λd=>kI d λm=>Te ρ μ λw μ1=>kI w λn=>ay i (.int (f m n)) ρ μ1 E.nx
theorem Oi {te:TE}{K:W7}{f:Int->Int->Int}{j:Nat}(se:Sim K te Te):Ij K (TZ j te (ipI f)) (N0 f j Te):=λσ H ρ μ E E' rl h k=>by
 obtain ⟨d,e1,h⟩:=lA h
 obtain ⟨v,ev,pv⟩:=rl.loc j d e1
 cases pv with
 | int m=>
  refine ⟨.int m,ev,se σ H ρ μ _ _ rl h λw H1 dw μ1 t1 m1 p1 h1=>?_⟩
  cases p1 with
  | int n=>exact ⟨m,n,rfl,rfl,k.nx _ _ _ _ t1 ((rl.go t1 m1).set (.int _) j) h1⟩
  | _=>exact Xf h1
 | _=>exact Xf h
theorem EX (j:Nat){x:Str}(hN:X.N.Nodup)(he:LE X e Te)(hi:X.N[j]? = some x:=by rfl)(hx:Loc X.env.scope x:=by first | exact zay rfl | exact zaz rfl)(hf:X.fn x=true∨X.env.scope.names.lookup x=some .local:=by first | exact .inl rfl | exact .inr rfl | assumption) :
  LS X (.AugAssign (.Name x tpos) .Add e pos) (N0 (λm n=>m+n) j Te):=by
 obtain ⟨te,pe,se⟩:=he.ex
 exact ⟨_,PB hN hi hx pe Sd hf,Oi se⟩
def WO (K:W7)(trs:List (TE×TE))(ks:List Key)(T:ATr):Prop:=∀ σ H ρ μ (Q:List D->Mu->Prop) (Q':List (V×V)->Hp->Prop),Rl K σ H ρ μ->T ρ μ Q->
 (∀ vs H' ds μ',Tk H H'->bM K H' μ'->vs.length=ks.length->DpL K H' vs ds->Q ds μ'->Q' ((ks.map kV).zip vs) H')->vI trs σ H Q'
structure LPs (X:Cx) (pos:Pos) (keys:List (Option XG)) (values:List XG) (ks:List Key) (T:ATr):Prop where
 ex:∃ trs,PPs X pos keys values trs/\WO X.K trs ks T
theorem NW:LPs X pos [] [] [] ao:=⟨[],Lu,λσ H ρ μ Q Q' rl h k=>k [] H [] μ (.refl H) rl.mu rfl .nil h⟩
theorem j6 {s:Str}{j}{p:Pos}{ks:List (Option XG)}{vs:List XG}{kk:List Key}{At:ATr}(hv:LE X value Te)(hr:LPs X pos ks vs kk At):LPs X pos (some (.Constant (.str s) j p)::ks) (value::vs) (.inr s::kk) (af Te At):=by
 obtain ⟨te,pe,se⟩:=hv.ex
 obtain ⟨trs,pr,sr⟩:=hr.ex
 refine ⟨_,F9 J5 pe pr,λσ H ρ μ Q Q' rl h k=>?_⟩
 refine se σ H ρ μ _ _ rl h λy H1 dy μ1 t1 m1 p1 h1=>sr σ H1 ρ μ1 _ _ (rl.go t1 m1) h1 λvs H2 ds μ2 t2 m2 hl p2 h2=>?_
 exact k (y::vs) H2 (dy::ds) μ2 (t1.trans t2) m2 (by simp[hl]) (.cons (p1.mono t2) p2) h2
def Ii (ks:List Key)(At:ATr):ETr:=λρ μ Q=>∀ p,μ p=none->At ρ (up μ p (.dct [])) λds μ2=>kD μ2 p λkvs=>kvs=[]/\Q (.obj p) (up μ2 p (.dct (ks.zip ds)))
theorem HM {acc:List (Key×V)}{k:Key}{v:V}(h:hU acc k=some v):k∈acc.map (·.1):=by
 unfold hU at h
 obtain ⟨p,hp,_⟩:=zch.mp h
 have h1:=zbx hp
 have h2:=List.find?_some hp
 exact Xd.mpr ⟨p,h1,of_decide_eq_true h2⟩
theorem rZ:∀ (kvs acc:List (Key×V)),((acc++kvs).map (·.1)).Nodup->eB acc kvs=acc++kvs
 | [],acc,_=>by simp[eB]
 | p::r,acc,h=>by
  have hn:hU acc p.1=none:=by
   cases e:hU acc p.1 with
   | none=>rfl
   | some v=>
    exfalso
    have:=HM e
    rw[Xn,Xh] at h
    exact (Zh.mp h).2.2 _ this _ Xl rfl
  show eB (putK acc p.1 p.2) r=_
  rw[Je p.2 hn]
  rw[rZ r (acc++[(p.1,p.2)]) (by simpa using h)]
  simp
theorem yV:∀ (ks:List Key) (vs:List V),(ks.map kV).zip vs=(ks.zip vs).map λkv=>(kV kv.1,kv.2)
 | [],_=>by simp
 | _::_,[]=>by simp
 | k::ks,v::vs=>by simp[yV ks vs]
theorem DpK.zip {K:W7}{H:Hp}:∀ {ks:List Key} {vs:List V} {ds:List D},DpL K H vs ds->DpK K H (ks.zip vs) (ks.zip ds)
 | [],_,_,_=>by simp;exact .nil
 | _::_,_,_,.nil=>by simp;exact .nil
 | k::ks,_,_,.cons p l=>.cons p (DpK.zip l)
theorem Oc {keys:List (Option XG)}{values:List XG}{ks:List Key}{At:ATr}(h:LPs X pos keys values ks At)(hall:keys.all (·.isSome)=true:=by rfl)(hl:keys.length=values.length:=by rfl)(h0:keys≠[]:=by nofun)
  (h15:keys.length<=15:=by decide) (hk:keys.length=ks.length:=by rfl) (hn:ks.Nodup:=by decide):LE X (.Dict keys values pos) (Ii ks At):=by
 obtain ⟨trs,pr,sr⟩:=h.ex
 refine ⟨_,NQ pr hall hl h0 h15,λσ H ρ μ Q Q' rl h k p hp=>?_⟩
 refine sr σ _ ρ _ _ _ (rl.go (.new hp) (CL rl.mu hp .nil)) (h p (rl.mu.free hp)) λvs H2 ds μ2 t2 m2 hvl p2 h2=>?_
 obtain ⟨kvs,e0,rfl,h2⟩:=rK h2
 obtain ⟨xs,ex,l⟩:=m2 p _ e0
 have:xs=[]:=by have:=l.length;cases xs with | nil=>rfl | cons=>simp at this
 subst this
 refine ⟨ex,ks.zip vs,yV ks vs,by rw[zeq];omega,?_⟩
 have e:eB [] (ks.zip vs)=ks.zip vs:=by
  have:=rZ (ks.zip vs) [] (by rw[zaa,List.map_fst_zip (by omega)];exact hn)
  simpa using this
 rw[e]
 exact k _ _ _ _ ((Tk.new hp).trans (t2.trans (qC ex))) (Ax m2 ex (.zip p2)) (.obj p) h2
end
end
section
open PySem PySem.Spec PyProof.Rows L2
theorem Ed:zez (.type "list") (OF "keys")=pure none:=am_miss_of_fast (by kernel_rfl)
theorem SS {prog:XO}{w:X2}{A:Yh}{E:Xb->Xe->Prop}{s:Xe}{a:Addr}{o:Obj}{xs:Array Xb}{k:Nat}{Q:Option Xb->Xe->Prop}
  (hx:s.heap.get? a=some o) (hc:o.cls=.type "list") (hdat:o.data=.seq xs k) (hd:o.dict=none) (hA:A.handled=none)
  (h:∀ h' tk,(∀ b ob,s.heap.get? b=some ob->h'.get? b=some ob)->Q none { s with heap:=h',toks:=tk }) :
  XB (XD prog w) A (getAttr? (.ref a) "keys") Q E s:=by
 obtain ⟨c,dct,dat,sl⟩:=o
 simp only at hc hdat hd
 subst hc hdat hd
 obtain ⟨hp,g,d,tk,os⟩:=s
 have hT:∀ tk',(⟨hp,g,d,tk',os⟩:Xe).TypeIs (.ref a) "list" := λ_=>⟨_,hx,rfl⟩
 have f1:=sub_AttributeError
 have f3:=Z8.lookup
 have f4:=Z8.bind (.ref a)
 have f5:=am_list_getattr_none
 unfold getAttr? getAttrBy? getAttrBy
 repeat (any_goals (first | assumption | exact hT _ | ((with_reducible show XB _ _ (zcG (Value.builtin "list.__getattribute__") _ _) _ _ _);refine zbq Z8 (hT _) am_entry_list_getattribute (F.args_list_getattribute_2 _ _) (meets_getattribute_miss_list a xs k sl (OF "keys") _ Ed (by decide +kernel) (by decide +kernel)) ⟨hx,hA,λh' tk' e hx'=>?_⟩) | wp_step))
 obtain ⟨t',u',he⟩:=hx'.there
 show XB _ _ (zdv _ _ _ _ _ _ _) _ _ _
 unfold zdv
 repeat (any_goals (first | assumption | wp_step))
 exact h _ _ hx'.keeps
theorem l8:plainId "dict.update.loop" = true:=by decide +kernel
theorem xP:entryFor table "dict.update.loop" = some zaR.«dict.update.loop»:=entryFor_of_fast (by kernel_rfl)
inductive fZ {prog:XO} {w:X2} {κ:Type} [DecidableEq κ] (knd:KeyKind prog w κ) (h:Heap):List Xb->List (κ×Xb)->Prop
 | nil:fZ knd h [] []
 | cons {a:Addr} {u v:Xb} {k:κ} {us:List Xb} {r:List (κ×Xb)}:zec h a #[u,v]->knd.is k u=true->fZ knd h us r->fZ knd h (.ref a::us) ((k,v)::r)
section
variable {prog:XO} {w:X2} {κ:Type} [DecidableEq κ] {knd:KeyKind prog w κ}
theorem fZ.keeps {h h':Heap}(kp:∀ b o,h.get? b=some o->o.cls=.type "tuple" -> h'.get? b=some o):∀ {us:List Xb} {r:List (κ×Xb)},fZ knd h us r->fZ knd h' us r
 | _,_,.nil=>.nil
 | _,_,.cons t k r=>.cons (by obtain ⟨o,e,c,n,d⟩:=t;exact ⟨o,kp _ o e c,c,n,d⟩) k (r.keeps kp)
theorem yg {A:Yh}{R:zd1->Xe->Prop}{d it l:Addr}{items:Array Xb}(hA:A.handled=none)(n1:d≠it)(n2:l≠it)(n3:l≠d) :
  ∀ (us:List Xb) (r:List (κ×Xb)) (i:Nat) (kvs:List (κ×Xb)) (s:Xe),items.toList.drop i=us->fZ knd s.heap us r->s.heap.IsListIter it l i->s.heap.IsList l items->s.heap.DictOf knd d kvs->kvs.length+r.length<=sizeLine->
   (∀ h' tk,h'.DictOf knd d (merged kvs r)->(∀ b o,b≠it->b≠d->s.heap.get? b=some o->h'.get? b=some o)->R (.ok (.ret .none)) { s with heap:=h',toks:=tk })->
   XB (XD prog w) A.in1 (zaR.«dict.update.loop» ⟨[.ref d,.ref it,zbj i,.none],[]⟩) (λfin s'=>match fin with | .done f=>R (.ok f) s' | .again c'=>c'.quiet=true/\ZK (XD prog w) A c' R s') (λe s'=>R (.error e) s') s
 | [],r,i,kvs,s,hd,P,hit,hl,hm,hz,h=>by
  cases P
  have hx:items[i]? = none:=by
   have:items.toList.length<=i:=by
    have:=congrArg Yy hd
    simp at this;simp;omega
   simpa using this
  show XB _ _ (zad (.ref it) >>= _) _ _ _
  refine W8 (zcy (by exact hA) hit hl hx λh' k=>?_)
  show XB _ _ (zeV d [] >>= _) _ _ _
  refine W8 (Xj (Xj ?_))
  refine h h' s.toks ?_ λb o hb _ e=>k b o hb e
  obtain ⟨o,es,ep,ho,rest⟩:=hm
  exact ⟨o,es,ep,k d o n1 ho,rest⟩
 | u::us,r,i,kvs,s,hd,P,hit,hl,hm,hz,h=>by
  cases P with
  | @cons a ku v k _ r tp hk P=>
  have hx:items[i]? = some (.ref a):=by
   have:items.toList[i]? = some (.ref a):=by
    have:=congrArg (λl=>l[0]?) hd
    simpa using this
   simpa using this
  have hd':items.toList.drop (i+1)=us:=by
   have:=congrArg List.tail hd
   simpa using this
  show XB _ _ (zad (.ref it) >>= _) _ _ _
  refine W8 (zb9 hit hl hx λh1 it1 k1=>?_)
  have ne_it:∀ b o,s.heap.get? b=some o->o.cls≠.type "list_iterator" -> b≠it:=λb o e c z=>by
   subst z
   obtain ⟨o',e',c',_⟩:=hit
   rw[e] at e';cases e';exact c c'
  have tp1:zec h1 a #[ku,v]:=by
   obtain ⟨o,e,c,n,dd⟩:=tp
   exact ⟨o,(k1.2 a (ne_it a o e (by rw[c];decide))).trans e,c,n,dd⟩
  obtain ⟨o,e,c,n,dd⟩:=tp1
  have hm1:h1.DictOf knd d kvs:=by
   obtain ⟨o,es,ep,ho,rest⟩:=hm
   exact ⟨o,es,ep,(k1.2 d n1).trans ho,rest⟩
  have hl1:h1.IsList l items:=by
   obtain ⟨o,e,c,n,dd⟩:=hl
   exact ⟨o,(k1.2 l n2).trans e,c,n,dd⟩
  dsimp only
  refine W8 (Zk ?_)
  refine W8 (ZT ?_)
  unfold ze2
  refine W8 (wpAny_typeOf (T := "tuple") ⟨o,e,c⟩ ?_)
  rw[if_pos (by decide)]
  refine W8 (Yr e dd (Xj ?_))
  show XB _ _ (zb7 [ku,v] (dictSet d ku v)) _ _ _
  refine Zk (wpAny_dictSet_pairs (hsz:=by have:=hz;simp at this;omega) hk hm1 λh2 hm2 k2=>?_)
  refine Xj ?_
  refine ⟨Zo l8 _,zcv xP ?_⟩
  rw[zaV l8 _]
  have kp:∀ b o,b≠it->b≠d->s.heap.get? b=some o->h2.get? b=some o:=λb o b1 b2 q=>(k2.2 b b2).trans ((k1.2 b b1).trans q)
  have ci:((i:Int)+1)=((i+1:Nat):Int):=by push_cast;rfl
  have nd:∀ b o,s.heap.get? b=some o->o.cls≠.type "dict" -> b≠d:=λb o q c z=>by
   subst z
   obtain ⟨o',_,_,e',ex,_⟩:=hm
   rw[q] at e';cases e';exact c ex.1
  show XB _ _ (zaR.«dict.update.loop» ⟨[.ref d,.ref it,zbj ((i:Int)+1),.none],[]⟩) _ _ _
  rw[ci]
  refine yg hA n1 n2 n3 us r (i+1) (stored kvs k v) _ hd' (P.keeps λb o q c=>kp b o (ne_it b o q (by rw[c];decide)) (nd b o q (by rw[c];decide)) q) ?_ ?_ hm2 ?_ ?_
  ·obtain ⟨o,e,c⟩:=it1
   exact ⟨o,(k2.2 it (XQ n1)).trans e,c⟩
  ·obtain ⟨o,e,c⟩:=hl1
   exact ⟨o,(k2.2 l n3).trans e,c⟩
  ·have:=stored_length_le kvs k v
   simp at hz;omega
  ·intro h' tk hm' kp'
   exact h h' tk hm' λb o b1 b2 q=>kp' b o b1 b2 (kp b o b1 b2 q)
end
end
section
open PySem PySem.Spec PyProof.Rows L2
section
variable {prog:XO} {w:X2} {κ:Type} [DecidableEq κ] {knd:KeyKind prog w κ}
theorem o7 {A:Yh}{E:Xb->Xe->Prop}{s:Xe}{l:Addr}{o:Obj}{items:Array Xb}{k:Nat}{r:List (κ×Xb)}{Q:Xb->Xe->Prop}(hA:A.handled=none)
  (hx:s.heap.get? l=some o) (hc:o.cls=.type "list") (hdat:o.data=.seq items k) (hd:o.dict=none) (P:fZ knd s.heap items.toList r) (hz:r.length<=sizeLine)
  (h:∀ h' tk,h'.DictOf knd s.heap.objs.size (merged [] r)->(∀ b o,s.heap.get? b=some o->h'.get? b=some o)->Q (.ref s.heap.objs.size) { s with heap:=h',toks:=tk }) :
  XB (XD prog w) A (zcG (.type "dict") [.ref l]) Q E s:=by
 refine callType_codes (Q₁:=λobj s₁=>obj=.ref s.heap.objs.size/\s₁={ s with heap:=s.heap.push { cls:=.type "dict", data:=.dict #[] } }) F.kt_called_dict (F.kt_typeCall_dict_1 _) F.entry_dict_init (kt_code_dict_new _ ⟨rfl,rfl⟩) ?_
 rintro obj s₁ ⟨rfl,rfl⟩
 have K1:(s.heap.push { cls:=.type "dict", data:=.dict #[] }).DictOf knd s.heap.objs.size []:=zem s.heap
 have hx1:(s.heap.push { cls:=.type "dict", data:=.dict #[] }).get? l=some o:=Xa _ hx
 have ll:l < s.heap.objs.size:=Xq hx
 refine ⟨K1.typeIs,F.args_dict_init_2 _ _,?_⟩
 unfold zaR.«dict.__init__»
 refine W8 ?_
 unfold zeW
 refine W8 (wpAny_notOrdered_dict K1.typeIs ?_)
 show XB _ _ (pure (s.heap.objs.size,[XT l])) _ _ _
 refine Xj ?_
 show XB _ _ (zb2 "dict.__init__" s.heap.objs.size (.ref l) [] .none) _ _ _
 unfold zb2
 refine W8 (wpAny_typeOf (T := "list") ⟨o,hx1,hc⟩ ?_)
 rw[if_pos (by decide)]
 refine W8 (SS hx1 hc hdat hd hA λh1 tk1 kp1=>?_)
 rw[if_pos (by decide)]
 refine W8 (Zx ?_)
 have hx2:h1.get? l=some o:=kp1 _ _ hx1
 have hl2:h1.IsList l items:=⟨o,hx2,hc,k,hdat⟩
 have lt1:s.heap.objs.size < h1.objs.size:=by
  obtain ⟨o',es,ep,ho,_⟩:=K1
  exact Xq (kp1 _ _ ho)
 refine W8 (ZJ hl2 ?_)
 refine W8 (Xj (Xj ?_))
 refine ⟨Zo l8 _,zcv xP ?_⟩
 rw[zaV l8 _]
 have kp2:∀ b o,s.heap.get? b=some o->(h1.push { cls:=.type "list_iterator", data:=.fields #[.ref l,.int 0 0] }).get? b=some o:=λb o q=>Xa _ (kp1 _ _ (Xa _ q))
 refine yg (A:=A.in1) (knd:=knd) (it:=h1.objs.size) (d:=s.heap.objs.size) (l:=l) (items:=items) (R:=wants (λr s₂=>r=YX/\Q (XT s.heap.objs.size) s₂) E) hA (XF lt1) (XF (zdE ll lt1)) (XF ll) items.toList r 0 [] _ rfl ?_ ?_ ?_ ?_ (by simpa using hz) ?_
 ·exact P.keeps λb o q _=>kp2 b o q
 ·exact ⟨_,Xu _ rfl,rfl,rfl⟩
 ·exact ⟨o,Xa _ hx2,hc,k,hdat⟩
 ·obtain ⟨o',es,ep,ho,rest⟩:=K1
  exact ⟨o',es,ep,Xa _ (kp1 _ _ ho),rest⟩
 ·intro h' tk hm' kp'
  refine ⟨rfl,h h' tk hm' λb o q=>?_⟩
  have hb:b < s.heap.objs.size:=Xq q
  exact kp' b o (XF (zdE hb lt1)) (XF hb) (kp2 b o q)
end
def dK:Key->D
 | .inl i=>.int i
 | .inr s=>.str s
def BU (kv:Key×D):D:=.tup [dK kv.1,kv.2]
def jT (kvs more:List (Key×D)):List (Key×D):=more.foldl (λacc kv=>putD acc kv.1 kv.2) kvs
inductive fA (K:W7) (H:Hp):List V->List (Key×V)->Prop
 | nil:fA K H [] []
 | cons {a:Addr} {k:Key} {v:V} {ys:List V} {r:List (Key×V)}:SqT K H a [kV k,v]->fA K H ys r->fA K H (.ref a::ys) ((k,v)::r)
theorem fA.at {X:Cx}{pins:List (Addr×Obj)}{σ:L2.St}{H:Hp}{s:Xe}(I:Inv X pins σ H s):∀ {ys:List V} {kvs:List (Key×V)} {us:List Xb},fA X.K H ys kvs->Vals ys us->∃ r,fZ (bU X.prog X.w) s.heap us r/\KV kvs r
 | _,_,_,.nil,.nil=>⟨[],.nil,.nil⟩
 | _,_,_,@fA.cons _ _ a k v ys r sq h,.cons ru rs=>by
  cases (show _=XT a from ru)
  obtain ⟨r,p,q⟩:=h.at I rs
  obtain ⟨its,vs,it,_⟩:=I.tuple sq
  cases vs with | @cons _ u1 _ _ r1 vs=>cases vs with | @cons _ u2 _ _ r2 vs=>
  cases vs
  exact ⟨(k,u2)::r,.cons it (uo r1) p,.cons ⟨rfl,r2⟩ q⟩
theorem Cu {X:Cx}(hc:X.calm=true):b6 X (.type "dict") (λxs H Q=>∃ l ys kvs,xs=[.ref l]/\SqL X.K H l ys/\fA X.K H ys kvs/\kvs.length<=sizeLine/\∀ p,H p=none->Q (.ref p) (L2.upd H p (.dK (eB [] kvs)))):=by
 intro pins s σ H xs us Q I rx h
 obtain ⟨l,ys,kvs,rfl,sq,pv,hz,q⟩:=h
 obtain ⟨u,rfl,ru⟩:=vals1 rx
 cases (show u=XT l from ru)
 obtain ⟨its,vs,pl,_⟩:=I.list sq
 obtain ⟨o,n,e,c,hd,hdat⟩:=pl
 obtain ⟨r,pr,kv⟩:=pv.at I vs
 refine o7 (knd:=bU X.prog X.w) (I.ok.hd hc) e c hdat hd (r:=r) (by simpa using pr) (by rw[← kv.length];exact hz) λh' tk dd kp=>?_
 have hl:(eB [] kvs).length<=sizeLine:=by have:=ig kvs [];simp at this;omega
 exact ⟨.ref s.heap.objs.size,_,I.laid (a:=s.heap.objs.size) (o:=.dK (eB [] kvs)) kp (Xs _) (Cw hl (beq_eq_false_iff_ne.mpr (XQ (XF I.big))) (KV.merge kv .nil) dd),rfl,q _ (I.hok.fresh (Xs _))⟩
def De:FSp:=λds μ Q=>match ds with
 | [.ls xs]=>∃ kvs:List (Key×D),xs=kvs.map BU/\kvs.length<=1000000/\∀ p,μ p=none->Q (.obj p) (up μ p (.dct (jT [] kvs)))
 | _=>False
theorem Su {K:W7}{H:Hp}{v:V}{k:Key}(h:Dp K H v (dK k)):v=kV k:=by
 cases k with
 | inl i=>cases h;rfl
 | inr s=>cases h;rfl
theorem fA.of {K:W7}{H:Hp}:∀ {kvs:List (Key×D)} {xs:List V},DpL K H xs (kvs.map BU)->∃ r,fA K H xs r/\DpK K H r kvs
 | [],_,h=>by cases h;exact ⟨[],.nil,.nil⟩
 | kv::kvs,_,h=>by
  obtain ⟨k,d⟩:=kv
  cases h with
  | cons p l=>
   obtain ⟨r,h1,h2⟩:=fA.of l
   cases p with
   | tup sq lp=>
    cases lp with | cons p1 lp=>cases lp with | cons p2 lp=>
    cases lp
    cases Su p1
    exact ⟨(k,_)::r,.cons sq h1,.cons p2 h2⟩
theorem DpK.merge {K:W7}{H:Hp}{xs:List (Key×V)}{kvs:List (Key×D)}(h:DpK K H xs kvs):∀ {axs:List (Key×V)} {akvs:List (Key×D)},DpK K H axs akvs->DpK K H (eB axs xs) (jT akvs kvs):=
 DpK.ind (P:=λxs kvs=>∀ {axs:List (Key×V)} {akvs:List (Key×D)},DpK K H axs akvs->DpK K H (eB axs xs) (jT akvs kvs)) (λh=>h) (λk v d xs kvs p _ ih axs akvs ha=>ih (ha.put k p)) h
theorem KQ {K:W7}:kX K (λxs H Q=>∃ l ys kvs,xs=[.ref l]/\SqL K H l ys/\fA K H ys kvs/\kvs.length<=sizeLine/\∀ p,H p=none->Q (.ref p) (L2.upd H p (.dK (eB [] kvs)))) De:=λH μ xs ds Q Q' m p h k=>by
 unfold De at h
 split at h
 ·obtain ⟨kvs,rfl,hl,h⟩:=h
  cases p with | cons p1 p2=>
  cases p2
  cases p1 with
  | ls q l=>
   obtain ⟨r,h1,h2⟩:=fA.of l
   exact ⟨_,_,r,rfl,q.sq,h1,by rw[h2.length];exact big hl,λz hz=>k _ _ _ _ (.new hz) (CL m hz (h2.merge .nil)) (.obj z) (h z (m.free hz))⟩
 ·exact Xf h
end
section
open PySem PySem.Spec PyProof.Rows L2
theorem Dc (K:W7){t:String}(ht:t∈tys):∀ (cs:List String),(∀ c∈cs,c∈zc)->zeL K (.type t) (cs.map .type)=some (cs.any λc=>eM t c)
 | [],_=>rfl
 | c::cs,h=>by
  have e:=C2 K t ht c (h c Xl)
  have ih:=Dc K ht cs λx hx=>h x (Xo _ hx)
  rw[Xh,Zl]
  unfold zeL
  rw[e]
  cases eM t c with
  | true=>rfl
  | false=>rw[zda];exact ih
def IQ (K:W7):List V->Hp->VK->Prop:=λxs H Q=>∃ x d t p,∃ cs:List String,xs=[x,.ref p]/\SqT K H p (cs.map V.ty)/\Dp K H x d/\tyD d=some t/\(∀ c∈cs,c∈zc)/\Q (.bl (cs.any λc=>eM t c)) H
theorem D4:∀ {cs:List String} {us:List Xb},Vals (cs.map V.ty) us->us=cs.map .type
 | [],_,h=>by cases h;rfl
 | c::cs,_,h=>by
  cases h with
  | cons r h=>rw[D4 h,Xh];congr 1
theorem Fm {X:Cx}:b6 X (.builtin "isinstance") (IQ X.K):=λpins s σ H xs us Q I rx ⟨x,d,t,p,cs,ex,sq,px,et,hc,q⟩=>by
 subst ex
 cases rx with | @cons _ u _ _ r1 r2=>cases r2 with | cons r2 r3=>
 cases r3
 cases (show _=XT p from r2)
 obtain ⟨its,rv,⟨o,ho,hcl,n,hd⟩,_⟩:=I.tuple sq
 have ei:=D4 rv
 subst ei
 have htp:s.heap.get? p=some ⟨.type "tuple", o.dict,.seq (cs.map zdn).toArray n,o.slots⟩:=by
  rw[ho];obtain ⟨c,dd,dt,sl⟩:=o;simp only at hcl hd;subst hcl hd;rfl
 have e:=Dc X.K (HD et) cs hc
 have fin:∀ tk,EP X pins σ Q (.bool (cs.any λc=>eM t c)) { s with toks:=tk }:=λtk=>⟨.bl _,H,I.tok tk,rfl,q⟩
 cases px with
 | non=>cases et;cases (show u=YX from r1);exact ZD zdG I.kIn YQ htp e (λz=>nomatch z) fin
 | bl y=>cases et;cases (show u=zbg y from r1);exact ZD zdH I.kIn YQ htp e (λz=>nomatch z) fin
 | int i=>cases et;obtain ⟨t,z⟩:=(show ∃ t,u=zak i t from r1);cases z;exact ZD zd4 I.kIn YQ htp e (λz=>nomatch z) fin
 | str y=>cases et;obtain ⟨t,z⟩:=(show ∃ t,u=zbf y t from r1);cases z;exact ZD zd5 I.kIn YQ htp e (λz=>nomatch z) fin
 | ty _=>cases et
 | obj _=>cases et
 | @tup a xs ds sq l=>
  cases et
  cases (show u=XT a from r1)
  obtain ⟨its,_,⟨o,h1,h2,_⟩,_⟩:=I.tuple sq
  exact ZD zdq I.kIn ⟨o,h1,h2⟩ htp e (λz=>nomatch z) fin
 | @ls a xs ds sq l=>
  cases et
  cases (show u=XT a from r1)
  obtain ⟨its,_,⟨o,n,h1,h2,_⟩,_⟩:=I.list sq.sq
  exact ZD zdI I.kIn ⟨o,h1,h2⟩ htp e (λz=>nomatch z) fin
def zO (cs:List String):FSp:=λds μ Q=>match ds with
 | [x,.tup ts]=>(ts=cs.map .ty/\∀ c∈cs,c∈zc)/\(match tyD x with
  | some t=>Q (.bl (cs.any λc=>eM t c)) μ
  | none=>False)
 | _=>False
theorem Gz {K:W7}{H:Hp}:∀ {cs:List String} {xs:List V},DpL K H xs (cs.map .ty)->xs=cs.map V.ty
 | [],_,h=>by cases h;rfl
 | c::cs,_,h=>by
  cases h with
  | cons p l=>cases p;rw[Gz l,Xh]
theorem Gb {K:W7}(cs:List String):kX K (IQ K) (zO cs):=λH μ xs ds Q Q' m p h k=>by
 unfold zO at h
 split at h
 ·obtain ⟨⟨rfl,hc⟩,h⟩:=h
  cases p with | cons p1 p2=>cases p2 with | cons p2 p3=>
  cases p3
  cases p2 with
  | tup sq l=>
   cases Gz l
   split at h
   ·rename_i t et
    exact ⟨_,_,t,_,cs,rfl,sq,p1,et,hc,k _ H _ μ (.refl H) m (.bl _) h⟩
   ·exact Xf h
 ·exact Xf h
section
variable {X:Cx} {o i a b c e value:XG} {To Ti Ta Tb Te:ETr} {pos tpos apos cpos:Pos}
def Sf (To Ti:ETr):ETr:=λρ μ Q=>To ρ μ λx μ1=>kObj x λa=>kL μ1 a λ_=>Ti ρ μ1 λy μ2=>kI y λj=>(-9223372036854775808<=j/\j < 9223372036854775808)/\kL μ2 a λds=>kN (L2.ixN ds.length j) λk=>kO ds[k]? λd=>Q d (up μ2 a (.lst (ds.eraseIdx k)))
theorem JU {n k:Nat}{j:Int}(h:L2.ixN n j=some k):zcX j n=some k:=by
 unfold L2.ixN at h
 unfold zcX
 split at h
 ·split at h
  ·cases h
   rename_i h1 h2
   simp[show ¬ (j < 0) by omega,h1,h2]
  ·cases h
 ·split at h
  ·cases h
   rename_i h1 h2
   simp[show j < 0 by omega]
   omega
  ·cases h
theorem DpL.erase {K:W7}{H:Hp}:∀ {vs:List V} {ds:List D} (i:Nat),DpL K H vs ds->DpL K H (vs.eraseIdx i) (ds.eraseIdx i)
 | _,_,_,.nil=>by simp;exact .nil
 | _,_,0,.cons _ l=>l
 | _,_,i+1,.cons q l=>.cons q (DpL.erase i l)
theorem PY (ho:LE X o To)(hi:LE X i Ti)
  (hbase:Z7 o "pop" X.env (Yl o X.env)=Yl o X.env:=by rfl)
  (hfew:((YA cpos (Xp [i] X.env)).all (λx=>!x.1)&&(zbl cpos (ZM [] X.env)).all (λx=>x.1.isSome)
   && decide (([i]:List XG).length+([]:List ZW).length+(if ([]:List ZW).isEmpty then 0 else 1) < 30))=true:=by rfl)
  (hline:(apos.endLine == cpos.line)=true:=by rfl) (hs:Xp [i] X.env=(false,Yl i X.env)::Xp [] X.env:=by rfl) (hplain:(YA cpos (Xp [] X.env)).any (·.1)=false:=by rfl) :
  LE X (.Call (.Attribute o "pop" apos) [i] [] cpos) (Sf To Ti):=by
 obtain ⟨to,po,so⟩:=ho.ex
 obtain ⟨ti,pi,si⟩:=hi.ex
 refine ⟨_,C0 Zu PySem.F.slot_list_pop PySem.F.type_list_pop Kx po (dB pi hX hs) hbase hfew hline hs hplain,λσ H ρ μ Q Q' rl h k=>so σ H ρ μ _ _ rl h λx H1 dx μ1 t1 m1 p1 h1=>?_⟩
 obtain ⟨q,rfl,h1⟩:=eL p1 h1
 obtain ⟨ds0,e0,h1⟩:=bT h1
 obtain ⟨xs0,ex0,_⟩:=m1 q _ e0
 refine ⟨.inl ⟨rfl,_,SqL.of ex0⟩,si σ H1 ρ μ1 _ _ (rl.go t1 m1) h1 λy H2 dy μ2 t2 m2 p2 h2=>?_⟩
 cases p2 with
 | int j=>
  obtain ⟨hr,h2⟩:=h2
  obtain ⟨ds,e2,h3⟩:=bT (show kL μ2 q _ from h2)
  obtain ⟨kk,e3,h3⟩:=JM h3
  obtain ⟨d,e4,h3⟩:=lA h3
  obtain ⟨xs,ex,l⟩:=m2 q _ e2
  obtain ⟨v,ev,pv⟩:=l.get e4
  have e3':L2.ixN xs.length j=some kk:=by rw[l.length];exact e3
  exact ⟨q,xs,j,kk,v,rfl,rfl,ex,by omega,by omega,JU e3',ev,k _ _ _ _ ((t1.trans t2).trans (kY ex)) (Jj m2 ex (l.erase kk)) (pv.mono (kY ex)) h3⟩
 | _=>exact Xf h2
end
noncomputable def rq (h:Heap) (dx:PyData) (y:Xb):Bool:=@decide (∃ d as,Reads h y d as/\zeE d=true/\Zm d dx=true) (zar _)
theorem Nt {h:Heap}{dx d:PyData}{y:Xb}{as:List Addr}(r:Reads h y d as)(hd:d.canLay0=true):rq h dx y=Zm d dx:=by
 unfold rq
 cases e:Zm d dx with
 | true=>exact @decide_eq_true _ (zar _) ⟨d,as,r,hd,e⟩
 | false=>
  refine @decide_eq_false _ (zar _) ?_
  rintro ⟨d',as',r',hd',e'⟩
  cases SeqAt.Reads.unique _ _ _ _ _ hd r r'
  rw[e] at e';cases e'
theorem DB {n:Nat}:∀ {ds:List D} {d:D},c6 n ds=true->d∈ds->okD n d=true
 | x::r,d,h,hm=>by
  have h':okD n x=true/\c6 n r=true:=by simpa[c6] using h
  rcases Xr.mp hm with rfl | hm
  ·exact h'.1
  ·exact DB h'.2 hm
section
variable {X:Cx} {pins:List (Addr×Obj)} {σ:L2.St} {H:Hp} {s:Xe}
theorem item_at (I:Inv X pins σ H s){vs:List V}{ds:List D}{us:List Xb}(l:DpL X.K H vs ds)(r:Vals vs us)(ok:c6 38 ds=true){dy:D}{y:Xb}{bs:List Addr}(oy:okD 38 dy=true)(ry:Reads s.heap y (toP dy) bs)(hu:X.A.units+64 < cLine)
  {m:Nat} {u:Xb} (hm:us[m]? = some u):∃ d,ds[m]? = some d/\rq s.heap (toP dy) u=eqD d dy/\zeM X.A.in1 s u y (rq s.heap (toP dy) u):=by
 have hlt:m < vs.length:=by rw[r.length];exact (XR.mp hm).1
 obtain ⟨u',e1,rv⟩:=r.get (Xt hlt)
 rw[hm] at e1;cases e1
 obtain ⟨d,ed,pd⟩:=l.get' (Xt hlt)
 have od:=DB ok (ZO ed)
 obtain ⟨as,ra⟩:=fm I pd od rv
 obtain ⟨l1,d1⟩:=iJ 38 d od
 obtain ⟨l2,d2⟩:=iJ 38 dy oy
 have e:=Nt (dx:=toP dy) ra l1
 refine ⟨d,ed,by rw[e,pI 38 38 d dy od oy],?_⟩
 rw[e]
 exact SeqAt.eqAt_reads _ _ _ s _ _ _ _ ra ry l1 l2 (by have:=zcq (toP d).depth (toP dy).depth;rw[Around.in1_units];omega)
end
def Ek (ds:List D)(x:D):Option Nat:=ds.findIdx? λy=>eqD y x
theorem IY {X:Cx}(hu:X.A.units+64 < cLine):MtM X "list.index" (λx vs H Q=>∃ p xs y ds dy,∃ j:Nat,x=.ref p/\vs=[y]/\SqL X.K H p xs/\DpL X.K H xs ds/\Dp X.K H y dy/\c6 38 ds=true/\okD 38 dy=true/\Ek ds dy=some j/\j < 1000000/\Q (.int j) H):=by
 intro pins s σ H x vs v us Q I rx rv h
 obtain ⟨p,xs,y,ds,dy,j,rfl,rfl,sq,l,py,ok,oy,hj,hj2,q⟩:=h
 cases (show v=XT p from rx)
 obtain ⟨u,rfl,ru⟩:=rv.one
 obtain ⟨its,r,⟨o,n,e,c,hd,hdat⟩,_⟩:=I.list sq
 obtain ⟨bs,rb⟩:=fm I py oy ru
 have he:s.heap.get? p=some ⟨.type "list", none,.seq its.toArray n,o.slots⟩:=by
  rw[e];obtain ⟨c',dd,dt,sl⟩:=o;simp only at c hd hdat;subst c hd hdat;rfl
 unfold Ek at hj
 rw[zas] at hj
 obtain ⟨h1,h2,h3⟩:=hj
 have hl:ds.length=its.length:=by rw[← l.length,r.length]
 have at':∀ m (hm:m < its.toArray.size),∃ d,ds[m]? = some d/\rq s.heap (toP dy) its.toArray[m]=eqD d dy/\zeM X.A.in1 s its.toArray[m] u (rq s.heap (toP dy) its.toArray[m]):=λm hm=>
  item_at I l r ok oy rb hu (by simp at hm ⊢)
 refine zbq F.slot_list_index ⟨_,he,rfl⟩ F.entry_list_index (F.args_list_index_2 _ _) (SeqAt.list_indexAt p its.toArray n none o.slots u (rq s.heap (toP dy)) j (by simp;omega) (by omega) ?_ ?_) ⟨he,λw hw=>?_,?_⟩
 ·obtain ⟨d,e1,e2,_⟩:=at' j (by simp;omega)
  rw[e2]
  rw[Xt h1] at e1;cases e1
  exact h2
 ·intro m hm hlt
  obtain ⟨d,e1,e2,_⟩:=at' m hm
  rw[e2]
  have hm':m < ds.length:=by simp at hm;omega
  rw[Xt hm'] at e1;cases e1
  have:=h3 m hlt
  simpa using this
 ·obtain ⟨m,hm,rfl⟩:=zcA.mp hw
  obtain ⟨d,_,_,e3⟩:=at' m hm
  exact e3
 ·exact ⟨.int j,H,I.tok _,⟨_,rfl⟩,q⟩
section
variable {X:Cx} {o i a b c e value:XG} {To Ti Ta Tb Te:ETr} {pos tpos apos cpos:Pos}
def ED (μ:Mu)(x:D)(f:List D->Prop):Prop:=match x with
 | .ls ds=>f ds
 | .obj a=>kL μ a f
 | _=>False
theorem xQ {K:W7}{H:Hp}{μ:Mu}{x:V}{dx:D}{f:List D->Prop}(m:bM K H μ)(p:Dp K H x dx)(h:ED μ dx f):∃ q xs ds,x=.ref q/\SqL K H q xs/\DpL K H xs ds/\f ds:=by
 cases p with
 | ls sq l=>exact ⟨_,_,_,rfl,sq.sq,l,h⟩
 | obj q=>
  obtain ⟨ds,e0,h⟩:=bT h
  obtain ⟨xs,ex,l⟩:=m q _ e0
  exact ⟨q,xs,ds,rfl,SqL.of ex,l,h⟩
 | _=>exact Xf h
def B4 (To Ti:ETr):ETr:=λρ μ Q=>To ρ μ λx μ1=>ED μ1 x λ_=>Ti ρ μ1 λy μ2=>ED μ2 x λds=>(c6 38 ds=true/\okD 38 y=true)/\kN (Ek ds y) λj=>j < 1000000/\Q (.int j) μ2
theorem Hk (hu:X.A.units+64 < cLine)(ho:LE X o To)(hi:LE X i Ti)
  (hbase:Z7 o "index" X.env (Yl o X.env)=Yl o X.env:=by rfl)
  (hfew:((YA cpos (Xp [i] X.env)).all (λx=>!x.1)&&(zbl cpos (ZM [] X.env)).all (λx=>x.1.isSome)
   && decide (([i]:List XG).length+([]:List ZW).length+(if ([]:List ZW).isEmpty then 0 else 1) < 30))=true:=by rfl)
  (hline:(apos.endLine == cpos.line)=true:=by rfl) (hs:Xp [i] X.env=(false,Yl i X.env)::Xp [] X.env:=by rfl) (hplain:(YA cpos (Xp [] X.env)).any (·.1)=false:=by rfl) :
  LE X (.Call (.Attribute o "index" apos) [i] [] cpos) (B4 To Ti):=by
 obtain ⟨to,po,so⟩:=ho.ex
 obtain ⟨ti,pi,si⟩:=hi.ex
 refine ⟨_,C0 Zu PySem.F.slot_list_index PySem.F.type_list_index (IY hu) po (dB pi hX hs) hbase hfew hline hs hplain,λσ H ρ μ Q Q' rl h k=>so σ H ρ μ _ _ rl h λx H1 dx μ1 t1 m1 p1 h1=>?_⟩
 obtain ⟨q,xs0,ds0,rfl,sq0,l0,h1⟩:=xQ m1 p1 h1
 refine ⟨.inl ⟨rfl,_,sq0⟩,si σ H1 ρ μ1 _ _ (rl.go t1 m1) h1 λy H2 dy μ2 t2 m2 p2 h2=>?_⟩
 obtain ⟨q',xs,ds,eq,sq,l,h2⟩:=xQ m2 (p1.mono t2) h2
 cases eq
 obtain ⟨⟨o1,o2⟩,h2⟩:=h2
 obtain ⟨j,ej,hj,h2⟩:=JM h2
 exact ⟨q,xs,y,ds,dy,j,rfl,rfl,sq,l,p2,o1,o2,ej,hj,k _ H2 _ μ2 (t1.trans t2) m2 (.int _) h2⟩
def inG (x:D)(ds:List D):Bool:=ds.any λy=>eqD y x
def OS (K:W7)(neg:Bool):L2.R2:=λx y H Q=>∃ p xs ds dx,y=.ref p/\(SqL K H p xs∨SqT K H p xs)/\DpL K H xs ds/\Dp K H x dx/\c6 38 ds=true/\okD 38 dx=true/\Q (.bl (if neg then !inG dx ds else inG dx ds)) H
theorem Gu {pins:List (Addr×Obj)}{σ:L2.St}{H:Hp}{s:Xe}(I:Inv X pins σ H s)(hu:X.A.units+64 < cLine){vs:List V}{ds:List D}{us:List Xb}(l:DpL X.K H vs ds)(r:Vals vs us)(ok:c6 38 ds=true){dy:D}{y:Xb}{bs:List Addr}(oy:okD 38 dy=true)(ry:Reads s.heap y (toP dy) bs) :
  (∀ w,w∈us.toArray->zeM X.A.in1 s w y (rq s.heap (toP dy) w))/\us.toArray.any (rq s.heap (toP dy))=inG dy ds:=by
 have hl:ds.length=us.length:=by rw[← l.length,r.length]
 constructor
 ·intro w hw
  obtain ⟨m,hm,rfl⟩:=zcA.mp hw
  obtain ⟨d,_,_,e3⟩:=item_at I l r ok oy ry hu (m:=m) (u:=us.toArray[m]) (by simp at hm ⊢)
  exact e3
 ·unfold inG
  rw[show us.toArray.any (rq s.heap (toP dy))=us.any (rq s.heap (toP dy)) by simp]
  rw[za7,zaN,zaN]
  constructor
  ·rintro ⟨w,hw,e⟩
   obtain ⟨m,hm,rfl⟩:=zcO.mp hw
   obtain ⟨d,e1,e2,_⟩:=item_at I l r ok oy ry hu (m:=m) (u:=us[m]) (by simp)
   exact ⟨d,ZO e1,by rw[← e2];exact e⟩
  ·rintro ⟨d,hd,e⟩
   obtain ⟨m,hm,rfl⟩:=zcO.mp hd
   obtain ⟨d',e1,e2,_⟩:=item_at I l r ok oy ry hu (m:=m) (u:=us[m]'(by omega)) (by simp)
   rw[Xt hm] at e1;cases e1
   exact ⟨us[m]'(by omega),YS _,by rw[e2];exact e⟩
theorem QV (hu:X.A.units+64 < cLine):OpR X (Zd .In) (OS X.K false):=by
 intro pins s σ H x y v u Q I rx ry h
 obtain ⟨p,xs,ds,dx,rfl,hq,l,px,o1,o2,q⟩:=h
 cases (show u=XT p from ry)
 obtain ⟨bs,rb⟩:=fm I px o2 rx
 rcases hq with hq | hq
 ·obtain ⟨its,r,pl,hz⟩:=I.list hq
  obtain ⟨h1,h2⟩:=Gu I hu l r o1 o2 rb
  exact SeqAt.in_listAt _ pl.isList h1 ⟨.bl _,H,I,rfl,by rw[h2];exact q⟩
 ·obtain ⟨its,r,pl,hz⟩:=I.tuple hq
  obtain ⟨h1,h2⟩:=Gu I hu l r o1 o2 rb
  exact SeqAt.in_tupleAt _ pl h1 ⟨.bl _,H,I,rfl,by rw[h2];exact q⟩
def Fw (μ:Mu)(x:D)(f:List D->Prop):Prop:=match x with
 | .tup ds=>f ds
 | .ls ds=>f ds
 | .obj a=>kL μ a f
 | _=>False
def CB (neg:Bool):DR2:=λx y μ Q=>Fw μ y λds=>(c6 38 ds=true/\okD 38 x=true)/\Q (.bl (if neg then !inG x ds else inG x ds)) μ
theorem Og {K:W7}(neg:Bool):gH K (OS K neg) (CB neg):=λH μ x y dx dy Q Q' m px py h k=>by
 cases py with
 | tup sq l=>exact ⟨_,_,_,dx,rfl,.inr sq,l,px,h.1.1,h.1.2,k _ H _ μ (.refl H) m (.bl _) h.2⟩
 | ls sq l=>exact ⟨_,_,_,dx,rfl,.inl sq.sq,l,px,h.1.1,h.1.2,k _ H _ μ (.refl H) m (.bl _) h.2⟩
 | obj q=>
  obtain ⟨ds,e0,h⟩:=bT (show kL μ q _ from h)
  obtain ⟨xs,ex,l⟩:=m q _ e0
  exact ⟨_,_,_,dx,rfl,.inl (SqL.of ex),l,px,h.1.1,h.1.2,k _ H _ μ (.refl H) m (.bl _) h.2⟩
 | _=>exact Xf h
theorem BI (hu:X.A.units+64 < cLine)(ha:LE X a Ta)(hb:LE X b Tb)(hm:ZF .In b=false:=by rfl):LT X (.Compare a [.In] [b] pos) (TB (aj (CB false) Ta Tb)):=fY (QV hu) (Og false) ha hb hm
end
end
section
open PySem PySem.Spec PyProof.Rows L2
def Ra (K:W7)(n:Nat)(t:TGs)(is:List Nat):Prop:=∀ σ H ρ μ vs ds (k:ST->Mu->Prop) (k':L2.St->Hp->Prop),Rl K σ H ρ μ->DpL K H vs ds->ds.length=is.length->k (jB ρ is ds) μ->OA K n σ H k k'->t vs σ H k'
structure Nv (X:Cx) (n:Nat) (es:List XG) (is:List Nat):Prop where
 ex:∃ t,PGs X es t/\Ra X.K n t is
section
variable {X:Cx} {e tg:XG} {es:List XG} {is:List Nat} {pos:Pos} {x:Str} {n:Nat}
theorem fk:Nv X n [] []:=⟨_,wq,λσ H ρ μ vs ds k k' rl l hl h q=>by
 cases ds with
 | nil=>cases l;exact ⟨rfl,q _ _ _ _ (.refl H) rl ⟨rfl,λ_ _=>rfl⟩ h⟩
 | cons=>cases hl⟩
theorem bF (i:Nat)(hN:X.N.Nodup)(h2:Nv X n es is)(hin:i < n:=by decide)(hi:X.N[i]? = some x:=by rfl)(hx:Loc X.env.scope x:=by first | exact zay rfl | exact zaz rfl)(hf:X.fn x=true∨X.env.scope.names.lookup x=some .local:=by first | exact .inr rfl | exact .inl rfl | assumption)
  (hs:(X7 (.Name x pos::es) X.env).map (·.2)=zb8 (.Name x pos) X.env::(X7 es X.env).map (·.2):=by rfl):Nv X n (.Name x pos::es) (i::is):=by
 obtain ⟨t,pt,st⟩:=h2.ex
 refine ⟨_,rN (iW hN hi hx hf) pt hs,λσ H ρ μ vs ds k k' rl l hl h q=>?_⟩
 cases l with
 | nil=>cases hl
 | @cons v d vs ds p l=>
  refine ⟨v,vs,rfl,st _ H _ μ vs ds k k' (rl.set p i) l (by simpa using hl) h λσ' H' ρ' μ' t' r' hk kk=>q σ' H' ρ' μ' t' r' ⟨?_,λj hj=>?_⟩ kk⟩
  ·rw[hk.1];simp
  ·rw[hk.2 j hj,Ze (by omega)]
theorem gZ {k:Nat}(hc:X.calm=true)(h:Nv X n es is)(hn:(X7 es X.env).length=is.length:=by rfl)(hst:(X7 es X.env).findIdx? (·.1)=none:=by rfl):LGc X n (.Tuple es k pos) (dh is):=by
 obtain ⟨t,pt,st⟩:=h.ex
 refine ⟨λpins s σ H v u k' I r ⟨ρ,μ,d,k,rl,p,h,post⟩=>AK hc pt hn hst pins s σ H v u k' I r ?_⟩
 cases p with
 | @tup a xs ds sq l=>exact ⟨a,xs,rfl,sq,by rw[l.length];exact h.1,st σ H ρ μ xs ds k k' rl l h.1 h.2 post⟩
 | _=>exact Xf h
end
section
variable {X:Cx} {o i a b c e value:XG} {To Ti Ta Tb Te:ETr} {pos tpos apos cpos:Pos}
theorem EB (l:Addr)(its:Array Xb)(n:Nat)(q:Addr)(its2:Array Xb)(n2:Nat)(sl:Array (Option Xb))(h0:¬ (!its.isEmpty&&YB (its.size+its2.size))=true)(h1:its.size<=sizeLine)(h2:its.size+its2.size<=sizeLine+1) :
  Meets (zaR.«list.extend» ⟨[.ref l,.ref q],[]⟩) (λ_ R s=>s.heap.get? l=some { cls:=.type "list", dict:=none,data:=.seq its n,slots:=#[] }/\s.heap.get? q=some { cls:=.type "list", dict:=none,data:=.seq its2 n2,slots:=sl }/\
   R (.ok (.ret YX)) { s with heap:=s.heap.update l (zce λx=>x++its2) }):=
 .of_wp λprog w A R s h=>by
  obtain ⟨hp,g,d,tk,os⟩:=s
  obtain ⟨hl,hb,h⟩:=h
  have z1:=zcm
  have z2:=zaO
  have z3:=za8
  have z4:=zaW
  have z5:=zaX
  have hz':(its++its2).size<=sizeLine+1:=by rw[zdQ];omega
  wp_walk using (zab hl rfl (hz:=h1) (_hz':=hz')),za9 hl,za9 hb
  exact ⟨_,rfl,h⟩
def Ub (K:W7):V->List V->Hp->VK->Prop:=λx vs H Q=>∃ l b xs zs,x=.ref l/\vs=[.ref b]/\H l=some (.lst xs)/\SqL K H b zs/\xs.length+zs.length<=sizeLine/\Q .non (L2.upd H l (.lst (xs++zs)))
theorem Pu:MtM X "list.extend" (Ub X.K):=by
 intro pins s σ H x vs v us Q I rx rv h
 obtain ⟨l,q,xs,zs,rfl,rfl,hH,hB,hz,qq⟩:=h
 cases (show v=XT l from rx)
 obtain ⟨u,rfl,ru⟩:=rv.one
 cases (show u=XT q from ru)
 obtain ⟨z,its,n,r,hl,e⟩:=I.KY hH
 obtain ⟨its2,r2,⟨o,n2,e2,c2,d2,dat2⟩,_⟩:=I.list hB
 have e2':s.heap.get? q=some ⟨.type "list", none,.seq its2.toArray n2,o.slots⟩:=by
  rw[e2];obtain ⟨c',dd,dt,sl⟩:=o;simp only at c2 d2 dat2;subst c2 d2 dat2;rfl
 have hl2:=r2.length
 have hs2:its.toArray.size+its2.toArray.size<=sizeLine:=by rw[Xv,Xv];omega
 have Kd:¬ (!its.toArray.isEmpty&&YB (its.toArray.size+its2.toArray.size))=true:=by
  rw[yi hs2,zcP];decide
 refine zbq zdw ⟨_,e,rfl⟩ zc4 (zcQ _ _) (EB l its.toArray n q its2.toArray n2 o.slots Kd (by omega) (by omega)) ⟨e,e2',?_⟩
 refine ⟨.non,_,I.Nh (its':=its++its2) hH e (by simp) (r.append r2) ?_,rfl,qq⟩
 rw[Xi];omega
end
section
variable {P:XO} {w:X2} {K:W7} {mg:Str->Option Xb} {base:Heap}
theorem Vt {k:Nat}{f:Addr}{fd:Xy}{ps:List Str}{x qual:Str}{st:Stmt}{N:List Str}(F:Fun K x qual st f fd)(S:aH N ps (aw st)):jo P w K mg base CX0 (k+1) f fd ps (lift K λ_ _ _=>False):=by
 refine F.ok S (λvs H Q E h=>?_) (λcdv A outer s H vs Q E hroom h=>?_)
 ·obtain ⟨ds,μ,QQ,l,m,h1,k⟩:=h;exact h1.elim
 ·obtain ⟨ds,μ,QQ,l,m,h1,k⟩:=h;exact h1.elim
end
end
section
open PySem PySem.Spec PyProof.Rows L2
section
variable {X:Cx} {tg a ea eb:XG} {Ta:ETr} {es:List XG} {ek:Nat} {ep p pos:Pos}
def WQ (K:W7)(tl:TE):TI:=λσ H R=>tl σ H λx H1=>∃ q,x=.ref q/\(((∃ xs,SqL K H1 q xs)/\R (Itl K q) H1)∨((∃ xs,SqT K H1 q xs)/\R (Itt K q) H1))
theorem RW {tl:TE}(hl:PE X a tl):PI X tg a (WQ X.K tl):=by
 intro pins s σ H R I h
 refine thn (hl pins s σ H _ I h) λv s1 ⟨x,H1,I1,r1,q,ex,qq⟩=>?_
 subst ex
 cases (show v=XT q from r1)
 have fp:∀ b∈[s1.heap.objs.size],_:=λb hb=>by
  have e:b=s1.heap.objs.size:=by simpa using hb
  subst e
  exact I1.Fq (Xs _) (I1.hok.fresh (Xs _))
 rcases qq with ⟨⟨xs,sq⟩,qq⟩ | ⟨⟨xs,sq⟩,qq⟩
 ·obtain ⟨its,rv,pl,hz⟩:=I1.list sq
  exact ZJ pl.isList ⟨s1.heap.objs.size,[s1.heap.objs.size],_,_,H1,rfl,I1.kept (t':=s1.toks) (λb o e=>Xa _ e),uL q _,⟨_,Xu _ rfl,rfl,rfl⟩,fp,qq⟩
 ·obtain ⟨its,rv,pl,hz⟩:=I1.tuple sq
  exact zds (show s1.heap.IsTuple q its.toArray from pl) ⟨s1.heap.objs.size,[s1.heap.objs.size],_,_,H1,rfl,I1.kept (t':=s1.toks) (λb o e=>Xa _ e),CA q _,⟨_,Xu _ rfl,rfl,rfl⟩,fp,qq⟩
theorem br (ha:LE X a Ta):LI X tg a (cN Ta):=by
 obtain ⟨ta,pa,sa⟩:=ha.ex
 refine ⟨_,RW pa,λσ H ρ μ Q R rl h k=>sa σ H ρ μ _ _ rl h λx H1 d μ1 t1 m1 p1 h1=>?_⟩
 cases p1 with
 | @tup p xs ds q l=>exact ⟨p,rfl,.inr ⟨⟨xs,q⟩,k _ H1 ds μ1 t1 m1 (Gn q l) h1⟩⟩
 | @ls p xs ds q l=>exact ⟨p,rfl,.inl ⟨⟨xs,q.sq⟩,k _ H1 ds μ1 t1 m1 (MB q l) h1⟩⟩
 | _=>exact Xf h1
def T3 (K:W7)(t:TA):TI:=λσ H R=>t σ H λvs H1=>∃ (ta tb:Bool) (a b:Addr),vs=[.ref a,.ref b]/\(∃ xs,Sq ta K H1 a xs)/\(∃ ys,Sq tb K H1 b ys)/\R (Itz ta tb K a b) H1
theorem M9 {t:TA}(hg:Gl X "zip")(hm:X.mg "zip" = none)(ha:PA X [ea,eb] t)(hs:Xp [ea,eb] X.env=[(false,Yl ea X.env),(false,Yl eb X.env)]:=by rfl)(hs2:Xp [eb] X.env=[(false,Yl eb X.env)]:=by rfl) :
  PI X (.Tuple es ek ep) (.Call (.Name "zip" p) [ea,eb] [] pos) (T3 X.K t):=by
 intro pins s σ H R I h
 refine Call_ (ij I hg hm boot_zip (Ya (thn (ha pos pins s σ H _ I h) λus s1 ⟨vs,H1,I1,r1,ta,tb,a,b,e,⟨xs,qa⟩,⟨ys,qb⟩,q⟩=>?_) (by rw[hs,hs2]) (by rw[hs2];rfl)))
 subst e
 cases r1 with | cons r rr=>cases rr with | cons r' rr=>
 cases rr
 cases (show _=XT a from r)
 cases (show _=XT b from r')
 obtain ⟨ia,ra,sa⟩:=Inv.sq I1 qa
 obtain ⟨ib,rb,sb⟩:=Inv.sq I1 qb
 have alt:a < s1.heap.objs.size:=by cases ta<;>(obtain ⟨o,e,_⟩:=sa;exact Xq e)
 have blt:b < s1.heap.objs.size:=by cases tb<;>(obtain ⟨o,e,_⟩:=sb;exact Xq e)
 refine Ey sa sb λg S kp=>zd7 S.zz ⟨s1.heap.objs.size+4,[s1.heap.objs.size+4,s1.heap.objs.size+2,s1.heap.objs.size+3,s1.heap.objs.size,s1.heap.objs.size+1],_,_,H1,rfl,I1.kept (t':=s1.toks) kp,JQ (Ul _ _ _ alt blt),S,λc hc=>?_,q⟩
 exact I1.Fq (OI _ _ hc) (I1.hok.fresh (OI _ _ hc))
def jk (t:ATr):ATr:=λρ μ Q=>t ρ μ λvs μ1=>k2 vs λx y=>kS x λds=>kS y λes=>Q (Yk (λd e=>.tup [d,e]) ds es) μ1
theorem A5 {K:W7}{H:Hp}{v:V}{x:D}{f:List D->Prop}(p:Dp K H v x)(h:kS x f):∃ (tp:Bool) (a:Addr) (xs:List V) (ds:List D),v=.ref a/\Sq tp K H a xs/\DpL K H xs ds/\kQ tp x f:=by
 cases p with
 | @tup a xs ds q l=>exact ⟨true,a,xs,ds,rfl,q,l,h⟩
 | @ls a xs ds q l=>exact ⟨false,a,xs,ds,rfl,q,l,h⟩
 | _=>exact Xf h
theorem fL {At:ATr}(hg:Gl X "zip")(hm:X.mg "zip" = none)(ha:LA X [ea,eb] At)
  (hs:Xp [ea,eb] X.env=[(false,Yl ea X.env),(false,Yl eb X.env)]:=by rfl) (hs2:Xp [eb] X.env=[(false,Yl eb X.env)]:=by rfl) :
  LI X (.Tuple es ek ep) (.Call (.Name "zip" p) [ea,eb] [] pos) (jk At):=by
 obtain ⟨t,pt,st⟩:=ha.ex
 refine ⟨_,M9 hg hm pt hs hs2,λσ H ρ μ Q R rl h k=>st σ H ρ μ _ _ rl h λvs H1 ds μ1 t1 m1 p1 h1=>?_⟩
 unfold L3.k2 at h1
 split at h1
 case h_2=>exact Xf h1
 cases p1 with | cons pa p2=>cases p2 with | cons pb p3=>
 cases p3
 obtain ⟨ta,a,xs,dx,rfl,qa,la,h2⟩:=A5 pa h1
 obtain ⟨a',xs',dx',ea',qa',la',h2⟩:=CC pa h2
 cases ea'
 obtain ⟨tb,b,ys,dy,rfl,qb,lb,h3⟩:=A5 pb h2
 obtain ⟨b',ys',dy',eb',qb',lb',h3⟩:=CC pb h3
 cases eb'
 refine ⟨ta,tb,a,b,rfl,⟨xs',qa'⟩,⟨ys',qb'⟩,k _ H1 _ μ1 t1 m1 ⟨λi H' tk hi=>?_,λi H' v H'' tk hi yv=>?_,λi H' tk hi=>?_⟩ h3⟩
 ·have l1:=la'.length
  have l2:=lb'.length
  rw[Yw] at hi
  exact ⟨xs',ys',xs'[i],ys'[i],tk.sq qa',tk.sq qb',by simp[show i < xs'.length by omega],by simp[show i < ys'.length by omega]⟩
 ·obtain ⟨x,y,q,fx,fy,rfl,fr,rfl⟩:=yv
  obtain ⟨d,ed,pd⟩:=la'.get' (fx _ (tk.sq qa'))
  obtain ⟨e,ee,pe⟩:=lb'.get' (fy _ (tk.sq qb'))
  have tn:Tk H' (L2.upd H' q (.tup [x,y])):=.new fr
  exact ⟨tn,⟨.tup [d,e],by simp[zcz,ed,ee],.tup (SqT.of aN) (.cons ((pd.mono tk).mono tn) (.cons ((pe.mono tk).mono tn) .nil))⟩,λμ' m'=>b7 m' fr⟩
 ·have l1:=la'.length
  have l2:=lb'.length
  rw[Yw] at hi
  exact ⟨xs',ys',tk.sq qa',tk.sq qb',by omega⟩
variable {i o:XG} {Ti To:ETr}
end
end
section
open PySem PySem.Spec PyProof.Rows L2
def ltS (x y:Str):Bool:=decide (x.cps.toList < y.cps.toList)
theorem lU:∀ {us:List Xb} {ss:List Str},StrsAre us ss->Vals (ss.map V.str) us
 | _,_,.nil=>.nil
 | _,_,.cons n t h=>.cons ⟨t,rfl⟩ (lU h)
theorem Di:∀ {us:List Xb} {ss:List Str},Vals (ss.map V.str) us->StrsAre us ss
 | _,[],h=>by cases h;exact .nil
 | _,s::r,h=>by
  cases h with
  | cons q h=>obtain ⟨t,rfl⟩:=(show ∃ t,_=zbf s t from q);exact .cons s t (Di h)
def Py (K:W7):List V->Hp->VK->Prop:=λxs H Q=>∃ (p:Addr) (ss:List Str),xs=[.ref p]/\SqL K H p (ss.map V.str)/\ss.length < 64/\∀ ss':List Str,ss'.Perm ss->ss'.Pairwise (λa b=>ltS b a=false)->∀ z,H z=none->Q (.ref z) (L2.upd H z (.lst (ss'.map V.str)))
theorem Et:∀ (p:Str) (l:List Str),risingS p l=true->(p::l).Pairwise (λa b=>ltS b a=false):=by
 have tr:∀ a b c:Str,ltS b a=false->ltS c b=false->ltS c a=false:=by
  intro a b c h1 h2
  unfold ltS at *
  rw[decide_eq_false_iff_not,zej] at *
  exact List.le_trans h1 h2
 intro p l
 induction l generalizing p with
 | nil=>intro _;exact List.pairwise_singleton _ _
 | cons x r ih=>
  intro h
  have h':ltCps x.cps.toList p.cps.toList=false/\risingS x r=true:=by
   have:(!ltCps x.cps.toList p.cps.toList&&risingS x r)=true:=h
   simpa using this
  have hx:=ih x h'.2
  have hpx:ltS x p=false:=by unfold ltS;rw[← ltCps_eq];exact h'.1
  refine zai.mpr ⟨λy hy=>?_,hx⟩
  rcases Xr.mp hy with rfl | hy
  ·exact hpx
  ·exact tr p x y hpx ((zai.mp hx).1 y hy)
theorem Fi:∀ (l:List Str),sortedS l=true->l.Pairwise (λa b=>ltS b a=false)
 | [],_=>.nil
 | p::l,h=>Et p l h
theorem As {X:Cx}:b6 X (.builtin "sorted") (Py X.K):=λpins s σ H xs us Q I rx ⟨p,ss,e1,sq,hl,q⟩=>by
 subst e1
 obtain ⟨u,rfl,ru⟩:=vals1 rx
 cases (show u=XT p from ru)
 obtain ⟨its,rv,pl,hz⟩:=I.list sq
 have hi:StrsAre its ss:=Di rv
 have hlen:its.length < 64:=by have:=rv.length;simp at this;omega
 refine sorted_strs pl.isList hi hlen λout ss' a1 a2 a3=>?_
 obtain ⟨n,en⟩:=sortedAll_at s.heap its out
 refine ⟨.ref _,_,I.laid (t':=s.toks) (o:=.lst (ss'.map V.str)) (λb o e=>sortedAll_old e) (zaT _) ?_,rfl,q ss' a2 (Fi _ a3) _ (I.hok.fresh (zaT _))⟩
 have z1:ss'.length=ss.length:=a2.length_eq
 exact ⟨by rw[W9,z1];exact zat (Xw hl (by decide)),out.toList,n,lU a1,by simpa[za6] using en⟩
def A2:FSp:=λds μ Q=>match ds with
 | [.ls xs]=>∃ ss:List Str,(xs=ss.map .str/\ss.length < 64)/\∀ ss':List Str,ss'.Perm ss->ss'.Pairwise (λa b=>ltS b a=false)->Q (.ls (ss'.map .str)) μ
 | _=>False
theorem DpL.strs {K:W7}{H:Hp}:∀ ss:List Str,DpL K H (ss.map V.str) (ss.map D.str)
 | []=>.nil
 | s::r=>.cons (.str s) (DpL.strs r)
theorem DpL.lU {K:W7}{H:Hp}:∀ {xs:List V} {ss:List Str},DpL K H xs (ss.map .str)->xs=ss.map V.str
 | _,[],.nil=>rfl
 | _,s::r,.cons h l=>by cases h;rw[DpL.lU l];rfl
section
variable {X:Cx} {e a b:XG} {x:Str} {p pos:Pos} {At:ATr} {Ta Tb:ETr}
theorem G9 (hg:Gl X x)(hm:X.mg x=none)(hv:Yt x=some (.builtin "sorted"))(ha:LA X [e] At)(hn:x ≠ "__name__" := by decide)(hdb:(x == ("__debug__" : Str))=false:=by decide)
  (h1:Xp [e] X.env=(false,Yl e X.env)::Xp [] X.env:=by rfl) (h2:(YA pos (Xp [] X.env)).any (·.1)=false:=by rfl):LE X (.Call (.Name x p) [e] [] pos) (au A2 At):=by
 obtain ⟨ta,pa,sa⟩:=ha.ex
 refine ⟨_,jS (l4 As hg hm hv pa hn hdb h1 h2),λσ H ρ μ Q Q' rl h k=>sa σ H ρ μ _ _ rl h λxs H1 ds μ1 t1 m1 p1 h1=>?_⟩
 unfold A2 at h1
 split at h1
 ·obtain ⟨ss,⟨rfl,hl⟩,h2⟩:=h1
  cases p1 with | cons p1 p2=>
  cases p2
  cases p1 with
  | @ls a ys _ q l=>
   cases DpL.lU l
   refine ⟨a,ss,rfl,q.sq,hl,λss' a2 a3 z hz=>⟨z,_,rfl,aN,λo=>?_⟩⟩
   have e:L2.upd (L2.upd H1 z (.lst (ss'.map V.str))) z (.frz o (.lst (ss'.map V.str)))=L2.upd H1 z (.frz o (.lst (ss'.map V.str))):=vk
   rw[e]
   exact k _ _ _ μ1 (t1.trans (.new hz)) (b7 m1 hz) (.ls (.inl ⟨o,aN⟩) (.strs ss')) (h2 ss' a2 a3)
 ·exact Xf h1
def OX (f:Str->Str->Bool):DR2:=λx y μ Q=>match x,y with
 | .str i,.str j=>Q (.bl (f i j)) μ
 | _,_=>False
theorem RU:OpR X (Zd .Gt) (λx y H Q=>∃ i j,x=.str i/\y=.str j/\Q (.bl (ltS j i)) H):=by
 intro pins s σ H x y v u Q I rx ry h
 obtain ⟨i,j,rfl,rfl,q⟩:=h
 obtain ⟨t,rfl⟩:=rx
 obtain ⟨t',rfl⟩:=ry
 exact PySem.P.gt_str ⟨.bl _,H,I,rfl,q⟩
theorem GA {K:W7}(f:Str->Str->Bool):gH K (λx y H Q=>∃ i j,x=.str i/\y=.str j/\Q (.bl (f i j)) H) (OX f):=λH μ x y dx dy Q Q' m px py h k=>by
 cases px with
 | str i=>cases py with
  | str j=>exact ⟨i,j,rfl,rfl,k _ H _ μ (.refl H) m (.bl _) h⟩
  | _=>exact Xf h
 | _=>cases py<;>exact Xf h
def PN:DR2:=OX λi j=>ltS j i
theorem O7 (ha:LE X a Ta)(hb:LE X b Tb):LT X (.Compare a [.Gt] [b] pos) (TB (aj PN Ta Tb)):=fY RU (GA _) ha hb (ft _)
end
end
section
open PySem PySem.Spec PyProof.Rows L2
def lg (C:Mu->Prop)(p:Addr)(G:GTr)(tt:TTr)(te:ETr)(ρc:ST)(K:Mu->Prop):List D->Mu->Prop
 | [],μ=>C μ/\K μ
 | d::r,μ=>C μ/\G d ρc μ λρ1 μ1=>tt ρ1 μ1 λb μ2=>kIf b (te ρ1 μ2 λy μ3=>kL μ3 p λzs=>zs.length < 1000000/\lg C p G tt te ρc K r (up μ3 p (.lst (zs++[y])))) (lg C p G tt te ρc K r μ2)
def jV (To:ETr)(G:GTr)(tt:TTr)(te:ETr)(n:Nat)(caps:List Nat):ETr:=λρ μ Q=>To ρ μ λx μ1=>kObj x λa=>kL μ1 a λds=>∀ p,μ1 p=none->
 lg (λμ=>μ a=some (.lst ds)) p G tt te (eZ ρ n caps) (λμ'=>kL μ' p λzs=>Q (.ls zs) (dn μ' p)) ds (up μ1 p (.lst []))
theorem uR {K:W7}{ta:TE}{To:ETr}{G:GTr}{Tt:TTr}{Te:ETr}{n:Nat}{caps:List Nat}(sa:Sim K ta To):Sim K (EG (kT (O0 K ta) (mE K n G) (liftT K Tt) (lW K Te) n caps)) (jV To G Tt Te n caps):=by
 intro σ H ρ μ Q Q' rl h k
 refine sa σ H ρ μ _ _ rl h λx H1 dx μ1 t1 m1 px hx=>?_
 obtain ⟨q,rfl,hx⟩:=eL px hx
 obtain ⟨ds,eq0,h1⟩:=bT hx
 obtain ⟨xs0,exs0,l0⟩:=m1 q _ eq0
 refine ⟨q,rfl,⟨_,SqL.of exs0⟩,λD hD=>?_⟩
 have hp:=h1 D (m1.free hD)
 have tD:Tk H1 (L2.upd H1 D (.lst [])):=.new hD
 have mD:bM K (L2.upd H1 D (.lst [])) (up μ1 D (.lst [])):=λa o e=>by
  by_cases ha:a=D
  ·subst ha
   rw[aI] at e;cases e
   exact ⟨[],aN,.nil⟩
  ·rw[aU ha] at e
   exact b7 m1 hD a o e
 refine ⟨λi m ys H2=>m=ds.length - i/\i<=ds.length/\Tk H1 H2/\∃ μ2,bM K H2 μ2/\lg (λμ=>μ q=some (.lst ds)) D G Tt Te (eZ ρ n caps) (λμ'=>kL μ' D λzs=>Q (.ls zs) (dn μ' D)) (ds.drop i) μ2,
  ⟨ds.length,by simp,YG _,tD,_,mD,by simpa using hp⟩,?_⟩
 rintro i m ys H2 ⟨rfl,hi,t12,μ2,m2,h2⟩
 have hg:μ2 q=some (.lst ds):=by
  cases hdr:ds.drop i with
  | nil=>rw[hdr] at h2;exact h2.1
  | cons=>rw[hdr] at h2;exact h2.1
 obtain ⟨xs2,ex2,l2⟩:=m2 q _ hg
 have ll:=l2.length
 by_cases hlt:i < ds.length
 ·refine .inr ⟨⟨xs2,xs2[i]'(by omega),SqL.of ex2,Xt (by omega)⟩,λys' H'=>Tk H1 H'/\∃ μ',bM K H' μ'/\lg (λμ=>μ q=some (.lst ds)) D G Tt Te (eZ ρ n caps) (λμ'=>kL μ' D λzs=>Q (.ls zs) (dn μ' D)) (ds.drop (i+1)) μ',λys' H' ⟨t',μ',m',h'⟩=>⟨ds.length - (i+1),by omega,rfl,hlt,t',μ',m',h'⟩,λx H3 y=>?_⟩
  obtain ⟨rfl,y⟩:=y
  have exi:=y xs2 (SqL.of ex2)
  obtain ⟨d,ed,pd⟩:=l2.get' exi
  have e:ds.drop i=d::ds.drop (i+1):=by
   refine (YO hlt).trans ?_
   congr 1
   rw[Xt hlt] at ed
   exact XY ed
  rw[e] at h2
  have t13:=t12
  have r3:Rl K (ko σ n caps) H3 (eZ ρ n caps) μ2:=pw (rl.go (t1.trans t13) m2) n caps
  refine ⟨_,_,d,_,r3,pd,h2.2,λσ4 H4 ρ4 μ4 t4 r4 kp h4=>⟨⟨kp.1.symm,λj v ej=>?_⟩,_,_,_,r4,h4,λb H5 μ5 t5 m5 h5=>?_⟩⟩
  ·by_cases hj:n<=j
   ·rw[kp.2 j hj];exact ej
   ·obtain ⟨j',k',e1,_⟩:=jK ej
    omega
  ·have t15:=t13.trans (t4.trans t5)
   cases b with
   | false=>exact rD ⟨t15,μ5,m5,h5⟩
   | true=>
    refine p8 ⟨_,_,_,r4.go t5 m5,h5,λv H6 d6 μ6 t6 m6 p6 h6=>?_⟩
    obtain ⟨zs,ez,lz,h7⟩:=bT h6
    obtain ⟨xs,ex,lx⟩:=m6 D _ ez
    have t67:Tk H6 (L2.upd H6 D (.lst (xs++[v]))):=.upd (λys z=>by rw[ex] at z;cases z) λo' u z=>by rw[ex] at z;cases z
    refine ⟨xs,ex,by rw[lx.length];exact Xw lz (by decide),(t15.trans t6).trans t67,up μ6 D (.lst (zs++[d6])),λa o ea=>?_,h7⟩
    by_cases ha:a=D
    ·subst ha
     rw[aI] at ea;cases ea
     exact ⟨_,aN,(lx.append (.cons p6 .nil)).mono t67⟩
    ·rw[aU ha] at ea
     exact (m6 a _ ea).ne t67 ha
 ·have e:i=ds.length:=by omega
  subst e
  rw[Y4] at h2
  obtain ⟨zs,ez,hq⟩:=bT (show kL μ2 D λzs=>Q (.ls zs) (dn μ2 D) from h2.2)
  obtain ⟨xs,ex,lx⟩:=m2 D _ ez
  refine .inl ⟨⟨xs2,SqL.of ex2,by omega⟩,D,xs,rfl,ex,λo=>?_⟩
  have t2f:Tk H2 (L2.upd H2 D (.frz o (.lst xs))):=.upd (λys z=>by rw[ex] at z;cases z) λo' u z=>by rw[ex] at z;cases z
  refine k _ _ _ (dn μ2 D) ((t1.trans t12).trans t2f) (λa o' ea=>?_) (.ls (.inl ⟨o,aN⟩) (lx.mono t2f)) hq
  have ha:a≠D:=λz=>by subst z;unfold dn at ea;rw[if_pos rfl] at ea;cases ea
  have ea':μ2 a=some o':=by unfold dn at ea;rw[if_neg ha] at ea;exact ea
  exact (m2 a _ ea').ne t2f ha
theorem mN {X:Cx}{tg elt iter:XG}{Te:ETr}{Tt:TTr}{pos spos py:Pos}{y:Str}{To:ETr}{G:GTr}{ifs:List XG}{scope fsc:Scope}(iy:Nat)(hN:X.N.Nodup)(XN Nc:List Str)(n:Nat)(caps:List Nat)(hxe:X.xe=λ_ _=>False)(hcalm:X.calm=true)(hi:LE X iter To)
  (hbody:∀ (cl:List (Str×Addr)) (C:Addr) (s₀:Xe) (H₀:Hp) (ex:List Addr),LGc (bf X scope Nc cl C s₀ H₀ ex) n tg G/\xp (bf X scope Nc cl C s₀ H₀ ex) ifs Tt/\LE (bf X scope Nc cl C s₀ H₀ ex) elt Te)
  (hsc:X.env.scope=fsc) (hXN:X.N=XN) (hok:ik fsc.names XN scope Nc n caps=true)
  (hiy:X.N[iy]? = some y:=by rfl) (hx:Loc X.env.scope y:=by first | exact zay rfl | exact zaz rfl) (hf:X.fn y=true∨X.env.scope.names.lookup y=some .local:=by first | exact .inl rfl | exact .inr rfl | assumption)
  (hsw:Y3 (.ListComp elt [⟨tg,iter,ifs,0⟩] scope pos) (some (.Name y py)) spos.line X.env=pure true:=by rfl)
  (hs:∀ x,X4 iter X.env x=pure x:=by intro _;rfl) :
  LS X (.Assign [.Name y py] (.ListComp elt [⟨tg,iter,ifs,0⟩] scope pos) spos) (aO (jV To G Tt Te n caps) (ay iy)):=by
 unfold ik at hok
 simp only[XX,ZZ] at hok
 obtain ⟨⟨⟨h1,h2⟩,h3⟩,h4⟩:=hok
 obtain ⟨ta,pa,sa⟩:=hi.ex
 refine ⟨_,DY (g:=mE X.K n G) (tt:=liftT X.K Tt) (te:=lW X.K Te) hxe hcalm (Dm pa) (λcl C s₀ H₀ ex=>let ⟨h1,h2,h3⟩:=hbody cl C s₀ H₀ ex;⟨h1.pe,h2.pe,h3.pe⟩) (λy hy hf=>?_) (λy hy hf=>?_) (by simpa using h2) (λy hy hf=>?_) (by simpa using h3) (λj k hj=>?_) (iW hN hiy hx hf) hsw hs,λσ H ρ μ E E' rl h k=>uR sa σ H ρ μ _ _ rl h λv H' d μ' t' m' p' h'=>iI iy σ H' ρ μ' v d _ _ (rl.go t' m') p' h' (k.go t').nx⟩
 ·have:=(h1 y hy).1.1
  show X.env.scope.names.lookup y.1=_
  rw[hsc]
  simpa[hf] using this
 ·have:=(h1 y hy).1.2
  simp[hf] at this
 ·have:=(h1 y hy).2
  simpa[hf] using this
 ·have hl:j < caps.length:=(XR.mp hj).1
  have:=h4 j (Zr.mpr hl)
  rw[hj] at this
  dsimp only at this
  rw[hXN]
  cases e:XN[k]? with
  | none=>rw[e] at this;cases this
  | some x=>
   rw[e] at this
   dsimp only at this
   rw[XX] at this
   exact ⟨x,by simpa using this.1,rfl,by simpa using this.2⟩
theorem EZ {X:Cx}{tg elt iter:XG}{Te:ETr}{Tt:TTr}{pos:Pos}{To:ETr}{G:GTr}{ifs:List XG}{scope fsc:Scope}(XN Nc:List Str)(n:Nat)(caps:List Nat)(hxe:X.xe=λ_ _=>False)(hcalm:X.calm=true)(hi:LE X iter To)
  (hbody:∀ (cl:List (Str×Addr)) (C:Addr) (s₀:Xe) (H₀:Hp) (ex:List Addr),LGc (bf X scope Nc cl C s₀ H₀ ex) n tg G/\xp (bf X scope Nc cl C s₀ H₀ ex) ifs Tt/\LE (bf X scope Nc cl C s₀ H₀ ex) elt Te)
  (hsc:X.env.scope=fsc) (hXN:X.N=XN) (hok:ik fsc.names XN scope Nc n caps=true)
  (hs:∀ x,X4 iter X.env x=pure x:=by intro _;rfl) :
  LE X (.ListComp elt [⟨tg,iter,ifs,0⟩] scope pos) (jV To G Tt Te n caps):=by
 unfold ik at hok
 simp only[XX,ZZ] at hok
 obtain ⟨⟨⟨h1,h2⟩,h3⟩,h4⟩:=hok
 obtain ⟨ta,pa,sa⟩:=hi.ex
 refine ⟨_,jS (Df (g:=mE X.K n G) (tt:=liftT X.K Tt) (te:=lW X.K Te) hxe hcalm (Dm pa) (λcl C s₀ H₀ ex=>let ⟨h1,h2,h3⟩:=hbody cl C s₀ H₀ ex;⟨h1.pe,h2.pe,h3.pe⟩) (λy hy hf=>?_) (λy hy hf=>?_) (by simpa using h2) (λy hy hf=>?_) (by simpa using h3) (λj k hj=>?_) hs),uR sa⟩
 ·have:=(h1 y hy).1.1
  show X.env.scope.names.lookup y.1=_
  rw[hsc]
  simpa[hf] using this
 ·have:=(h1 y hy).1.2
  simp[hf] at this
 ·have:=(h1 y hy).2
  simpa[hf] using this
 ·have hl:j < caps.length:=(XR.mp hj).1
  have:=h4 j (Zr.mpr hl)
  rw[hj] at this
  dsimp only at this
  rw[hXN]
  cases e:XN[k]? with
  | none=>rw[e] at this;cases this
  | some x=>
   rw[e] at this
   dsimp only at this
   rw[XX] at this
   exact ⟨x,by simpa using this.1,rfl,by simpa using this.2⟩
end
theorem Mp (a b:ETr)(ρ:ST)(μ:Mu)(Q:DK):bQ a b ρ μ Q=a ρ μ λx μ1=>b ρ μ1 λy μ2=>kObj x λa=>kD μ2 a λkvs=>sI y λk=>kO (cF kvs k) λd=>Q d μ2:=propext Xc
theorem Lq (a b e:ETr)(nx:ST->Mu->Prop)(rt:DK)(bk ct:ST->Mu->Prop)(ρ:ST)(μ:Mu):jj a b e ⟨nx,rt,bk,ct⟩ ρ μ=e ρ μ λv μ1=>a ρ μ1 λx μ2=>b ρ μ2 λy μ3=>kObj x λa=>kD μ3 a λkvs=>sI y λk=>kvs.length < 1000000/\nx ρ (up μ3 a (.dct (putD kvs k v))):=propext Xc
theorem KW (f:Int->Int->Int)(a b e:ETr)(nx:ST->Mu->Prop)(rt:DK)(bk ct:ST->Mu->Prop)(ρ:ST)(μ:Mu):mG f a b e ⟨nx,rt,bk,ct⟩ ρ μ=a ρ μ λx μ1=>b ρ μ1 λy μ2=>kObj x λa=>kD μ2 a λkvs=>sI y λk=>kO (cF kvs k) λd=>kI d λm=>e ρ μ2 λw μ3=>kI w λn=>kD μ3 a λkvs3=>kvs3.length < 1000000/\nx ρ (up μ3 a (.dct (putD kvs3 k (.int (f m n))))):=propext Xc
theorem QB (f:Int->Int->Int)(i:Nat)(e:ETr)(nx:ST->Mu->Prop)(rt:DK)(bk ct:ST->Mu->Prop)(ρ:ST)(μ:Mu):N0 f i e ⟨nx,rt,bk,ct⟩ ρ μ=ah i ρ μ λd _=>kI d λm=>e ρ μ λw μ1=>kI w λn=>ay i (.int (f m n)) ρ μ1 nx:=propext Xc
theorem Ms (ks:List L2.Key)(t:ATr)(ρ:ST)(μ:Mu)(Q:DK):Ii ks t ρ μ Q = ∀ p,μ p=none->t ρ (up μ p (.dct [])) λds μ2=>kD μ2 p λkvs=>kvs=[]/\Q (.obj p) (up μ2 p (.dct (ks.zip ds))):=propext Xc
theorem Pk (a b:ETr)(ρ:ST)(μ:Mu)(Q:DK):Sf a b ρ μ Q=a ρ μ λx μ1=>kObj x λa=>kL μ1 a λ_=>b ρ μ1 λy μ2=>kI y λj=>(-9223372036854775808<=j/\j < 9223372036854775808)/\kL μ2 a λds=>kN (L2.ixN ds.length j) λk=>kO ds[k]? λd=>Q d (up μ2 a (.lst (ds.eraseIdx k))):=propext Xc
theorem Jy (a b:ETr)(ρ:ST)(μ:Mu)(Q:DK):B4 a b ρ μ Q=a ρ μ λx μ1=>ED μ1 x λ_=>b ρ μ1 λy μ2=>ED μ2 x λds=>(c6 38 ds=true/\okD 38 y=true)/\kN (Ek ds y) λj=>j < 1000000/\Q (.int j) μ2:=propext Xc
theorem R4 (a:ETr)(ρ:ST)(μ:Mu)(Q:List D->Mu->Prop):cN a ρ μ Q=a ρ μ λx μ1=>kS x λds=>Q ds μ1:=propext Xc
theorem Lo (t:ATr)(ρ:ST)(μ:Mu)(Q:List D->Mu->Prop):jk t ρ μ Q=t ρ μ λvs μ1=>k2 vs λx y=>kS x λds=>kS y λes=>Q (Yk (λd e=>.tup [d,e]) ds es) μ1:=propext Xc
theorem Sr (n:Bool)(x:D)(ds:List D)(μ:Mu)(Q:DK):CB n x (.tup ds) μ Q=((c6 38 ds=true/\okD 38 x=true)/\Q (.bl (if n then !inG x ds else inG x ds)) μ):=propext Xc
theorem Qt (n:Bool)(x:D)(ds:List D)(μ:Mu)(Q:DK):CB n x (.ls ds) μ Q=((c6 38 ds=true/\okD 38 x=true)/\Q (.bl (if n then !inG x ds else inG x ds)) μ):=propext Xc
theorem SN (μ:Mu)(ds:List D)(f:List D->Prop):ED μ (.ls ds) f=f ds:=propext Xc
theorem Q8 (i:Int)(f:L2.Key->Prop):sI (.int i) f=f (.inl i):=propext Xc
theorem QW (s:Str)(f:L2.Key->Prop):sI (.str s) f=f (.inr s):=propext Xc
theorem OB {μ:Mu}{a:Addr}{ds:List (L2.Key×D)}(h:μ a=some (.dct ds))(f):kD μ a f=f ds:=by unfold kD;rw[h]
theorem SV (μ:Mu)(a:Addr)(ds:List (L2.Key×D))(f:List (L2.Key×D)->Prop):kD (up μ a (.dct ds)) a f=f ds:=OB aI f
theorem Vi {μ:Mu}{a:Addr}{ds:List (L2.Key×D)}{f:List (L2.Key×D)->Prop}(e:μ a=some (.dct ds))(h:f ds):kD μ a f:=by rw[OB e];exact h
theorem Lf (cs:List String)(x:D)(ts:List D)(μ:Mu)(Q:DK):ie (zO cs) [x,.tup ts] μ Q=((ts=cs.map .ty/\∀ c∈cs,c∈zc)/\(match tyD x with | some t=>Q (.bl (cs.any λc=>eM t c)) μ | none=>False)):=propext Xc
theorem Lk (xs:List D)(μ:Mu)(Q:DK):ie De [.ls xs] μ Q=(∃ kvs:List (L2.Key×D),xs=kvs.map BU/\kvs.length<=1000000/\∀ p,μ p=none->Q (.obj p) (up μ p (.dct (jT [] kvs)))):=propext Xc
theorem O5 (i j:Str)(μ:Mu)(Q:DK):PN (.str i) (.str j) μ Q=Q (.bl (ltS j i)) μ:=propext Xc
theorem IsPart.of_eq {a b c d x y:Int}(h:IsPart a b x y)(hb:0 < b)(hd:0 < d)(e:a*d=c*b):IsPart c d x y:=by
 have xd:x*d=c*y:=by
  refine ZS (a:=b) (by omega) ?_
  calc x*d*b=(x*b)*d:=by ac_rfl
   _=(a*y)*d:=by rw[h.e]
   _=(a*d)*y:=by ac_rfl
   _=(c*b)*y:=by rw[e]
   _=c*y*b:=by ac_rfl
 have y0:=h.q0
 have dx:x ∣ c:=by
  have:x ∣ y*c:=⟨d,by rw[YC y c];exact xd.symm⟩
  have h':=Y1.mpr this
  rw[h.g] at h'
  simpa using h'
 have dy:y ∣ d:=by
  have:y ∣ x*d:=⟨c,by rw[xd,YC]⟩
  have h':=Y1.mpr this
  rw[zck,h.g] at h'
  simpa using h'
 refine ⟨h.q0,h.g,xd,?_,zeX (by omega) (zcB.mpr dy)⟩
 by_cases hc:c=0
 ·subst hc
  have:x=0:=by
   rcases Int.mul_eq_zero.mp (show x*d=0 by rw[xd,Int.zero_mul]) with z | z
   ·exact z
   ·omega
  rw[this];exact Xs _
 ·exact zeX (by omega) (zcB.mpr dx)
structure Vl (d:D) (a b:Int):Prop where
 ex:∃ p q,d=fr p q/\IsPart a b p q
 b0:0 < b
theorem Vl.of_eq {d:D}{a b a' b':Int}(h:Vl d a b)(hb:0 < b')(e:a*b'=a'*b):Vl d a' b':=by
 obtain ⟨⟨p,q,rfl,P⟩,b0⟩:=h
 exact ⟨⟨p,q,rfl,P.of_eq b0 hb e⟩,hb⟩
theorem Vl.uniq {d d':D}{a b:Int}(h:Vl d a b)(h':Vl d' a b):d=d':=by
 obtain ⟨⟨p,q,rfl,P⟩,b0⟩:=h
 obtain ⟨⟨p',q',rfl,P'⟩,_⟩:=h'
 obtain ⟨rfl,rfl⟩:=P.same P' (by omega) (by omega) rfl
 rfl
theorem Rz (a:Int){b:Int}(b0:0 < b):Vl (.tup [.int (a.fdiv (XM a b)),.int (b.fdiv (XM a b))]) a b:=by
 have h:=DZ (a:=a) (b:=b) (by omega)
 rw[if_neg (by omega)] at h
 exact ⟨⟨_,_,rfl,h⟩,b0⟩
theorem iM {lo hi p q:Int}(h:FrB lo hi p q):Vl (fr p q) p q:=⟨⟨p,q,rfl,h.q0,h.g,rfl,Xs _,Xs _⟩,h.q0⟩
theorem D1 {a b x y:Int}(h:IsPart a b x y)(b0:0 < b):Vl (fr x y) a b:=⟨⟨x,y,rfl,h⟩,b0⟩
theorem OW {p q a b:Int}(g:Int)(q0:0 < q)(b0:0 < b)(e:p*b=a*q):p*g / q=a*g / b:=by
 calc p*g / q=(p*g)*b / (q*b):=(YD _ _ b0).symm
  _=(a*g)*q / (b*q):=by rw[show p*g*b=(p*b)*g by ac_rfl,e,YC q b,show a*q*g=a*g*q by ac_rfl]
  _=a*g / b:=YD _ _ q0
theorem Rc {p q a b:Int}(q0:0 < q)(b0:0 < b)(e:p*b=a*q):p / q=a / b:=by
 have:=OW 1 q0 b0 e
 simpa using this
theorem Uk {p q r s a b c e:Int}(q0:0 < q)(s0:0 < s)(b0:0 < b)(e0:0 < e)(h1:p*b=a*q)(h2:r*e=c*s):(p*s < r*q)↔(a*e < c*b):=by
 have k1:(p*s)*(b*e)=(a*e)*(q*s):=by
  calc (p*s)*(b*e)=(p*b)*(s*e):=by ac_rfl
   _=(a*q)*(s*e):=by rw[h1]
   _=(a*e)*(q*s):=by ac_rfl
 have k2:(r*q)*(b*e)=(c*b)*(q*s):=by
  calc (r*q)*(b*e)=(r*e)*(q*b):=by ac_rfl
   _=(c*s)*(q*b):=by rw[h2]
   _=(c*b)*(q*s):=by ac_rfl
 have be:0 < b*e:=YH b0 e0
 have qs:0 < q*s:=YH q0 s0
 constructor
 ·intro h
  have:=ZL h be
  rw[k1,k2] at this
  exact zbs this (zcl qs)
 ·intro h
  have:=ZL h qs
  rw[← k1,← k2] at this
  exact zbs this (zcl be)
def Le (a A:Int):Prop:=-A<=a/\a<=A
theorem Le.mono {a A B:Int}(h:Le a A)(hb:A<=B):Le a B:=⟨by have:=h.1;omega,by have:=h.2;omega⟩
theorem Le.of {a A:Int}(h0:0<=a)(h1:a<=A):Le a A:=⟨by omega,h1⟩
theorem Le.add {a b A B:Int}(h:Le a A)(k:Le b B):Le (a+b) (A+B):=⟨by have:=h.1;have:=k.1;omega,by have:=h.2;have:=k.2;omega⟩
theorem Le.sub {a b A B:Int}(h:Le a A)(k:Le b B):Le (a - b) (A+B):=⟨by have:=h.1;have:=k.2;omega,by have:=h.2;have:=k.1;omega⟩
theorem Le.neg {a A:Int}(h:Le a A):Le (-a) A:=⟨by have:=h.2;omega,by have:=h.1;omega⟩
theorem Le.abs {a A:Int}(h:Le a A):(a.natAbs:Int)<=A:=by have:=h.1;have:=h.2;omega
theorem Le.JI {a A:Int}(h:(a.natAbs:Int)<=A):Le a A:=⟨by omega,by omega⟩
theorem Le.mul {a b A B:Int}(h:Le a A)(k:Le b B):Le (a*b) (A*B):=by
 refine .JI ?_
 rw[zeK,Int.natCast_mul]
 have a0:(0:Int)<=(a.natAbs:Int):=zah _
 have b0:(0:Int)<=(b.natAbs:Int):=zah _
 exact zeN h.abs k.abs b0 (Int.le_trans a0 h.abs)
abbrev Bd (a:Int):Prop:=Le a 1000000000000000000000000000000
theorem Bd.m {a:Int}(h:Bd a):gw a:=by have:=h.1;have:=h.2;unfold gw;omega
theorem Bd.mm {a b:Int}(h:Bd a)(k:Bd b):gw (a*b):=by
 have:=(h.mul k).1;have:=(h.mul k).2
 unfold gw;omega
theorem Bd.mul {a b:Int}(h:Bd a)(k:Bd b):MulOk a b:=.inr ⟨h.m,k.m⟩
theorem IsPart.bp {a b x y:Int}(h:IsPart a b x y)(ha:Bd a):Bd x:=.JI (by have:=h.pa;have:=ha.abs;omega)
theorem IsPart.bq {a b x y:Int}(h:IsPart a b x y)(hb:Bd b):Bd y:=.JI (by have:=h.qb;have:=hb.abs;omega)
inductive Wd | still | step | swell | heed | calm
 deriving DecidableEq
structure RN where
 wd:Wd
 p:Int
 q:Int
 x:Int
 y:Int
 a:Int
 b:Int
 l:Int
 h:Int
 r:Int
 s:Int
def Wd.str:Wd->Str
 | .still=>OF "still"
 | .step=>OF "step"
 | .swell=>OF "swell"
 | .heed=>OF "heed"
 | .calm=>OF "calm"
def RN.toD (R:RN):D:=match R.wd with
 | .still=>.tup [.str "still", fr R.p R.q]
 | .step=>.tup [.str "step", fr R.p R.q,fr R.x R.y,fr R.a R.b,fr R.r R.s]
 | .swell=>.tup [.str "swell", fr R.p R.q,fr R.x R.y,fr R.a R.b,fr R.r R.s]
 | .heed=>.tup [.str "heed", fr R.p R.q,fr R.x R.y,fr R.a R.b,fr R.r R.s]
 | .calm=>.tup [.str "calm", fr R.p R.q,fr R.x R.y,.int R.l,.int R.h,fr R.r R.s]
structure RN.Ok (R:RN):Prop where
 w:FrB 1 60 R.p R.q
 t:FrB 1 60 R.r R.s
 wt:R.p*R.s<=R.r*R.q
 u:FrA 0 60 R.x R.y
 u1:R.wd=.swell->R.y < R.x
 g:FrA 0 1 R.a R.b
 d1:R.wd=.step∨R.wd=.swell->R.a < R.b
 l0:0<=R.l
 lh:R.l<=R.h
 h1:R.h<=60
 st:R.wd=.still->R.r=R.p/\R.s=R.q
theorem KS {lo hi:Int}(h0:lo < 1)(h1:1<=hi):FrA lo hi 1 1:=⟨⟨by decide,by decide,by decide,by omega,by omega⟩,by omega⟩
theorem UQ {p q:Int}(h:FrL 1 p q):FrA 0 1 p q:=⟨h.toFrB,by have:=h.ab;omega⟩
structure Hd where
 good:Int
 mark:Int
 bC:Int
 wt:Int
structure Hd.Ok (h:Hd):Prop where
 g0:0<=h.good
 g1:h.good<=1000000
 m0:0<=h.mark
 m1:h.mark<=1000000
 l0:0<=h.bC
 l1:h.bC<=1000000
 w0:0<=h.wt
def Hd.toD (h:Hd):D:=.tup [.int h.good,.int h.mark,.int h.bC,.int h.wt]
def Hd.bad (h:Hd):Int:=h.mark+h.bC
def Hd.many (h:Hd):Int:=h.good+h.bad
def RN.idle (R:RN)(h:Hd):Prop:=R.wd=.still∨h.good+h.mark+h.bC=0
instance (R:RN) (h:Hd):Decidable (R.idle h):=by unfold RN.idle;infer_instance
def RN.cap (R:RN)(g:Int):Int:=R.r*g / R.s
def RN.shr (R:RN)(g S:Int)(h:Hd):Int:=if R.wd=.heed then (S*R.b*h.many+R.a*(h.bad*g - S*h.many)) / (R.b*h.many) else S
def RN.fac (R:RN)(g S:Int)(h:Hd):Option (Int×Int):=match R.wd with
 | .still=>none
 | .calm=>if 0 < h.bC then some (1,2) else none
 | .heed=>if h.bad=0 then none else some (2*g - S,2*g)
 | .swell=>if h.bad=0 then some (R.x,R.y) else some (R.a,R.b)
 | .step=>if h.bad=0 then none else some (R.a,R.b)
def RN.mvd (R:RN)(g W:Int)(h:Hd):Int:=if R.wd=.calm then (if h.wt < R.l then W*R.y+g*R.x else if R.h < h.wt then W*R.y - g*R.x else W*R.y) else W*R.y+g*R.x
def RN.mv (R:RN)(g W S:Int)(h:Hd):Int:=match R.fac g S h with
 | some f=>W*f.1 / f.2
 | none=>R.mvd g W h / R.y
def RN.clip (R:RN)(g z:Int):Int:=min (max z g) (R.cap g)
def RN.beh (R:RN)(g W S:Int)(h:Hd):Int×Int:=if R.idle h then (W,S) else (R.clip g (R.mv g W (R.shr g S h) h),R.shr g S h)
theorem Hv {R:RN}(k:R.Ok){g:Int}(g0:0 < g):g<=R.cap g:=by
 unfold RN.cap
 rw[YK k.t.q0]
 have:=Xz k.t.ge (show 0<=g by omega)
 have e:g*R.s=1*R.s*g:=by rw[zcR,YC]
 omega
theorem He {R:RN}(k:R.Ok){g:Int}(g0:0 < g):R.cap g<=60*g:=by
 unfold RN.cap
 refine ZG k.t.q0 ?_
 have:=Xz k.t.le (show 0<=g by omega)
 have e:60*g*R.s=60*R.s*g:=by ac_rfl
 omega
theorem Ks {R:RN}(k:R.Ok){g S:Int}{h:Hd}(H:h.Ok)(hn:¬ R.idle h)(g0:0 < g)(S0:0<=S)(S1:S<=g):0<=R.shr g S h/\R.shr g S h<=g:=by
 unfold RN.shr
 split
 ·rename_i hw
  have m0:0 < h.many:=by
   unfold RN.idle at hn
   unfold Hd.many Hd.bad
   have:=H.g0;have:=H.m0;have:=H.l0
   have:¬ (h.good+h.mark+h.bC=0):=λz=>hn (.inr z)
   omega
  have bb:h.bad<=h.many:=by unfold Hd.many;have:=H.g0;omega
  have b0:0<=h.bad:=by unfold Hd.bad;have:=H.m0;have:=H.l0;omega
  have q0:=k.g.q0
  have a0:0 < R.a:=by have:=k.g.ab;omega
  have ab:R.a<=R.b:=by have:=k.g.le;omega
  have Y:0 < R.b*h.many:=YH q0 m0
  have e:S*R.b*h.many+R.a*(h.bad*g - S*h.many)=(R.b - R.a)*(S*h.many)+R.a*(h.bad*g):=by
   rw[Int.mul_sub,zbB,show S*R.b*h.many=R.b*(S*h.many) by ac_rfl];omega
  have z1:0<=(R.b - R.a)*(S*h.many):=Zv (by omega) (Zv S0 (by omega))
  have z2:0<=R.a*(h.bad*g):=Zv (by omega) (Zv b0 (by omega))
  have z3:(R.b - R.a)*(S*h.many)<=(R.b - R.a)*(g*h.many):=zaY (Xz S1 (by omega)) (by omega)
  have z4:R.a*(h.bad*g)<=R.a*(h.many*g):=zaY (Xz bb (by omega)) (by omega)
  have e2:(R.b - R.a)*(g*h.many)+R.a*(h.many*g)=g*(R.b*h.many):=by
   rw[zbB,show R.b*(g*h.many)=g*(R.b*h.many) by ac_rfl,show R.a*(h.many*g)=R.a*(g*h.many) by ac_rfl];omega
  rw[e]
  exact ⟨Int.ediv_nonneg (by omega) (by omega),ZG Y (by omega)⟩
 ·exact ⟨S0,S1⟩
local macro_rules | `(tactic| walk_at "rd")=>zzS "L3.ah L3.TC L3.aj L3.TUn L3.iE L3.IJ L3.qc L3.TB L3.sQ L3.TOr L3.Bm L3.ly L3.Bz L3.ao L3.af L3.a7 L3.fB L3.kr L3.au L3.ba L3.aA L3.Bi L3.Kj L3.eU L3.aV L3.KA L3.bL L3.ay L3.aO L3.ri L3.Co L3.eG L3.fM L3.cN L3.bK L3.fF L3.eZ L3.dF L3.Ve L3.ILs L3.HY L3.Jw L3.KI L3.Hl L3.Gf L3.Av L3.pK L3.BS L3.Ig L3.B6 L3.vS L3.Dn L3.qR L3.wM L3.vO L3.vY L3.u6 L3.kx L3.iP L3.wj L3.sf L3.qz L3.rC L3.rY L3.rn L3.qd L3.qV L3.sT L3.pT L3.TSl L3.ONo L3.gj L3.HF L3.Ky L3.JJ L3.Gq L3.HQ L3.JH L3.BD L3.Au L3.Gi L3.HW L3.GZ L3.sv L3.qD L3.qo L3.B9 L3.AH L3.Cs L3.B3 L3.Am L3.BX L3.BZ L3.A7 L3.Bu L3.KL L3.Hr L3.GQ L3.HI L3.GS L3.IX L3.rJ L3.CJ L3.KP L3.Ci L3.AX L3.AD L3.Cc L3.B8 L3.Ck L3.AN L3.AO L3.BA L3.Cg L3.lk L3.ini zdK Yy YI zei ze9 zbZ zaa zdL zdc zdd L3.xF L3.z9 L3.DO L3.Dg L3.DD L3.C5 zao zap L3.aI L3.iA zdM zb0 if_true if_false true_and and_true zde zcM zcN zb1 zaU zcs decide_eq_true_eq zag ite_false ite_true ne_eq not_false_eq_true zct zdf zdg zdh zdi zdj zdN L3.okD L3.c6 L3.eqD L3.oH zdk zdl zdm L3.dh L3.jB decide_true decide_false Bool.or_true zeR zeZ zda zcP zeu and_self L3.cq L3.bY L3.cw L3.cy L3.cv L3.cz L3.cW L3.cR L3.bZ L3.cp L3.cA L3.cB L3.cu L3.cT L3.cE L3.cV L3.ck L3.cQ L3.cC L3.cU L3.iS L3.nc L3.qJ L3.mM L3.pZ L3.rT L3.fN L3.f6 L3.fI L3.fH L3.fO L3.fP L3.fX"
def kh:FSp:=λds μ Q=>kcA ds λd1 ds=>kcA ds λd2 ds=>kcN ds (∃ a b c e,((Vl d1 a b/\Vl d2 c e)/\Bd a/\Bd b/\Bd c/\Bd e)/\∀ z,Vl z (a*e+c*b) (b*e)->Q z μ)
theorem Hj:∀ ds μ Q,kh ds μ Q->ds.length=2:=λ_ _ _ h=>lcA h λ_ _ h=>lcA h λ_ _ h=>by rw[(ecN h).1];rfl
def IK:STr:=aV (au gU (af (aj aQ (aj eK (aj L3.rIx (ah 0) (TC (.int 0))) (aj L3.rIx (ah 1) (TC (.int 1)))) (aj eK (aj L3.rIx (ah 1) (TC (.int 0))) (aj L3.rIx (ah 0) (TC (.int 1))))) (af (aj eK (aj L3.rIx (ah 0) (TC (.int 1))) (aj L3.rIx (ah 1) (TC (.int 1)))) (ao))))
theorem NN:∀ ds μ Q,kh ds μ Q->IK { nx:=λ_ μ'=>RT Q .non μ',rt:=RT Q } (ini 2 ds) μ:=by
 intro ds μ Q h
 replace h:=ecA h
 obtain ⟨d1,ds,rfl,h⟩:=h
 replace h:=ecA h
 obtain ⟨d2,ds,rfl,h⟩:=h
 replace h:=ecN h
 obtain ⟨rfl,h⟩:=h
 unfold IK
 walk_at "rd"
 obtain ⟨a,b,c,e,⟨⟨V1,V2⟩,Ba,Bb,Bc,Be⟩,k⟩:=h
 obtain ⟨⟨p,q,rfl,P⟩,b0⟩:=V1
 obtain ⟨⟨r,s,rfl,S⟩,e0⟩:=V2
 have q0:=P.q0
 have s0:=S.q0
 have be:0 < b*e:=YH b0 e0
 have qs:0 < q*s:=YH q0 s0
 have Bp:=P.bp Ba
 have Bq:=P.bq Bb
 have Br:=S.bp Bc
 have Bs:=S.bq Be
 walk_at "rd"
 refine ⟨Bp.mul Bs,Br.mul Bq,Bq.mul Bs,⟨by omega,Bq.mm Bs⟩,λx y Pt=>⟨_,.refl _,k _ ⟨⟨x,y,rfl,Pt.of_eq qs be ?_⟩,be⟩⟩⟩
 calc (p*s+r*q)*(b*e)=(p*b)*(s*e)+(r*e)*(q*b):=by rw[zcS];congr 1<;>ac_rfl
  _=(a*q)*(s*e)+(c*s)*(q*b):=by rw[P.e,S.e]
  _=(a*e+c*b)*(q*s):=by rw[zcS];congr 1<;>ac_rfl
def iz:FSp:=λds μ Q=>kcA ds λd1 ds=>kcA ds λd2 ds=>kcN ds (∃ a b c e,((Vl d1 a b/\Vl d2 c e)/\Bd a/\Bd b/\Bd c/\Bd e)/\∀ z,Vl z (a*e - c*b) (b*e)->Q z μ)
theorem FQ:∀ ds μ Q,iz ds μ Q->ds.length=2:=λ_ _ _ h=>lcA h λ_ _ h=>lcA h λ_ _ h=>by rw[(ecN h).1];rfl
def DG:STr:=aV (au gU (af (aj kn (aj eK (aj L3.rIx (ah 0) (TC (.int 0))) (aj L3.rIx (ah 1) (TC (.int 1)))) (aj eK (aj L3.rIx (ah 1) (TC (.int 0))) (aj L3.rIx (ah 0) (TC (.int 1))))) (af (aj eK (aj L3.rIx (ah 0) (TC (.int 1))) (aj L3.rIx (ah 1) (TC (.int 1)))) (ao))))
theorem JS:∀ ds μ Q,iz ds μ Q->DG { nx:=λ_ μ'=>RT Q .non μ',rt:=RT Q } (ini 2 ds) μ:=by
 intro ds μ Q h
 replace h:=ecA h
 obtain ⟨d1,ds,rfl,h⟩:=h
 replace h:=ecA h
 obtain ⟨d2,ds,rfl,h⟩:=h
 replace h:=ecN h
 obtain ⟨rfl,h⟩:=h
 unfold DG
 walk_at "rd"
 obtain ⟨a,b,c,e,⟨⟨V1,V2⟩,Ba,Bb,Bc,Be⟩,k⟩:=h
 obtain ⟨⟨p,q,rfl,P⟩,b0⟩:=V1
 obtain ⟨⟨r,s,rfl,S⟩,e0⟩:=V2
 have q0:=P.q0
 have s0:=S.q0
 have be:0 < b*e:=YH b0 e0
 have qs:0 < q*s:=YH q0 s0
 have Bp:=P.bp Ba
 have Bq:=P.bq Bb
 have Br:=S.bp Bc
 have Bs:=S.bq Be
 walk_at "rd"
 refine ⟨Bp.mul Bs,Br.mul Bq,Bq.mul Bs,⟨by omega,Bq.mm Bs⟩,λx y Pt=>⟨_,.refl _,k _ ⟨⟨x,y,rfl,Pt.of_eq qs be ?_⟩,be⟩⟩⟩
 calc (p*s - r*q)*(b*e)=(p*b)*(s*e) - (r*e)*(q*b):=by rw[zbB];congr 1<;>ac_rfl
  _=(a*q)*(s*e) - (c*s)*(q*b):=by rw[P.e,S.e]
  _=(a*e - c*b)*(q*s):=by rw[zbB];congr 1<;>ac_rfl
def iC:FSp:=λds μ Q=>kcA ds λd1 ds=>kcA ds λd2 ds=>kcN ds (∃ a b c e,((Vl d1 a b/\Vl d2 c e)/\Bd a/\Bd b/\Bd c/\Bd e)/\∀ z,Vl z (a*c) (b*e)->Q z μ)
theorem Fe:∀ ds μ Q,iC ds μ Q->ds.length=2:=λ_ _ _ h=>lcA h λ_ _ h=>lcA h λ_ _ h=>by rw[(ecN h).1];rfl
def C7:STr:=aV (au gU (af (aj eK (aj L3.rIx (ah 0) (TC (.int 0))) (aj L3.rIx (ah 1) (TC (.int 0)))) (af (aj eK (aj L3.rIx (ah 0) (TC (.int 1))) (aj L3.rIx (ah 1) (TC (.int 1)))) (ao))))
theorem KD:∀ ds μ Q,iC ds μ Q->C7 { nx:=λ_ μ'=>RT Q .non μ',rt:=RT Q } (ini 2 ds) μ:=by
 intro ds μ Q h
 replace h:=ecA h
 obtain ⟨d1,ds,rfl,h⟩:=h
 replace h:=ecA h
 obtain ⟨d2,ds,rfl,h⟩:=h
 replace h:=ecN h
 obtain ⟨rfl,h⟩:=h
 unfold C7
 walk_at "rd"
 obtain ⟨a,b,c,e,⟨⟨V1,V2⟩,Ba,Bb,Bc,Be⟩,k⟩:=h
 obtain ⟨⟨p,q,rfl,P⟩,b0⟩:=V1
 obtain ⟨⟨r,s,rfl,S⟩,e0⟩:=V2
 have q0:=P.q0
 have s0:=S.q0
 have be:0 < b*e:=YH b0 e0
 have qs:0 < q*s:=YH q0 s0
 have Bp:=P.bp Ba
 have Bq:=P.bq Bb
 have Br:=S.bp Bc
 have Bs:=S.bq Be
 walk_at "rd"
 refine ⟨Bp.mul Br,Bq.mul Bs,⟨by omega,Bq.mm Bs⟩,λx y Pt=>⟨_,.refl _,k _ ⟨⟨x,y,rfl,Pt.of_eq qs be ?_⟩,be⟩⟩⟩
 calc (p*r)*(b*e)=(p*b)*(r*e):=by ac_rfl
  _=(a*q)*(c*s):=by rw[P.e,S.e]
  _=(a*c)*(q*s):=by ac_rfl
def mf:FSp:=λds μ Q=>kcA ds λd1 ds=>kcA ds λd2 ds=>kcN ds (∃ a b c e,((Vl d1 a b/\Vl d2 c e)/\Bd a/\Bd b/\Bd c/\Bd e)/\Q (.bl (decide (a*e < c*b))) μ)
theorem G6:∀ ds μ Q,mf ds μ Q->ds.length=2:=λ_ _ _ h=>lcA h λ_ _ h=>lcA h λ_ _ h=>by rw[(ecN h).1];rfl
def Iy:STr:=aV (aj rLt (aj eK (aj L3.rIx (ah 0) (TC (.int 0))) (aj L3.rIx (ah 1) (TC (.int 1)))) (aj eK (aj L3.rIx (ah 1) (TC (.int 0))) (aj L3.rIx (ah 0) (TC (.int 1)))))
theorem N6:∀ ds μ Q,mf ds μ Q->Iy { nx:=λ_ μ'=>RT Q .non μ',rt:=RT Q } (ini 2 ds) μ:=by
 intro ds μ Q h
 replace h:=ecA h
 obtain ⟨d1,ds,rfl,h⟩:=h
 replace h:=ecA h
 obtain ⟨d2,ds,rfl,h⟩:=h
 replace h:=ecN h
 obtain ⟨rfl,h⟩:=h
 unfold Iy
 walk_at "rd"
 obtain ⟨a,b,c,e,⟨⟨V1,V2⟩,Ba,Bb,Bc,Be⟩,k⟩:=h
 obtain ⟨⟨p,q,rfl,P⟩,b0⟩:=V1
 obtain ⟨⟨r,s,rfl,S⟩,e0⟩:=V2
 walk_at "rd"
 refine ⟨(P.bp Ba).mul (S.bq Be),(S.bp Bc).mul (P.bq Bb),_,.refl _,?_⟩
 rw[show decide (p*s < r*q)=decide (a*e < c*b) from decide_eq_decide.mpr (Uk P.q0 S.q0 b0 e0 P.e S.e)]
 exact k
def gX:FSp:=λds μ Q=>kcA ds λd1 ds=>kcN ds (∃ a b,(Vl d1 a b/\Bd b)/\Q (.int (a / b)) μ)
theorem vD:∀ ds μ Q,gX ds μ Q->ds.length=1:=λ_ _ _ h=>lcA h λ_ _ h=>by rw[(ecN h).1];rfl
def rF:STr:=aV (aj ni (aj L3.rIx (ah 0) (TC (.int 0))) (aj L3.rIx (ah 0) (TC (.int 1))))
theorem yo:∀ ds μ Q,gX ds μ Q->rF { nx:=λ_ μ'=>RT Q .non μ',rt:=RT Q } (ini 1 ds) μ:=by
 intro ds μ Q h
 replace h:=ecA h
 obtain ⟨d1,ds,rfl,h⟩:=h
 replace h:=ecN h
 obtain ⟨rfl,h⟩:=h
 unfold rF
 walk_at "rd"
 obtain ⟨a,b,⟨⟨⟨p,q,rfl,P⟩,b0⟩,Bb⟩,k⟩:=h
 have q0:=P.q0
 walk_at "rd"
 rw[jt q0,Rc q0 b0 P.e]
 exact ⟨⟨by omega,(P.bq Bb).m⟩,_,.refl _,k⟩
def fe:FSp:=λds μ Q=>kcA ds λd1 ds=>kcI ds λg ds=>kcN ds (∃ a b,(Vl d1 a b/\Bd a/\Bd b/\0 < g/\g<=1000000)/\∀ z,Vl z (a*g / b) g->Q z μ)
theorem Ct:∀ ds μ Q,fe ds μ Q->ds.length=2:=λ_ _ _ h=>lcA h λ_ _ h=>lcI h λ_ _ h=>by rw[(ecN h).1];rfl
def Ab:STr:=aV (au gU (af (aj ni (aj eK (aj L3.rIx (ah 0) (TC (.int 0))) (ah 1)) (aj L3.rIx (ah 0) (TC (.int 1)))) (af (ah 1) (ao))))
theorem Fh:∀ ds μ Q,fe ds μ Q->Ab { nx:=λ_ μ'=>RT Q .non μ',rt:=RT Q } (ini 2 ds) μ:=by
 intro ds μ Q h
 replace h:=ecA h
 obtain ⟨d1,ds,rfl,h⟩:=h
 replace h:=ecI h
 obtain ⟨g,ds,rfl,h⟩:=h
 replace h:=ecN h
 obtain ⟨rfl,h⟩:=h
 unfold Ab
 walk_at "rd"
 obtain ⟨a,b,⟨⟨⟨p,q,rfl,P⟩,b0⟩,Ba,Bb,g0,g1⟩,k⟩:=h
 have q0:=P.q0
 walk_at "rd"
 rw[jt q0,OW g q0 b0 P.e]
 exact ⟨.inl (.inr (by unfold S64;omega)),⟨by omega,(P.bq Bb).m⟩,⟨by omega,by unfold gw;omega⟩,λx y Pt=>⟨_,.refl _,k _ (D1 Pt g0)⟩⟩
theorem Gv {xs:List D}{d:D}(h:xs[xs.length - 1]? = some d)(h0:xs≠[]):atD xs ((xs.length:Int) - 1)=some d:=by
 have:0 < xs.length:=List.length_pos_iff.mpr h0
 have e:((xs.length:Int) - 1)=((xs.length - 1:Nat):Int):=by omega
 rw[e,b5,h]
theorem RN.tup (R:RN)(hst:R.wd=.still->R.r=R.p/\R.s=R.q):∃ xs,R.toD=.tup xs/\xs[0]? = some (.str R.wd.str)/\xs[1]? = some (fr R.p R.q)/\xs[xs.length - 1]? = some (fr R.r R.s)/\xs≠[]:=by
 obtain ⟨wd,p,q,x,y,a,b,l,h,r,s⟩:=R
 cases wd
 ·obtain ⟨e1,e2⟩:=hst rfl
  dsimp only at e1 e2
  subst e1 e2
  exact ⟨_,rfl,rfl,rfl,rfl,nofun⟩
 all_goals exact ⟨_,rfl,rfl,rfl,rfl,nofun⟩
def iH:FSp:=λds μ Q=>kcA ds λd ds=>kcN ds (∃ R:RN,(R.Ok/\d=R.toD)/\Q (fr R.r R.s) μ)
theorem BQ:∀ ds μ Q,iH ds μ Q->ds.length=1:=λ_ _ _ h=>lcA h λ_ _ h=>by rw[(ecN h).1];rfl
def xy:STr:=aV (aj L3.rIx (ah 0) (aj kn (au c8 (af (ah 0) (ao))) (TC (.int 1))))
theorem Fg:∀ ds μ Q,iH ds μ Q->xy { nx:=λ_ μ'=>RT Q .non μ',rt:=RT Q } (ini 1 ds) μ:=by
 intro ds μ Q h
 replace h:=ecA h
 obtain ⟨d,ds,rfl,h⟩:=h
 replace h:=ecN h
 obtain ⟨rfl,h⟩:=h
 unfold xy
 walk_at "rd"
 obtain ⟨R,⟨K,rfl⟩,k⟩:=h
 obtain ⟨xs,e,_,_,e3,e4⟩:=R.tup K.st
 rw[e]
 walk_at "rd"
 rw[Gv e3 e4]
 exact ⟨_,.refl _,k⟩
def iV:FSp:=λds μ Q=>kcA ds λd ds=>kcA ds λe ds=>kcN ds (∃ (R:RN) (h:Hd),(d=R.toD/\e=h.toD)/\Q (.bl (decide (R.idle h))) μ)
theorem yz:∀ ds μ Q,iV ds μ Q->ds.length=2:=λ_ _ _ h=>lcA h λ_ _ h=>lcA h λ_ _ h=>by rw[(ecN h).1];rfl
def uV:STr:=aV (IJ (aj rEq (aj L3.rIx (ah 0) (TC (.int 0))) (TC (.str "still"))) (aj rEq (aj aQ (aj aQ (aj L3.rIx (ah 1) (TC (.int 0))) (aj L3.rIx (ah 1) (TC (.int 1)))) (aj L3.rIx (ah 1) (TC (.int 2)))) (TC (.int 0))))
theorem BV:∀ ds μ Q,iV ds μ Q->uV { nx:=λ_ μ'=>RT Q .non μ',rt:=RT Q } (ini 2 ds) μ:=by
 intro ds μ Q h
 replace h:=ecA h
 obtain ⟨d,ds,rfl,h⟩:=h
 replace h:=ecA h
 obtain ⟨e,ds,rfl,h⟩:=h
 replace h:=ecN h
 obtain ⟨rfl,h⟩:=h
 unfold uV
 walk_at "rd"
 obtain ⟨R,h,⟨rfl,rfl⟩,k⟩:=h
 obtain ⟨wd,p,q,x,y,a,b,l,hh,r,s⟩:=R
 obtain ⟨good,mark,bC,wt⟩:=h
 unfold RN.idle at k
 cases wd
 all_goals
  simp only[RN.toD,Hd.toD,fr]
  walk_at "rd"
  refine ⟨_,.refl _,?_⟩
  simpa using k
def Gd (g:Int):Prop:=1<=g/\g<=60
theorem Jg {R:RN}{h:Hd}(H:h.Ok)(hn:¬ R.idle h):0 < h.many/\h.many<=3000000:=by
 have:=H.g0;have:=H.m0;have:=H.l0;have:=H.g1;have:=H.m1;have:=H.l1
 have:¬ (h.good+h.mark+h.bC=0):=λz=>hn (.inr z)
 unfold Hd.many Hd.bad
 omega
theorem FrB.bd {lo hi p q:Int}(h:FrB lo hi p q)(l0:0<=lo)(h1:hi<=60):Le p 600000120/\Le q 10000002:=by
 have:=h.q0;have:=h.q1
 have e1:=h.ge;have e2:=h.le
 have a1:0<=lo*q:=Zv l0 (by omega)
 have a2:hi*q<=60*q:=Xz h1 (by omega)
 exact ⟨.of (by omega) (by omega),.of (by omega) (by omega)⟩
theorem A9 {R:RN}{g S:Int}{h:Hd}(hw:R.wd=.heed)(g0:0 < g)(Y:0 < R.b*h.many):(S*(R.b*(h.many*g))+R.a*(h.bad*g - S*h.many)*g)*g / (g*(R.b*(h.many*g)))=R.shr g S h:=by
 unfold RN.shr
 rw[if_pos hw]
 have e1:(S*(R.b*(h.many*g))+R.a*(h.bad*g - S*h.many)*g)*g=(S*R.b*h.many+R.a*(h.bad*g - S*h.many))*(g*g):=by
  rw[zcS,zcS];congr 1<;>ac_rfl
 have e2:g*(R.b*(h.many*g))=(R.b*h.many)*(g*g):=by ac_rfl
 rw[e1,e2]
 exact YD _ _ (YH g0 g0)
def eA:FSp:=λds μ Q=>kcA ds λd ds=>kcI ds λg ds=>kcA ds λsd ds=>kcA ds λe ds=>kcN ds (∃ (R:RN) (S:Int) (h:Hd),((d=R.toD/\e=h.toD)/\R.Ok/\h.Ok/\Gd g/\Vl sd S g/\(0<=S/\S<=g)/\¬ R.idle h)/\∀ z,Vl z (R.shr g S h) g->Q z μ)
theorem nj:∀ ds μ Q,eA ds μ Q->ds.length=4:=λ_ _ _ h=>lcA h λ_ _ h=>lcI h λ_ _ h=>lcA h λ_ _ h=>lcA h λ_ _ h=>by rw[(ecN h).1];rfl
def jI:STr:=aA (bL (TB (aj rNe (aj L3.rIx (ah 0) (TC (.int 0))) (TC (.str "heed")))) (aV (ah 2)) (ba)) (aA (aO (aj aQ (aj L3.rIx (ah 3) (TC (.int 1))) (aj L3.rIx (ah 3) (TC (.int 2)))) (ay 4)) (aA (aO (au iC (af (aj L3.rIx (ah 0) (TC (.int 3))) (af (au iz (af (au gU (af (ah 4) (af (aj aQ (aj L3.rIx (ah 3) (TC (.int 0))) (ah 4)) (ao)))) (af (ah 2) (ao)))) (ao)))) (ay 5)) (aV (au fe (af (au kh (af (ah 2) (af (ah 5) (ao)))) (af (ah 1) (ao)))))))
theorem pj:∀ ds μ Q,eA ds μ Q->jI { nx:=λ_ μ'=>RT Q .non μ',rt:=RT Q } (ini 6 ds) μ:=by
 intro ds μ Q h
 replace h:=ecA h
 obtain ⟨d,ds,rfl,h⟩:=h
 replace h:=ecI h
 obtain ⟨g,ds,rfl,h⟩:=h
 replace h:=ecA h
 obtain ⟨sd,ds,rfl,h⟩:=h
 replace h:=ecA h
 obtain ⟨e,ds,rfl,h⟩:=h
 replace h:=ecN h
 obtain ⟨rfl,h⟩:=h
 unfold jI
 walk_at "rd"
 obtain ⟨R,S,h,⟨⟨rfl,rfl⟩,K,H,⟨g0,g1⟩,VS,⟨S0,S1⟩,hn⟩,k⟩:=h
 obtain ⟨m0,m1⟩:=Jg H hn
 have hb0:=H.m0;have hb1:=H.m1;have hc0:=H.l0;have hc1:=H.l1;have hg0:=H.g0;have hg1:=H.g1
 have GB:=K.g.toFrB.bd (by decide) (by decide)
 have gp:=K.g.q0
 obtain ⟨wd,p,q,x,y,a,b,l,hh,r,s⟩:=R
 cases wd
 case heed=>
  have sh:=λY=>A9 (R:=⟨.heed,p,q,x,y,a,b,l,hh,r,s⟩) (g:=g) (S:=S) (h:=h) rfl (by omega) Y
  have k':=k
  generalize RN.shr ⟨.heed,p,q,x,y,a,b,l,hh,r,s⟩ g S h=Z at sh k'
  dsimp only at sh GB gp
  obtain ⟨good,mark,bC,wt⟩:=h
  simp only[Hd.many,Hd.bad] at sh m0 m1
  dsimp only at m0 m1 hb0 hb1 hc0 hc1 hg0 hg1
  simp only[RN.toD,Hd.toD,fr]
  walk_at "rd"
  have L1:Le (mark+bC) 2000000:=.of (by omega) (by omega)
  have L2:Le (good+(mark+bC)) 3000000:=.of (by omega) (by omega)
  have LS:Le S 60:=.of S0 (by omega)
  have Lg:Le g 60:=.of (by omega) g1
  have e1:=L1.mul Lg
  have e2:=LS.mul L2
  have e3:=L2.mul Lg
  have e4:=e1.sub e2
  have e5:=GB.1.mul e4
  have e6:=GB.2.mul e3
  have mg:0 < (good+(mark+bC))*g:=YH m0 (by omega)
  refine ⟨⟨by omega,Bd.m (L2.mono (by decide))⟩,λu v Pt=>⟨_,_,_,_,⟨⟨D1 Pt m0,VS⟩,L1.mono (by decide),L2.mono (by decide),LS.mono (by decide),Lg.mono (by decide)⟩,λz1 V1=>?_⟩⟩
  refine ⟨a,b,_,_,⟨⟨iM K.g.toFrB,V1⟩,GB.1.mono (by decide),GB.2.mono (by decide),e4.mono (by decide),e3.mono (by decide)⟩,λz2 V2=>?_⟩
  walk_at "rd"
  refine ⟨_,_,_,_,⟨⟨VS,V2⟩,LS.mono (by decide),Lg.mono (by decide),e5.mono (by decide),e6.mono (by decide)⟩,λz3 V3=>?_⟩
  refine ⟨_,_,⟨V3,((LS.mul e6).add (e5.mul Lg)).mono (by decide),(Lg.mul e6).mono (by decide),by omega,by omega⟩,λz V=>⟨_,.refl _,k' z ?_⟩⟩
  rw[sh (YH gp m0)] at V
  exact V
 all_goals
  simp only[RN.toD,Hd.toD,fr]
  walk_at "rd"
  refine ⟨_,.refl _,k _ ?_⟩
  exact VS
def fV:FSp:=λds μ Q=>kcA ds λd ds=>kcA ds λsd ds=>kcA ds λe ds=>kcN ds (∃ (R:RN) (g S:Int) (h:Hd),((d=R.toD/\e=h.toD)/\R.Ok/\h.Ok/\Gd g/\Vl sd S g/\(0<=S/\S<=g)/\¬ R.idle h)/\(R.fac g S h=none->Q .non μ)/\∀ f,R.fac g S h=some f->∀ z,Vl z f.1 f.2->Q z μ)
theorem tf:∀ ds μ Q,fV ds μ Q->ds.length=3:=λ_ _ _ h=>lcA h λ_ _ h=>lcA h λ_ _ h=>lcA h λ_ _ h=>by rw[(ecN h).1];rfl
def nK:STr:=aA (bL (TB (aj rEq (aj L3.rIx (ah 0) (TC (.int 0))) (TC (.str "calm")))) (aV (ly (TB (aj rGt (aj L3.rIx (ah 2) (TC (.int 2))) (TC (.int 0)))) (TC (.tup [.int 1,.int 2])) (TC .non))) (ba)) (aA (bL (TB (aj rEq (aj aQ (aj L3.rIx (ah 2) (TC (.int 1))) (aj L3.rIx (ah 2) (TC (.int 2)))) (TC (.int 0)))) (aV (ly (TB (aj rEq (aj L3.rIx (ah 0) (TC (.int 0))) (TC (.str "swell")))) (aj L3.rIx (ah 0) (TC (.int 2))) (TC .non))) (ba)) (aA (bL (TB (aj rEq (aj L3.rIx (ah 0) (TC (.int 0))) (TC (.str "heed")))) (aV (au iz (af (TC (.tup [.int 1,.int 1])) (af (au iC (af (TC (.tup [.int 1,.int 2])) (af (ah 1) (ao)))) (ao))))) (ba)) (aV (aj L3.rIx (ah 0) (TC (.int 3))))))
theorem wA:∀ ds μ Q,fV ds μ Q->nK { nx:=λ_ μ'=>RT Q .non μ',rt:=RT Q } (ini 3 ds) μ:=by
 intro ds μ Q h
 replace h:=ecA h
 obtain ⟨d,ds,rfl,h⟩:=h
 replace h:=ecA h
 obtain ⟨sd,ds,rfl,h⟩:=h
 replace h:=ecA h
 obtain ⟨e,ds,rfl,h⟩:=h
 replace h:=ecN h
 obtain ⟨rfl,h⟩:=h
 unfold nK
 walk_at "rd"
 obtain ⟨R,g,S,h,⟨⟨rfl,rfl⟩,K,H,⟨g0,g1⟩,VS,⟨S0,S1⟩,hn⟩,k1,k2⟩:=h
 have hb0:=H.m0;have hb1:=H.m1;have hc0:=H.l0;have hc1:=H.l1;have hg0:=H.g0;have hg1:=H.g1
 have VG:=iM K.g.toFrB
 have VU:=iM K.u.toFrB
 have LS:Le S 60:=.of S0 (by omega)
 have Lg:Le g 60:=.of (by omega) g1
 have V12:Vl (fr 1 2) 1 2:=iM (lo:=0) (hi:=1) ⟨by decide,by decide,by decide,by decide,by decide⟩
 have V11:Vl (fr 1 1) 1 1:=iM (KS (lo:=0) (hi:=1) (by decide) (by decide)).toFrB
 obtain ⟨wd,p,q,x,y,a,b,l,hh,r,s⟩:=R
 obtain ⟨good,mark,bC,wt⟩:=h
 dsimp only at hb0 hb1 hc0 hc1 hg0 hg1 VG VU
 simp only[RN.fac,Hd.bad] at k1 k2
 cases wd
 case still=>exact absurd (zay rfl) hn
 case calm=>
  simp only[RN.toD,Hd.toD,fr]
  walk_at "rd"
  split
  ·rename_i hl
   exact ⟨_,.refl _,k2 (1,2) (if_pos hl) _ V12⟩
  ·rename_i hl
   exact ⟨_,.refl _,k1 (if_neg hl)⟩
 case heed=>
  simp only[RN.toD,Hd.toD,fr]
  walk_at "rd"
  split
  ·rename_i hl
   exact ⟨_,.refl _,k1 (if_pos hl)⟩
  ·rename_i hl
   refine ⟨1,2,S,g,⟨⟨V12,VS⟩,.of (by decide) (by decide),.of (by decide) (by decide),LS.mono (by decide),Lg.mono (by decide)⟩,λz1 V1=>?_⟩
   refine ⟨1,1,_,_,⟨⟨V11,V1⟩,.of (by decide) (by decide),.of (by decide) (by decide),?_,?_⟩,λz2 V2=>⟨_,.refl _,k2 (2*g - S,2*g) (if_neg hl) _ ?_⟩⟩
   ·rw[zcR];exact LS.mono (by decide)
   ·exact .of (by omega) (by omega)
   ·simpa using V2
 case step=>
  simp only[RN.toD,Hd.toD,fr]
  walk_at "rd"
  split
  ·rename_i hl
   exact ⟨_,.refl _,k1 (if_pos hl)⟩
  ·rename_i hl
   exact ⟨_,.refl _,k2 (a,b) (if_neg hl) _ VG⟩
 case swell=>
  simp only[RN.toD,Hd.toD,fr]
  walk_at "rd"
  split
  ·rename_i hl
   exact ⟨_,.refl _,k2 (x,y) (if_pos hl) _ VU⟩
  ·rename_i hl
   exact ⟨_,.refl _,k2 (a,b) (if_neg hl) _ VG⟩
def lH:FSp:=λds μ Q=>kcA ds λd ds=>kcA ds λwd ds=>kcA ds λe ds=>kcN ds (∃ (R:RN) (g W:Int) (h:Hd),((d=R.toD/\e=h.toD)/\R.Ok/\Gd g/\Vl wd W g/\Le W 1000000/\¬ R.idle h)/\∀ z,Vl z (R.mvd g W h) (g*R.y)->Q z μ)
theorem Ep:∀ ds μ Q,lH ds μ Q->ds.length=3:=λ_ _ _ h=>lcA h λ_ _ h=>lcA h λ_ _ h=>lcA h λ_ _ h=>by rw[(ecN h).1];rfl
def Dh:STr:=aA (bL (TOr (TB (aj rNe (aj L3.rIx (ah 0) (TC (.int 0))) (TC (.str "calm")))) (TB (aj rLt (aj L3.rIx (ah 2) (TC (.int 3))) (aj L3.rIx (ah 0) (TC (.int 3)))))) (aV (au kh (af (ah 1) (af (aj L3.rIx (ah 0) (TC (.int 2))) (ao))))) (ba)) (aA (bL (TB (aj rGt (aj L3.rIx (ah 2) (TC (.int 3))) (aj L3.rIx (ah 0) (TC (.int 4))))) (aV (au iz (af (ah 1) (af (aj L3.rIx (ah 0) (TC (.int 2))) (ao))))) (ba)) (aV (ah 1)))
theorem FT:∀ ds μ Q,lH ds μ Q->Dh { nx:=λ_ μ'=>RT Q .non μ',rt:=RT Q } (ini 3 ds) μ:=by
 intro ds μ Q h
 replace h:=ecA h
 obtain ⟨d,ds,rfl,h⟩:=h
 replace h:=ecA h
 obtain ⟨wd,ds,rfl,h⟩:=h
 replace h:=ecA h
 obtain ⟨e,ds,rfl,h⟩:=h
 replace h:=ecN h
 obtain ⟨rfl,h⟩:=h
 unfold Dh
 walk_at "rd"
 obtain ⟨R,g,W,h,⟨⟨rfl,rfl⟩,K,⟨g0,g1⟩,VW,LW,hn⟩,k⟩:=h
 have VU:=iM K.u.toFrB
 have UB:=K.u.toFrB.bd (by decide) (by decide)
 have y0:=K.u.q0
 have Lg:Le g 60:=.of (by omega) g1
 obtain ⟨wd',p,q,x,y,a,b,l,hh,r,s⟩:=R
 obtain ⟨good,mark,bC,wt⟩:=h
 dsimp only at VU UB y0
 simp only[RN.mvd] at k
 have up:∀ Q':DK,(∀ z,Vl z (W*y+g*x) (g*y)->Q' z μ)->kh [wd,fr x y] μ Q':=λQ' kk=>
  ⟨W,g,x,y,⟨⟨VW,VU⟩,LW.mono (by decide),Lg.mono (by decide),UB.1.mono (by decide),UB.2.mono (by decide)⟩,λz V=>kk z (by rw[YC g x];exact V)⟩
 cases wd'
 case still=>exact absurd (zay rfl) hn
 case calm=>
  simp only[if_true] at k
  simp only[RN.toD,Hd.toD,fr]
  walk_at "rd"
  split
  ·rename_i hl
   rw[if_pos hl] at k
   exact up _ λz V=>⟨_,.refl _,k z V⟩
  ·rename_i hl
   rw[if_neg hl] at k
   split
   ·rename_i hm
    rw[if_pos hm] at k
    exact ⟨W,g,x,y,⟨⟨VW,VU⟩,LW.mono (by decide),Lg.mono (by decide),UB.1.mono (by decide),UB.2.mono (by decide)⟩,λz V=>⟨_,.refl _,k z (by rw[YC g x];exact V)⟩⟩
   ·rename_i hm
    rw[if_neg hm] at k
    exact ⟨_,.refl _,k _ (VW.of_eq (YH (by omega) y0) (by ac_rfl))⟩
 all_goals
  simp only[reduceCtorEq,if_false] at k
  simp only[RN.toD,Hd.toD,fr]
  walk_at "rd"
  exact up _ λz V=>⟨_,.refl _,k z V⟩
def lV:FSp:=λds μ Q=>kcA ds λd ds=>kcI ds λg ds=>kcA ds λwd ds=>kcN ds (∃ (R:RN) (N M:Int),(d=R.toD/\R.Ok/\Gd g/\Vl wd N M/\Bd N/\Bd M)/\∀ z,Vl z (R.clip g (N*g / M)) g->Q z μ)
theorem IA:∀ ds μ Q,lV ds μ Q->ds.length=3:=λ_ _ _ h=>lcA h λ_ _ h=>lcI h λ_ _ h=>lcA h λ_ _ h=>by rw[(ecN h).1];rfl
def KN:STr:=aA (bL (TB (au mf (af (ah 2) (af (TC (.tup [.int 1,.int 1])) (ao))))) (aV (TC (.tup [.int 1,.int 1]))) (ba)) (aA (bL (TB (au mf (af (au iH (af (ah 0) (ao))) (af (ah 2) (ao))))) (aV (au fe (af (au iH (af (ah 0) (ao))) (af (ah 1) (ao))))) (ba)) (aV (au fe (af (ah 2) (af (ah 1) (ao))))))
theorem NB:∀ ds μ Q,lV ds μ Q->KN { nx:=λ_ μ'=>RT Q .non μ',rt:=RT Q } (ini 3 ds) μ:=by
 intro ds μ Q h
 replace h:=ecA h
 obtain ⟨d,ds,rfl,h⟩:=h
 replace h:=ecI h
 obtain ⟨g,ds,rfl,h⟩:=h
 replace h:=ecA h
 obtain ⟨wd,ds,rfl,h⟩:=h
 replace h:=ecN h
 obtain ⟨rfl,h⟩:=h
 unfold KN
 walk_at "rd"
 obtain ⟨R,N,M,⟨rfl,K,⟨g0,g1⟩,V,BN,BM⟩,k⟩:=h
 have M0:=V.b0
 have V11:Vl (fr 1 1) 1 1:=iM (KS (lo:=0) (hi:=1) (by decide) (by decide)).toFrB
 have TB:=K.t.bd (by decide) (by decide)
 have VT:=iM K.t
 have s0:=K.t.q0
 have cg:=Hv K (g:=g) (by omega)
 refine ⟨N,M,1,1,⟨⟨V,V11⟩,BN,BM,.of (by decide) (by decide),.of (by decide) (by decide)⟩,?_⟩
 walk_at "rd"
 rw[Int.mul_one,zcR]
 have key:∀ z,Vl z (R.clip g (N*g / M)) g->RT Q z μ:=λz V=>⟨_,.refl _,k z V⟩
 unfold RN.clip at key
 split
 ·rename_i hl
  have f:N*g / M < g:=by
   rw[Int.ediv_lt_iff_lt_mul M0,YC g M]
   exact ZL hl (by omega)
  rw[show min (max (N*g / M) g) (R.cap g)=g by omega] at key
  exact key _ (V11.of_eq (by omega) (by omega))
 ·rename_i hl
  refine ⟨R,⟨K,rfl⟩,R.r,R.s,N,M,⟨⟨VT,V⟩,TB.1.mono (by decide),TB.2.mono (by decide),BN,BM⟩,?_⟩
  walk_at "rd"
  have f1:g<=N*g / M:=by
   rw[YK M0,YC g M]
   exact Xz (by omega) (by omega)
  split
  ·rename_i ht
   have f2:R.cap g<=N*g / M:=by
    unfold RN.cap
    rw[YK M0]
    have d:=zcw (R.r*g) (show R.s≠0 by omega)
    have e1:R.r*g / R.s*M*R.s<=N*g*R.s:=by
     calc R.r*g / R.s*M*R.s=(R.r*g / R.s*R.s)*M:=by ac_rfl
      _<=(R.r*g)*M:=Xz d (by omega)
      _=(R.r*M)*g:=by ac_rfl
      _<=(N*R.s)*g:=Xz (by omega) (by omega)
      _=N*g*R.s:=by ac_rfl
    exact ZU e1 s0
   rw[show min (max (N*g / M) g) (R.cap g)=R.cap g by omega] at key
   exact ⟨R,⟨K,rfl⟩,R.r,R.s,⟨VT,TB.1.mono (by decide),TB.2.mono (by decide),by omega,by omega⟩,λz V=>key z V⟩
  ·rename_i ht
   have f2:N*g / M<=R.cap g:=by
    unfold RN.cap
    rw[YK s0]
    have d:=zcw (N*g) (show M≠0 by omega)
    have e1:N*g / M*R.s*M<=R.r*g*M:=by
     calc N*g / M*R.s*M=(N*g / M*M)*R.s:=by ac_rfl
      _<=(N*g)*R.s:=Xz d (by omega)
      _=(N*R.s)*g:=by ac_rfl
      _<=(R.r*M)*g:=Xz (by omega) (by omega)
      _=R.r*g*M:=by ac_rfl
    exact ZU e1 M0
   rw[show min (max (N*g / M) g) (R.cap g)=N*g / M by omega] at key
   exact ⟨N,M,⟨V,BN,BM,by omega,by omega⟩,λz V=>key z V⟩
theorem RN.Qb {R:RN}(K:R.Ok){g S:Int}{h:Hd}(G:Gd g)(S0:0<=S)(S1:S<=g){f:Int×Int}(e:R.fac g S h=some f):0 < f.1/\0 < f.2/\Le f.1 600000120/\Le f.2 10000002:=by
 obtain ⟨g0,g1⟩:=G
 have UB:=K.u.toFrB.bd (by decide) (by decide)
 have GB:=K.g.toFrB.bd (by decide) (by decide)
 have h1:=K.u.q0;have h2:=K.u.ab;have h3:=K.g.q0;have h4:=K.g.ab
 unfold RN.fac at e
 split at e
 ·cases e
 ·split at e
  ·cases e;exact ⟨by decide,by decide,.of (by decide) (by decide),.of (by decide) (by decide)⟩
  ·cases e
 ·split at e
  ·cases e
  ·cases e;exact ⟨by show 0 < 2*g - S;omega,by show 0 < 2*g;omega,.of (by show 0<=2*g - S;omega) (by show 2*g - S<=_;omega),.of (by show 0<=2*g;omega) (by show 2*g<=_;omega)⟩
 ·split at e
  ·cases e;exact ⟨by show 0 < R.x;omega,h1,UB.1,UB.2⟩
  ·cases e;exact ⟨by show 0 < R.a;omega,h3,GB.1,GB.2⟩
 ·split at e
  ·cases e
  ·cases e;exact ⟨by show 0 < R.a;omega,h3,GB.1,GB.2⟩
theorem RN.QT {R:RN}(K:R.Ok){g W:Int}{h:Hd}(G:Gd g)(L:Le W 1000000):Bd (R.mvd g W h):=by
 obtain ⟨g0,g1⟩:=G
 have UB:=K.u.toFrB.bd (by decide) (by decide)
 have Lg:Le g 60:=.of (by omega) g1
 have e1:=L.mul UB.2
 have e2:=Lg.mul UB.1
 unfold RN.mvd
 split
 ·split
  ·exact (e1.add e2).mono (by decide)
  ·split
   ·exact (e1.sub e2).mono (by decide)
   ·exact e1.mono (by decide)
 ·exact (e1.add e2).mono (by decide)
def gR:FSp:=λds μ Q=>kcA ds λd ds=>kcI ds λg ds=>kcA ds λwd ds=>kcA ds λsd ds=>kcA ds λe ds=>kcN ds (∃ (R:RN) (W S:Int) (h:Hd),((d=R.toD/\e=h.toD)/\R.Ok/\h.Ok/\Gd g/\(Vl wd W g/\Le W 1000000)/\Vl sd S g/\(0<=S/\S<=g))/\∀ w z,Vl w (R.beh g W S h).1 g->Vl z (R.beh g W S h).2 g->Q (.tup [w,z]) μ)
theorem wF:∀ ds μ Q,gR ds μ Q->ds.length=5:=λ_ _ _ h=>lcA h λ_ _ h=>lcI h λ_ _ h=>lcA h λ_ _ h=>lcA h λ_ _ h=>lcA h λ_ _ h=>by rw[(ecN h).1];rfl
def sJ:STr:=aA (bL (TB (au iV (af (ah 0) (af (ah 4) (ao))))) (aV (a7 (af (ah 2) (af (ah 3) (ao))))) (ba)) (aA (aO (au eA (af (ah 0) (af (ah 1) (af (ah 3) (af (ah 4) (ao)))))) (ay 5)) (aA (aO (au fV (af (ah 0) (af (ah 5) (af (ah 4) (ao))))) (ay 6)) (aA (bL (TB (aj rIs (ah 6) (TC .non))) (aV (a7 (af (au lV (af (ah 0) (af (ah 1) (af (au lH (af (ah 0) (af (ah 2) (af (ah 4) (ao))))) (ao))))) (af (ah 5) (ao))))) (ba)) (aV (a7 (af (au lV (af (ah 0) (af (ah 1) (af (au iC (af (ah 2) (af (ah 6) (ao)))) (ao))))) (af (ah 5) (ao))))))))
theorem yZ:∀ ds μ Q,gR ds μ Q->sJ { nx:=λ_ μ'=>RT Q .non μ',rt:=RT Q } (ini 7 ds) μ:=by
 intro ds μ Q h
 replace h:=ecA h
 obtain ⟨d,ds,rfl,h⟩:=h
 replace h:=ecI h
 obtain ⟨g,ds,rfl,h⟩:=h
 replace h:=ecA h
 obtain ⟨wd,ds,rfl,h⟩:=h
 replace h:=ecA h
 obtain ⟨sd,ds,rfl,h⟩:=h
 replace h:=ecA h
 obtain ⟨e,ds,rfl,h⟩:=h
 replace h:=ecN h
 obtain ⟨rfl,h⟩:=h
 unfold sJ
 walk_at "rd"
 obtain ⟨R,W,S,h,⟨⟨rfl,rfl⟩,K,H,G,⟨VW,LW⟩,VS,S0,S1⟩,k⟩:=h
 have g0:=G.1
 have g1:=G.2
 have Lg:Le g 60:=.of (by omega) g1
 refine ⟨R,h,⟨rfl,rfl⟩,?_⟩
 walk_at "rd"
 unfold RN.beh at k
 split
 ·rename_i hi
  rw[if_pos hi] at k
  exact ⟨_,.refl _,k _ _ VW VS⟩
 ·rename_i hi
  rw[if_neg hi] at k
  refine ⟨R,S,h,⟨⟨rfl,rfl⟩,K,H,G,VS,⟨S0,S1⟩,hi⟩,λz VZ=>?_⟩
  walk_at "rd"
  have sin:=Ks K H hi (by omega) S0 S1
  unfold RN.mv at k
  refine ⟨R,g,_,h,⟨⟨rfl,rfl⟩,K,H,G,VZ,sin,hi⟩,λhf=>?_,λf hf v VF=>?_⟩
  ·rw[hf] at k
   walk_at "rd"
   have y0:=K.u.q0
   refine ⟨R,g,W,h,⟨⟨rfl,rfl⟩,K,G,VW,LW,hi⟩,λw Vw=>?_⟩
   refine ⟨R,_,_,⟨rfl,K,G,Vw,RN.QT K G LW,?_⟩,λw2 Vw2=>?_⟩
   ·exact (Lg.mul (K.u.toFrB.bd (by decide) (by decide)).2).mono (by decide)
   ·walk_at "rd"
    refine ⟨_,.refl _,k _ _ ?_ VZ⟩
    rw[show R.mvd g W h*g / (g*R.y)=R.mvd g W h / R.y by rw[YC g R.y];exact YD _ _ (by omega)] at Vw2
    exact Vw2
  ·rw[hf] at k
   obtain ⟨f1,f2,F1,F2⟩:=RN.Qb K G sin.1 sin.2 hf
   obtain ⟨⟨p,q,rfl,P⟩,b0⟩:=id VF
   walk_at "rd"
   refine ⟨W,g,f.1,f.2,⟨⟨VW,VF⟩,LW.mono (by decide),Lg.mono (by decide),F1.mono (by decide),F2.mono (by decide)⟩,λw Vw=>?_⟩
   refine ⟨R,_,_,⟨rfl,K,G,Vw,(LW.mul F1).mono (by decide),(Lg.mul F2).mono (by decide)⟩,λw2 Vw2=>?_⟩
   walk_at "rd"
   refine ⟨_,.refl _,k _ _ ?_ VZ⟩
   rw[show W*f.1*g / (g*f.2)=W*f.1 / f.2 by rw[YC g f.2];exact YD _ _ (by omega)] at Vw2
   exact Vw2
def U2:=Jn @Qi <| Jn @MK <| Jn @Pf <| Jn @NF <| Jn @Rt <| Jn @Mb <| Jn @SE <| Jn @Np <| Jn @SF <| Jn @Ly <| Jn @QO <| Jn @MC <| Jn @Qk <| Jn @Mq <| Jn @Sj <| Jn @NO <| Jn @Rp <| Jn @Lm <| Jn @Qf <| Jn @NI <| Jn @LZ <| Jn @HS <| Jn @Lv <| Jn @JC <| Jn @MG <| Jn @Gj <| Jn @Gg <| Jn @NY <| Jn @Jv <| Jn @K4 <| Jn @GY <| Jn @Ww <| Jn @Qe <| Jn @S2 <| Jn @LU <| Jn @MM <| Jn @Wq <| Jn @QF <| Jn @U7 <| Jn @Q7 <| Jn @Sb <| Jn @Pj <| Jn @M5 <| Jn @PQ <| Jn @Qa <| Jn @Pb <| Jn @MQ <| Jn @Mx <| Jn @SU <| Jn @Ml <| Jn @O9 <| Jn @QZ <| Jn @QM <| Jn @Pp <| Jn @RK <| Jn @Fz <| Jn @Fu <| Jn @Pl <| Jn @Qp <| Jn @Tp <| Jn @UW <| Jn @RR <| Jn @Rn <| Jn @Rk <| Jn @SY <| Jn @Vr <| Jn @Vo <| Jn @UU <| Jn @T4 <| Jn @Vs <| Jn @UP <| Jn @UR <| Jn @PX <| Jn @SA <| Jn @PF <| Jn @RH <| Jn @Qs <| Jn @Q5 <| Jn @Ld <| Jn @Lh <| Jn @NL <| Jn @JX <| Jn @ES <| Jn @IZ <| Jn @MW <| Jn @IP <| Jn @Fl <| Jn @Dn <| Jn @Fd <| Jn @Ff <| Jn @ET <| Jn @GJ <| Jn @JL <| Jn @Hb <| Jn @IG <| Jn @Jl <| Jn @Nl <| Jn @NT <| Jn @Of <| Jn @MZ <| Jn @Jm <| Jn @Jr <| Jn @Hc <| Jn @JE <| Jn @IL <| Jn @L0 <| Jn @MF <| Jn @MR <| Jn @Bl <| Jn @BO <| Jn @BE <| Jn @Mi <| Jn @Qj <| Jn @PV <| Jn @SD <| Jn @Q3 <| Jn @Ro <| Jn @O6 <| Jn @Q2 <| Jn @Gk <| Jn @IH <| Jn @IW <| Jn @Ge <| Jn @Kg <| Jn @RE <| @Se
def EK:=Jn @nc <| Jn @qJ <| Jn @mM <| Jn @pZ <| @rT
local macro_rules | `(tactic| walk_at "go")=>zzS "↓L3.U2 L3.EK ↓L3.ke ↓L3.iP L3.cq L3.bY L3.cw L3.cy L3.cv L3.cz L3.cW L3.cR L3.bZ L3.cp L3.cA L3.cB L3.cu L3.cT L3.cE L3.cV L3.ck L3.cQ L3.cC L3.cU L3.iS L3.CH L3.Cm L3.Fx L3.Eh L3.fj L3.qf L3.nC L3.uf L3.uu L3.mT L3.mK L3.kc L3.kg L3.kb L3.ka true_and and_true and_self Bool.not_true Bool.not_false decide_true decide_false Bool.or_true Bool.or_false Bool.true_or Bool.false_or Bool.and_false Bool.false_and Bool.and_true Bool.true_and Int.reduceToNat Int.reducePow Int.reduceNeg Int.reduceSub Int.reduceAdd Int.reduceMul Int.reduceEq Int.reduceLT Int.reduceLE Int.reduceBEq L3.iA L3.fN L3.f6 L3.fI L3.fH L3.fO L3.fP L3.fX if_true if_false Bool.false_eq_true reduceCtorEq decide_eq_true_eq"
local macro_rules | `(tactic| walk_at "ini")=>`(tactic| simp only[ini,List.map,List.length,List.replicate,Nat.reduceSub,Nat.reduceAdd,Nat.sub_self,List.cons_append,List.nil_append,List.append_nil])
theorem fb {xs:List D}{P:D->Prop}(h:∀ d∈xs,P d){k:Int}(k0:0<=k)(k1:k < xs.length):∃ d,atD xs k=some d/\P d:=by
 obtain ⟨j,rfl⟩:=zaq k0
 rw[b5]
 have hj:j < xs.length:=by omega
 exact ⟨xs[j],by simp[hj],h _ (YS hj)⟩
def IsL (hi:Int)(d:D):Prop:=∃ p q,d=fr p q/\FrL hi p q
def IsI (lo hi:Int)(d:D):Prop:=∃ i:Int,d=.int i/\lo<=i/\i<=hi
theorem eO {P:D->Prop}:∀ d∈([]:List D),P d:=λ_ h=>nomatch h
theorem aG {P:D->Prop}{a:D}{xs:List D}(h:P a)(k:∀ d∈xs,P d):∀ d∈a::xs,P d:=λd hd=>by
 rcases Xr.mp hd with e | e
 ·rw[e];exact h
 ·exact k d e
local macro_rules | `(tactic| walk_at "all")=>`(tactic| repeat' (first | exact eO | refine aG ?_ ?_))
structure oJ (b p:Addr) (xs:List D) (μ μ':Mu):Prop where
 box:Box μ' b
 ne:p≠b
 new:μ p=none
 at':μ' p=some (.lst xs)
 oth:∀ a,a≠b->a≠p->μ' a=μ a
theorem oJ.mk' {b p:Addr}{xs:List D}{μ:Mu}(hB:Box μ b)(hp:μ p=none):oJ b p xs μ (up μ p (.lst xs)):=by
 have ne:p≠b:=λz=>by subst z;obtain ⟨_,_,_,e,_⟩:=hB;rw[hp] at e;cases e
 obtain ⟨g,s,c,e,h⟩:=hB
 exact ⟨⟨g,s,c,by rw[aU ne.symm];exact e,h⟩,ne,hp,aI,λa _ h=>aU h⟩
theorem oJ.go {b p:Addr}{xs:List D}{μ μ1 μ2:Mu}(h:oJ b p xs μ μ1)(B:pY b μ1 μ2):oJ b p xs μ μ2:=
 ⟨B.box,h.ne,h.new,by rw[B.oth p h.ne];exact h.at',λa h1 h2=>by rw[B.oth a h1];exact h.oth a h1 h2⟩
theorem oJ.set {b p:Addr}{xs ys:List D}{μ μ1:Mu}(h:oJ b p xs μ μ1):oJ b p ys μ (up μ1 p (.lst ys)):=by
 obtain ⟨g,s,c,e,hh⟩:=h.box
 exact ⟨⟨g,s,c,by rw[aU h.ne.symm];exact e,hh⟩,h.ne,h.new,aI,λa h1 h2=>by rw[aU h2];exact h.oth a h1 h2⟩
theorem Qo (μ:Mu)(p:Addr):Sub (dn μ p) μ:=λa o e=>by
 unfold dn at e
 split at e
 ·cases e
 ·exact e
theorem oJ.fin {b p:Addr}{xs:List D}{μ μ1:Mu}(h:oJ b p xs μ μ1):pY b μ (dn μ1 p):=by
 obtain ⟨g,s,c,e,hh⟩:=h.box
 refine ⟨⟨g,s,c,?_,hh⟩,λa ha=>?_⟩
 ·unfold dn;rw[if_neg h.ne.symm];exact e
 ·unfold dn
  split
  ·rename_i z;subst z;exact h.new.symm
  ·rename_i z;exact h.oth a ha z
theorem oJ.rt {b p:Addr}{xs:List D}{μ μ1:Mu}{Q:DK}{d:D}(h:oJ b p xs μ μ1)(k:∀ μ',pY b μ μ'->Q d μ'):RT Q d μ1:=⟨_,Qo μ1 p,k _ h.fin⟩
def RN.ap1 (R:RN)(g S far:Int)(h:Hd):Int×Int:=if R.idle h then (S,far) else
 (R.shr g S h,min (match R.fac g (R.shr g S h) h with
  | some f=>-((-(far*f.1)) / f.2)
  | none=>far) (R.cap g - g))
def RN.ap (R:RN)(g:Int):List Hd->Int->Int->Int
 | [],_,far=>far
 | h::r,S,far=>RN.ap R g r (R.ap1 g S far h).1 (R.ap1 g S far h).2
theorem ki {p:Addr}{G:GTr}{tt:TTr}{te:ETr}{ρc:ST}{K:Mu->Prop}(P:List D->Mu->Prop)(hnil:∀ μ,P [] μ->K μ)
  (hcons:∀ d r μ (N:Mu->Prop),P (d::r) μ->(∀ μ',P r μ'->N μ')->G d ρc μ λρ1 μ1=>tt ρ1 μ1 λb μ2=>kIf b (te ρ1 μ2 λy μ3=>kL μ3 p λzs=>zs.length < 1000000/\N (up μ3 p (.lst (zs++[y])))) (N μ2)) :
  ∀ (ds:List D) (μ:Mu),P ds μ->fF p G tt te ρc K ds μ
 | [],μ,h=>hnil μ h
 | d::r,μ,h=>hcons d r μ _ h λμ' q=>ki P hnil hcons r μ' q
theorem yt (d0:D)(r:List D)(f:D->Prop):kO (atD (d0::r) 0) f=f d0:=by rw[xF];rfl
theorem xc (d0 d1:D)(r:List D)(f:D->Prop):kO (atD (d0::d1::r) 1) f=f d1:=by rw[z9];rfl
theorem zD (d0 d1 d2:D)(r:List D)(f:D->Prop):kO (atD (d0::d1::d2::r) 2) f=f d2:=by rw[DO];rfl
theorem ym (d0 d1 d2 d3:D)(r:List D)(f:D->Prop):kO (atD (d0::d1::d2::d3::r) 3) f=f d3:=by rw[Dg];rfl
theorem zQ (d0 d1 d2 d3 d4:D)(r:List D)(f:D->Prop):kO (atD (d0::d1::d2::d3::d4::r) 4) f=f d4:=by rw[DD];rfl
theorem xE (d0 d1 d2 d3 d4 d5:D)(r:List D)(f:D->Prop):kO (atD (d0::d1::d2::d3::d4::d5::r) 5) f=f d5:=by rw[C5];rfl
def qx (G:GTr)(tt:TTr)(te:ETr)(ρc:ST)(ds:List D)(μ:Mu)(Q:DK):Prop:=∀ p,μ p=none->fF p G tt te ρc (λμ'=>kL μ' p λzs=>Q (.ls zs) (dn μ' p)) ds (up μ p (.lst []))
theorem Ll (it:ATr)(G:GTr)(tt:TTr)(te:ETr)(n:Nat)(caps:List Nat)(ρ:ST)(μ:Mu)(Q:DK):bK it G tt te n caps ρ μ Q=it ρ μ λds μ1=>qx G tt te (eZ ρ n caps) ds μ1 Q:=propext Xc
theorem Sx (ρ:ST)(μ:Mu)(Q:Bool->Mu->Prop):dF ρ μ Q=Q true μ:=propext Xc
section
variable {G:GTr} {tt:TTr} {te:ETr} {ρc:ST} {ds:List D} {μ:Mu} {Q:DK}
theorem vU (f:D->Option D)(hl:ds.length<=999999)
  (step:∀ d∈ds,∀ μ',Sub μ μ'->∀ (N:Option D->Mu->Prop),N (f d) μ'->G d ρc μ' λρ1 μ1=>tt ρ1 μ1 λb μ2=>kIf b (te ρ1 μ2 λy μ3=>N (some y) μ3) (N none μ2))
  (k:Q (.ls (ds.filterMap f)) μ):qx G tt te ρc ds μ Q:=by
 intro p hp
 refine ki (λr μ'=>∃ done,ds=done++r/\μ'=up μ p (.lst (done.filterMap f))) ?_ ?_ _ _ ⟨[],rfl,rfl⟩
 ·rintro μ' ⟨done,e,rfl⟩
  rw[XH] at e
  subst e
  refine bo aI ?_
  rw[sN hp];exact k
 ·rintro d r μ' N ⟨done,e,rfl⟩ hN
  have hd:d∈ds:=by rw[e];simp
  have e':ds=(done++[d])++r:=by rw[e];simp
  have lf:(done.filterMap f).length < 1000000:=by
   have h1:=YV f done
   have h2:ds.length=done.length+(d::r).length:=by rw[e,Xi]
   rw[XI] at h2;omega
  refine step d hd _ (Sub.new hp) (λoy μ3=>match oy with
   | some y=>kL μ3 p λzs=>zs.length < 1000000/\N (up μ3 p (.lst (zs++[y])))
   | none=>N μ3) ?_
  cases hf:f d with
  | none=>
   refine hN _ ⟨done++[d],e',?_⟩
   rw[Yc];simp[hf]
  | some y=>
   refine bo aI ⟨lf,hN _ ⟨done++[d],e',?_⟩⟩
   rw[Yc,iA];simp[hf]
theorem comp_map (f:D->D)(hl:ds.length<=999999)
  (step:∀ d∈ds,∀ μ',Sub μ μ'->∀ (N:DK),N (f d) μ'->G d ρc μ' λρ1 μ1=>te ρ1 μ1 N)
  (k:Q (.ls (ds.map f)) μ):qx G dF te ρc ds μ Q:=by
 refine vU (λd=>some (f d)) hl (λd hd μ' s N n=>?_) (by rw[show (λd=>some (f d))=some ∘ f from rfl,zaI];exact k)
 exact step d hd μ' s (λy μ3=>N (some y) μ3) n
theorem Gh (I:List D->List D->Prop)(h0:I ds [])(hl:ds.length<=999999)
  (step:∀ d r zs μ',Sub μ μ'->I (d::r) zs->∀ (N:Option D->Mu->Prop),(∀ oy,I r (zs++oy.toList)->N oy μ')->G d ρc μ' λρ1 μ1=>tt ρ1 μ1 λb μ2=>kIf b (te ρ1 μ2 λy μ3=>N (some y) μ3) (N none μ2))
  (k:∀ zs,I [] zs->Q (.ls zs) μ):qx G tt te ρc ds μ Q:=by
 intro p hp
 refine ki (λr μ'=>∃ zs,I r zs/\zs.length+r.length<=ds.length/\μ'=up μ p (.lst zs)) ?_ ?_ _ _ ⟨[],h0,by simp,rfl⟩
 ·rintro μ' ⟨zs,hI,_,rfl⟩
  refine bo aI ?_
  rw[sN hp];exact k zs hI
 ·rintro d r μ' N ⟨zs,hI,hz,rfl⟩ hN
  rw[XI] at hz
  refine step d r zs _ (Sub.new hp) hI (λoy μ3=>match oy with
   | some y=>kL μ3 p λzs=>zs.length < 1000000/\N (up μ3 p (.lst (zs++[y])))
   | none=>N μ3) ?_
  intro oy hoy
  cases oy with
  | none=>exact hN _ ⟨zs,by simpa using hoy,by omega,rfl⟩
  | some y=>
   refine bo aI ⟨by omega,hN _ ⟨zs++[y],hoy,by rw[Xi];simp;omega,?_⟩⟩
   rw[iA]
theorem jJ {α:Type}(xs:List α)(t:α->D)(h:α->Option D)(hds:ds=xs.map t)(hl:xs.length<=999999)
  (step:∀ x∈xs,∀ μ',Sub μ μ'->∀ (N:Option D->Mu->Prop),N (h x) μ'->G (t x) ρc μ' λρ1 μ1=>tt ρ1 μ1 λb μ2=>kIf b (te ρ1 μ2 λy μ3=>N (some y) μ3) (N none μ2))
  (k:Q (.ls (xs.filterMap h)) μ):qx G tt te ρc ds μ Q:=by
 subst hds
 refine Gh (λr zs=>∃ a c,xs=a++c/\r=c.map t/\zs=a.filterMap h) ⟨[],xs,rfl,rfl,rfl⟩ (by simpa using hl) ?_ ?_
 ·rintro d r zs μ' sb ⟨a,c,e,er,rfl⟩ N hN
  cases c with
  | nil=>cases er
  | cons x c=>
  cases er
  refine step x (by rw[e];simp) μ' sb N (hN _ ⟨a++[x],c,by rw[e];simp,rfl,?_⟩)
  rw[Yc]
  cases hx:h x<;>simp[hx]
 ·rintro zs ⟨a,c,e,er,rfl⟩
  have:c=[]:=by cases c with | nil=>rfl | cons=>cases er
  subst this
  rw[XH] at e
  subst e;exact k
theorem bG {α:Type}(xs:List α)(t:α->D)(h:α->D)(hds:ds=xs.map t)(hl:xs.length<=999999)
  (step:∀ x∈xs,∀ μ',Sub μ μ'->∀ (N:DK),N (h x) μ'->G (t x) ρc μ' λρ1 μ1=>te ρ1 μ1 N)
  (k:Q (.ls (xs.map h)) μ):qx G dF te ρc ds μ Q:=by
 refine jJ xs t (λx=>some (h x)) hds hl (λx hx μ' s N n=>?_) (by rw[show (λx=>some (h x))=some ∘ h from rfl,zaI];exact k)
 exact step x hx μ' s (λy μ3=>N (some y) μ3) n
def CT (a:Addr)(full:List D)(G:GTr)(tt:TTr)(te:ETr)(ρc:ST)(ds:List D)(μ:Mu)(Q:DK):Prop:=∀ p,μ p=none->lg (λμ=>μ a=some (.lst full)) p G tt te ρc (λμ'=>kL μ' p λzs=>Q (.ls zs) (dn μ' p)) ds (up μ p (.lst []))
theorem JF (To:ETr)(G:GTr)(tt:TTr)(te:ETr)(n:Nat)(caps:List Nat)(ρ:ST)(μ:Mu)(Q:DK):jV To G tt te n caps ρ μ Q=To ρ μ λx μ1=>kObj x λa=>kL μ1 a λds=>CT a ds G tt te (eZ ρ n caps) ds μ1 Q:=propext Xc
theorem lr {C:Mu->Prop}{p:Addr}{ρc:ST}{K:Mu->Prop}(P:List D->Mu->Prop)(hC:∀ r μ,P r μ->C μ)(hnil:∀ μ,P [] μ->K μ)
  (hcons:∀ d r μ (N:Mu->Prop),P (d::r) μ->(∀ μ',P r μ'->N μ')->G d ρc μ λρ1 μ1=>tt ρ1 μ1 λb μ2=>kIf b (te ρ1 μ2 λy μ3=>kL μ3 p λzs=>zs.length < 1000000/\N (up μ3 p (.lst (zs++[y])))) (N μ2)) :
  ∀ (ds:List D) (μ:Mu),P ds μ->lg C p G tt te ρc K ds μ
 | [],μ,h=>⟨hC _ _ h,hnil μ h⟩
 | d::r,μ,h=>⟨hC _ _ h,hcons d r μ _ h λμ' q=>lr P hC hnil hcons r μ' q⟩
theorem Il {a:Addr}{full:List D}(hm:μ a=some (.lst full))(f:D->Option D)(hl:ds.length<=999999)
  (step:∀ d∈ds,∀ μ',Sub μ μ'->∀ (N:Option D->Mu->Prop),N (f d) μ'->G d ρc μ' λρ1 μ1=>tt ρ1 μ1 λb μ2=>kIf b (te ρ1 μ2 λy μ3=>N (some y) μ3) (N none μ2))
  (k:Q (.ls (ds.filterMap f)) μ):CT a full G tt te ρc ds μ Q:=by
 intro p hp
 refine lr (λr μ'=>∃ done,ds=done++r/\μ'=up μ p (.lst (done.filterMap f))) ?_ ?_ ?_ _ _ ⟨[],rfl,rfl⟩
 ·rintro r μ' ⟨done,_,rfl⟩
  exact Sub.new hp _ _ hm
 ·rintro μ' ⟨done,e,rfl⟩
  rw[XH] at e
  subst e
  refine bo aI ?_
  rw[sN hp];exact k
 ·rintro d r μ' N ⟨done,e,rfl⟩ hN
  have hd:d∈ds:=by rw[e];simp
  have e':ds=(done++[d])++r:=by rw[e];simp
  have lf:(done.filterMap f).length < 1000000:=by
   have h1:=YV f done
   have h2:ds.length=done.length+(d::r).length:=by rw[e,Xi]
   rw[XI] at h2;omega
  refine step d hd _ (Sub.new hp) (λoy μ3=>match oy with
   | some y=>kL μ3 p λzs=>zs.length < 1000000/\N (up μ3 p (.lst (zs++[y])))
   | none=>N μ3) ?_
  cases hf:f d with
  | none=>
   refine hN _ ⟨done++[d],e',?_⟩
   rw[Yc];simp[hf]
  | some y=>
   refine bo aI ⟨lf,hN _ ⟨done++[d],e',?_⟩⟩
   rw[Yc,iA];simp[hf]
theorem nv {α:Type}{a:Addr}(xs:List α)(t:α->D)(h:α->Option D)(hds:ds=xs.map t)(hm:μ a=some (.lst (xs.map t)))(hl:xs.length<=999999)
  (step:∀ x∈xs,∀ μ',Sub μ μ'->∀ (N:Option D->Mu->Prop),N (h x) μ'->G (t x) ρc μ' λρ1 μ1=>tt ρ1 μ1 λb μ2=>kIf b (te ρ1 μ2 λy μ3=>N (some y) μ3) (N none μ2))
  (k:Q (.ls (xs.filterMap h)) μ):CT a (xs.map t) G tt te ρc ds μ Q:=by
 subst hds
 intro p hp
 refine lr (λr μ'=>∃ b c,xs=b++c/\r=c.map t/\μ'=up μ p (.lst (b.filterMap h))) ?_ ?_ ?_ _ _ ⟨[],xs,rfl,rfl,rfl⟩
 ·rintro r μ' ⟨b,c,_,_,rfl⟩
  exact Sub.new hp _ _ hm
 ·rintro μ' ⟨b,c,e,er,rfl⟩
  have:c=[]:=by cases c with | nil=>rfl | cons=>cases er
  subst this
  rw[XH] at e
  subst e
  refine bo aI ?_
  rw[sN hp];exact k
 ·rintro d r μ' N ⟨b,c,e,er,rfl⟩ hN
  cases c with
  | nil=>cases er
  | cons x c=>
  cases er
  have e':xs=(b++[x])++c:=by rw[e];simp
  have lf:(b.filterMap h).length < 1000000:=by
   have h1:=YV h b
   have h2:xs.length=b.length+(x::c).length:=by rw[e,Xi]
   rw[XI] at h2;omega
  refine step x (by rw[e];simp) _ (Sub.new hp) (λoy μ3=>match oy with
   | some y=>kL μ3 p λzs=>zs.length < 1000000/\N (up μ3 p (.lst (zs++[y])))
   | none=>N μ3) ?_
  cases hf:h x with
  | none=>
   refine hN _ ⟨b++[x],c,e',rfl,?_⟩
   rw[Yc];simp[hf]
  | some y=>
   refine bo aI ⟨lf,hN _ ⟨b++[x],c,e',rfl,?_⟩⟩
   rw[Yc,iA];simp[hf]
theorem Ex {a:Addr}{full:List D}(hm:μ a=some (.lst full))(f:D->D)(hl:ds.length<=999999)
  (step:∀ d∈ds,∀ μ',Sub μ μ'->∀ (N:DK),N (f d) μ'->G d ρc μ' λρ1 μ1=>te ρ1 μ1 N)
  (k:Q (.ls (ds.map f)) μ):CT a full G dF te ρc ds μ Q:=by
 refine Il hm (λd=>some (f d)) hl (λd hd μ' s N n=>?_) (by rw[show (λd=>some (f d))=some ∘ f from rfl,zaI];exact k)
 exact step d hd μ' s (λy μ3=>N (some y) μ3) n
end
def UZ:=Jn @Ll <| Jn @JF <| Jn @Sx <| Jn @Mp <| Jn @Lq <| Jn @KW <| Jn @QB <| Jn @Ms <| Jn @Pk <| Jn @Jy <| Jn @R4 <| Jn @Lo <| Jn @Sr <| Jn @Qt <| Jn @SN <| Jn @Q8 <| Jn @QW <| Jn @SV <| Jn @Lf <| Jn @Lk <| Jn @O5 <| @U2
local macro_rules | `(tactic| walk_at "go")=>zzS "↓L3.UZ L3.EK ↓L3.yt ↓L3.xc ↓L3.zD ↓L3.ym ↓L3.zQ ↓L3.xE ↓L3.ke ↓L3.iP L3.cq L3.bY L3.cw L3.cy L3.cv L3.cz L3.cW L3.cR L3.bZ L3.cp L3.cA L3.cB L3.cu L3.cT L3.cE L3.cV L3.ck L3.cQ L3.cC L3.cU L3.iS L3.eZ List.map_cons List.map_nil List.replicate List.cons_append List.nil_append L3.lk L3.CH L3.Cm L3.Fx L3.Eh L3.fj L3.qf L3.nC L3.uf L3.uu L3.mT L3.mK L3.kc L3.kg L3.kb L3.ka true_and and_true and_self Bool.not_true Bool.not_false decide_true decide_false Bool.or_true Bool.or_false Bool.true_or Bool.false_or Bool.and_false Bool.false_and Bool.and_true Bool.true_and Int.reduceToNat Int.reducePow Int.reduceNeg Int.reduceSub Int.reduceAdd Int.reduceMul Int.reduceEq Int.reduceLT Int.reduceLE Int.reduceBEq L3.iA L3.fN L3.f6 L3.fI L3.fH L3.fO L3.fP L3.fX if_true if_false Bool.false_eq_true reduceCtorEq decide_eq_true_eq"
abbrev ks (s:String):L2.Key:=.inr (OF s)
def iw (cs:List Int)(a l g m s:Int):List (L2.Key×D):=[(ks "cells", .ls (cs.map .int)),(ks "at", .int a),(ks "left", .int l),(ks "given", .int g),(ks "many", .int m),(ks "seed", .int s)]
section
variable (cs:List Int) (a l g m s x:Int)
theorem Fs:cF (iw cs a l g m s) (.inr (OF "cells"))=some (.ls (cs.map .int)):=rfl
theorem PZ:cF (iw cs a l g m s) (.inr (OF "at"))=some (.int a):=rfl
theorem Jc:cF (iw cs a l g m s) (.inr (OF "left"))=some (.int l):=rfl
theorem FL:cF (iw cs a l g m s) (.inr (OF "given"))=some (.int g):=rfl
theorem Iq:cF (iw cs a l g m s) (.inr (OF "many"))=some (.int m):=rfl
theorem Hx:cF (iw cs a l g m s) (.inr (OF "seed"))=some (.int s):=rfl
theorem QL:putD (iw cs a l g m s) (.inr (OF "at")) (.int x)=iw cs x l g m s:=rfl
theorem Hi:putD (iw cs a l g m s) (.inr (OF "left")) (.int x)=iw cs a x g m s:=rfl
theorem Em:putD (iw cs a l g m s) (.inr (OF "given")) (.int x)=iw cs a l x m s:=rfl
theorem IF:putD (iw cs a l g m s) (.inr (OF "many")) (.int x)=iw cs a l g x s:=rfl
theorem GW:putD (iw cs a l g m s) (.inr (OF "seed")) (.int x)=iw cs a l g m x:=rfl
theorem LL:(iw cs a l g m s).length < 1000000:=by show 6 < 1000000;decide
end
local macro_rules | `(tactic| walk_at "pot")=>zzS "L3.Fs L3.PZ L3.Jc L3.FL L3.Iq L3.Hx L3.QL L3.Hi L3.Em L3.IF L3.GW L3.LL true_and L3.pK"
local macro_rules | `(tactic| walk_at "gp")=>`(tactic| (walk_at "go";walk_at "pot";walk_at "go";walk_at "pot";walk_at "go";walk_at "pot";walk_at "go";walk_at "pot";walk_at "go"))
def Pot (μ:Mu)(b:Addr):Prop:=∃ (cs:List Int) (a l g m s:Int),μ b=some (.dct (iw cs a l g m s))/\0<=a
structure dG (b:Addr) (μ μ':Mu):Prop where
 pot:Pot μ' b
 oth:∀ a,a≠b->μ' a=μ a
theorem dG.trans {b:Addr}{μ μ1 μ2:Mu}(x:dG b μ μ1)(y:dG b μ1 μ2):dG b μ μ2:=⟨y.pot,λa h=>(y.oth a h).trans (x.oth a h)⟩
theorem dG.ne {b p:Addr}{μ μ1:Mu}(x:dG b μ μ1)(h:p≠b):μ1 p=μ p:=x.oth p h
theorem Pot.ne {μ:Mu}{b p:Addr}(h:Pot μ b)(hp:μ p=none):p≠b:=λz=>by subst z;obtain ⟨_,_,_,_,_,_,e,_⟩:=h;rw[hp] at e;cases e
theorem Pot.up {μ:Mu}{b p:Addr}{o:MO}(h:Pot μ b)(hp:p≠b):Pot (up μ p o) b:=by
 obtain ⟨cs,a,l,g,m,s,e,h0⟩:=h
 exact ⟨cs,a,l,g,m,s,by rw[aU (XQ hp)];exact e,h0⟩
theorem Lx {μ:Mu}{b:Addr}{o:MO}(h:μ b=some o):up μ b o=μ:=by
 funext a;unfold L3.up;split
 ·rename_i e;subst e;exact h.symm
 ·rfl
def Kp (b:Addr)(μ μ':Mu):Prop:=∀ a o,a≠b->μ a=some o->μ' a=some o
theorem Kp.trans {b:Addr}{μ μ1 μ2:Mu}(x:Kp b μ μ1)(y:Kp b μ1 μ2):Kp b μ μ2:=λa o h e=>y a o h (x a o h e)
theorem dG.kp {b:Addr}{μ μ1:Mu}(x:dG b μ μ1):Kp b μ μ1:=λa o h e=>by rw[x.oth a h];exact e
theorem Kp.new {b p:Addr}{μ:Mu}{o:MO}(h:μ p=none):Kp b μ (up μ p o):=λa u _ e=>by rw[aU (λz=>by subst z;rw[h] at e;cases e)];exact e
theorem Kp.put {b p:Addr}{μ μ1:Mu}{o:MO}(x:Kp b μ μ1)(h:μ p=none):Kp b μ (up μ1 p o):=λa u n e=>by rw[aU (λz=>by subst z;rw[h] at e;cases e)];exact x a u n e
theorem Kp.dn {b p:Addr}{μ μ1:Mu}(x:Kp b μ μ1)(h:μ p=none):Kp b μ (dn μ1 p):=λa u n e=>by unfold L3.dn;rw[if_neg (λz=>by subst z;rw[h] at e;cases e)];exact x a u n e
theorem NM {b:Addr}{μ μ':Mu}{d:D}{Q:DK}(hP:Pot μ' b)(h:Kp b μ μ')(k:∀ μ2,dG b μ μ2->Q d μ2):RT Q d μ':=by
 refine ⟨λa=>if a=b then μ' a else μ a,λa o e=>?_,k _ ⟨?_,λa ha=>by simp only[if_neg ha]⟩⟩
 ·dsimp only at e
  split at e
  ·exact e
  ·rename_i ha;exact h a o ha e
 ·obtain ⟨cs,a,l,g,m,s,e,h0⟩:=hP
  exact ⟨cs,a,l,g,m,s,by simp only[if_pos rfl];exact e,h0⟩
def pH:FSp:=λds μ Q=>kcL ds λxs ds=>kcN ds ((∃ ns:List Int,xs=ns.map .int)/\∀ p μ',μ p=none->Pot μ' p->(∀ a,a≠p->μ' a=μ a)->Q (.obj p) μ')
theorem Hg:∀ ds μ Q,pH ds μ Q->ds.length=1:=λ_ _ _ h=>lcL h λ_ _ h=>by rw[(ecN h).1];rfl
def HJ:STr:=aV (Ii [.inr (OF "cells"),.inr (OF "at"),.inr (OF "left"),.inr (OF "given"),.inr (OF "many"),.inr (OF "seed")] (af (au j2 (af (ah 0) (ao))) (af (TC (.int 0)) (af (TC (.int 0)) (af (TC (.int 0)) (af (TC (.int 0)) (af (TC (.int 5)) (ao))))))))
theorem Mj:∀ ds μ Q,pH ds μ Q->HJ { nx:=λ_ μ'=>RT Q .non μ',rt:=RT Q } (ini 1 ds) μ:=by
 intro ds μ Q h
 replace h:=ecL h
 obtain ⟨xs,ds,rfl,h⟩:=h
 replace h:=ecN h
 obtain ⟨rfl,h⟩:=h
 walk_at "ini"
 unfold HJ
 walk_at "go"
 obtain ⟨⟨ns,rfl⟩,k⟩:=h
 intro p hp
 walk_at "go"
 exact ⟨_,.refl _,k p _ hp ⟨ns,0,0,0,0,5,aI,X1 0⟩ λa ha=>aU ha⟩
def i6:FSp:=λds μ Q=>kcI ds λ_ ds=>kcI ds λ_ ds=>kcN ds (∀ k:Int,Q (.int k) μ)
theorem HX:∀ ds μ Q,i6 ds μ Q->ds.length=2:=λ_ _ _ h=>lcI h λ_ _ h=>lcI h λ_ _ h=>by rw[(ecN h).1];rfl
def Ho:STr:=aA (aO (aj lX (aj eK (aj aQ (aj aQ (aj lX (ah 0) (TC (.int 2147483647))) (aj eK (TC (.int 7919)) (ah 1))) (TC (.int 11))) (TC (.int 48271))) (TC (.int 2147483629))) (ay 2)) (aA (aO (aj lX (aj eK (ah 2) (ah 2)) (TC (.int 2147483587))) (ay 3)) (aV (aj lX (aj eK (aj aQ (ah 3) (ah 1)) (TC (.int 69621))) (TC (.int 1999999973)))))
theorem Mt:∀ ds μ Q,i6 ds μ Q->Ho { nx:=λ_ μ'=>RT Q .non μ',rt:=RT Q } (ini 4 ds) μ:=by
 intro ds μ Q h
 replace h:=ecI h
 obtain ⟨n,ds,rfl,h⟩:=h
 replace h:=ecI h
 obtain ⟨t,ds,rfl,h⟩:=h
 replace h:=ecN h
 obtain ⟨rfl,h⟩:=h
 walk_at "ini"
 unfold Ho
 walk_at "go"
 have s79:S64 7919:=by unfold S64;decide
 have s48:S64 48271:=by unfold S64;decide
 have s69:S64 69621:=by unfold S64;decide
 refine ⟨by decide,.inl (.inl s79),.inl (.inr s48),by decide,?_⟩
 walk_at "go"
 generalize hx:((n.fmod 2147483647+7919*t+11)*48271).fmod 2147483629=x
 have x0:0<=x:=by rw[← hx];exact fm0 (by decide)
 have x1:x < 2147483629:=by rw[← hx];exact fm1 (by decide)
 refine ⟨.inl (.inl (by unfold S64;omega)),by decide,?_⟩
 walk_at "go"
 exact ⟨.inl (.inr s69),by decide,_,.refl _,h _⟩
def aB:FSp:=λds μ Q=>kcO ds λb ds=>kcI ds λn ds=>kcN ds ((Pot μ b/\0 < n/\n < 18446744073709551616)/\∀ k μ',0<=k->k < n->dG b μ μ'->Q (.int k) μ')
theorem aX {μ:Mu}{b:Addr}{n:Int}{Q:DK}(hB:Pot μ b)(h0:0 < n)(h1:n < 18446744073709551616)(h:∀ k μ',0<=k->k < n->dG b μ μ'->Q (.int k) μ'):aB [.obj b,.int n] μ Q:=⟨⟨hB,h0,h1⟩,h⟩
theorem Fo:∀ ds μ Q,aB ds μ Q->ds.length=2:=λ_ _ _ h=>lcO h λ_ _ h=>lcI h λ_ _ h=>by rw[(ecN h).1];rfl
def lq:STr:=aA (bL (sQ (TB (aj rGt (bQ (ah 0) (TC (.str "left"))) (TC (.int 0)))) (TB (aj rLt (bQ (ah 0) (TC (.str "given"))) (TC (.int 60))))) (aA (mG (λm n=>m+n) (ah 0) (TC (.str "given")) (TC (.int 1))) (aA (aO (aj lX (bQ (ah 0) (TC (.str "left"))) (ah 1)) (ay 3)) (aA (jj (ah 0) (TC (.str "left")) (aj ni (bQ (ah 0) (TC (.str "left"))) (ah 1))) (aV (ah 3))))) (ba)) (aA (jj (ah 0) (TC (.str "seed")) (au i6 (af (bQ (ah 0) (TC (.str "seed"))) (af (bQ (ah 0) (TC (.str "many"))) (ao))))) (aV (aj lX (aj ni (bQ (ah 0) (TC (.str "seed"))) (TC (.int 7))) (ah 1))))
def DE:STr:=aA (mG (λm n=>m+n) (ah 0) (TC (.str "many")) (TC (.int 1))) (aA (bL (sQ (TOr (TB (aj rEq (bQ (ah 0) (TC (.str "left"))) (TC (.int 0)))) (TB (aj rEq (bQ (ah 0) (TC (.str "given"))) (TC (.int 60))))) (TB (aj rLt (bQ (ah 0) (TC (.str "at"))) (au c8 (af (bQ (ah 0) (TC (.str "cells"))) (ao)))))) (aA (aO (au yO (af (aj L3.rIx (bQ (ah 0) (TC (.str "cells"))) (bQ (ah 0) (TC (.str "at")))) (ao))) (ay 2)) (aA (mG (λm n=>m+n) (ah 0) (TC (.str "at")) (TC (.int 1))) (aA (jj (ah 0) (TC (.str "left")) (aj eK (ah 2) (au Cy (af (aj rGe (ah 2) (aj E7 (TC (.int 10)) (TC (.int 18)))) (ao))))) (aA (jj (ah 0) (TC (.str "given")) (TC (.int 0))) (jj (ah 0) (TC (.str "seed")) (au i6 (af (aj aQ (bQ (ah 0) (TC (.str "seed"))) (ah 2)) (af (bQ (ah 0) (TC (.str "many"))) (ao))))))))) (ba)) (lq))
theorem HA:∀ ds μ Q,aB ds μ Q->DE { nx:=λ_ μ'=>RT Q .non μ',rt:=RT Q } (ini 4 ds) μ:=by
 intro ds μ Q h
 replace h:=ecO h
 obtain ⟨b,ds,rfl,h⟩:=h
 replace h:=ecI h
 obtain ⟨n,ds,rfl,h⟩:=h
 replace h:=ecN h
 obtain ⟨rfl,h⟩:=h
 walk_at "ini"
 unfold DE
 obtain ⟨⟨⟨cs,a,l,g,m,s,eb,a0⟩,n0,n1⟩,k⟩:=h
 have nm:gw n:=by unfold gw;omega
 have fin:∀ (μ':Mu) (c a l g m s:Int),0<=c->c < n->0<=a->RT Q (.int c) (up μ b (.dct (iw cs a l g m s))):=λμ' c a l g m s c0 c1 a0=>
  ⟨_,.refl _,k c _ c0 c1 ⟨⟨cs,a,l,g,m,s,aI,a0⟩,λz hz=>aU hz⟩⟩
 have rest:∀ (v2 v3:Option D) (a l g m s:Int),0<=a->lq { nx:=λ_ μ'=>RT Q .non μ',rt:=RT Q } [some (.obj b),some (.int n),v2,v3] (up μ b (.dct (iw cs a l g m s))):=by
  intro v2 v3 a l g m s a0
  unfold lq
  walk_at "gp"
  refine kif (λh1=>kif (λh2=>?_) λ_=>?_) λ_=>?_
  ·walk_at "gp"
   refine ⟨by omega,?_⟩
   walk_at "gp"
   exact ⟨⟨by omega,nm⟩,fin μ _ a _ _ m s (fm0 n0) (fm1 n0) a0⟩
  all_goals
   intro s2
   walk_at "gp"
   exact ⟨⟨by decide,by unfold gw;decide⟩,by omega,fin μ _ a l g m s2 (fm0 n0) (fm1 n0) a0⟩
 have e0:∀ c:Int,MulOk c (if 1000000000000000000<=c then 1 else 0):=λc=>.inl (.inr (by unfold S64;split<;>decide))
 have e1:nH 10 18:=by unfold nH;decide
 refine (Lx eb).symm ▸ ?_
 walk_at "gp"
 rw[W9]
 refine kif (λ_=>kif (λh1=>?_) λ_=>rest _ _ _ _ _ _ _ a0) λ_=>kif (λ_=>kif (λh1=>?_) λ_=>rest _ _ _ _ _ _ _ a0) λ_=>rest _ _ _ _ _ _ _ a0
 all_goals
  obtain ⟨z,ez⟩:=Jo a0 h1
  rw[ez]
  walk_at "gp"
  refine ⟨e1,e0 _,?_⟩
  walk_at "gp"
  intro s2
  walk_at "gp"
  exact rest _ _ _ _ _ _ _ (by omega)
def cO:List Str:=[OF "a", OF "aa", OF "ab", OF "b", OF "ba", OF "mid", OF "way", OF "zz", OF "z", OF "long", OF "longer", OF "abcdefgh", OF "x", OF "yz", OF "m", OF "az", OF "c"]
theorem Gw:∀ w∈cO,Xk w=true:=by decide +kernel
theorem AU:cO.Nodup:=by decide +kernel
theorem Hz:∀ f:Fin 17,∀ s:Fin 16,((XJ 17).map λk=>(f.val+(1+s.val)*k) % 17).Nodup:=by decide +kernel
def nameAt (f s:Nat)(k:Nat):Str:=cO.getD ((f+(1+s)*k) % 17) (OF "")
theorem Jk {f s n:Nat}(hf:f < 17)(hs:s < 16)(hn:n<=17):((XJ n).map (nameAt f s)).Nodup:=by
 have h1:((XJ 17).map λk=>(f+(1+s)*k) % 17).Nodup:=Hz ⟨f,hf⟩ ⟨s,hs⟩
 have h2:((XJ n).map λk=>(f+(1+s)*k) % 17).Nodup:=by
  refine List.Nodup.sublist ?_ h1
  refine zff _ ?_
  rw[show XJ 17=XJ n++(XJ (17 - n)).map (n + ·) by rw[← List.range_add];congr 1;omega]
  exact zbL _ _
 have h3:((XJ n).map (nameAt f s))=((XJ n).map λk=>(f+(1+s)*k) % 17).map λj=>cO.getD j (OF ""):=by rw[Xg];rfl
 rw[h3]
 rw[zbt,zaB]
 rw[zbt] at h2
 refine (zaB.mp h2 |> λq=>?_)
 rw[zaB]
 refine q.imp_of_mem ?_
 intro a b ha hb hne e
 refine hne ?_
 have l1:(f+(1+s)*a) % 17 < cO.length:=zdx _ (by decide)
 have l2:(f+(1+s)*b) % 17 < cO.length:=zdx _ (by decide)
 rw[Y9,Y9,Xt l1,Xt l2,zaL,zaL] at e
 exact (zdX AU).mp e
theorem Aq (f s k:Nat):nameAt f s k∈cO:=by
 unfold nameAt
 have l1:(f+(1+s)*k) % 17 < cO.length:=zdx _ (by decide)
 rw[Y9,Xt l1,zaL]
 exact YS _
def iB:FSp:=λds μ Q=>kcO ds λb ds=>kcI ds λm ds=>kcN ds ((Pot μ b/\0<=m/\m<=17)/\∀ (ws:List Str) μ',(ws.length:Int)=m->ws.Nodup->(∀ w∈ws,w∈cO)->dG b μ μ'->Q (.ls (ws.map .str)) μ')
theorem Bo:∀ ds μ Q,iB ds μ Q->ds.length=2:=λ_ _ _ h=>lcO h λ_ _ h=>lcI h λ_ _ h=>by rw[(ecN h).1];rfl
def yX:STr:=aA (aO (fB (af (TC (.str "a")) (af (TC (.str "aa")) (af (TC (.str "ab")) (af (TC (.str "b")) (af (TC (.str "ba")) (af (TC (.str "mid")) (af (TC (.str "way")) (af (TC (.str "zz")) (af (TC (.str "z")) (af (TC (.str "long")) (af (TC (.str "longer")) (af (TC (.str "abcdefgh")) (af (TC (.str "x")) (af (TC (.str "yz")) (af (TC (.str "m")) (af (TC (.str "az")) (ao)))))))))))))))))) (ay 2)) (aA (aO (a7 (af (au aB (af (ah 0) (af (TC (.int 17)) (ao)))) (af (aj aQ (TC (.int 1)) (au aB (af (ah 0) (af (TC (.int 16)) (ao))))) (ao)))) (dh [3,4])) (aV (bK (fM (ah 1)) (ay 0) (dF) (aj L3.rIx (aj aQ (ah 1) (fB (af (TC (.str "c")) (ao)))) (aj lX (aj aQ (ah 2) (aj eK (ah 3) (ah 0))) (TC (.int 17)))) 1 [2,3,4])))
theorem Fv:∀ ds μ Q,iB ds μ Q->yX { nx:=λ_ μ'=>RT Q .non μ',rt:=RT Q } (ini 5 ds) μ:=by
 intro ds μ Q h
 replace h:=ecO h
 obtain ⟨b,ds,rfl,h⟩:=h
 replace h:=ecI h
 obtain ⟨m,ds,rfl,h⟩:=h
 replace h:=ecN h
 obtain ⟨rfl,h⟩:=h
 walk_at "ini"
 unfold yX
 walk_at "go"
 obtain ⟨⟨hP,m0,m1⟩,k⟩:=h
 refine ⟨by decide,?_⟩
 refine aX hP (by decide) (by decide) λf μ1 f0 f1 P1=>?_
 walk_at "go"
 refine aX P1.pot (by decide) (by decide) λs μ2 s0 s1 P2=>?_
 walk_at "go"
 refine ⟨⟨by omega,by omega⟩,?_⟩
 have hw:∀ (kk:Nat),atD [D.str "a", D.str "aa", D.str "ab", D.str "b", D.str "ba", D.str "mid", D.str "way", D.str "zz", D.str "z", D.str "long", D.str "longer", D.str "abcdefgh", D.str "x", D.str "yz", D.str "m", D.str "az", D.str "c"] ((f+(1+s)*(kk:Int)).fmod 17)=some (.str (nameAt f.toNat s.toNat kk)):=by
  intro kk
  have e1:(f+(1+s)*(kk:Int)).fmod 17=(((f.toNat+(1+s.toNat)*kk) % 17:Nat):Int):=by
   rw[Int.fmod_eq_emod_of_nonneg _ (by decide)]
   push_cast
   rw[YM f0,YM s0]
  rw[e1,b5]
  show (cO.map D.str)[(f.toNat+(1+s.toNat)*kk) % 17]? = _
  have l1:(f.toNat+(1+s.toNat)*kk) % 17 < cO.length:=zdx _ (by decide)
  unfold nameAt
  rw[Yp,Y9,Xt l1];rfl
 refine comp_map (λd=>match d with
  | .int j=>.str (nameAt f.toNat s.toNat j.toNat)
  | _=>.non) (by rw[eC];omega) (λd hd μ' _ N n=>?_) ?_
 ·obtain ⟨j,rfl,j0,j1⟩:=kZ hd
  walk_at "go"
  refine ⟨by decide,?_⟩
  walk_at "go"
  refine ⟨.inl (.inl (by unfold S64;omega)),by decide,?_⟩
  have:=hw j.toNat
  rw[YM (by omega)] at this
  rw[this]
  walk_at "go"
  exact n
 ·refine ⟨_,.refl _,?_⟩
  have e:(bX 0 m.toNat).map (λd=>match d with
   | .int j=>D.str (nameAt f.toNat s.toNat j.toNat)
   | _=>.non)=((XJ m.toNat).map (nameAt f.toNat s.toNat)).map .str:=by
   unfold bX
   rw[Xg,Xg]
   refine XA λi _=>?_
   simp
  rw[e]
  refine k _ _ (by simp;omega) (Jk (by omega) (by omega) (by omega)) (λw hw=>?_) (P1.trans P2)
  obtain ⟨i,_,rfl⟩:=Xd.mp hw
  exact Aq _ _ _
section
variable {G:GTr} {tt:TTr} {te:ETr} {ρc:ST} {ds:List D} {μ:Mu} {Q:DK} {b:Addr}
theorem yr (hP:Pot μ b)(I:List D->List D->Prop)(h0:I ds [])(hl:ds.length<=999999)
  (step:∀ d r zs μ',Pot μ' b->Kp b μ μ'->I (d::r) zs->∀ (N:Option D->Mu->Prop),(∀ oy μ2,I r (zs++oy.toList)->dG b μ' μ2->N oy μ2)->G d ρc μ' λρ1 μ1=>tt ρ1 μ1 λc μ2=>kIf c (te ρ1 μ2 λy μ3=>N (some y) μ3) (N none μ2))
  (k:∀ zs μ',I [] zs->dG b μ μ'->Q (.ls zs) μ'):qx G tt te ρc ds μ Q:=by
 intro p hp
 have pb:=hP.ne hp
 refine ki (λr μ'=>∃ zs,I r zs/\zs.length+r.length<=ds.length/\μ' p=some (.lst zs)/\Pot μ' b/\∀ a,a≠b->a≠p->μ' a=μ a) ?_ ?_ _ _ ⟨[],h0,by simp,aI,hP.up pb,λa _ h=>aU h⟩
 ·rintro μ' ⟨zs,hI,_,e,P,fr⟩
  refine bo e (k zs _ hI ⟨?_,λa ha=>?_⟩)
  ·obtain ⟨cs,a,l,g,m,s,e,h0⟩:=P
   exact ⟨cs,a,l,g,m,s,by unfold dn;rw[if_neg (XQ pb)];exact e,h0⟩
  ·unfold dn
   split
   ·rename_i z;subst z;exact hp.symm
   ·rename_i z;exact fr a ha z
 ·rintro d r μ' N ⟨zs,hI,hz,e,P,fr⟩ hN
  rw[XI] at hz
  refine step d r zs μ' P (λa o n h=>?_) hI (λoy μ3=>match oy with
   | some y=>kL μ3 p λzs=>zs.length < 1000000/\N (up μ3 p (.lst (zs++[y])))
   | none=>N μ3) ?_
  ·rw[fr a n (λz=>by subst z;rw[hp] at h;cases h)];exact h
  intro oy μ2 hoy P2
  have e2:μ2 p=some (.lst zs):=by rw[P2.oth p pb];exact e
  cases oy with
  | none=>exact hN _ ⟨zs,by simpa using hoy,by omega,e2,P2.pot,λa h1 h2=>(P2.oth a h1).trans (fr a h1 h2)⟩
  | some y=>
   refine bo e2 ⟨by omega,hN _ ⟨zs++[y],hoy,by rw[Xi];simp;omega,aI,P2.pot.up pb,λa h1 h2=>?_⟩⟩
   rw[aU h2,P2.oth a h1,fr a h1 h2]
end
theorem ME {xs:List D}{c:Int}(c0:0<=c):atD xs c=xs[c.toNat]?:=by
 have:=b5 c.toNat xs
 rwa [YM c0] at this
structure Lt where
 nm:Str
 nu:Int
 ag:Int
 hp:Int
 mr:Int
def Lt.toD (x:Lt):D:=.tup [.str x.nm,.int x.nu,.int x.ag,.int x.hp,.int x.mr]
abbrev ltD (ls:List Lt):List D:=ls.map Lt.toD
structure Lt.Ok (x:Lt):Prop where
 a0:0<=x.ag
 a1:x.ag < 30
 h0:0<=x.hp
 h1:x.hp < 6
 m0:0<=x.mr
 m1:x.mr<=1
structure Wy where
 nm:Str
 pc:Int
 rm:Int
 mr:Option Int
 tn:Bool
def c5:Option Int->D
 | none=>.non
 | some i=>.int i
def zF (b:Bool):Str:=if b then OF "turns" else OF "line"
def Wy.toD (x:Wy):D:=.tup [.str x.nm,.int x.pc,.int x.rm,c5 x.mr,.str (zF x.tn)]
structure Wy.Ok (x:Wy):Prop where
 n:Xk x.nm=true
 p0:1<=x.pc
 p1:x.pc<=20
 r0:1<=x.rm
 r1:x.rm<=60
 m:∀ i,x.mr=some i->0<=i/\i<=60
mutual
def pl:Nat->D->Bool
 | _,.non=>true
 | _,.int _=>true
 | _,.str x=>Xk x
 | n+1,.tup ds=>decide (ds.length<=999999)&&pls n ds
 | n+1,.ls ds=>decide (ds.length<=999999)&&pls n ds
 | _,_=>false
def pls:Nat->List D->Bool
 | _,[]=>true
 | n,d::r=>pl n d&&pls n r
end
def jF (n:Nat):FSp:=λds μ Q=>match ds with
 | [x,y]=>(x=y/\pl n y=true)/\Q (.bl true) μ
 | _=>False
def gc:Nat->FSp
 | 0=>λ_ _ _=>False
 | n+1=>jF n
theorem Bh:∀ n ds μ Q,gc n ds μ Q->ds.length=2:=by
 intro n ds μ Q h
 cases n with
 | zero=>exact h.elim
 | succ n=>
  have h:jF n ds μ Q:=h
  unfold jF at h
  split at h
  ·rfl
  ·exact h.elim
theorem CY {n:Nat}:∀ {ds:List D} {d:D},pls n ds=true->d∈ds->pl n d=true
 | x::r,d,h,hm=>by
  have h':pl n x=true/\pls n r=true:=by simpa[pls] using h
  rcases Xr.mp hm with rfl | hm
  ·exact h'.1
  ·exact CY h'.2 hm
theorem yT:∀ (ds:List D),Yk (λd e=>D.tup [d,e]) ds ds=ds.map λd=>.tup [d,d]
 | []=>rfl
 | d::r=>by simp[yT r]
def JA (sp_self:FSp):STr:=aA (bL (TB (au (zO ["tuple", "list"]) (af (ah 1) (af (a7 (af (TC (.ty "tuple")) (af (TC (.ty "list")) (ao)))) (ao))))) (aA (bL (TOr (TB (aj rNe (TUn (eX "tuple") (ah 0)) (TUn (eX "tuple") (ah 1)))) (TB (aj rNe (TUn (eX "list") (ah 0)) (TUn (eX "list") (ah 1))))) (aV (TC (.bl false))) (ba)) (aV (iE (aj rEq (au c8 (af (ah 0) (ao))) (au c8 (af (ah 1) (ao)))) (au F0 (af (bK (jk (af (ah 0) (af (ah 1) (ao)))) (dh [0,1]) (dF) (au sp_self (af (ah 0) (af (ah 1) (ao)))) 2 []) (ao)))))) (ba)) (aA (bL (TB (aj rIs (ah 1) (TC .non))) (aV (aj rIs (ah 0) (TC .non))) (ba)) (aA (bL (TB (TUn (eX "str") (ah 1))) (aV (iE (TUn (eX "str") (ah 0)) (aj rEq (ah 0) (ah 1)))) (ba)) (aV (iE (TUn (eX "int") (ah 0)) (iE (qc (TUn (eX "bool") (ah 0))) (aj rEq (ah 0) (ah 1)))))))
theorem C4 {n:Nat}{ds:List D}{μ:Mu}{Q:DK}(hl:ds.length<=999999)(hp:pls n ds=true)(fin:RT Q (.bl true) μ) :
  qx (dh [0,1]) dF (au (gc (n+1)) (af (ah 0) (af (ah 1) ao))) [none,none] (Yk (λd e=>D.tup [d,e]) ds ds) μ λx μ1=>ie F0 [x] μ1 (RT Q):=by
 rw[yT]
 refine comp_map (λ_=>.bl true) (by simpa using hl) (λd hd μ' _ N n=>?_) ?_
 ·obtain ⟨x,hx,rfl⟩:=Xd.mp hd
  walk_at "go"
  exact ⟨⟨rfl,CY hp hx⟩,n⟩
 ·refine ⟨ds.map λ_=>true,by simp,?_⟩
  have:(ds.map λ_=>true).all id=true:=by simp
  rw[this]
  exact fin
theorem EW (n:Nat):∀ ds μ Q,gc (n+1) ds μ Q->JA (gc n) { nx:=λ_ μ'=>RT Q .non μ',rt:=RT Q } (ini 2 ds) μ:=by
 intro ds μ Q h
 have h2:∃ x,ds=[x,x]/\pl n x=true/\Q (.bl true) μ:=by
  have h:jF n ds μ Q:=h
  unfold jF at h
  split at h
  ·obtain ⟨⟨rfl,hp⟩,k⟩:=h;exact ⟨_,rfl,hp,k⟩
  ·exact h.elim
 obtain ⟨x,rfl,hp,k⟩:=h2
 clear h
 walk_at "ini"
 unfold JA
 have fin:RT Q (.bl true) μ:=⟨_,.refl _,k⟩
 cases x with
 | non=>
  walk_at "go"
  refine ⟨by decide,?_⟩
  show kIf false _ _
  walk_at "go"
  exact fin
 | int i=>
  walk_at "go"
  refine ⟨by decide,?_⟩
  show kIf false _ _
  walk_at "go"
  show kIf false _ _
  walk_at "go"
  exact fin
 | str s=>
  walk_at "go"
  refine ⟨by decide,?_⟩
  show kIf false _ _
  walk_at "go"
  have hs:Xk s=true:=by cases n<;>simpa[pl] using hp
  show Xk s=true/\RT Q (.bl true) μ
  exact ⟨hs,fin⟩
 | tup ds=>
  cases n with
  | zero=>simp[pl] at hp
  | succ n=>
  simp only[pl,XX,decide_eq_true_eq] at hp
  walk_at "go"
  refine ⟨by decide,?_⟩
  show kIf true _ _
  walk_at "go"
  show kIf false _ (kIf false _ _)
  walk_at "go"
  exact C4 hp.1 hp.2 fin
 | ls ds=>
  cases n with
  | zero=>simp[pl] at hp
  | succ n=>
  simp only[pl,XX,decide_eq_true_eq] at hp
  walk_at "go"
  refine ⟨by decide,?_⟩
  show kIf true _ _
  walk_at "go"
  show kIf false _ (kIf false _ _)
  walk_at "go"
  exact C4 hp.1 hp.2 fin
 | _=>cases n<;>simp[pl] at hp
abbrev pz:FSp:=gc 6
theorem Dv {x y:D}{μ:Mu}{Q:DK}(e:x=y)(h:pl 5 y=true)(k:Q (.bl true) μ):ie pz [x,y] μ Q:=⟨⟨e,h⟩,k⟩
def lD (w:Wy)(x:Lt)(n:Nat):Lt:=match w.mr with
 | none=>x
 | some i=>if (n:Int) < i then x else { x with mr:=1 }
def bV (w:Wy)(p:List Lt×List Lt)(y:Lt):List Lt×List Lt:=if w.rm<=(p.1.length:Int) then (p.1,p.2++[y]) else (p.1++[lD w y p.1.length],p.2)
def tk (w:Wy)(xs ys:List Lt):List Lt×List Lt:=ys.foldl (bV w) (xs,[])
theorem QN (a b c d e:D):cutD [a,b,c,d,e] none (some 4)=[a,b,c,d]:=rfl
def ff:FSp:=λds μ Q=>kcA ds λwd ds=>kcA ds λld ds=>kcI ds λn ds=>kcN ds (∃ (w:Wy) (x:Lt) (m:Nat),(wd=w.toD/\ld=x.toD/\n=m)/\Q (lD w x m).toD μ)
theorem sO:∀ ds μ Q,ff ds μ Q->ds.length=3:=λ_ _ _ h=>lcA h λ_ _ h=>lcA h λ_ _ h=>lcI h λ_ _ h=>by rw[(ecN h).1];rfl
def ml:STr:=aA (bL (TOr (TB (aj rIs (aj L3.rIx (ah 0) (TC (.int 3))) (TC .non))) (TB (aj rLt (ah 2) (aj L3.rIx (ah 0) (TC (.int 3)))))) (aV (ah 1)) (ba)) (aV (aj aQ (TSl (ah 1) (ONo) (gj (TC (.int 4)))) (a7 (af (TC (.int 1)) (ao)))))
theorem tL:∀ ds μ Q,ff ds μ Q->ml { nx:=λ_ μ'=>RT Q .non μ',rt:=RT Q } (ini 3 ds) μ:=by
 intro ds μ Q h
 replace h:=ecA h
 obtain ⟨wd,ds,rfl,h⟩:=h
 replace h:=ecA h
 obtain ⟨ld,ds,rfl,h⟩:=h
 replace h:=ecI h
 obtain ⟨n,ds,rfl,h⟩:=h
 replace h:=ecN h
 obtain ⟨rfl,h⟩:=h
 walk_at "ini"
 unfold ml
 walk_at "go"
 obtain ⟨w,x,m,⟨rfl,rfl,rfl⟩,k⟩:=h
 simp only[Wy.toD]
 walk_at "go"
 unfold lD at k
 cases hm:w.mr with
 | none=>
  rw[hm] at k
  simp only[c5]
  walk_at "go"
  exact ⟨_,.refl _,k⟩
 | some i=>
  rw[hm] at k
  simp only[c5]
  walk_at "go"
  refine kif (λh1=>⟨_,.refl _,?_⟩) λh1=>?_
  ·simp only[if_pos h1] at k;exact k
  ·simp only[if_neg h1] at k
   simp only[Lt.toD]
   walk_at "go"
   rw[QN]
   walk_at "go"
   exact ⟨by show 5<=1000000;decide,_,.refl _,k⟩
def gK:FSp:=λds μ Q=>kcA ds λwd ds=>kcT ds λst ds=>kcT ds λle ds=>kcN ds (∃ (w:Wy) (xs ys:List Lt),(wd=w.toD/\st=ltD xs/\le=ltD ys/\xs.length+ys.length<=900000)/\Q (.tup [.tup (ltD (tk w xs ys).1),.tup (ltD (tk w xs ys).2)]) μ)
theorem vL:∀ ds μ Q,gK ds μ Q->ds.length=3:=λ_ _ _ h=>lcA h λ_ _ h=>lcT h λ_ _ h=>lcT h λ_ _ h=>by rw[(ecN h).1];rfl
def ql:STr:=aA (aO (au ju (af (ah 1) (ao))) (ay 3)) (aA (aO (kr (ao)) (ay 4)) (aA (eG (cN (ah 2)) (ay 5) (bL (TB (aj rGe (au c8 (af (ah 3) (ao))) (aj L3.rIx (ah 0) (TC (.int 2))))) (eU (kx (ah 4) (ah 5))) (eU (kx (ah 3) (au ff (af (ah 0) (af (ah 5) (af (au c8 (af (ah 3) (ao))) (ao))))))))) (aV (a7 (af (au bw (af (ah 3) (ao))) (af (au bw (af (ah 4) (ao))) (ao)))))))
theorem xI:∀ ds μ Q,gK ds μ Q->ql { nx:=λ_ μ'=>RT Q .non μ',rt:=RT Q } (ini 6 ds) μ:=by
 intro ds μ Q h
 replace h:=ecA h
 obtain ⟨wd,ds,rfl,h⟩:=h
 replace h:=ecT h
 obtain ⟨st,ds,rfl,h⟩:=h
 replace h:=ecT h
 obtain ⟨le,ds,rfl,h⟩:=h
 replace h:=ecN h
 obtain ⟨rfl,h⟩:=h
 walk_at "ini"
 unfold ql
 walk_at "go"
 obtain ⟨w,xs,ys,⟨rfl,rfl,rfl,hl⟩,k⟩:=h
 intro p hp
 walk_at "go"
 intro q hq
 have qp:q≠p:=λz=>by subst z;rw[aI] at hq;cases hq
 have hqn:μ q=none:=by rw[aU qp] at hq;exact hq
 refine bu (λr ρ μ'=>∃ (a b:List Lt) (rs:List Lt) (v5:Option D),r=ltD rs/\ρ=[some w.toD,some (.tup (ltD xs)),some (.tup (ltD ys)),some (.obj p),some (.obj q),v5]/\μ' p=some (.lst (ltD a))/\μ' q=some (.lst (ltD b))/\Sub μ μ'/\rs.foldl (bV w) (a,b)=tk w xs ys/\a.length+b.length+rs.length<=900000) ?_ ?_ _ _ _ ⟨xs,[],ys,_,rfl,rfl,by rw[aU (XQ qp),aI],aI,(Sub.new hp).trans (Sub.new hq),rfl,by simpa using hl⟩
 ·rintro ρ μ' ⟨a,b,rs,v5,er,rfl,ep,eq,s,e,_⟩
  have:rs=[]:=by cases rs with | nil=>rfl | cons=>cases er
  subst this
  have e:(a,b)=tk w xs ys:=e
  rw[← e] at k
  walk_at "go"
  refine bo ep ?_
  walk_at "go"
  refine bo eq ?_
  exact ⟨_,s,k⟩
 ·rintro d r ρ μ' N ⟨a,b,rs,v5,er,rfl,ep,eq,s,e,hz⟩ hN
  cases rs with
  | nil=>cases er
  | cons y rs=>
  cases er
  rw[XI] at hz
  rw[YN] at e
  unfold bV at e
  simp only[Wy.toD]
  walk_at "go"
  refine bo ep ?_
  walk_at "go"
  rw[W9]
  refine kif (λh1=>?_) λh1=>?_
  ·rw[if_pos h1] at e
   walk_at "go"
   refine bo eq ?_
   walk_at "go"
   refine bo eq ⟨by simp;omega,hN _ _ ⟨a,b++[y],rs,_,rfl,rfl,by rw[aU (XQ qp)];exact ep,by rw[aI];simp[ltD],λz o h=>?_,e,by simp;omega⟩⟩
   rw[aU (λe=>by subst e;rw[hqn] at h;cases h)];exact s z o h
  ·rw[if_neg h1] at e
   walk_at "go"
   refine bo ep ?_
   walk_at "go"
   refine bo ep ?_
   rw[W9]
   refine ⟨w,y,a.length,⟨rfl,rfl,rfl⟩,?_⟩
   walk_at "go"
   refine bo ep ⟨by simp;omega,hN _ _ ⟨a++[lD w y a.length],b,rs,_,rfl,rfl,by rw[aI];simp[ltD],by rw[aU qp];exact eq,λz o h=>?_,e,by simp;omega⟩⟩
   rw[aU (λe=>by subst e;rw[hp] at h;cases h)];exact s z o h
theorem Wl (w:Wy)(μ:Mu)(Q:DK):L3.rIx w.toD (.int 0) μ Q=Q (.str w.nm) μ:=propext Xc
theorem Wu (w:Wy)(μ:Mu)(Q:DK):L3.rIx w.toD (.int 1) μ Q=Q (.int w.pc) μ:=propext Xc
theorem We (w:Wy)(μ:Mu)(Q:DK):L3.rIx w.toD (.int 4) μ Q=Q (.str (zF w.tn)) μ:=propext Xc
theorem lt_0 (x:Lt)(μ:Mu)(Q:DK):L3.rIx x.toD (.int 0) μ Q=Q (.str x.nm) μ:=propext Xc
theorem Wc (x:Lt)(μ:Mu)(Q:DK):L3.rIx x.toD (.int 1) μ Q=Q (.int x.nu) μ:=propext Xc
theorem Wi (x:Lt)(μ:Mu)(Q:DK):L3.rIx x.toD (.int 2) μ Q=Q (.int x.ag) μ:=propext Xc
theorem VH (x:Lt)(μ:Mu)(Q:DK):L3.rIx x.toD (.int 3) μ Q=Q (.int x.hp) μ:=propext Xc
theorem VL (x:Lt)(μ:Mu)(Q:DK):L3.rIx x.toD (.int 4) μ Q=Q (.int x.mr) μ:=propext Xc
theorem Wz (xs:List D){k:Int}(k0:0<=k):cutD xs none (some k)=xs.take k.toNat:=by
 have:=Dy xs k.toNat
 rwa [YM k0] at this
theorem WM (xs:List D){k:Int}(k0:0<=k):cutD xs (some k) none=xs.drop k.toNat:=by
 have:=uk xs k.toNat
 rwa [YM k0] at this
theorem N7 (ls:List Lt)(n:Nat):(ltD ls).take n=ltD (ls.take n):=by simp[ltD,zbM]
theorem Lb (ls:List Lt)(n:Nat):(ltD ls).drop n=ltD (ls.drop n):=by simp[ltD,zbN]
theorem l5 {w:Wy}{a b:List Lt}{y:Lt}(h:w.rm<=(a.length:Int)):bV w (a,b) y=(a,b++[y]):=by unfold bV;rw[if_pos h]
theorem yC {w:Wy}{a b:List Lt}{y:Lt}(h:¬ w.rm<=(a.length:Int)):bV w (a,b) y=(a++[lD w y a.length],b):=by unfold bV;rw[if_neg h]
theorem wK:c5 none=.non:=rfl
theorem vC (i:Int):c5 (some i)=.int i:=rfl
theorem AA (w:Wy):∀ (ys:List Lt) (a b:List Lt),(ys.foldl (bV w) (a,b)).1.length+(ys.foldl (bV w) (a,b)).2.length=a.length+b.length+ys.length
 | [],a,b=>by simp
 | y::ys,a,b=>by
  rw[YN]
  by_cases h:w.rm<=(a.length:Int)
  ·rw[l5 h,AA w ys];simp;omega
  ·rw[yC h,AA w ys];simp;omega
theorem DP (w:Wy)(y:Lt)(n:Nat):(lD w y n).nm=y.nm:=by
 unfold lD
 split
 ·rfl
 ·split<;>rfl
theorem GF (w:Wy)(P:Str->Prop):∀ (ys:List Lt) (a b:List Lt),(∀ x∈a,P x.nm)->(∀ x∈b,P x.nm)->(∀ x∈ys,P x.nm)->(∀ x∈(ys.foldl (bV w) (a,b)).1,P x.nm)/\∀ x∈(ys.foldl (bV w) (a,b)).2,P x.nm
 | [],a,b,h1,h2,_=>⟨h1,h2⟩
 | y::ys,a,b,h1,h2,h3=>by
  rw[YN]
  have hy:=h3 y Xl
  have hr:∀ x∈ys,P x.nm:=λx hx=>h3 x (Xo _ hx)
  by_cases h:w.rm<=(a.length:Int)
  ·rw[l5 h]
   refine GF w P ys _ _ h1 (λx hx=>?_) hr
   rcases X0.mp hx with z | z
   ·exact h2 x z
   ·have:x=y:=by simpa using z
    subst this;exact hy
  ·rw[yC h]
   refine GF w P ys _ _ (λx hx=>?_) h2 hr
   rcases X0.mp hx with z | z
   ·exact h1 x z
   ·have:x=lD w y a.length:=by simpa using z
    subst this;rw[DP];exact hy
def Ux:=Jn @Wl <| Jn @Wu <| Jn @We <| Jn @lt_0 <| Jn @Wc <| Jn @Wi <| Jn @VH <| Jn @VL <| @UZ
local macro_rules | `(tactic| walk_at "go")=>zzS "↓L3.Ux L3.EK ↓L3.yt ↓L3.xc ↓L3.zD ↓L3.ym ↓L3.zQ ↓L3.xE ↓L3.ke ↓L3.iP L3.cq L3.bY L3.cw L3.cy L3.cv L3.cz L3.cW L3.cR L3.bZ L3.cp L3.cA L3.cB L3.cu L3.cT L3.cE L3.cV L3.ck L3.cQ L3.cC L3.cU L3.iS L3.wK L3.vC L3.eZ List.map_cons List.map_nil List.replicate List.cons_append List.nil_append L3.lk L3.CH L3.Cm L3.Fx L3.Eh L3.fj L3.qf L3.nC L3.uf L3.uu L3.mT L3.mK L3.kc L3.kg L3.kb L3.ka true_and and_true and_self Bool.not_true Bool.not_false decide_true decide_false Bool.or_true Bool.or_false Bool.true_or Bool.false_or Bool.and_false Bool.false_and Bool.and_true Bool.true_and Int.reduceToNat Int.reducePow Int.reduceNeg Int.reduceSub Int.reduceAdd Int.reduceMul Int.reduceEq Int.reduceLT Int.reduceLE Int.reduceBEq L3.iA L3.fN L3.f6 L3.fI L3.fH L3.fO L3.fP L3.fX if_true if_false Bool.false_eq_true reduceCtorEq decide_eq_true_eq"
def oh (ws os:List Str)(l:Str):Option Str:=match (ws.filter λw=>decide (w∈os)).filter λw=>ltS l w with
 | x::_=>some x
 | []=>(ws.filter λw=>decide (w∈os)).head?
theorem xN {ws os:List Str}{l n:Str}(h:oh ws os l=some n):n∈ws/\n∈os:=by
 unfold oh at h
 have hm:n∈ws.filter λw=>decide (w∈os):=by
  split at h
  ·rename_i x r e
   cases h
   have:n∈(ws.filter λw=>decide (w∈os)).filter λw=>ltS l w:=by rw[e];exact Xl
   exact (Ys.mp this).1
  ·exact List.mem_of_head? h
 have:=Ys.mp hm
 exact ⟨this.1,by simpa using this.2⟩
theorem BK {ws os:List Str}{l w:Str}(h1:w∈ws)(h2:w∈os):∃ n,oh ws os l=some n:=by
 have hm:w∈ws.filter λw=>decide (w∈os):=Ys.mpr ⟨h1,by simpa using h2⟩
 unfold oh
 split
 ·exact ⟨_,rfl⟩
 ·cases e:(ws.filter λw=>decide (w∈os)) with
  | nil=>rw[e] at hm;cases hm
  | cons x r=>exact ⟨x,rfl⟩
theorem NZ (w:Str)(os:List Str):inG (.str w) (os.map .str)=decide (w∈os):=by
 unfold inG
 rw[List.any_map]
 induction os with
 | nil=>simp
 | cons o r ih=>
  rw[Zl,ih]
  simp only[Function.comp_apply,nC]
  by_cases h:o=w
  ·simp[h]
  ·simp[h,XQ h,eq_comm]
theorem DC {n:Nat}{os:List Str}(h:∀ o∈os,Xk o=true):c6 n (os.map .str)=true:=by
 induction os with
 | nil=>rfl
 | cons o r ih=>
  rw[Xh,fj,Cm,h o Xl,ih λx hx=>h x (Xo _ hx)];rfl
theorem zG (os:List Str)(p:Str->Bool):(os.map D.str).filterMap (λd=>match d with
  | .str w=>if p w then some (D.str w) else none
  | _=>none)=(os.filter p).map D.str:=by
 induction os with
 | nil=>rfl
 | cons o r ih=>
  rw[Xh,YL,Zt]
  dsimp only
  cases p o with
  | true=>simp[ih]
  | false=>simp[ih]
def fJ:FSp:=λds μ Q=>kcA ds λd ds=>kcL ds λos' ds=>kcS ds λl ds=>kcN ds (∃ (ws os:List Str) (n:Str),((d=.tup (ws.map .str)∨d=.ls (ws.map .str))/\os'=os.map .str/\(∀ w∈ws,Xk w=true)/\(∀ w∈os,Xk w=true)/\ws.length<=900000/\oh ws os l=some n)/\Q (.str n) μ)
theorem t8:∀ ds μ Q,fJ ds μ Q->ds.length=3:=λ_ _ _ h=>lcA h λ_ _ h=>lcL h λ_ _ h=>lcS h λ_ _ h=>by rw[(ecN h).1];rfl
def nO:STr:=aA (aO (bK (cN (ah 0)) (ay 0) (TB (aj (CB false) (ah 0) (ah 1))) (ah 0) 1 [1]) (ay 3)) (aA (aO (bK (cN (ah 3)) (ay 0) (TB (aj PN (ah 0) (ah 1))) (ah 0) 1 [2]) (ay 4)) (aV (ly (TB (aj rGt (au c8 (af (ah 4) (ao))) (TC (.int 0)))) (aj L3.rIx (ah 4) (TC (.int 0))) (aj L3.rIx (ah 3) (TC (.int 0))))))
theorem vQ:∀ ds μ Q,fJ ds μ Q->nO { nx:=λ_ μ'=>RT Q .non μ',rt:=RT Q } (ini 5 ds) μ:=by
 intro ds μ Q h
 replace h:=ecA h
 obtain ⟨d,ds,rfl,h⟩:=h
 replace h:=ecL h
 obtain ⟨os',ds,rfl,h⟩:=h
 replace h:=ecS h
 obtain ⟨l,ds,rfl,h⟩:=h
 replace h:=ecN h
 obtain ⟨rfl,h⟩:=h
 walk_at "ini"
 unfold nO
 walk_at "go"
 obtain ⟨ws,os,n,⟨hd,rfl,h1,h2,hl,hn⟩,k⟩:=h
 have go:∀ d,d=.tup (ws.map .str)∨d=.ls (ws.map .str)->∀ f:List D->Prop,f (ws.map .str)->kS d f:=λd h f hf=>by rcases h with rfl | rfl<;>exact hf
 refine go d hd _ ?_
 refine vU (λd=>match d with
  | .str w=>if decide (w∈os) then some (.str w) else none
  | _=>none) (by rw[W9];omega) (λd hd μ' _ N n=>?_) ?_
 ·obtain ⟨w,hw,rfl⟩:=Xd.mp hd
  walk_at "go"
  rw[DC h2,NZ]
  have:=h1 w hw
  simp only[this,true_and]
  dsimp only at n
  refine kif (λh=>?_) λh=>?_
  ·rw[decide_eq_true h] at n;exact n
  ·rw[decide_eq_false h] at n;exact n
 ·rw[zG ws λw=>decide (w∈os)]
  generalize hth:(ws.filter λw=>decide (w∈os))=th at *
  have lth:th.length<=900000:=by rw[← hth];exact XZ (Za _ _) hl
  walk_at "go"
  refine vU (λd=>match d with
   | .str w=>if ltS l w then some (.str w) else none
   | _=>none) (by rw[W9];omega) (λd hd μ' _ N n=>?_) ?_
  ·obtain ⟨w,hw,rfl⟩:=Xd.mp hd
   walk_at "go"
   dsimp only at n
   refine Vm (λh=>?_) λh=>?_
   ·rw[h] at n;exact n
   ·rw[h] at n;exact n
  ·rw[zG th λw=>ltS l w]
   unfold oh at hn
   rw[hth] at hn
   walk_at "go"
   cases e:th.filter λw=>ltS l w with
   | nil=>
    rw[e] at hn
    have hn:th.head? = some n:=hn
    cases th with
    | nil=>cases hn
    | cons x r=>
    cases hn
    walk_at "go"
    show kIf false _ _
    walk_at "go"
    exact ⟨_,.refl _,k⟩
   | cons x r=>
    rw[e] at hn
    have hn:some x=some n:=hn
    cases hn
    walk_at "go"
    refine nS (by simp) ?_
    exact ⟨_,.refl _,k⟩
def at1 (n:Str)(st:List Lt):Nat:=st.findIdx λx=>decide (x.nm=n)
def de (ws:List Str)(p:Int):Nat->List Lt->List Lt->Str->List Lt×List Lt×Str
 | 0,st,out,l=>(out,st,l)
 | f+1,st,out,l=>if 0 < st.length/\(out.length:Int) < p then (match oh ws (st.map Lt.nm) l with
   | some n=>(match st[at1 n st]? with
    | some x=>de ws p f (st.eraseIdx (at1 n st)) (out++[x]) n
    | none=>(out,st,l))
   | none=>(out,st,l)) else (out,st,l)
theorem Jd {n:Str}{st:List Lt}(h:n∈st.map Lt.nm):at1 n st < st.length:=by
 obtain ⟨x,hx,rfl⟩:=Xd.mp h
 exact List.findIdx_lt_length_of_exists ⟨x,hx,by simp⟩
theorem ue {α β:Type}(f:α->β):∀ (l:List α) (i:Nat),(l.map f).eraseIdx i=(l.eraseIdx i).map f
 | [],_=>by simp
 | _::_,0=>rfl
 | a::l,i+1=>by simp[ue f l i]
theorem Ry {n:Str}{st:List Lt}(h:n∈st.map Lt.nm):Ek ((st.map Lt.nm).map .str) (.str n)=some (at1 n st):=by
 unfold Ek
 have hl:=Jd h
 rw[zas]
 have e1:∀ m (hm:m < ((st.map Lt.nm).map D.str).length),eqD ((st.map Lt.nm).map D.str)[m] (.str n)=decide ((st[m]'(by simpa using hm)).nm=n):=by
  intro m hm
  simp[nC]
 refine ⟨by simpa using hl,?_,λj hj=>?_⟩
 ·rw[e1]
  have hl':(st.findIdx λx=>decide (x.nm=n)) < st.length:=hl
  have:=zcT (xs:=st) (p:=λx=>decide (x.nm=n)) (w:=hl')
  exact this
 ·rw[e1]
  have:=List.not_of_lt_findIdx (xs:=st) (p:=λx=>decide (x.nm=n)) hj
  simpa using this
theorem Cb {ws:List Str}{p:Int}{f:Nat}{st out:List Lt}{l:Str}(h:¬ (0 < st.length/\(out.length:Int) < p)):de ws p f st out l=(out,st,l):=by
 cases f with
 | zero=>rfl
 | succ f=>unfold de;rw[if_neg h]
theorem HN {ws:List Str}{p:Int}{f:Nat}{st out:List Lt}{l n:Str}{x:Lt}(h:0 < st.length/\(out.length:Int) < p)(hn:oh ws (st.map Lt.nm) l=some n)(hx:st[at1 n st]? = some x) :
  de ws p (f+1) st out l=de ws p f (st.eraseIdx (at1 n st)) (out++[x]) n:=by
 conv=>lhs;unfold de
 rw[if_pos h,hn]
 dsimp only
 rw[hx]
theorem Ng {n k:Nat}(h:k < n):L2.ixN n (k:Int)=some k:=by rw[Mv,if_pos h]
def mW (ws:List Str)(st:List Lt):Prop:=∀ x∈st,x.nm∈ws
def eg:FSp:=λds μ Q=>kcA ds λwd ds=>kcA ds λd ds=>kcT ds λst' ds=>kcS ds λl ds=>kcN ds (∃ (w:Wy) (ws:List Str) (st:List Lt),(wd=w.toD/\(d=.tup (ws.map .str)∨d=.ls (ws.map .str))/\st'=ltD st/\(∀ x∈ws,Xk x=true)/\mW ws st/\ws.length<=900000/\st.length<=900000)/\
   Q (.tup [.tup (ltD (de ws w.pc st.length st [] l).1),.tup (ltD (de ws w.pc st.length st [] l).2.1),.str (de ws w.pc st.length st [] l).2.2]) μ)
theorem ny:∀ ds μ Q,eg ds μ Q->ds.length=4:=λ_ _ _ h=>lcA h λ_ _ h=>lcA h λ_ _ h=>lcT h λ_ _ h=>lcS h λ_ _ h=>by rw[(ecN h).1];rfl
def jY:STr:=aA (aO (au ju (af (ah 2) (ao))) (ay 4)) (aA (aO (kr (ao)) (ay 5)) (aA (aO (ah 3) (ay 6)) (aA (vm (sQ (TB (aj rGt (au c8 (af (ah 4) (ao))) (TC (.int 0)))) (TB (aj rLt (au c8 (af (ah 5) (ao))) (aj L3.rIx (ah 0) (TC (.int 1)))))) (aA (aO (jV (ah 4) (ay 0) (dF) (aj L3.rIx (ah 0) (TC (.int 0))) 1 []) (ay 7)) (aA (aO (au fJ (af (ah 1) (af (ah 7) (af (ah 6) (ao))))) (ay 6)) (eU (kx (ah 5) (Sf (ah 4) (B4 (ah 7) (ah 6)))))))) (aV (a7 (af (au bw (af (ah 5) (ao))) (af (au bw (af (ah 4) (ao))) (af (ah 6) (ao)))))))))
theorem oR:∀ ds μ Q,eg ds μ Q->jY { nx:=λ_ μ'=>RT Q .non μ',rt:=RT Q } (ini 8 ds) μ:=by
 intro ds μ Q h
 replace h:=ecA h
 obtain ⟨wd,ds,rfl,h⟩:=h
 replace h:=ecA h
 obtain ⟨d,ds,rfl,h⟩:=h
 replace h:=ecT h
 obtain ⟨st',ds,rfl,h⟩:=h
 replace h:=ecS h
 obtain ⟨l,ds,rfl,h⟩:=h
 replace h:=ecN h
 obtain ⟨rfl,h⟩:=h
 walk_at "ini"
 unfold jY
 walk_at "go"
 obtain ⟨w,ws,st,⟨rfl,hd,rfl,hw,hs,hl1,hl2⟩,k⟩:=h
 intro p hp
 walk_at "go"
 intro q hq
 have qp:q≠p:=λz=>by subst z;rw[aI] at hq;cases hq
 have hqn:μ q=none:=by rw[aU qp] at hq;exact hq
 walk_at "go"
 refine ⟨λρ μ'=>∃ (a o:List Lt) (n:Str) (v7:Option D) (f:Nat),ρ=[some w.toD,some d,some (.tup (ltD st)),some (.str l),some (.obj p),some (.obj q),some (.str n),v7]/\μ' p=some (.lst (ltD a))/\μ' q=some (.lst (ltD o))/\Sub μ μ'/\de ws w.pc f a o n=de ws w.pc st.length st [] l/\a.length<=f/\a.length+o.length<=900000/\mW ws a,
  λ_ μ'=>match μ' p with
   | some (.lst ds)=>ds.length
   | _=>0,⟨st,[],l,_,st.length,rfl,by rw[aU (XQ qp),aI],aI,(Sub.new hp).trans (Sub.new hq),rfl,Xs _,by simpa using hl2,hs⟩,?_⟩
 rintro ρ μ' ⟨a,o,n,v7,f,rfl,ep,eq,sb,e,hf,hz,ha⟩
 have fin:¬ (0 < a.length/\(o.length:Int) < w.pc)->RT Q (.tup [.tup (ltD o),.tup (ltD a),.str n]) μ':=λhn=>by
  rw[Cb hn] at e
  rw[← e] at k
  exact ⟨_,sb,k⟩
 walk_at "go"
 refine bo ep ?_
 walk_at "go"
 rw[W9]
 refine kif (λh1=>?_) λh1=>?_
 rotate_left
 ·refine bo eq ?_
  walk_at "go"
  refine bo ep ?_
  walk_at "go"
  exact fin λh=>h1 (by have:=h.1;omega)
 walk_at "go"
 refine bo eq ?_
 walk_at "go"
 rw[W9]
 refine kif (λh2=>?_) λh2=>?_
 rotate_left
 ·refine bo eq ?_
  walk_at "go"
  refine bo ep ?_
  walk_at "go"
  exact fin λh=>h2 h.2
 walk_at "go"
 refine bo ep ?_
 refine Ex ep (λd=>match d with
  | .tup (x::_)=>x
  | _=>.non) (by rw[W9];omega) (λd hd μ2 _ N n=>?_) ?_
 ·obtain ⟨x,hx,rfl⟩:=Xd.mp hd
  walk_at "go"
  exact n
 have em:(ltD a).map (λd=>match d with
  | .tup (x::_)=>x
  | _=>D.non)=(a.map Lt.nm).map .str:=by rw[Xg,Xg];rfl
 rw[em]
 walk_at "go"
 cases a with
 | nil=>simp at h1
 | cons x0 a0=>
 have h0:=ha x0 Xl
 obtain ⟨n2,hn2⟩:=BK (l:=n) h0 (show x0.nm∈(x0::a0).map Lt.nm from Xl)
 generalize hA:x0::a0=A at *
 have hos:∀ z∈A.map Lt.nm,Xk z=true:=λz hz=>by
  obtain ⟨y,hy,rfl⟩:=Xd.mp hz
  exact hw _ (ha y hy)
 refine ⟨ws,A.map Lt.nm,n2,⟨hd,rfl,hw,hos,hl1,hn2⟩,?_⟩
 walk_at "go"
 have hin:=xN hn2
 have hi:=Jd hin.2
 refine bo eq ?_
 walk_at "go"
 refine bo ep ?_
 walk_at "go"
 rw[DC hos,hw _ hin.1,Ry hin.2]
 simp only[true_and]
 walk_at "go"
 refine ⟨by omega,⟨by omega,by omega⟩,bo ep ?_⟩
 rw[W9,Ng hi]
 walk_at "go"
 obtain ⟨x,hx⟩:∃ x,A[at1 n2 A]? = some x:=⟨A[at1 n2 A],Xt hi⟩
 rw[Yp,hx]
 walk_at "go"
 refine bo (by rw[aU qp];exact eq) ⟨by simp;omega,?_⟩
 cases f with
 | zero=>omega
 | succ f=>
 rw[HN ⟨by omega,h2⟩ hn2 hx] at e
 have le:(A.eraseIdx (at1 n2 A)).length=A.length - 1:=List.length_eraseIdx_of_lt hi
 refine ⟨⟨A.eraseIdx (at1 n2 A),o++[x],n2,_,f,rfl,?_,?_,?_,e,by omega,by simp;omega,λy hy=>ha y (List.mem_of_mem_eraseIdx hy)⟩,?_⟩
 ·rw[aU (XQ qp),aI,ue]
 ·rw[aI];simp[ltD]
 ·intro z u h
  rw[aU (λe=>by subst e;rw[hqn] at h;cases h),aU (λe=>by subst e;rw[hp] at h;cases h)]
  exact sb z u h
 ·rw[aU (XQ qp),aI,ep]
  simp[List.length_eraseIdx,hi]
  omega
def cx (w:Wy)(ws:List Str)(st:List Lt)(l:Str):List Lt×List Lt×Str:=if w.tn then de ws w.pc st.length st [] l else (st.take w.pc.toNat,st.drop w.pc.toNat,OF "")
theorem Lc (b:Bool):Xk (zF b)=true:=by cases b<;>decide +kernel
theorem J9:Xk (OF "turns")=true:=by decide +kernel
theorem Rw (b:Bool):decide (zF b=OF "turns")=b:=by cases b<;>decide +kernel
def i4:FSp:=λds μ Q=>kcA ds λwd ds=>kcA ds λd ds=>kcT ds λst' ds=>kcS ds λl ds=>kcN ds (∃ (w:Wy) (ws:List Str) (st:List Lt),(wd=w.toD/\(w.tn=true->(d=.tup (ws.map .str)∨d=.ls (ws.map .str))/\(∀ x∈ws,Xk x=true)/\mW ws st/\ws.length<=900000)/\st'=ltD st/\st.length<=900000/\0<=w.pc)/\
   Q (.tup [.tup (ltD (cx w ws st l).1),.tup (ltD (cx w ws st l).2.1),.str (cx w ws st l).2.2]) μ)
theorem xA:∀ ds μ Q,i4 ds μ Q->ds.length=4:=λ_ _ _ h=>lcA h λ_ _ h=>lcA h λ_ _ h=>lcT h λ_ _ h=>lcS h λ_ _ h=>by rw[(ecN h).1];rfl
def uv:STr:=aA (bL (TB (aj rEq (aj L3.rIx (ah 0) (TC (.int 4))) (TC (.str "turns")))) (aV (au eg (af (ah 0) (af (ah 1) (af (ah 2) (af (ah 3) (ao))))))) (ba)) (aV (a7 (af (au bw (af (TSl (ah 2) (ONo) (gj (aj L3.rIx (ah 0) (TC (.int 1))))) (ao))) (af (au bw (af (TSl (ah 2) (gj (aj L3.rIx (ah 0) (TC (.int 1)))) (ONo)) (ao))) (af (TC (.str "")) (ao))))))
theorem By:∀ ds μ Q,i4 ds μ Q->uv { nx:=λ_ μ'=>RT Q .non μ',rt:=RT Q } (ini 4 ds) μ:=by
 intro ds μ Q h
 replace h:=ecA h
 obtain ⟨wd,ds,rfl,h⟩:=h
 replace h:=ecA h
 obtain ⟨d,ds,rfl,h⟩:=h
 replace h:=ecT h
 obtain ⟨st',ds,rfl,h⟩:=h
 replace h:=ecS h
 obtain ⟨l,ds,rfl,h⟩:=h
 replace h:=ecN h
 obtain ⟨rfl,h⟩:=h
 walk_at "ini"
 unfold uv
 walk_at "go"
 obtain ⟨w,ws,st,⟨rfl,ht,rfl,hl,hp⟩,k⟩:=h
 walk_at "go"
 rw[Lc,J9,Rw]
 unfold cx at k
 refine ⟨⟨rfl,rfl⟩,?_⟩
 cases e:w.tn with
 | true=>
  rw[e,if_pos rfl] at k
  obtain ⟨h1,h2,h3,h4⟩:=ht e
  walk_at "go"
  exact ⟨w,ws,st,⟨rfl,h1,rfl,h2,h3,h4,hl⟩,_,.refl _,k⟩
 | false=>
  rw[e,if_neg (by decide)] at k
  walk_at "go"
  rw[Wz _ hp,WM _ hp,N7,Lb]
  exact ⟨_,.refl _,k⟩
def b9:FSp:=λds μ Q=>kcI ds λa ds=>kcI ds λb ds=>kcN ds ((0<=a/\0 < b/\gw b)/\Q (fr (a.fdiv (XM a b)) (b.fdiv (XM a b))) μ)
theorem BJ:∀ ds μ Q,b9 ds μ Q->ds.length=2:=λ_ _ _ h=>lcI h λ_ _ h=>lcI h λ_ _ h=>by rw[(ecN h).1];rfl
def xG:STr:=aA (ri 2 3 (af (ah 0) (af (ah 1) (ao)))) (aA (vm (TB (aj rGt (ah 3) (TC (.int 0)))) (ri 2 3 (af (ah 3) (af (aj lX (ah 2) (ah 3)) (ao))))) (aV (a7 (af (aj ni (ah 0) (ah 2)) (af (aj ni (ah 1) (ah 2)) (ao))))))
theorem D8:∀ ds μ Q,b9 ds μ Q->xG { nx:=λ_ μ'=>RT Q .non μ',rt:=RT Q } (ini 4 ds) μ:=by
 intro ds μ Q h
 replace h:=ecI h
 obtain ⟨a,ds,rfl,h⟩:=h
 replace h:=ecI h
 obtain ⟨b,ds,rfl,h⟩:=h
 replace h:=ecN h
 obtain ⟨rfl,h⟩:=h
 walk_at "ini"
 unfold xG
 walk_at "go"
 obtain ⟨⟨a0,b0,b1⟩,k⟩:=h
 refine ⟨λρ μ'=>μ'=μ/\∃ x y:Int,ρ=[some (.int a),some (.int b),some (.int x),some (.int y)]/\0<=x/\0<=y/\XM x y=XM a b,mz 3,⟨rfl,a,b,rfl,a0,by omega,rfl⟩,?_⟩
 rintro ρ _ ⟨rfl,x,y,rfl,x0,y0,e⟩
 walk_at "go"
 refine kif (λhy=>?_) λhy=>?_
 ·walk_at "go"
  refine ⟨by omega,⟨_,_,rfl,y0,fm0 hy,?_⟩,?_⟩
  ·rw[y6];exact e
  ·have:=fm1 (a:=x) hy
   have:=fm0 (a:=x) hy
   simp only[mz,lk]
   omega
 ·have hy0:y=0:=by omega
  subst hy0
  rw[zdu] at e
  have hx:x=(XM a b:Int):=by omega
  subst hx
  have gp:0 < XM a b:=YZ a (by omega)
  have gl:(XM a b:Int)<=b:=Int.gcd_le_right a b0
  have dv:jO (XM a b:Int):=⟨by omega,by unfold gw at *;omega⟩
  walk_at "go"
  exact ⟨dv,dv,_,.refl _,k⟩
def cS:FSp:=λds μ Q=>kcO ds λb ds=>kcI ds λlo ds=>kcI ds λhi ds=>kcN ds ((Pot μ b/\0<=lo/\lo<=hi/\hi<=60)/\∀ p q μ',FrB lo hi p q->q<=7->dG b μ μ'->Q (fr p q) μ')
theorem sY:∀ ds μ Q,cS ds μ Q->ds.length=3:=λ_ _ _ h=>lcO h λ_ _ h=>lcI h λ_ _ h=>lcI h λ_ _ h=>by rw[(ecN h).1];rfl
def nX:STr:=aA (aO (aj L3.rIx (fB (af (TC (.int 1)) (af (TC (.int 1)) (af (TC (.int 2)) (af (TC (.int 3)) (af (TC (.int 5)) (af (TC (.int 7)) (ao)))))))) (au aB (af (ah 0) (af (TC (.int 6)) (ao))))) (ay 3)) (aV (au b9 (af (aj aQ (aj eK (ah 1) (ah 3)) (au aB (af (ah 0) (af (aj aQ (aj eK (aj kn (ah 2) (ah 1)) (ah 3)) (TC (.int 1))) (ao))))) (af (ah 3) (ao)))))
theorem va:∀ ds μ Q,cS ds μ Q->nX { nx:=λ_ μ'=>RT Q .non μ',rt:=RT Q } (ini 4 ds) μ:=by
 intro ds μ Q h
 replace h:=ecO h
 obtain ⟨b,ds,rfl,h⟩:=h
 replace h:=ecI h
 obtain ⟨lo,ds,rfl,h⟩:=h
 replace h:=ecI h
 obtain ⟨hi,ds,rfl,h⟩:=h
 replace h:=ecN h
 obtain ⟨rfl,h⟩:=h
 walk_at "ini"
 unfold nX
 walk_at "go"
 obtain ⟨⟨hP,l0,l1,l2⟩,k⟩:=h
 refine aX hP (by decide) (by decide) λk1 μ1 k10 k11 P1=>?_
 have al:∀ d∈([.int 1,.int 1,.int 2,.int 3,.int 5,.int 7]:List D),IsI 1 7 d:=aG ⟨_,rfl,by decide,by decide⟩ (aG ⟨_,rfl,by decide,by decide⟩ (aG ⟨_,rfl,by decide,by decide⟩ (aG ⟨_,rfl,by decide,by decide⟩ (aG ⟨_,rfl,by decide,by decide⟩ (aG ⟨_,rfl,by decide,by decide⟩ eO)))))
 obtain ⟨_,e1,m,rfl,m0,m1⟩:=fb al k10 k11
 walk_at "go"
 rw[e1]
 walk_at "go"
 have sm:S64 m:=by unfold S64;omega
 have n1:0<=(hi - lo)*m:=Zv (by omega) (by omega)
 have n2:(hi - lo)*m<=60*7:=zeN (by omega) (by omega) (by omega) (by decide)
 refine ⟨.inl (.inr sm),.inl (.inr sm),?_⟩
 refine aX P1.pot (by omega) (by omega) λk2 μ2 k20 k21 P2=>?_
 walk_at "go"
 have n3:0<=lo*m:=Zv l0 (by omega)
 have e2:(hi - lo)*m=hi*m - lo*m:=zbB hi lo m
 refine ⟨⟨by omega,by omega,by unfold gw;omega⟩,_,.refl _,k _ _ μ2 (Ib (by omega) (by omega) (by omega) (by omega)) ?_ (P1.trans P2)⟩
 obtain ⟨g,p,q,g0,ea,eb,ep,eq,q0,qb,gg⟩:=j8 (a:=lo*m+k2) (show 0 < m by omega)
 rw[eq];omega
theorem EF (w:Wd)(i:Decidable (w.str=OF "still")):@decide (w.str=OF "still") i=decide (w=.still):=by
 have e:(w.str=OF "still")↔w=.still:=by cases w<;>simp[Wd.str,dH,di,dO,dI,dW,dR,eI,eQ,c9,dS,dQ,dJ,dU,eV,dY,eR,dN,eJ,dX,eT]
 cases i with
 | isTrue h=>exact (decide_eq_true (e.mp h)).symm
 | isFalse h=>exact (decide_eq_false λz=>h (e.mpr z)).symm
theorem IU (w:Wd)(i:Decidable (w.str=OF "step")):@decide (w.str=OF "step") i=decide (w=.step):=by
 have e:(w.str=OF "step")↔w=.step:=by cases w<;>simp[Wd.str,dH,di,dO,dI,dW,dR,eI,eQ,c9,dS,dQ,dJ,dU,eV,dY,eR,dN,eJ,dX,eT]
 cases i with
 | isTrue h=>exact (decide_eq_true (e.mp h)).symm
 | isFalse h=>exact (decide_eq_false λz=>h (e.mpr z)).symm
theorem FJ (w:Wd)(i:Decidable (w.str=OF "swell")):@decide (w.str=OF "swell") i=decide (w=.swell):=by
 have e:(w.str=OF "swell")↔w=.swell:=by cases w<;>simp[Wd.str,dH,di,dO,dI,dW,dR,eI,eQ,c9,dS,dQ,dJ,dU,eV,dY,eR,dN,eJ,dX,eT]
 cases i with
 | isTrue h=>exact (decide_eq_true (e.mp h)).symm
 | isFalse h=>exact (decide_eq_false λz=>h (e.mpr z)).symm
theorem Kl (w:Wd)(i:Decidable (w.str=OF "heed")):@decide (w.str=OF "heed") i=decide (w=.heed):=by
 have e:(w.str=OF "heed")↔w=.heed:=by cases w<;>simp[Wd.str,dH,di,dO,dI,dW,dR,eI,eQ,c9,dS,dQ,dJ,dU,eV,dY,eR,dN,eJ,dX,eT]
 cases i with
 | isTrue h=>exact (decide_eq_true (e.mp h)).symm
 | isFalse h=>exact (decide_eq_false λz=>h (e.mpr z)).symm
theorem SO (w:Wd):Xk w.str=true:=by cases w<;>simp[Wd.str,nc,qJ,mM,pZ,rT]
theorem OC {lo hi hi' p q:Int}(h:FrB lo hi p q)(hh:hi<=hi'):FrB lo hi' p q:=⟨h.q0,h.q1,h.g,h.ge,by have:=h.le;have:=Xz hh (zcl h.q0);omega⟩
def jX:FSp:=λds μ Q=>kcO ds λb ds=>kcI ds λm ds=>kcN ds ((Pot μ b/\1<=m/\m<=60)/\∀ (R:RN) μ',R.Ok->R.r<=m*R.s->dG b μ μ'->Q R.toD μ')
theorem Eb:∀ ds μ Q,jX ds μ Q->ds.length=2:=λ_ _ _ h=>lcO h λ_ _ h=>lcI h λ_ _ h=>by rw[(ecN h).1];rfl
def lE:STr:=aA (aO (aj aQ (TC (.int 1)) (au aB (af (ah 0) (af (TC (.int 5)) (ao))))) (ay 5)) (aA (aO (au b9 (af (aj aQ (TC (.int 1)) (au aB (af (ah 0) (af (aj eK (TC (.int 2)) (ah 5)) (ao))))) (af (ah 5) (ao)))) (ay 6)) (aA (aO (au b9 (af (aj aQ (TC (.int 1)) (au aB (af (ah 0) (af (ah 5) (ao))))) (af (aj aQ (ah 5) (TC (.int 1))) (ao)))) (ay 7)) (aA (bL (TB (aj rEq (ah 2) (TC (.str "still")))) (aV (a7 (af (ah 2) (af (ah 3) (ao))))) (ba)) (aA (bL (TB (aj rEq (ah 2) (TC (.str "step")))) (aV (a7 (af (ah 2) (af (ah 3) (af (ah 6) (af (ah 7) (af (ah 4) (ao)))))))) (ba)) (aA (bL (TB (aj rEq (ah 2) (TC (.str "swell")))) (aV (a7 (af (ah 2) (af (ah 3) (af (au b9 (af (aj aQ (aj L3.rIx (ah 6) (TC (.int 0))) (aj L3.rIx (ah 6) (TC (.int 1)))) (af (aj L3.rIx (ah 6) (TC (.int 1))) (ao)))) (af (ah 7) (af (ah 4) (ao)))))))) (ba)) (aA (bL (TB (aj rEq (ah 2) (TC (.str "heed")))) (aV (a7 (af (ah 2) (af (ah 3) (af (ah 6) (af (au b9 (af (aj aQ (TC (.int 1)) (au aB (af (ah 0) (af (ah 5) (ao))))) (af (ah 5) (ao)))) (af (ah 4) (ao)))))))) (ba)) (aA (aO (au aB (af (ah 0) (af (TC (.int 4)) (ao)))) (ay 8)) (aV (a7 (af (ah 2) (af (ah 3) (af (ah 6) (af (ah 8) (af (aj aQ (ah 8) (au aB (af (ah 0) (af (TC (.int 5)) (ao))))) (af (ah 4) (ao))))))))))))))))
def Dq:STr:=aA (aO (aj L3.rIx (fB (af (TC (.str "still")) (af (TC (.str "step")) (af (TC (.str "swell")) (af (TC (.str "heed")) (af (TC (.str "calm")) (ao))))))) (au aB (af (ah 0) (af (TC (.int 5)) (ao))))) (ay 2)) (aA (ri 3 4 (af (au cS (af (ah 0) (af (TC (.int 1)) (af (ah 1) (ao))))) (af (au cS (af (ah 0) (af (TC (.int 1)) (af (ah 1) (ao))))) (ao)))) (aA (bL (TB (aj rGt (aj eK (aj L3.rIx (ah 3) (TC (.int 0))) (aj L3.rIx (ah 4) (TC (.int 1)))) (aj eK (aj L3.rIx (ah 4) (TC (.int 0))) (aj L3.rIx (ah 3) (TC (.int 1)))))) (ri 3 4 (af (ah 4) (af (ah 3) (ao)))) (ba)) (lE)))
theorem HC:∀ ds μ Q,jX ds μ Q->Dq { nx:=λ_ μ'=>RT Q .non μ',rt:=RT Q } (ini 9 ds) μ:=by
 intro ds μ Q h
 replace h:=ecO h
 obtain ⟨b,ds,rfl,h⟩:=h
 replace h:=ecI h
 obtain ⟨m,ds,rfl,h⟩:=h
 replace h:=ecN h
 obtain ⟨rfl,h⟩:=h
 walk_at "ini"
 unfold Dq
 walk_at "go"
 obtain ⟨⟨hP,m0,m1⟩,k⟩:=h
 refine aX hP (by decide) (by decide) λk1 μ1 k10 k11 P1=>?_
 have al:∀ d∈([.str "still", .str "step", .str "swell", .str "heed", .str "calm"]:List D),∃ w:Wd,d=.str w.str:=aG ⟨.still,rfl⟩ (aG ⟨.step,rfl⟩ (aG ⟨.swell,rfl⟩ (aG ⟨.heed,rfl⟩ (aG ⟨.calm,rfl⟩ eO))))
 obtain ⟨_,e1,wd,rfl⟩:=fb al k10 k11
 walk_at "go"
 rw[e1]
 walk_at "go"
 refine ⟨⟨P1.pot,by decide,by omega,by omega⟩,λp q μ2 F1 q7 P2=>?_⟩
 walk_at "go"
 refine ⟨⟨P2.pot,by decide,by omega,by omega⟩,λr s μ3 F2 s7 P3=>?_⟩
 have sq:S64 q:=by have:=F1.q0;unfold S64;omega
 have ss:S64 s:=by have:=F2.q0;unfold S64;omega
 simp only[fr]
 walk_at "go"
 refine ⟨.inl (.inr ss),.inl (.inr sq),?_⟩
 have big:∀ (p q r s:Int) (μ3:Mu) (v5 v6 v7 v8:Option D),dG b μ μ3->FrB 1 m p q->FrB 1 m r s->p*s<=r*q->
   lE { nx:=λ_ μ'=>RT Q .non μ',rt:=RT Q } [some (.obj b),some (.int m),some (.str wd.str),some (.tup [.int p,.int q]),some (.tup [.int r,.int s]),v5,v6,v7,v8] μ3:=by
  intro p q r s μ3 v5 v6 v7 v8 P3 F1 F2 wt
  have F1':FrB 1 60 p q:=OC F1 m1
  have F2':FrB 1 60 r s:=OC F2 m1
  have rs:r<=m*s:=F2.le
  have ps:p<=m*q:=F1.le
  unfold lE
  walk_at "go"
  refine aX P3.pot (by decide) (by decide) λn μ4 n0 n1 P4=>?_
  walk_at "go"
  refine ⟨.inl (.inl (by unfold S64;decide)),?_⟩
  refine aX P4.pot (by omega) (by omega) λu μ5 u0 u1 P5=>?_
  walk_at "go"
  refine ⟨⟨by omega,by omega,by unfold gw;omega⟩,?_⟩
  have U:=JN (lo:=0) (hi:=2) (a:=1+u) (b:=1+n) (by omega) (by omega) (by omega) (by omega)
  generalize (1+u).fdiv (XM (1+u) (1+n))=x at *
  generalize (1+n).fdiv (XM (1+u) (1+n))=y at *
  have y0:=U.q0
  have yb:=U.q1
  have xb:=U.le
  have x0:0 < x:=by have:=U.ab;omega
  have U60:FrA 0 60 x y:=⟨⟨U.q0,U.q1,U.g,U.ge,by omega⟩,U.ab⟩
  walk_at "go"
  refine aX P5.pot (by omega) (by omega) λw μ6 w0 w1 P6=>?_
  walk_at "go"
  refine ⟨⟨by omega,by omega,by unfold gw;omega⟩,?_⟩
  have G:=TJ (hi:=1) (a:=1+w) (b:=1+n+1) (by omega) (by omega) (by omega) (by omega)
  generalize (1+w).fdiv (XM (1+w) (1+n+1))=a at *
  generalize (1+n+1).fdiv (XM (1+w) (1+n+1))=c at *
  have G1:=UQ G
  have G2:a < c:=by have:=G.be;omega
  have P36:=P3.trans (P4.trans (P5.trans P6))
  walk_at "go"
  simp only[EF,IU,FJ,Kl,SO]
  walk_at "go"
  cases wd with
  | still=>
   simp only[reduceCtorEq,decide_true,decide_false]
   walk_at "go"
   have R:RN.Ok ⟨.still,p,q,1,1,1,1,0,0,p,q⟩:=⟨F1',F1',X1 _,KS (by decide) (by decide),nofun,KS (by decide) (by decide),(λz=>by rcases z with z | z<;>cases z),X1 0,X1 0,(show (0:Int)<=60 by decide),λ_=>⟨rfl,rfl⟩⟩
   exact ⟨_,.refl _,k _ μ6 R ps P36⟩
  | step=>
   simp only[reduceCtorEq,decide_true,decide_false]
   walk_at "go"
   have R:RN.Ok ⟨.step,p,q,x,y,a,c,0,0,r,s⟩:=⟨F1',F2',wt,U60,nofun,G1,λ_=>G2,X1 0,X1 0,(show (0:Int)<=60 by decide),nofun⟩
   exact ⟨_,.refl _,k _ μ6 R rs P36⟩
  | swell=>
   simp only[reduceCtorEq,decide_true,decide_false,fr]
   walk_at "go"
   refine ⟨⟨by omega,y0,by unfold gw;omega⟩,?_⟩
   have V:=JN (lo:=1) (hi:=60) (a:=x+y) (b:=y) y0 yb (by omega) (by omega)
   generalize (x+y).fdiv (XM (x+y) y)=x2 at *
   generalize y.fdiv (XM (x+y) y)=y2 at *
   have v1:=V.ab
   have vq:=V.q0
   have V2:FrA 0 60 x2 y2:=⟨⟨V.q0,V.q1,V.g,by omega,V.le⟩,by omega⟩
   have R:RN.Ok ⟨.swell,p,q,x2,y2,a,c,0,0,r,s⟩:=⟨F1',F2',wt,V2,λ_=>(by show y2 < x2;omega),G1,λ_=>G2,X1 0,X1 0,(show (0:Int)<=60 by decide),nofun⟩
   walk_at "go"
   exact ⟨_,.refl _,k _ μ6 R rs P36⟩
  | heed=>
   simp only[reduceCtorEq,decide_true,decide_false]
   walk_at "go"
   refine aX P6.pot (by omega) (by omega) λz μ7 z0 z1 P7=>?_
   walk_at "go"
   refine ⟨⟨by omega,by omega,by unfold gw;omega⟩,?_⟩
   have V:=JN (lo:=0) (hi:=1) (a:=1+z) (b:=1+n) (by omega) (by omega) (by omega) (by omega)
   generalize (1+z).fdiv (XM (1+z) (1+n))=a2 at *
   generalize (1+n).fdiv (XM (1+z) (1+n))=c2 at *
   have R:RN.Ok ⟨.heed,p,q,x,y,a2,c2,0,0,r,s⟩:=⟨F1',F2',wt,U60,nofun,V,(λz=>by rcases z with z | z<;>cases z),X1 0,X1 0,(show (0:Int)<=60 by decide),nofun⟩
   walk_at "go"
   exact ⟨_,.refl _,k _ μ7 R rs (P36.trans P7)⟩
  | calm=>
   simp only[reduceCtorEq,decide_true,decide_false]
   walk_at "go"
   refine aX P6.pot (by decide) (by decide) λz μ7 z0 z1 P7=>?_
   walk_at "go"
   refine aX P7.pot (by decide) (by decide) λz2 μ8 z20 z21 P8=>?_
   walk_at "go"
   have R:RN.Ok ⟨.calm,p,q,x,y,1,1,z,z+z2,r,s⟩:=⟨F1',F2',wt,U60,nofun,KS (by decide) (by decide),(λz=>by rcases z with z | z<;>cases z),z0,(by show z<=z+z2;omega),(by show z+z2<=60;omega),nofun⟩
   exact ⟨_,.refl _,k _ μ8 R rs (P36.trans (P7.trans P8))⟩
 have P13:=P1.trans (P2.trans P3)
 refine kif (λh1=>?_) λh1=>?_
 ·walk_at "go"
  exact big r s p q μ3 _ _ _ _ P13 F2 F1 (by omega)
 ·exact big p q r s μ3 _ _ _ _ P13 F1 F2 (by omega)
abbrev wyD (ws:List Wy):List D:=ws.map Wy.toD
structure Sn where
 nm:Str
 rd:List Str
 bt:Int
 bg:Int
 mn:Option Int
 rl:RN
def Sn.toD (x:Sn):D:=.tup [.str x.nm,.tup (x.rd.map .str),.int x.bt,.int x.bg,c5 x.mn,x.rl.toD]
abbrev snD (ss:List Sn):List D:=ss.map Sn.toD
structure Sn.Ok (wn:List Str) (m:Int) (x:Sn):Prop where
 n:Xk x.nm=true
 r0:x.rd≠[]
 r:x.rd.Sublist wn
 b0:1<=x.bt
 b1:x.bt<=8
 g0:0<=x.bg
 g1:x.bg<=1000000
 mm:∀ i,x.mn=some i->0<=i/\i<=1000000
 k:x.rl.Ok
 l:x.rl.r<=m*x.rl.s
structure Pn where
 g:Int
 ws:List Wy
 ss:List Sn
def Pn.toD (p:Pn):D:=.tup [.int p.g,.tup (wyD p.ws),.tup (snD p.ss)]
abbrev Pn.wn (p:Pn):List Str:=p.ws.map Wy.nm
abbrev Pn.sn (p:Pn):List Str:=p.ss.map Sn.nm
structure Pn.Ok (m:Int) (p:Pn):Prop where
 g:Gd p.g
 w0:0 < p.ws.length
 w1:p.ws.length<=6
 wd:p.wn.Nodup
 w:∀ x∈p.ws,x.Ok
 s1:p.ss.length<=8
 sd:p.sn.Pairwise λa b=>ltS a b=true
 s:∀ x∈p.ss,x.Ok p.wn m
theorem MI {a b:Str}(h:a.cps.toList=b.cps.toList):a=b:=by
 cases a with | mk x=>cases b with | mk y=>
 congr 1
 exact Array.toList_inj.mp h
theorem Sz {a b:Str}(h1:ltS b a=false)(h2:a≠b):ltS a b=true:=by
 unfold ltS at *
 rw[decide_eq_false_iff_not,zej] at h1
 rw[decide_eq_true_eq]
 refine Decidable.byContradiction λh3=>h2 (MI (List.le_antisymm h1 ?_))
 exact zej.mp h3
theorem pw_strict {l:List Str}(h:l.Pairwise λa b=>ltS b a=false)(hn:l.Nodup):l.Pairwise λa b=>ltS a b=true:=by
 induction h with
 | nil=>exact .nil
 | @cons a l h1 h2 ih=>
  rw[X5] at hn
  exact .cons (λb hb=>Sz (h1 b hb) λe=>hn.1 (e ▸ hb)) (ih hn.2)
def lR:FSp:=λds μ Q=>kcO ds λb ds=>kcL ds λns' ds=>kcN ds (∃ ns:List Str,(Pot μ b/\ns'=ns.map .str/\(∀ n∈ns,n∈cO)/\ns.length<=17)/\∀ (ws:List Wy) μ',ws.map Wy.nm=ns->(∀ w∈ws,w.Ok)->dG b μ μ'->Q (.tup (wyD ws)) μ')
theorem EN:∀ ds μ Q,lR ds μ Q->ds.length=2:=λ_ _ _ h=>lcO h λ_ _ h=>lcL h λ_ _ h=>by rw[(ecN h).1];rfl
def CQ:STr:=aA (aO (kr (ao)) (ay 2)) (aA (eG (cN (ah 1)) (ay 3) (aA (aO (aj L3.rIx (fB (af (TC (.int 1)) (af (TC (.int 1)) (af (TC (.int 2)) (af (TC (.int 3)) (af (aj aQ (TC (.int 1)) (au aB (af (ah 0) (af (TC (.int 20)) (ao))))) (ao))))))) (au aB (af (ah 0) (af (TC (.int 5)) (ao))))) (ay 4)) (aA (aO (aj L3.rIx (fB (af (aj aQ (TC (.int 1)) (au aB (af (ah 0) (af (TC (.int 3)) (ao))))) (af (aj aQ (TC (.int 2)) (au aB (af (ah 0) (af (TC (.int 8)) (ao))))) (af (aj aQ (TC (.int 5)) (au aB (af (ah 0) (af (TC (.int 56)) (ao))))) (ao))))) (au aB (af (ah 0) (af (TC (.int 3)) (ao))))) (ay 5)) (aA (aO (aj L3.rIx (fB (af (TC .non) (af (au aB (af (ah 0) (af (aj aQ (ah 5) (TC (.int 1))) (ao)))) (af (au aB (af (ah 0) (af (TC (.int 61)) (ao)))) (ao))))) (au aB (af (ah 0) (af (TC (.int 3)) (ao))))) (ay 6)) (eU (kx (ah 2) (a7 (af (ah 3) (af (ah 4) (af (ah 5) (af (ah 6) (af (aj L3.rIx (fB (af (TC (.str "line")) (af (TC (.str "turns")) (ao)))) (au aB (af (ah 0) (af (TC (.int 2)) (ao))))) (ao))))))))))))) (aV (au bw (af (ah 2) (ao)))))
theorem GG:∀ ds μ Q,lR ds μ Q->CQ { nx:=λ_ μ'=>RT Q .non μ',rt:=RT Q } (ini 7 ds) μ:=by
 intro ds μ Q h
 replace h:=ecO h
 obtain ⟨b,ds,rfl,h⟩:=h
 replace h:=ecL h
 obtain ⟨ns',ds,rfl,h⟩:=h
 replace h:=ecN h
 obtain ⟨rfl,h⟩:=h
 walk_at "ini"
 unfold CQ
 walk_at "go"
 obtain ⟨ns,⟨hP,rfl,hn,hl⟩,k⟩:=h
 intro p hp
 have pb:=hP.ne hp
 walk_at "go"
 refine bu (λr ρ μ'=>∃ (ws:List Wy) (rs:List Str) (v3 v4 v5 v6:Option D),r=rs.map .str/\ρ=[some (.obj b),some (.ls (ns.map .str)),some (.obj p),v3,v4,v5,v6]/\μ' p=some (.lst (wyD ws))/\Pot μ' b/\Kp b μ μ'/\(∀ w∈ws,w.Ok)/\ws.map Wy.nm++rs=ns) ?_ ?_ _ _ _ ⟨[],ns,_,_,_,_,rfl,rfl,aI,hP.up pb,Kp.new hp,(λ_ h=>nomatch h),rfl⟩
 ·rintro ρ μ' ⟨ws,rs,v3,v4,v5,v6,er,rfl,ep,P',kp,hw,e⟩
  have:rs=[]:=by cases rs with | nil=>rfl | cons=>cases er
  subst this
  rw[XH] at e
  walk_at "go"
  exact bo ep (NM P' kp λμ2 P2=>k ws μ2 e hw P2)
 ·rintro d r ρ μ' N ⟨ws,rs,v3,v4,v5,v6,er,rfl,ep,P',kp,hw,e⟩ hN
  cases rs with
  | nil=>cases er
  | cons n rs=>
  cases er
  have hnn:n∈cO:=hn n (by rw[← e];simp)
  have hlen:ws.length<=17:=by have:=congrArg Yy e;simp at this;omega
  walk_at "go"
  refine aX P' (by decide) (by decide) λk1 μ1 k10 k11 P1=>?_
  walk_at "go"
  refine aX P1.pot (by decide) (by decide) λk2 μ2 k20 k21 P2=>?_
  have al:∀ d∈([.int 1,.int 1,.int 2,.int 3,.int (1+k1)]:List D),IsI 1 20 d:=aG ⟨_,rfl,by decide,by decide⟩ (aG ⟨_,rfl,by decide,by decide⟩ (aG ⟨_,rfl,by decide,by decide⟩ (aG ⟨_,rfl,by decide,by decide⟩ (aG ⟨_,rfl,by omega,by omega⟩ eO))))
  obtain ⟨_,e1,pc,rfl,pc0,pc1⟩:=fb al k20 k21
  walk_at "go"
  rw[e1]
  walk_at "go"
  refine aX P2.pot (by decide) (by decide) λk3 μ3 k30 k31 P3=>?_
  walk_at "go"
  refine aX P3.pot (by decide) (by decide) λk4 μ4 k40 k41 P4=>?_
  walk_at "go"
  refine aX P4.pot (by decide) (by decide) λk5 μ5 k50 k51 P5=>?_
  walk_at "go"
  refine aX P5.pot (by decide) (by decide) λk6 μ6 k60 k61 P6=>?_
  have al2:∀ d∈([.int (1+k3),.int (2+k4),.int (5+k5)]:List D),IsI 1 60 d:=aG ⟨_,rfl,by omega,by omega⟩ (aG ⟨_,rfl,by omega,by omega⟩ (aG ⟨_,rfl,by omega,by omega⟩ eO))
  obtain ⟨_,e2,rm,rfl,rm0,rm1⟩:=fb al2 k60 k61
  walk_at "go"
  rw[e2]
  walk_at "go"
  refine aX P6.pot (by omega) (by omega) λk7 μ7 k70 k71 P7=>?_
  walk_at "go"
  refine aX P7.pot (by decide) (by decide) λk8 μ8 k80 k81 P8=>?_
  walk_at "go"
  refine aX P8.pot (by decide) (by decide) λk9 μ9 k90 k91 P9=>?_
  have al3:∀ d∈([.non,.int k7,.int k8]:List D),∃ o:Option Int,d=c5 o/\∀ i,o=some i->0<=i/\i<=60:=aG ⟨none,rfl,nofun⟩ (aG ⟨some _,rfl,λi e=>by cases e;omega⟩ (aG ⟨some _,rfl,λi e=>by cases e;omega⟩ eO))
  obtain ⟨_,e3,o,rfl,ho⟩:=fb al3 k90 k91
  walk_at "go"
  rw[e3]
  walk_at "go"
  have P19:=P1.trans (P2.trans (P3.trans (P4.trans (P5.trans (P6.trans (P7.trans (P8.trans P9)))))))
  have ep9:μ9 p=some (.lst (wyD ws)):=by rw[P19.oth p pb];exact ep
  refine bo ep9 ?_
  refine aX P9.pot (by decide) (by decide) λk11 μ10 k110 k111 P10=>?_
  have al4:∀ d∈([.str "line", .str "turns"]:List D),∃ t:Bool,d=.str (zF t):=aG ⟨false,rfl⟩ (aG ⟨true,rfl⟩ eO)
  obtain ⟨_,e4,tn,rfl⟩:=fb al4 k110 k111
  walk_at "go"
  rw[e4]
  walk_at "go"
  have ep10:μ10 p=some (.lst (wyD ws)):=by rw[P10.oth p pb];exact ep9
  refine bo ep10 ⟨by simp;omega,hN _ _ ⟨ws++[⟨n,pc,rm,o,tn⟩],rs,_,_,_,_,rfl,rfl,?_,P10.pot.up pb,((kp.trans P19.kp).trans P10.kp).put hp,?_,?_⟩⟩
  ·rw[aI];simp[wyD,Wy.toD]
  ·intro x hx
   rcases X0.mp hx with z | z
   ·exact hw x z
   ·have:x=⟨n,pc,rm,o,tn⟩:=by simpa using z
    subst this
    exact ⟨Gw _ hnn,pc0,pc1,rm0,rm1,ho⟩
  ·rw[← e];simp
theorem sub_snoc {α:Type}{a b:List α}(h:a.Sublist b)(x:α):(a++[x]).Sublist (b++[x]):=h.append (zdR _)
def iK:FSp:=λds μ Q=>kcO ds λb ds=>kcS ds λn ds=>kcT ds λws' ds=>kcI ds λm ds=>kcN ds (∃ ws:List Wy,(Pot μ b/\n∈cO/\ws'=wyD ws/\(0 < ws.length/\ws.length<=17)/\1<=m/\m<=60)/\∀ (x:Sn) μ',x.Ok (ws.map Wy.nm) m->x.nm=n->dG b μ μ'->Q x.toD μ')
theorem Ae:∀ ds μ Q,iK ds μ Q->ds.length=4:=λ_ _ _ h=>lcO h λ_ _ h=>lcS h λ_ _ h=>lcT h λ_ _ h=>lcI h λ_ _ h=>by rw[(ecN h).1];rfl
def iX:STr:=aA (aO (aj L3.rIx (fB (af (TC (.int 1)) (af (TC (.int 1)) (af (TC (.int 2)) (af (TC (.int 3)) (af (aj aQ (TC (.int 1)) (au aB (af (ah 0) (af (TC (.int 8)) (ao))))) (ao))))))) (au aB (af (ah 0) (af (TC (.int 5)) (ao))))) (ay 5)) (aA (aO (aj L3.rIx (fB (af (TC .non) (af (TC .non) (af (au aB (af (ah 0) (af (TC (.int 4)) (ao)))) (af (au aB (af (ah 0) (af (TC (.int 40)) (ao)))) (ao)))))) (au aB (af (ah 0) (af (TC (.int 4)) (ao))))) (ay 6)) (aV (a7 (af (ah 1) (af (ah 4) (af (ah 5) (af (aj L3.rIx (fB (af (TC (.int 0)) (af (TC (.int 0)) (af (au aB (af (ah 0) (af (TC (.int 3)) (ao)))) (af (au aB (af (ah 0) (af (TC (.int 12)) (ao)))) (ao)))))) (au aB (af (ah 0) (af (TC (.int 4)) (ao))))) (af (ah 6) (af (au jX (af (ah 0) (af (ah 3) (ao)))) (ao))))))))))
def uz:STr:=aA (aO (au bw (af (bK (cN (ah 2)) (ay 0) (TB (aj rEq (au aB (af (ah 1) (af (TC (.int 2)) (ao)))) (TC (.int 0)))) (aj L3.rIx (ah 0) (TC (.int 0))) 1 [0]) (ao))) (ay 4)) (aA (bL (TB (aj rEq (au c8 (af (ah 4) (ao))) (TC (.int 0)))) (aO (a7 (af (aj L3.rIx (aj L3.rIx (ah 2) (au aB (af (ah 0) (af (au c8 (af (ah 2) (ao))) (ao))))) (TC (.int 0))) (ao))) (ay 4)) (ba)) (iX))
theorem A1:∀ ds μ Q,iK ds μ Q->uz { nx:=λ_ μ'=>RT Q .non μ',rt:=RT Q } (ini 7 ds) μ:=by
 intro ds μ Q h
 replace h:=ecO h
 obtain ⟨b,ds,rfl,h⟩:=h
 replace h:=ecS h
 obtain ⟨n,ds,rfl,h⟩:=h
 replace h:=ecT h
 obtain ⟨ws',ds,rfl,h⟩:=h
 replace h:=ecI h
 obtain ⟨m,ds,rfl,h⟩:=h
 replace h:=ecN h
 obtain ⟨rfl,h⟩:=h
 walk_at "ini"
 unfold uz
 walk_at "go"
 obtain ⟨ws,⟨hP,hn,rfl,⟨w0,w1⟩,m0,m1⟩,k⟩:=h
 have rest:∀ (rd:List Str) (μ1:Mu) (v5 v6:Option D),dG b μ μ1->rd≠[]->rd.Sublist (ws.map Wy.nm)->iX { nx:=λ_ μ'=>RT Q .non μ',rt:=RT Q } [some (.obj b),some (.str n),some (.tup (wyD ws)),some (.int m),some (.tup (rd.map .str)),v5,v6] μ1:=by
  intro rd μ0 v5 v6 P0 rd0 rds
  unfold iX
  walk_at "go"
  refine aX P0.pot (by decide) (by decide) λk1 μ1 k10 k11 P1=>?_
  walk_at "go"
  refine aX P1.pot (by decide) (by decide) λk2 μ2 k20 k21 P2=>?_
  have al:∀ d∈([.int 1,.int 1,.int 2,.int 3,.int (1+k1)]:List D),IsI 1 8 d:=aG ⟨_,rfl,by decide,by decide⟩ (aG ⟨_,rfl,by decide,by decide⟩ (aG ⟨_,rfl,by decide,by decide⟩ (aG ⟨_,rfl,by decide,by decide⟩ (aG ⟨_,rfl,by omega,by omega⟩ eO))))
  obtain ⟨_,e1,bt,rfl,bt0,bt1⟩:=fb al k20 k21
  walk_at "go"
  rw[e1]
  walk_at "go"
  refine aX P2.pot (by decide) (by decide) λk3 μ3 k30 k31 P3=>?_
  walk_at "go"
  refine aX P3.pot (by decide) (by decide) λk4 μ4 k40 k41 P4=>?_
  walk_at "go"
  refine aX P4.pot (by decide) (by decide) λk5 μ5 k50 k51 P5=>?_
  have al3:∀ d∈([.non,.non,.int k3,.int k4]:List D),∃ o:Option Int,d=c5 o/\∀ i,o=some i->0<=i/\i<=1000000:=aG ⟨none,rfl,nofun⟩ (aG ⟨none,rfl,nofun⟩ (aG ⟨some _,rfl,λi e=>by cases e;omega⟩ (aG ⟨some _,rfl,λi e=>by cases e;omega⟩ eO)))
  obtain ⟨_,e3,o,rfl,ho⟩:=fb al3 k50 k51
  walk_at "go"
  rw[e3]
  walk_at "go"
  refine aX P5.pot (by decide) (by decide) λk6 μ6 k60 k61 P6=>?_
  walk_at "go"
  refine aX P6.pot (by decide) (by decide) λk7 μ7 k70 k71 P7=>?_
  walk_at "go"
  refine aX P7.pot (by decide) (by decide) λk8 μ8 k80 k81 P8=>?_
  have al4:∀ d∈([.int 0,.int 0,.int k6,.int k7]:List D),IsI 0 1000000 d:=aG ⟨_,rfl,by decide,by decide⟩ (aG ⟨_,rfl,by decide,by decide⟩ (aG ⟨_,rfl,by omega,by omega⟩ (aG ⟨_,rfl,by omega,by omega⟩ eO)))
  obtain ⟨_,e4,bg,rfl,bg0,bg1⟩:=fb al4 k80 k81
  walk_at "go"
  rw[e4]
  walk_at "go"
  refine ⟨⟨P8.pot,m0,m1⟩,λR μ9 K L P9=>?_⟩
  walk_at "go"
  exact ⟨_,.refl _,k ⟨n,rd,bt,bg,o,R⟩ μ9 ⟨Gw _ hn,rd0,rds,bt0,bt1,bg0,bg1,ho,K,L⟩ rfl (P0.trans (P1.trans (P2.trans (P3.trans (P4.trans (P5.trans (P6.trans (P7.trans (P8.trans P9)))))))))⟩
 refine yr hP (λr zs=>∃ (rd:List Str) (a c:List Wy),zs=rd.map .str/\r=wyD c/\a++c=ws/\rd.Sublist (a.map Wy.nm)) ⟨[],[],ws,rfl,rfl,rfl,zdR _⟩ (by simp;omega) ?_ ?_
 ·rintro d r zs μ' P' _ ⟨rd,a,c,rfl,er,ea,hs⟩ N hN
  cases c with
  | nil=>cases er
  | cons x c=>
  cases er
  walk_at "go"
  refine aX P' (by decide) (by decide) λk1 μ2 k10 k11 P2=>?_
  walk_at "go"
  refine kif (λ_=>hN (some (.str x.nm)) μ2 ⟨rd++[x.nm],a++[x],c,by simp,rfl,by simp[ea],?_⟩ P2) λ_=>hN none μ2 ⟨rd,a++[x],c,by simp,rfl,by simp[ea],?_⟩ P2
  ·rw[Xn];exact sub_snoc hs _
  ·rw[Xn];exact hs.trans (zbL _ _)
 ·rintro zs μ1 ⟨rd,a,c,rfl,er,ea,hs⟩ P1
  have:c=[]:=by cases c with | nil=>rfl | cons=>cases er
  subst this
  rw[XH] at ea
  subst ea
  walk_at "go"
  rw[W9]
  refine kif (λh0=>?_) λh0=>?_
  ·walk_at "go"
   rw[W9]
   refine aX P1.pot (by omega) (by omega) λk2 μ2 k20 k21 P2=>?_
   have hc:k2.toNat < a.length:=by omega
   walk_at "go"
   rw[ME k20,Yp,Xt hc]
   walk_at "go"
   simp only[zcu]
   walk_at "go"
   exact rest [a[k2.toNat].nm] μ2 _ _ (P1.trans P2) (by simp) (List.singleton_sublist.mpr (Xd.mpr ⟨_,YS hc,rfl⟩))
  ·exact rest rd μ1 _ _ P1 (λz=>h0 (by rw[z];rfl)) hs
def mx:FSp:=λds μ Q=>kcO ds λb ds=>kcN ds (Pot μ b/\∀ (p:Pn) (m:Int) μ',p.Ok m->(1<=m/\m<=60)->dG b μ μ'->Q p.toD μ')
theorem Ee:∀ ds μ Q,mx ds μ Q->ds.length=1:=λ_ _ _ h=>lcO h λ_ _ h=>by rw[(ecN h).1];rfl
def DS:STr:=aA (aO (aj L3.rIx (fB (af (TC (.int 1)) (af (TC (.int 2)) (af (TC (.int 3)) (af (aj aQ (TC (.int 1)) (au aB (af (ah 0) (af (TC (.int 60)) (ao))))) (ao)))))) (au aB (af (ah 0) (af (TC (.int 4)) (ao))))) (ay 1)) (aA (aO (au lR (af (ah 0) (af (au iB (af (ah 0) (af (aj L3.rIx (fB (af (TC (.int 1)) (af (TC (.int 1)) (af (TC (.int 2)) (af (TC (.int 2)) (af (TC (.int 3)) (af (TC (.int 6)) (ao)))))))) (au aB (af (ah 0) (af (TC (.int 6)) (ao))))) (ao)))) (ao)))) (ay 2)) (aA (aO (aj L3.rIx (fB (af (TC (.int 2)) (af (TC (.int 4)) (af (TC (.int 12)) (af (TC (.int 12)) (af (TC (.int 60)) (ao))))))) (au aB (af (ah 0) (af (TC (.int 5)) (ao))))) (ay 3)) (aA (aO (au iB (af (ah 0) (af (aj L3.rIx (fB (af (TC (.int 0)) (af (TC (.int 1)) (af (TC (.int 1)) (af (TC (.int 2)) (af (TC (.int 2)) (af (TC (.int 3)) (af (TC (.int 3)) (af (TC (.int 8)) (ao)))))))))) (au aB (af (ah 0) (af (TC (.int 8)) (ao))))) (ao)))) (ay 4)) (aV (a7 (af (ah 1) (af (ah 2) (af (au bw (af (bK (cN (au A2 (af (ah 4) (ao)))) (ay 0) (dF) (au iK (af (ah 1) (af (ah 0) (af (ah 2) (af (ah 3) (ao)))))) 1 [0,2,3]) (ao))) (ao)))))))))
theorem JP:∀ ds μ Q,mx ds μ Q->DS { nx:=λ_ μ'=>RT Q .non μ',rt:=RT Q } (ini 5 ds) μ:=by
 intro ds μ Q h
 replace h:=ecO h
 obtain ⟨b,ds,rfl,h⟩:=h
 replace h:=ecN h
 obtain ⟨rfl,h⟩:=h
 walk_at "ini"
 unfold DS
 walk_at "go"
 obtain ⟨hP,k⟩:=h
 refine aX hP (by decide) (by decide) λk1 μ1 k10 k11 P1=>?_
 walk_at "go"
 refine aX P1.pot (by decide) (by decide) λk2 μ2 k20 k21 P2=>?_
 have al:∀ d∈([.int 1,.int 2,.int 3,.int (1+k1)]:List D),IsI 1 60 d:=aG ⟨_,rfl,by decide,by decide⟩ (aG ⟨_,rfl,by decide,by decide⟩ (aG ⟨_,rfl,by decide,by decide⟩ (aG ⟨_,rfl,by omega,by omega⟩ eO)))
 obtain ⟨_,e1,g,rfl,g0,g1⟩:=fb al k20 k21
 walk_at "go"
 rw[e1]
 walk_at "go"
 refine aX P2.pot (by decide) (by decide) λk3 μ3 k30 k31 P3=>?_
 have al2:∀ d∈([.int 1,.int 1,.int 2,.int 2,.int 3,.int 6]:List D),IsI 1 6 d:=aG ⟨_,rfl,by decide,by decide⟩ (aG ⟨_,rfl,by decide,by decide⟩ (aG ⟨_,rfl,by decide,by decide⟩ (aG ⟨_,rfl,by decide,by decide⟩ (aG ⟨_,rfl,by decide,by decide⟩ (aG ⟨_,rfl,by decide,by decide⟩ eO)))))
 obtain ⟨_,e2,nw,rfl,nw0,nw1⟩:=fb al2 k30 k31
 walk_at "go"
 rw[e2]
 walk_at "go"
 refine ⟨⟨P3.pot,by omega,by omega⟩,λns μ4 ln nd nw' P4=>?_⟩
 walk_at "go"
 refine ⟨ns,⟨P4.pot,rfl,nw',by omega⟩,λws μ5 ew hw P5=>?_⟩
 have lw:(ws.length:Int)=nw:=by have:=congrArg Yy ew;simp at this;omega
 walk_at "go"
 refine aX P5.pot (by decide) (by decide) λk6 μ6 k60 k61 P6=>?_
 have al3:∀ d∈([.int 2,.int 4,.int 12,.int 12,.int 60]:List D),IsI 1 60 d:=aG ⟨_,rfl,by decide,by decide⟩ (aG ⟨_,rfl,by decide,by decide⟩ (aG ⟨_,rfl,by decide,by decide⟩ (aG ⟨_,rfl,by decide,by decide⟩ (aG ⟨_,rfl,by decide,by decide⟩ eO))))
 obtain ⟨_,e3,m,rfl,m0,m1⟩:=fb al3 k60 k61
 walk_at "go"
 rw[e3]
 walk_at "go"
 refine aX P6.pot (by decide) (by decide) λk7 μ7 k70 k71 P7=>?_
 have al4:∀ d∈([.int 0,.int 1,.int 1,.int 2,.int 2,.int 3,.int 3,.int 8]:List D),IsI 0 8 d:=aG ⟨_,rfl,by decide,by decide⟩ (aG ⟨_,rfl,by decide,by decide⟩ (aG ⟨_,rfl,by decide,by decide⟩ (aG ⟨_,rfl,by decide,by decide⟩ (aG ⟨_,rfl,by decide,by decide⟩ (aG ⟨_,rfl,by decide,by decide⟩ (aG ⟨_,rfl,by decide,by decide⟩ (aG ⟨_,rfl,by decide,by decide⟩ eO)))))))
 obtain ⟨_,e4,n8,rfl,n80,n81⟩:=fb al4 k70 k71
 walk_at "go"
 rw[e4]
 walk_at "go"
 refine ⟨⟨P7.pot,by omega,by omega⟩,λsn μ8 ls sd sw P8=>?_⟩
 walk_at "go"
 refine ⟨sn,⟨rfl,by omega⟩,λsn' hp hs=>?_⟩
 have ls':sn'.length=sn.length:=hp.length_eq
 have sd':=pw_strict hs (hp.nodup_iff.mpr sd)
 walk_at "go"
 refine yr P8.pot (λr zs=>∃ (xs:List Sn) (rs:List Str),zs=snD xs/\r=rs.map .str/\xs.map Sn.nm++rs=sn'/\∀ x∈xs,x.Ok (ws.map Wy.nm) m) ⟨[],sn',rfl,rfl,rfl,λ_ h=>nomatch h⟩ (by rw[W9];omega) ?_ ?_
 ·rintro d r zs μ' P' _ ⟨xs,rs,rfl,er,ex,hx⟩ N hN
  cases rs with
  | nil=>cases er
  | cons n rs=>
  cases er
  have hn:n∈cO:=sw n (hp.mem_iff.mp (by rw[← ex];simp))
  walk_at "go"
  refine ⟨ws,⟨P',hn,rfl,⟨by omega,by omega⟩,m0,m1⟩,λx μ2 X en P2=>hN (some x.toD) μ2 ⟨xs++[x],rs,by simp[snD],rfl,by rw[← ex];simp[en],λy hy=>?_⟩ P2⟩
  rcases X0.mp hy with z | z
  ·exact hx y z
  ·have:y=x:=by simpa using z
   subst this;exact X
 ·rintro zs μ9 ⟨xs,rs,rfl,er,ex,hx⟩ P9
  have:rs=[]:=by cases rs with | nil=>rfl | cons=>cases er
  subst this
  rw[XH] at ex
  have lx:xs.length=sn.length:=by have:=congrArg Yy ex;simp at this;omega
  walk_at "go"
  exact ⟨_,.refl _,k ⟨g,ws,xs⟩ m μ9 ⟨⟨g0,g1⟩,(by show 0 < ws.length;omega),(by show ws.length<=6;omega),(by show (ws.map Wy.nm).Nodup;rw[ew];exact nd),hw,(by show xs.length<=8;omega),(by show (xs.map Sn.nm).Pairwise _;rw[ex];exact sd'),hx⟩ ⟨m0,m1⟩ (P1.trans (P2.trans (P3.trans (P4.trans (P5.trans (P6.trans (P7.trans (P8.trans P9))))))))⟩
def eW (a b:Int):D:=fr (a.fdiv (XM a b)) (b.fdiv (XM a b))
theorem Po (a:Int){b:Int}(b0:0 < b):Vl (eW a b) a b:=Rz a b0
theorem GK {d:D}{a b:Int}(h:Vl d a b):d=eW a b:=h.uniq (Po a h.b0)
theorem Qm {g:Int}(g0:0 < g):eW 0 g=fr 0 1:=by
 unfold eW
 rw[Int.gcd_zero_left,Int.zero_fdiv]
 have:((g.natAbs:Nat):Int)=g:=by omega
 rw[this,jt g0,Int.ediv_self (by omega)]
abbrev b8 (ns:List Int):List D:=ns.map .int
structure Ws where
 cm:List Lt
 st:List Lt
 la:Str
def Ws.toD (x:Ws):D:=.tup [.tup (ltD x.cm),.tup (ltD x.st),.str x.la]
abbrev wsD (xs:List Ws):List D:=xs.map Ws.toD
structure Ss where
 nm:Str
 du:Option Int
 W:Int
 S:Int
 nx:Int
 lf:Option Int
 ag:List Int
 lo:List Int
 gd:Int
 mk':Int
 wt:Int
def Ss.toD (g:Int)(x:Ss):D:=.tup [.str x.nm,c5 x.du,eW x.W g,eW x.S g,.int x.nx,c5 x.lf,.tup (b8 x.ag),.tup (b8 x.lo),.int x.gd,.int x.mk',.int x.wt]
abbrev ssD (g:Int)(xs:List Ss):List D:=xs.map (Ss.toD g)
structure St' where
 ws:List Ws
 ss:List Ss
def St'.toD (g:Int)(x:St'):D:=.tup [.tup (wsD x.ws),.tup (ssD g x.ss)]
def Sn.beg (g:Int)(x:Sn):Ss:=⟨x.nm,some x.bg,x.rl.p*g / x.rl.q,0,0,x.mn,[],[],0,0,0⟩
def Pn.beg (p:Pn):St':=⟨p.ws.map λ_=>⟨[],[],OF ""⟩,p.ss.map (Sn.beg p.g)⟩
theorem VP (x:Sn)(μ:Mu)(Q:DK):L3.rIx x.toD (.int 0) μ Q=Q (.str x.nm) μ:=propext Xc
theorem V8 (x:Sn)(μ:Mu)(Q:DK):L3.rIx x.toD (.int 1) μ Q=Q (.tup (x.rd.map .str)) μ:=propext Xc
theorem WV (x:Sn)(μ:Mu)(Q:DK):L3.rIx x.toD (.int 2) μ Q=Q (.int x.bt) μ:=propext Xc
theorem VJ (x:Sn)(μ:Mu)(Q:DK):L3.rIx x.toD (.int 3) μ Q=Q (.int x.bg) μ:=propext Xc
theorem Wx (x:Sn)(μ:Mu)(Q:DK):L3.rIx x.toD (.int 4) μ Q=Q (c5 x.mn) μ:=propext Xc
theorem WZ (x:Sn)(μ:Mu)(Q:DK):L3.rIx x.toD (.int 5) μ Q=Q (x.rl.toD) μ:=propext Xc
theorem Wh (x:Pn)(μ:Mu)(Q:DK):L3.rIx x.toD (.int 0) μ Q=Q (.int x.g) μ:=propext Xc
theorem Wr (x:Pn)(μ:Mu)(Q:DK):L3.rIx x.toD (.int 1) μ Q=Q (.tup (wyD x.ws)) μ:=propext Xc
theorem VN (x:Pn)(μ:Mu)(Q:DK):L3.rIx x.toD (.int 2) μ Q=Q (.tup (snD x.ss)) μ:=propext Xc
theorem V4 (x:Ws)(μ:Mu)(Q:DK):L3.rIx x.toD (.int 0) μ Q=Q (.tup (ltD x.cm)) μ:=propext Xc
theorem Wm (x:Ws)(μ:Mu)(Q:DK):L3.rIx x.toD (.int 1) μ Q=Q (.tup (ltD x.st)) μ:=propext Xc
theorem WX (x:Ws)(μ:Mu)(Q:DK):L3.rIx x.toD (.int 2) μ Q=Q (.str x.la) μ:=propext Xc
theorem VM (g:Int)(x:Ss)(μ:Mu)(Q:DK):L3.rIx (x.toD g) (.int 0) μ Q=Q (.str x.nm) μ:=propext Xc
theorem Wj (g:Int)(x:Ss)(μ:Mu)(Q:DK):L3.rIx (x.toD g) (.int 1) μ Q=Q (c5 x.du) μ:=propext Xc
theorem WG (g:Int)(x:Ss)(μ:Mu)(Q:DK):L3.rIx (x.toD g) (.int 2) μ Q=Q (eW x.W g) μ:=propext Xc
theorem W4 (g:Int)(x:Ss)(μ:Mu)(Q:DK):L3.rIx (x.toD g) (.int 3) μ Q=Q (eW x.S g) μ:=propext Xc
theorem Wg (g:Int)(x:Ss)(μ:Mu)(Q:DK):L3.rIx (x.toD g) (.int 4) μ Q=Q (.int x.nx) μ:=propext Xc
theorem WY (g:Int)(x:Ss)(μ:Mu)(Q:DK):L3.rIx (x.toD g) (.int 5) μ Q=Q (c5 x.lf) μ:=propext Xc
theorem W3 (g:Int)(x:Ss)(μ:Mu)(Q:DK):L3.rIx (x.toD g) (.int 6) μ Q=Q (.tup (b8 x.ag)) μ:=propext Xc
theorem VQ (g:Int)(x:Ss)(μ:Mu)(Q:DK):L3.rIx (x.toD g) (.int 7) μ Q=Q (.tup (b8 x.lo)) μ:=propext Xc
theorem Vu (g:Int)(x:Ss)(μ:Mu)(Q:DK):L3.rIx (x.toD g) (.int 8) μ Q=Q (.int x.gd) μ:=propext Xc
theorem Wn (g:Int)(x:Ss)(μ:Mu)(Q:DK):L3.rIx (x.toD g) (.int 9) μ Q=Q (.int x.mk') μ:=propext Xc
theorem Vg (g:Int)(x:Ss)(μ:Mu)(Q:DK):L3.rIx (x.toD g) (.int 10) μ Q=Q (.int x.wt) μ:=propext Xc
theorem Vx (g:Int)(x:St')(μ:Mu)(Q:DK):L3.rIx (x.toD g) (.int 0) μ Q=Q (.tup (wsD x.ws)) μ:=propext Xc
theorem WA (g:Int)(x:St')(μ:Mu)(Q:DK):L3.rIx (x.toD g) (.int 1) μ Q=Q (.tup (ssD g x.ss)) μ:=propext Xc
def Vf:=Jn @VP <| Jn @V8 <| Jn @WV <| Jn @VJ <| Jn @Wx <| Jn @WZ <| Jn @Wh <| Jn @Wr <| Jn @VN <| Jn @V4 <| Jn @Wm <| Jn @WX <| Jn @VM <| Jn @Wj <| Jn @WG <| Jn @W4 <| Jn @Wg <| Jn @WY <| Jn @W3 <| Jn @VQ <| Jn @Vu <| Jn @Wn <| Jn @Vg <| Jn @Vx <| Jn @WA <| @Ux
local macro_rules | `(tactic| walk_at "go")=>zzS "↓L3.Vf L3.EK ↓L3.yt ↓L3.xc ↓L3.zD ↓L3.ym ↓L3.zQ ↓L3.xE ↓L3.ke ↓L3.iP L3.cq L3.bY L3.cw L3.cy L3.cv L3.cz L3.cW L3.cR L3.bZ L3.cp L3.cA L3.cB L3.cu L3.cT L3.cE L3.cV L3.ck L3.cQ L3.cC L3.cU L3.iS L3.wK L3.vC L3.eZ List.map_cons List.map_nil List.replicate List.cons_append List.nil_append L3.lk L3.CH L3.Cm L3.Fx L3.Eh L3.fj L3.qf L3.nC L3.uf L3.uu L3.mT L3.mK L3.kc L3.kg L3.kb L3.ka true_and and_true and_self Bool.not_true Bool.not_false decide_true decide_false Bool.or_true Bool.or_false Bool.true_or Bool.false_or Bool.and_false Bool.false_and Bool.and_true Bool.true_and Int.reduceToNat Int.reducePow Int.reduceNeg Int.reduceSub Int.reduceAdd Int.reduceMul Int.reduceEq Int.reduceLT Int.reduceLE Int.reduceBEq L3.iA L3.fN L3.f6 L3.fI L3.fH L3.fO L3.fP L3.fX if_true if_false Bool.false_eq_true reduceCtorEq decide_eq_true_eq"
def gT:FSp:=λds μ Q=>kcA ds λd ds=>kcI ds λg ds=>kcN ds (∃ R:RN,(d=R.toD/\R.Ok/\Gd g)/\Q (.tup [eW (R.p*g / R.q) g,eW 0 g]) μ)
theorem vc:∀ ds μ Q,gT ds μ Q->ds.length=2:=λ_ _ _ h=>lcA h λ_ _ h=>lcI h λ_ _ h=>by rw[(ecN h).1];rfl
def qv:STr:=aV (a7 (af (au fe (af (aj L3.rIx (ah 0) (TC (.int 1))) (af (ah 1) (ao)))) (af (TC (.tup [.int 0,.int 1])) (ao))))
theorem xW:∀ ds μ Q,gT ds μ Q->qv { nx:=λ_ μ'=>RT Q .non μ',rt:=RT Q } (ini 2 ds) μ:=by
 intro ds μ Q h
 replace h:=ecA h
 obtain ⟨d,ds,rfl,h⟩:=h
 replace h:=ecI h
 obtain ⟨g,ds,rfl,h⟩:=h
 replace h:=ecN h
 obtain ⟨rfl,h⟩:=h
 walk_at "ini"
 unfold qv
 walk_at "go"
 obtain ⟨R,⟨rfl,K,g0,g1⟩,k⟩:=h
 obtain ⟨xs,e,e0,e1,e3,e4⟩:=R.tup K.st
 have WB:=K.w.bd (by decide) (by decide)
 rw[e]
 walk_at "go"
 rw[z9,e1]
 walk_at "go"
 refine ⟨R.p,R.q,⟨iM K.w,WB.1.mono (by decide),WB.2.mono (by decide),by omega,by omega⟩,λw V=>?_⟩
 walk_at "go"
 rw[GK V]
 rw[Qm (show 0 < g by omega)] at k
 exact ⟨_,.refl _,k⟩
def d8:FSp:=λds μ Q=>kcI ds λg ds=>kcA ds λd ds=>kcN ds (∃ x:Sn,(d=x.toD/\x.rl.Ok/\Gd g)/\Q ((x.beg g).toD g) μ)
theorem m8:∀ ds μ Q,d8 ds μ Q->ds.length=2:=λ_ _ _ h=>lcI h λ_ _ h=>lcA h λ_ _ h=>by rw[(ecN h).1];rfl
def jx:STr:=aA (aO (au gT (af (aj L3.rIx (ah 1) (TC (.int 5))) (af (ah 0) (ao)))) (ay 2)) (aV (a7 (af (aj L3.rIx (ah 1) (TC (.int 0))) (af (aj L3.rIx (ah 1) (TC (.int 3))) (af (aj L3.rIx (ah 2) (TC (.int 0))) (af (aj L3.rIx (ah 2) (TC (.int 1))) (af (TC (.int 0)) (af (aj L3.rIx (ah 1) (TC (.int 4))) (af (a7 (ao)) (af (a7 (ao)) (af (TC (.int 0)) (af (TC (.int 0)) (af (TC (.int 0)) (ao))))))))))))))
theorem o4:∀ ds μ Q,d8 ds μ Q->jx { nx:=λ_ μ'=>RT Q .non μ',rt:=RT Q } (ini 3 ds) μ:=by
 intro ds μ Q h
 replace h:=ecI h
 obtain ⟨g,ds,rfl,h⟩:=h
 replace h:=ecA h
 obtain ⟨d,ds,rfl,h⟩:=h
 replace h:=ecN h
 obtain ⟨rfl,h⟩:=h
 walk_at "ini"
 unfold jx
 walk_at "go"
 obtain ⟨x,⟨rfl,K,G⟩,k⟩:=h
 walk_at "go"
 refine ⟨x.rl,⟨rfl,K,G⟩,?_⟩
 walk_at "go"
 exact ⟨_,.refl _,k⟩
def l9:FSp:=λds μ Q=>kcA ds λd ds=>kcN ds (∃ p:Pn,(d=p.toD/\(∀ x∈p.ss,x.rl.Ok)/\Gd p.g/\p.ws.length<=900000/\p.ss.length<=900000)/\Q (p.beg.toD p.g) μ)
theorem Er:∀ ds μ Q,l9 ds μ Q->ds.length=1:=λ_ _ _ h=>lcA h λ_ _ h=>by rw[(ecN h).1];rfl
def DU:STr:=aA (aO (au bw (af (bK (cN (aj L3.rIx (ah 0) (TC (.int 1)))) (ay 0) (dF) (a7 (af (a7 (ao)) (af (a7 (ao)) (af (TC (.str "")) (ao))))) 1 []) (ao))) (ay 1)) (aV (a7 (af (ah 1) (af (au bw (af (bK (cN (aj L3.rIx (ah 0) (TC (.int 2)))) (ay 0) (dF) (au d8 (af (aj L3.rIx (ah 1) (TC (.int 0))) (af (ah 0) (ao)))) 1 [0]) (ao))) (ao)))))
theorem FV:∀ ds μ Q,l9 ds μ Q->DU { nx:=λ_ μ'=>RT Q .non μ',rt:=RT Q } (ini 2 ds) μ:=by
 intro ds μ Q h
 replace h:=ecA h
 obtain ⟨d,ds,rfl,h⟩:=h
 replace h:=ecN h
 obtain ⟨rfl,h⟩:=h
 walk_at "ini"
 unfold DU
 walk_at "go"
 obtain ⟨p,⟨rfl,K,G,l1,l2⟩,k⟩:=h
 walk_at "go"
 refine comp_map (λ_=>.tup [.tup [],.tup [],.str ""]) (by rw[W9];omega) (λd hd μ' _ N n=>?_) ?_
 ·walk_at "go"
  exact n
 ·walk_at "go"
  refine bG p.ss Sn.toD (λx=>(x.beg p.g).toD p.g) rfl (by omega) (λx hx μ' _ N n=>?_) ?_
  ·walk_at "go"
   exact ⟨x,⟨rfl,K x hx,G⟩,n⟩
  ·walk_at "go"
   refine ⟨_,.refl _,?_⟩
   have e1:(wyD p.ws).map (λ_=>D.tup [.tup [],.tup [],.str ""])=wsD p.beg.ws:=by simp[Pn.beg,wsD,wyD,Ws.toD,zdS]
   have e2:p.ss.map (λx=>(x.beg p.g).toD p.g)=ssD p.g p.beg.ss:=by simp[Pn.beg,ssD,zdS]
   rw[e1,e2];exact k
section
open PySem PySem.Spec PyProof.Rows L2
section
variable {prog:XO} {w:X2} {A:Yh} {E:Xb->Xe->Prop} {s:Xe}
abbrev GX (a c:Int)(acc:Array Xb)(n:Nat):Prop:=ItemsOf (λi v=>∃ t,v=.int (a+i*c) t) acc n
abbrev Kept (s:Xe)(g:Heap):Prop:=∀ b o,s.heap.get? b=some o->g.get? b=some o
structure Rg (s:Xe) (r:Addr) (a b c:Int) (n:Nat):Prop where
 at':∃ t u v,IsRange s.heap r a b c t u v
 sm:zfa a b c=true
 sz:zal a b c=n
 le:n<=1048576
theorem run_plain {id:String}{bi:zaR}{args:Args}{R:zd1->Xe->Prop}(hp:plainId id=true)(he:entryFor table id=some bi)
  (h:XB (XD prog w) A.in1 (bi args) (λfin s'=>match fin with | .done f=>R (.ok f) s' | .again c'=>c'.quiet=true/\ZK (XD prog w) A c' R s') (λe s'=>R (.error e) s') s):ZK (XD prog w) A (.builtin id args) R s:=
 zcv he (by rw[zaV hp];exact h)
theorem lB {R:zd1->Xe->Prop}{r:Addr}{a b c:Int}{n:Nat}(hh:A.handled=none)(G:Rg s r a b c n)
  (hR:∀ (g:Heap) (tk:Nat) (acc:Array Xb) (e:Nat),Kept s g->g.get? s.heap.objs.size=some { cls:=.type "list", dict:=none,data:=.seq acc e,slots:=#[] }->GX a c acc n->R (.ok (.ret (.ref s.heap.objs.size))) { s with heap:=g,toks:=tk }) :
  ZK (XD prog w) A (.builtin "proto.collect" ⟨[.ref r],[]⟩) R s:=by
 obtain ⟨⟨t,u,v,hr⟩,sm,sz,le⟩:=G
 have l24:n<=2 ^ 24:=by omega
 have ext:=λh0=>wpAny_extend_range (prog:=prog) (w:=w) (A:=A) (R:=R) (s:={ s with heap:=s.heap.push { cls:=.type "list", data:=.seq #[] } }) hh (Xa _ hr) sm sz l24 s.heap.objs.size (.ref s.heap.objs.size) 0 h0 λg tk acc e kp new its=>
  hR g tk acc e (λb o q=>kp b o (XF (Xq q)) (Xa _ q)) new its
 exact run_plain F.plain_proto_collect F.entry_proto_collect (W8 (Yf (Xj ⟨Zo zdT _,run_plain zdT F.entry_list_iadd (ext (Xu _ rfl))⟩)))
theorem tK {Q:List Xb->Xe->Prop}{r:Addr}{a b c:Int}{n:Nat}(hh:A.handled=none)(G:Rg s r a b c n)
  (hQ:∀ (g:Heap) (tk:Nat) (acc:Array Xb),Kept s g->GX a c acc n->Q acc.toList { s with heap:=g,toks:=tk }):XB (XD prog w) A (collect (.ref r)) Q E s:=by
 unfold collect
 exact W8 (wpAny_runValue (lB hh G λg tk acc e kp new its=>W8 (wpAny_load new (Xj (hQ g tk acc kp its)))))
theorem mX {Q:Xb->Xe->Prop}{r:Addr}{a b c:Int}{n:Nat}(hh:A.handled=none)(G:Rg s r a b c n)
  (hQ:∀ (g:Heap) (tk:Nat) (acc:Array Xb),Kept s g->GX a c acc n->Q (.ref g.objs.size) { s with heap:=g.push { cls:=.type "tuple", data:=.seq acc },toks:=tk }) :
  XB (XD prog w) A (zcG (.type "tuple") [.ref r]) Q E s:=by
 have isr:s.TypeIs (.ref r) "range" := let ⟨t,u,v,hr⟩:=G.at';⟨_,hr,rfl⟩
 have fit:n<=sizeLine:=by have:=G.le;rw[zcH];omega
 have made:ZK (XD prog w) A.in1 (.call (.builtin "tuple.__new__") ⟨[.type "tuple", .ref r],[]⟩) (wants (λobj s₁=>s₁.TypeIs obj "tuple" /\ Q obj s₁) E) s:=by
  refine codeAny_of_tree (W8 (zef (F.newCall_tuple_1 _) (Xj ⟨Zo zdU _,run_plain zdU F.entry_tuple_new ?_⟩)))
  have u1:=sub_tuple_self
  have u2:=init_tuple_lookup
  have u3:=madeHere_tuple
  wp_walk using wpAny_typeOf isr,tK (A:=A.in1.in1) hh G
  intro g tk acc kp its
  have whole:acc.toList.toArray=acc:=zcU
  have few:acc.toList.toArray.size<=sizeLine:=by rw[whole,its.1];exact fit
  have end':XB (XD prog w) A.in1.in1 (Yn acc.toList.toArray) (λv s'=>wants (λobj s₁=>s₁.TypeIs obj "tuple" /\ Q obj s₁) E (.ok (.ret v)) s') (λe s'=>wants (λobj s₁=>s₁.TypeIs obj "tuple" /\ Q obj s₁) E (.error e) s') { s with heap:=g,toks:=tk }:=by
   unfold Yn;exact Yf (by rw[whole];exact ⟨⟨_,Xu _ rfl,rfl⟩,hQ g tk acc kp its⟩) few
  exact (show XB _ _ (Yn acc.toList.toArray >>= λv=>ret v) _ _ _ from W8 (Yq end' (λv s' h=>Xj h) λ_ _ h=>h))
 exact callType_codes zcV (F.typeCall_tuple_1 _) F.entry_object_init made λobj s₁ h₁=>⟨h₁.1,zcW obj _,object_init_meets zcV.init.lookup zcV.made (by decide) prog w A.in1 _ s₁ ⟨h₁.1,rfl,h₁.2⟩⟩
end
section
variable {X:Cx} {ea eb:XG} {Ta Tb:ETr} {p p2 pos rpos:Pos}
def TN (t:TA):TE:=λσ H Q=>t σ H λvs H1=>∃ i j:Int,vs=[.int i,.int j]/\(-(2 ^ 62)<=i/\i < 2 ^ 62/\-(2 ^ 62)<=j/\j < 2 ^ 62/\(j - i).toNat<=1000000)/\∀ z,H1 z=none->Q (.ref z) (L2.upd H1 z (.tup ((XJ (j - i).toNat).map λ(k:Nat)=>V.int (i+(k:Int)))))
theorem kJ:∀ {us:List Xb} {vs:List V},us.length=vs.length->(∀ (j:Nat) u v,us[j]? = some u->vs[j]? = some v->RelV v u)->Vals vs us
 | [],[],_,_=>.nil
 | u::us,v::vs,hl,h=>.cons (h 0 u v rfl rfl) (kJ (by simpa using hl) λj a b h1 h2=>h (j+1) a b h1 h2)
theorem L5 {t:TA}(hc:X.calm=true)(hg:Gl X "tuple")(hm:X.mg "tuple" = none)(hgr:Gl X "range")(hmr:X.mg "range" = none)(ha:PA X [ea,eb] t)(hs:Xp [ea,eb] X.env=[(false,Yl ea X.env),(false,Yl eb X.env)]:=by rfl)(hs2:Xp [eb] X.env=[(false,Yl eb X.env)]:=by rfl)
  (hs0:Xp [.Call (.Name "range" p2) [ea,eb] [] rpos] X.env=(false,Yl (.Call (.Name "range" p2) [ea,eb] [] rpos) X.env)::Xp [] X.env:=by rfl) :
  PE X (.Call (.Name "tuple" p) [.Call (.Name "range" p2) [ea,eb] [] rpos] [] pos) (TN t):=by
 intro pins s σ H Q I h
 refine Call_ (ij I hg hm boot_tuple (Ya ?_ hs0 rfl))
 rw[hs0]
 show XB _ _ (spliced ((false,Yl _ X.env)::YA pos (Xp [] X.env))) _ _ s
 refine zae (Call_ (ij I hgr hmr zew (Ya (thn (ha rpos pins s σ H _ I h) λus s1 ⟨vs,H1,I1,r1,q1⟩=>?_) (by rw[hs,hs2]) (by rw[hs2];rfl))))
 obtain ⟨i,j,e,⟨h1,h2,h3,h4,h5⟩,q⟩:=q1
 subst e
 cases r1 with | cons r rr=>cases rr with | cons r' rr=>
 cases rr
 obtain ⟨t1,rfl⟩:=r
 obtain ⟨t2,rfl⟩:=r'
 refine call_range_2 (zbA ?_)
 have e2:zal i j 1=((j - i).toNat:Nat):=by rw[rangeSize_one];split<;>omega
 refine mX (n:=(j - i).toNat) (I1.ok.hd hc) ⟨⟨_,_,_,ze6 ..⟩,small_one h1 h2 h3 h4,e2,by omega⟩ λh' tk acc hk hacc=>?_
 have I2:Inv X pins σ H1 { s1 with heap:=h',toks:=tk }:=I1.kept (t':=tk) λb o e=>hk b o (Xa _ e)
 refine ⟨.ref h'.objs.size,_,I2.laid (t':=tk) (o:=.tup ((XJ (j - i).toNat).map λ(k:Nat)=>V.int (i+(k:Int)))) (λb o e=>Xa _ e) (Xs _) ⟨?_,acc.toList,kJ ?_ λm u v hu hv=>?_,?_⟩,rfl,q _ (I2.hok.fresh (Xs _))⟩
 ·rw[W9,zdV];exact big (by omega)
 ·rw[W9,zdV,Z5,hacc.1]
 ·have hu':acc[m]? = some u:=by simpa using hu
  obtain ⟨t3,rfl⟩:=hacc.2 m u hu'
  have hm:m < (j - i).toNat:=by
   have:=(Array.getElem?_eq_some_iff.mp hu').1
   exact hacc.1 ▸ this
  rw[Yp,zc3 hm] at hv
  cases hv
  exact ⟨t3,by simp⟩
 ·rw[zcU];exact vf.new h' acc
def Iz (Ta Tb:ETr):ETr:=λρ μ Q=>Ta ρ μ λx μ1=>Tb ρ μ1 λy μ2=>kI x λi=>kI y λj=>((-4611686018427387904<=i/\i < 4611686018427387904)/\(-4611686018427387904<=j/\j < 4611686018427387904)/\(j - i).toNat<=1000000)/\Q (.tup (bX i (j - i).toNat)) μ2
theorem Eu {K:W7}{H:Hp}(i:Int)(n:Nat):DpL K H ((XJ n).map λ(k:Nat)=>V.int (i+(k:Int))) (bX i n):=by
 unfold bX
 generalize XJ n=l
 induction l with
 | nil=>exact .nil
 | cons a l ih=>exact .cons (.int _) ih
theorem LF (hc:X.calm=true)(hg:Gl X "tuple")(hm:X.mg "tuple" = none)(hgr:Gl X "range")(hmr:X.mg "range" = none)(ha:LE X ea Ta)(hb:LE X eb Tb)(hs:Xp [ea,eb] X.env=[(false,Yl ea X.env),(false,Yl eb X.env)]:=by rfl)(hs2:Xp [eb] X.env=[(false,Yl eb X.env)]:=by rfl)
  (hs0:Xp [.Call (.Name "range" p2) [ea,eb] [] rpos] X.env=(false,Yl (.Call (.Name "range" p2) [ea,eb] [] rpos) X.env)::Xp [] X.env:=by rfl) :
  LE X (.Call (.Name "tuple" p) [.Call (.Name "range" p2) [ea,eb] [] rpos] [] pos) (Iz Ta Tb):=by
 obtain ⟨ta,pa,sa⟩:=ha.ex
 obtain ⟨tb,pb,sb⟩:=hb.ex
 refine ⟨_,L5 hc hg hm hgr hmr (dB pa (dB pb hX hs2) (by rw[hs,hs2])) hs hs2 hs0,λσ H ρ μ Q Q' rl h k=>sa σ H ρ μ _ _ rl h λx H1 d μ1 t1 m1 p1 h1=>sb σ H1 ρ μ1 _ _ (rl.go t1 m1) h1 λy H2 d2 μ2 t2 m2 p2 h2=>?_⟩
 cases p1 with
 | int i=>
  cases p2 with
  | int j=>
   obtain ⟨⟨⟨h3,h4⟩,⟨h5,h6⟩,h7⟩,h8⟩:=h2
   refine ⟨i,j,rfl,⟨by simpa using h3,by simpa using h4,by simpa using h5,by simpa using h6,h7⟩,λz hz=>?_⟩
   have tn:Tk H2 (L2.upd H2 z (.tup ((XJ (j - i).toNat).map λ(k:Nat)=>V.int (i+(k:Int))))):=.new hz
   exact k _ _ _ μ2 ((t1.trans t2).trans tn) (b7 m2 hz) (.tup (SqT.of aN) (Eu i _)) h8
  | _=>exact Xf h2
 | _=>exact Xf h2
end
end
section
open PySem PySem.Spec PyProof.Rows L2
section
variable {prog:XO} {w:X2} {A:Yh} {E:Xb->Xe->Prop} {s:Xe}
theorem sortedHeap_at {g:Heap}{vs:List Xb}{out:Array Xb}{k:Nat}(e:(g.push (za6 "list" vs.toArray k)).get? g.objs.size=some (za6 "list" vs.toArray k)):(∃ n,(zeO (g.push (za6 "list" vs.toArray k)) g.objs.size vs out).get? g.objs.size=some (za6 "list" out n))/\∀ b o,g.get? b=some o->(zeO (g.push (za6 "list" vs.toArray k)) g.objs.size vs out).get? b=some o:=by
 have lt:g.objs.size < (g.push (za6 "list" vs.toArray k)).objs.size:=by rw[size_push'];omega
 unfold zeO
 constructor
 ·have e1:=get?_update_seq e λ_=>#[]
  have e2:∀ o1 o2:Obj,((((g.push (za6 "list" vs.toArray k)).update g.objs.size (zce λ_=>#[])).push o1).push o2).get? g.objs.size=_:=λo1 o2=>Xa _ (Xa _ e1)
  exact ⟨_,get?_update_seq (e2 _ _) λ_=>out⟩
 ·intro b o hb
  have nb:g.objs.size≠b:=XQ (XF (Xq hb))
  exact (Yj _ _ nb).trans (Xa _ (Xa _ ((Yj _ _ nb).trans (Xa _ hb))))
theorem AY {tp:Addr}{vs:List Xb}{ns:List Int}{Q:Xb->Xe->Prop}(hl:zec s.heap tp vs.toArray)(hI:Z9 vs ns)(few:vs.length < 64)
  (h:∀ (g g1:Heap) (out:Array Xb) (n:Nat) (ns':List Int),Kept s g->(∀ b o,g.get? b=some o->g1.get? b=some o)->g1.get? g.objs.size=some (za6 "list" out n)->Z9 out.toList ns'->ns'.Perm ns->ns'.Pairwise (·<=·)->Q (.ref g.objs.size) { s with heap:=g1 }) :
  XB (XD prog w) A (zcG (.builtin "sorted") [.ref tp]) Q E s:=by
 obtain ⟨ob,e1,e2,ne,e3⟩:=hl
 have fits:vs.toArray.size<=sizeLine:=by rw[Xv,zcH];omega
 have rest:∀ g:Heap,(∀ b o,s.heap.get? b=some o->g.get? b=some o)->XB (XD prog w) A.in1 (do let z ← newList vs;let _ ← zb7 [z] (zcG (.builtin "list.sort") [z]);ret z) (λfin s'=>∃ v,fin=.done (.ret v)/\Q v s') E { s with heap:=g }:=λg kp=>by
  have at':(g.push (za6 "list" vs.toArray 0)).get? g.objs.size=some (za6 "list" vs.toArray 0):=Xu _ rfl
  have done:=λout ns' (a1:Z9 out.toList ns') (a2:ns'.Perm ns) (a3:ns'.Pairwise (·<=·))=>let ⟨⟨m,e⟩,old⟩:=sortedHeap_at (out:=out) at';h g _ out m ns' kp old e a1 a2 a3
  exact W8 (wpAny_newList (W8 (Zk (YF slot_list_sort ⟨_,at',rfl⟩ entry_list_sort (list_sort_tree at' hI few λout ns' a1 a2 a3=>⟨_,rfl,Xj ⟨_,rfl,done out ns' a1 a2 a3⟩⟩) (args_list_sort _)))))
 refine Calls.call_function_entry (b:=zaR.«sorted») kind_sorted plain_sorted entry_sorted (args_sorted1 _) ?_
 show XB _ _ (do checkCount "sorted" 1 1 1;let xs ← collect (.ref tp);let z ← newList xs;let _ ← zb7 [z] (zcG (.builtin "list.sort") [z]);ret z) _ _ s
 exact W8 (Xj (W8 (wpAny_collect_seq tp (.inr rfl) e1 e2 e3 (λg kp=>rest g kp) fits)))
end
def Qr (K:W7):List V->Hp->VK->Prop:=λxs H Q=>∃ (p:Addr) (ns:List Int),xs=[.ref p]/\(SqL K H p (ns.map V.int)∨SqT K H p (ns.map V.int))/\ns.length < 64/\∀ ns':List Int,ns'.Perm ns->ns'.Pairwise (·<=·)->∀ z,H z=none->Q (.ref z) (L2.upd H z (.lst (ns'.map V.int)))
theorem BH {X:Cx}:b6 X (.builtin "sorted") (Qr X.K):=λpins s σ H xs us Q I rx ⟨p,ns,e1,sq,hl,q⟩=>by
 rcases sq with sq | sq
 ·exact AS pins s σ H xs us Q I rx ⟨p,ns,e1,sq,hl,q⟩
 subst e1
 obtain ⟨u,rfl,ru⟩:=vals1 rx
 cases ru
 obtain ⟨its,rv,pl,hz⟩:=I.tuple sq
 have hi:Z9 its ns:=intsAre_of rv
 have hlen:its.length < 64:=by rw[hi.length];exact hl
 refine AY pl hi hlen λg g1 out n ns' kp old e a1 a2 a3=>?_
 have I2:Inv X pins σ H { s with heap:=g }:=I.kept (t':=s.toks) kp
 refine ⟨.ref g.objs.size,_,I2.laid (t':=s.toks) (o:=.lst (ns'.map V.int)) old (Xs _) ?_,rfl,q ns' a2 a3 _ (I2.hok.fresh (Xs _))⟩
 have z1:ns'.length=ns.length:=a2.length_eq
 exact ⟨by rw[W9,z1];exact zat (Xw hl (by decide)),out.toList,n,iZ a1,by simpa[za6] using e⟩
def rf:FSp:=λds μ Q=>match ds with
 | [x]=>kS x λxs=>∃ ns:List Int,(xs=ns.map .int/\ns.length < 64)/\∀ ns':List Int,ns'.Perm ns->ns'.Pairwise (·<=·)->Q (.ls (ns'.map .int)) μ
 | _=>False
theorem yB {X:Cx}{e:XG}{x:Str}{p pos:Pos}{At:ATr}(hg:Gl X x)(hm:X.mg x=none)(hv:Yt x=some (.builtin "sorted"))(ha:LA X [e] At)(hn:x ≠ "__name__" := by decide)(hdb:(x == ("__debug__" : Str))=false:=by decide)
  (h1:Xp [e] X.env=(false,Yl e X.env)::Xp [] X.env:=by rfl) (h2:(YA pos (Xp [] X.env)).any (·.1)=false:=by rfl):LE X (.Call (.Name x p) [e] [] pos) (au rf At):=by
 obtain ⟨ta,pa,sa⟩:=ha.ex
 refine ⟨_,jS (l4 BH hg hm hv pa hn hdb h1 h2),λσ H ρ μ Q Q' rl h k=>sa σ H ρ μ _ _ rl h λxs H1 ds μ1 t1 m1 p1 h1=>?_⟩
 unfold rf at h1
 split at h1
 ·cases p1 with | cons p1 p2=>
  cases p2
  cases p1 with
  | @ls q xs ds sq l=>
   obtain ⟨ns,⟨rfl,hl⟩,h2⟩:=h1
   have ex:=l.ints_of
   subst ex
   exact ⟨q,ns,rfl,.inl sq.sq,hl,λns' a2 a3 z hz=>gG m1 (DpL.ints ns') (h2 ns' a2 a3) (k.go t1) hz⟩
  | @tup q xs ds sq l=>
   obtain ⟨ns,⟨rfl,hl⟩,h2⟩:=h1
   have ex:=l.ints_of
   subst ex
   exact ⟨q,ns,rfl,.inr sq,hl,λns' a2 a3 z hz=>gG m1 (DpL.ints ns') (h2 ns' a2 a3) (k.go t1) hz⟩
  | _=>exact Xf h1
 ·exact h1.elim
theorem FH {X:Cx}(hc:X.calm=true):b6 X (.builtin "sum") (λxs H Q=>∃ (p:Addr) (ns:List Int),xs=[.ref p]/\SqL X.K H p (ns.map V.int)/\Q (.int ns.sum) H):=λpins s σ H xs us Q I rx ⟨p,ns,e1,sq,q⟩=>by
 subst e1
 obtain ⟨u,rfl,ru⟩:=vals1 rx
 cases ru
 obtain ⟨its,rv,pl,_⟩:=I.list sq
 obtain ⟨ps,rfl,rfl⟩:=g9 (intsAre_of rv)
 have il:s.heap.IsList p (zaZ ps.toArray):=by
  have:=pl.isList
  simpa[zaZ] using this
 refine sum_intListG (I.ok.hd hc) il λh' tk t' hk=>?_
 have e:preSum (zeh ps.toArray) ps.toArray.size=(ps.map zeJ).sum:=by
  rw[preSum_eq,ZA (by simp)]
 rw[e]
 exact ⟨.int _,H,I.kept hk,⟨t',rfl⟩,q⟩
def CP:FSp:=λds μ Q=>match ds with
 | [.ls xs]=>∃ ns:List Int,xs=ns.map .int/\Q (.int ns.sum) μ
 | _=>False
theorem Im {K:W7}:kX K (λxs H Q=>∃ (p:Addr) (ns:List Int),xs=[.ref p]/\SqL K H p (ns.map V.int)/\Q (.int ns.sum) H) CP:=λH μ xs ds Q Q' m p h k=>by
 unfold CP at h
 split at h
 ·obtain ⟨ns,rfl,h⟩:=h
  cases p with | cons p1 p2=>
  cases p2
  cases p1 with
  | @ls q xs ds sq l=>
   have ex:=l.ints_of
   subst ex
   exact ⟨q,ns,rfl,sq.sq,k _ H _ μ (.refl H) m (.int _) h⟩
 ·exact h.elim
end
section
open PySem PySem.Spec PyProof.Rows L2
section
variable {prog:XO} {w:X2} {A:Yh} {E:Xb->Xe->Prop} {s:Xe}
theorem JD {tp:Bool}{e it a:Addr}{i:Nat}{xs:Array Xb}{x old:Xb}{Q:Option Xb->Xe->Prop}(en:zcn s.heap e it i old)(li:ix tp s.heap it a i)(se:fQ tp s.heap a xs)(hx:xs[i]? = some x)(ne:e≠it)
  (q:∀ g,IsEnumOut g e it ((i:Int)+1) x s.heap.objs.size->ix tp g it a (i+1)->g.get? s.heap.objs.size=some { cls:=.type "tuple", data:=.seq #[.int i s.toks,x] }->
   (∀ c o,c≠e->c≠it->s.heap.get? c=some o->g.get? c=some o)->Q (some (.ref s.heap.objs.size)) { s with heap:=g,toks:=s.toks+1 }):XB (XD prog w) A (zad (.ref e)) Q E s:=by
 have ty:s.TypeIs (.ref e) "enumerate" := ⟨_,en,rfl⟩
 unfold zad
 refine W8 (zbJ (Ye (name:=OF "__next__") ty ZH (YF ZH ty zco ?_ (zb3 _))))
 refine W8 (m:=zcL (.ref e) 2) (X6 en rfl (x:=.ref it) rfl (W8 (m:=XS (.ref it)) (pN li se hx λg1 li1 k1=>?_)))
 have en1:zcn g1 e it i old:=(k1.2 e ne).trans en
 refine W8 (m:=zcL (.ref e) 3) (X6 (s:={ s with heap:=g1 }) en1 rfl (x:=zbj i) rfl (W8 (m:=zcL (.ref e) 4) (X6 (s:={ s with heap:=g1 }) en1 rfl (x:=.none) rfl (W8 (m:=mkInt i) (wpAny_mkInt ?_)))))
 refine W8 (m:=setField (.ref e) 3 (zbj ((i:Int)+1))) (X9 en1 (by simp) λg2 en2 k2=>?_)
 have en2:zcn g2 e it ((i:Int)+1) old:=en2
 refine W8 (m:=setField (.ref e) 4 .none) (X9 en2 (by simp) λg3 en3 k3=>?_)
 have en3:zcn g3 e it ((i:Int)+1) old:=en3
 refine W8 (m:=newTuple [.int i s.toks,x]) (wpAny_newTuple ?_)
 have sz:g3.objs.size=s.heap.objs.size:=by rw[k3.1,k2.1,k1.1]
 have en4:zcn (g3.push { cls:=.type "tuple", data:=.seq #[.int i s.toks,x] }) e it ((i:Int)+1) old:=Xa _ en3
 have elt:e < g3.objs.size:=Xq en3
 refine W8 (m:=X3 (.ref e)) ?_
 delta X3
 refine W8 (X6 (s:={ s with heap:=g3.push { cls:=.type "tuple", data:=.seq #[.int i s.toks,x] },toks:=s.toks+1 }) en4 rfl (x:=.none) rfl (Xj ?_))
 simp only[if_true]
 refine W8 (Zx (W8 (X6 en4 rfl (x:=old) rfl (W8 (X9 en4 (by simp) λg5 en5 k5=>?_)))))
 have en5:zcn g5 e it ((i:Int)+1) x:=en5
 refine W8 (m:=Yv (.ref e) (.ref g3.objs.size)) ?_
 delta Yv
 refine W8 (X9 en5 (by simp) λg6 en6 k6=>?_)
 have en6:IsEnumOut g6 e it ((i:Int)+1) x g3.objs.size:=en6
 refine X9 en6 (by simp) λg7 en7 k7=>?_
 have en7:IsEnumOut g7 e it ((i:Int)+1) x g3.objs.size:=en7
 have up3:∀ c o,c≠e->g3.get? c=some o->g7.get? c=some o:=λc o c1 h=>(k7.2 c c1).trans ((k6.2 c c1).trans ((k5.2 c c1).trans (Xa _ h)))
 have new:g7.get? g3.objs.size=some { cls:=.type "tuple", data:=.seq #[.int i s.toks,x] }:=(k7.2 _ (Zz elt)).trans ((k6.2 _ (Zz elt)).trans ((k5.2 _ (Zz elt)).trans (Xu _ rfl)))
 rw[sz] at en7 new
 have fin:=q g7 en7 (li1.at λo h=>up3 it o (XQ ne) ((k3.2 it (XQ ne)).trans ((k2.2 it (XQ ne)).trans h))) new λc o c1 c2 h=>up3 c o c1 ((k3.2 c c1).trans ((k2.2 c c1).trans ((k1.2 c c2).trans h)))
 rw[← sz] at fin
 exact W8 (ZQ (Xj ⟨_,rfl,Xj fin⟩))
theorem L6 {tp:Bool}{e it a:Addr}{i:Nat}{xs:Array Xb}{old:Xb}{Q:Option Xb->Xe->Prop}(hh:A.handled=none)(en:zcn s.heap e it i old)(li:ix tp s.heap it a i)(se:fQ tp s.heap a xs)(hx:xs[i]? = none)
  (q:∀ g,zee it s.heap g->Q none { s with heap:=g }):XB (XD prog w) A (zad (.ref e)) Q E s:=by
 have ty:s.TypeIs (.ref e) "enumerate" := ⟨_,en,rfl⟩
 unfold zad
 refine W8 (zbJ (Ye (name:=OF "__next__") ty ZH (YF ZH ty zco ?_ (zb3 _))))
 refine W8 (m:=zcL (.ref e) 2) (X6 en rfl (x:=.ref it) rfl (W8 (m:=XS (.ref it)) (Bk hh li se hx λg z kp sz=>?_)))
 obtain ⟨o,ho,hc⟩:=sz
 exact W8 (wpAny_isInstance (T := "StopIteration") (b:=true) ⟨o,ho,hc⟩ isSubtype_stop (Xj (q _ kp)))
theorem Kq (tp:Bool)(a:Addr)(xs:Array Xb):Meets (zaR.«enumerate.__new__» ⟨[.type "enumerate", .ref a],[]⟩) (λ_ R s=>fQ tp s.heap a xs/\
   R (.ok (.ret (.ref (s.heap.push (itO tp a)).objs.size))) { s with heap:=(s.heap.push (itO tp a)).push { cls:=.type "enumerate", data:=.fields #[.none,.bool false,.ref s.heap.objs.size,zbj 0,.none,.none] } }):=
 .of_wp λprog w A R s h=>by
  rcases s with ⟨hp,g,d,tk,os⟩
  obtain ⟨h1,h⟩:=h
  have hs0:=sub_enumerate
  have H1:fQ tp (zeg ⟨hp,g,d,tk,os⟩) a xs:=h1
  wp_walk
  refine wpAny_stack_any λstk=>Xj ?_
  split
  ·rename_i c _ _ _ _ _
   cases (c == zdn "enumerate")<;>(wp_walk using K6 H1;exact ⟨_,rfl,h⟩)
  ·wp_walk using K6 H1
   exact ⟨_,rfl,h⟩
theorem AW {tp:Bool}{a:Addr}{xs:Array Xb}{Q:Xb->Xe->Prop}(h1:fQ tp s.heap a xs)
  (q:∀ g,zcn g (s.heap.objs.size+1) s.heap.objs.size 0 .none->ix tp g s.heap.objs.size a 0->(∀ c o,s.heap.get? c=some o->g.get? c=some o)->Q (.ref (s.heap.objs.size+1)) { s with heap:=g }) :
  XB (XD prog w) A (zcG (.type "enumerate") [.ref a]) Q E s:=by
 refine callType_new F.called_enumerate (by decide) (F.typeCall_enumerate_1 _) (F.newCall_enumerate_1 _) (λobj=>zcW obj _) F.entry_enumerate_new (Kq tp a xs) ⟨h1,?_⟩
 have s1:(s.heap.push (itO tp a)).objs.size=s.heap.objs.size+1:=ZR ..
 have new:zcn ((s.heap.push (itO tp a)).push { cls:=.type "enumerate", data:=.fields #[.none,.bool false,.ref s.heap.objs.size,zbj 0,.none,.none] }) (s.heap.push (itO tp a)).objs.size s.heap.objs.size 0 .none:=Xu _ rfl
 refine ⟨⟨_,new,rfl⟩,?_⟩
 rw[s1] at new ⊢
 refine q _ new ?_ λc o h=>Xa _ (Xa _ h)
 have z:=Xa { cls:=.type "enumerate", data:=.fields #[.none,.bool false,.ref s.heap.objs.size,zbj 0,.none,.none] } (Xu s.heap (o:=itO tp a) (by cases tp<;>rfl))
 cases tp<;>exact ⟨_,z,rfl,rfl⟩
end
def Itn (tp:Bool)(K:W7)(a:Addr):It:=
 ⟨λi H=>∃ xs x,Sq tp K H a xs/\xs[i]? = some x,
  λi H v H'=>∃ x p,(∀ xs,Sq tp K H a xs->xs[i]? = some x)/\v=.ref p/\H p=none/\H'=L2.upd H p (.tup [.int i,x]),
  λi H=>∃ xs,Sq tp K H a xs/\xs.length<=i⟩
structure NAt (tp:Bool) (h:Heap) (e it a:Addr) (k:Nat):Prop where
 en:∃ old,zcn h e it k old
 li:ix tp h it a k
theorem Gy {P:XO}{w:X2}{K:W7}{es:List XG}{ek:Nat}{ep:Pos}{tp:Bool}{e it a:Addr}(n1:e≠it) :
  Turn P w K (.Tuple es ek ep) (Itn tp K a) [e,it] e (λk h=>NAt tp h e it a k) where
 mem:=by simp
 obj:=λk h S c hc=>by
  obtain ⟨⟨old,en⟩,li⟩:=S
  simp only[Xr,XW,or_false] at hc
  rcases hc with rfl | rfl
  ·exact ⟨_,en,λv y=>by cases y⟩
  ·obtain ⟨o,ho,vs,hd⟩:=li.ex;exact ⟨o,ho,λv y=>by rw[hd] at y;cases y⟩
 keep:=λk h g S kp=>by
  obtain ⟨⟨old,en⟩,li⟩:=S
  exact ⟨⟨old,kp e (by simp) _ en⟩,li.at λo q=>kp it (by simp) o q⟩
 item:=by
  intro X hP hw hK hc k pins s σ H E I hf S hg
  subst hP hw hK
  obtain ⟨xs,x,qa,ex⟩:=hg
  obtain ⟨⟨old,en⟩,li⟩:=S
  obtain ⟨ia,ra,sa⟩:=Inv.sq I qa
  obtain ⟨ux,hux,rx⟩:=ra.get ex
  have elt:e < s.heap.objs.size:=Xq en
  have fr:H s.heap.objs.size=none:=I.hok.fresh (Xs _)
  refine JD en li sa (x:=ux) (by simpa using hux) n1 λg eo li2 new al=>⟨_,rfl,wpAny_letOwnedTupleGo_enum eo λg2 en2 k2=>?_⟩
  have k2:ZV e g g2:=k2
  have all:∀ c o,c ∉ [e,it]->s.heap.get? c=some o->g2.get? c=some o:=λc o hc q=>by
   simp only[Xr,XW,or_false,not_or] at hc
   exact (k2.2 c hc.1).trans (al c o hc.1 hc.2 q)
  have new2:g2.get? s.heap.objs.size=some { cls:=.type "tuple", data:=.seq #[.int k s.toks,ux] }:=(k2.2 _ (Zz elt)).trans new
  have nfp:∀ c u,H c=some u->c ∉ [e,it]:=λc u q hc=>by rw[(hf c hc).1] at q;cases q
  refine ⟨.ref s.heap.objs.size,L2.upd H s.heap.objs.size (.tup [.int k,x]),?_,rfl,⟨x,_,λxs' q=>by rw[Inv.BL I q qa];exact ex,rfl,fr,rfl⟩,⟨⟨_,en2⟩,li2.at λo q=>(k2.2 it (XQ n1)).trans q⟩,λc hc=>?_⟩
  ·refine L2.Inv.step (s:=s) (H:=H) (H':=L2.upd H s.heap.objs.size (.tup [.int k,x])) (g':=s.gens) (d':=s.drawn) (t':=s.toks+1) (h':=g2) (ch:=[e,it]) I (λc hc=>⟨(hf c hc).2.2.2.1,(hf c hc).2.1,(hf c hc).2.2.2.2.1,(hf c hc).2.2.2.2.2⟩) (λc o _ _ hc q _=>all c o hc q) (λc o _ _ hc q _=>⟨o.slots,all c o hc q⟩) (λc o hc q n=>?_) (λc o hc q=>⟨o,all c o hc q⟩)
    (λc xs q=>?_) (λc o u q=>?_) (λc ps q=>⟨#[],?_⟩) (λm hm=>?_) (λc u q=>?_) I.bare
   ·rw[aP (XF (Xq q))];exact n
   ·rw[aP (bx q fr)];exact q
   ·rw[aP (bx q fr)];exact q
   ·rw[aP (bx q fr),q];simp
   ·obtain ⟨o,es',ep',ho,r⟩:=hm
    exact ⟨o,es',ep',all _ o (λhc=>(hf _ hc).2.1 rfl) ho,r⟩
   ·by_cases hcT:c=s.heap.objs.size
    ·subst hcT
     rw[aN] at q;cases q
     exact ⟨by show 2<=sizeLine;decide,[.int k s.toks,ux],.cons ⟨s.toks,rfl⟩ (.cons rx .nil),⟨_,new2⟩⟩
    ·rw[aP hcT] at q
     refine (I.hok c u q).o8 (λc' v hc' z=>all c' v ?_ z) (λc' z=>by rw[aP (bx z fr)];exact z) λc' xs z=>by rw[aP (bx z fr)];exact z
     rcases hc' with rfl | hc'
     ·exact nfp _ _ q
     ·exact nfp _ _ hc'
  ·have hcl:c≠s.heap.objs.size:=by
    simp only[Xr,XW,or_false] at hc
    rcases hc with rfl | rfl
    ·exact XF elt
    ·obtain ⟨o,q,_⟩:=li.ex;exact XF (Xq q)
   rw[aP hcl];exact (hf c hc).1
 done:=by
  intro X hP hw hK hc k pins s σ H E I hf S hg
  subst hP hw hK
  obtain ⟨xs,qa,he⟩:=hg
  obtain ⟨⟨old,en⟩,li⟩:=S
  obtain ⟨ia,ra,sa⟩:=Inv.sq I qa
  have la:=ra.length
  obtain ⟨f0,f1,f2,f3,f4,f5⟩:=hf it (by simp)
  exact L6 (I.ok.hd hc) en li sa (by simp;omega) λg eb=>⟨rfl,I.turned (t':=s.toks) (λb o hb q=>eb b o hb q) f0 f1 f3 f4 f5⟩
 self:=λ_ _ _ _ _ S h=>by
  obtain ⟨⟨old,en⟩,_⟩:=S
  exact zdW en h
def VE (K:W7)(t:TA):TI:=λσ H R=>t σ H λvs H1=>∃ (tp:Bool) (a:Addr),vs=[.ref a]/\(∃ xs,Sq tp K H1 a xs)/\R (Itn tp K a) H1
section
variable {X:Cx} {ea:XG} {es:List XG} {ek:Nat} {ep p pos:Pos}
theorem Sa {t:TA}(hg:Gl X "enumerate")(hm:X.mg "enumerate" = none)(ha:PA X [ea] t)(hs:Xp [ea] X.env=[(false,Yl ea X.env)]:=by rfl) :
  PI X (.Tuple es ek ep) (.Call (.Name "enumerate" p) [ea] [] pos) (VE X.K t):=by
 intro pins s σ H R I h
 refine Call_ (ij I hg hm boot_enumerate (Ya (thn (ha pos pins s σ H _ I h) λus s1 ⟨vs,H1,I1,r1,q1⟩=>?_) (by rw[hs];rfl) rfl))
 obtain ⟨tp,a,e,⟨xs,qa⟩,q⟩:=q1
 subst e
 cases r1 with | cons r rr=>
 cases rr
 cases (show _=XT a from r)
 obtain ⟨ia,ra,sa⟩:=Inv.sq I1 qa
 refine AW sa λg en li kp=>zdW en ?_
 refine ⟨s1.heap.objs.size+1,[s1.heap.objs.size+1,s1.heap.objs.size],_,_,H1,rfl,I1.kept (t':=s1.toks) kp,Gy (tp:=tp) (a:=a) (Nat.succ_ne_self _),⟨⟨_,en⟩,li⟩,λc hc=>?_,q⟩
 have hc':s1.heap.objs.size<=c:=by
  simp only[Xr,XW,or_false] at hc
  rcases hc with rfl | rfl
  ·exact zaT _
  ·exact Xs _
 exact I1.Fq hc' (I1.hok.fresh hc')
def uh (t:ATr):ATr:=λρ μ Q=>t ρ μ λvs μ1=>match vs with
 | [x]=>kS x λds=>Q (gn ds) μ1
 | _=>False
theorem pE {At:ATr}(hg:Gl X "enumerate")(hm:X.mg "enumerate" = none)(ha:LA X [ea] At)(hs:Xp [ea] X.env=[(false,Yl ea X.env)]:=by rfl) :
  LI X (.Tuple es ek ep) (.Call (.Name "enumerate" p) [ea] [] pos) (uh At):=by
 obtain ⟨t,pt,st⟩:=ha.ex
 refine ⟨_,Sa hg hm pt hs,λσ H ρ μ Q R rl h k=>st σ H ρ μ _ _ rl h λvs H1 ds μ1 t1 m1 p1 h1=>?_⟩
 split at h1
 case h_2=>exact Xf h1
 cases p1 with | cons pa p2=>
 cases p2
 obtain ⟨tp,a,xs,dx,rfl,qa,la,h2⟩:=A5 pa h1
 obtain ⟨a',xs',dx',ea',qa',la',h2⟩:=CC pa h2
 cases ea'
 refine ⟨tp,a,rfl,⟨xs',qa'⟩,k _ H1 _ μ1 t1 m1 ⟨λi H' tk hi=>?_,λi H' v H'' tk hi yv=>?_,λi H' tk hi=>?_⟩ h2⟩
 ·have l1:=la'.length
  rw[ug] at hi
  exact ⟨xs',xs'[i],tk.sq qa',by simp[show i < xs'.length by omega]⟩
 ·obtain ⟨x,q,fx,rfl,fr,rfl⟩:=yv
  have ex:=fx _ (tk.sq qa')
  obtain ⟨d,ed,pd⟩:=la'.get' ex
  have tn:Tk H' (L2.upd H' q (.tup [.int i,x])):=.new fr
  exact ⟨tn,⟨.tup [.int i,d],by rw[uJ,ed];rfl,.tup (SqT.of aN) (.cons (.int _) (.cons ((pd.mono tk).mono tn) .nil))⟩,λμ' m'=>b7 m' fr⟩
 ·rw[ug] at hi
  exact ⟨xs',tk.sq qa',by rw[la'.length];exact hi⟩
end
end
section
open PySem PySem.Spec PyProof PyProof.Rows L2
section
variable {w:X2} {prog:XO} {A:Yh} {E:Xb->Xe->Prop}
abbrev S8 (g:Heap)(b:Addr)(xs:Array Xb):Prop:=∃ n,g.get? b=some { cls:=.type "list", dict:=none,data:=.seq xs n,slots:=#[] }
section
variable {R:zd1->Xe->Prop} {I:Addr} {fp wr:List Addr} {n:Nat} {P:Nat->Xb->Prop} {St:Nat->Heap->Prop}
theorem LP (W:Walks prog w A.in1 I fp wr n P St){bt:Nat->Nat->Bool}(cm:CmpOf prog w A.in1 .Gt P bt){S:Addr}(hS:S ∉ fp)(kw:List (Str×Xb)) :
  ∀ (m:Nat) (j:Nat) (s:Xe) (vb:Xb),j+1+m=n->St (j+1) s.heap->P (zaC bt j) vb->S8 s.heap S #[vb,vb]->
  (∀ v g tk,P (zaC bt (n - 1)) v->(∀ c o,c ∉ wr->c≠S->s.heap.get? c=some o->g.get? c=some o)->R (.ok (.ret v)) { s with heap:=g,toks:=tk })->
  ZK (XD prog w) A (.builtin "max.loop" ⟨[.ref I,.none,.ref S],kw⟩) R s:=by
 have sw:S ∉ wr:=λh=>hS (W.sub _ h)
 have nm:(toString "max" ++ toString ".loop" : String) = "max.loop" := by decide
 intro m
 induction m with
 | zero=>
  intro j s vb en st pb ⟨ep,at'⟩ fin
  refine run_plain Y5 zb4 ?_
  show XB (XD prog w) A.in1 (zcZ (.ref S) >>= _) _ _ s
  refine W8 (Yr at' rfl ?_)
  show XB (XD prog w) A.in1 (tryCatch (zad (.ref I)) _ >>= _) _ _ s
  refine W8 (ZT (W.done s _ _ (by rw[← en];exact st) λg tk kp=>?_))
  have at1:=kp S _ sw at'
  show XB (XD prog w) A.in1 (updateSeq S (λ_=>#[]) >>= _) _ _ _
  refine W8 ?_
  refine zab at1 rfl ?_;refine W8 (ZQ (Xj ?_))
  exact fin vb _ tk (by rw[show n - 1=j by omega];exact pb) λc o c1 c2 e=>(Yj _ _ (XQ c2)).trans (kp c o c1 e)
 | succ m ih=>
  intro j s vb en st pb ⟨ep,at'⟩ fin
  refine run_plain Y5 zb4 ?_
  show XB (XD prog w) A.in1 (zcZ (.ref S) >>= _) _ _ s
  refine W8 (Yr at' rfl ?_)
  show XB (XD prog w) A.in1 (tryCatch (zad (.ref I)) _ >>= _) _ _ s
  refine W8 (ZT (W.item (j+1) s _ _ (by omega) st λv g tk pv st1 kp=>?_))
  have at1:=kp S _ sw at'
  show XB (XD prog w) A.in1 (tryCatch (zb7 [v,v] (richCompare .Gt v vb >>= _)) _ >>= _) _ _ _
  refine W8 (ZT (Zk (W8 (cm (j+1) (zaC bt j) v vb _ _ _ pv pb ?_))))
  refine W8 (Zk (YW (W8 (ZQ (Xj ?_)))))
  cases better:bt (j+1) (zaC bt j) with
  | true=>
   rw[if_pos rfl]
   have bst:zaC bt (j+1)=j+1:=by rw[zaC,if_pos better]
   refine W8 ?_
   refine zab at1 rfl ?_
   refine W8 (ZQ ?_)
   rw[nm]
   refine Xj ⟨Zo Y5 _,ih (j+1) _ v (by omega) (W.frame _ _ _ st1 λc hc o e=>(Yj _ _ (λz:S=c=>hS (by rw[z];exact hc))).trans e) (by rw[bst];exact pv) ⟨_,zaH _ at1 rfl⟩ λv' g' tk' p' kp'=>?_⟩
   exact fin v' g' tk' p' λc o c1 c2 e=>kp' c o c1 c2 ((Yj _ _ (XQ c2)).trans (kp c o c1 e))
  | false=>
   rw[if_neg Zy]
   have bst:zaC bt (j+1)=zaC bt j:=by rw[zaC,if_neg (by rw[better];exact Zy)]
   refine W8 (ZQ ?_)
   rw[nm]
   exact Xj ⟨Zo Y5 _,ih (j+1) _ vb (by omega) st1 (by rw[bst];exact pb) ⟨_,at1⟩ λv' g' tk' p' kp'=>fin v' g' tk' p' λc o c1 c2 e=>kp' c o c1 c2 (kp c o c1 e)⟩
theorem GH (W:Walks prog w A.in1 I fp wr n P St){bt:Nat->Nat->Bool}(cm:CmpOf prog w A.in1 .Gt P bt){S:Addr}(hS:S ∉ fp){s:Xe}{nm':Str}{d:Xb}(st:St 0 s.heap)(at0:S8 s.heap S #[])
  (f0:n=0->∀ g tk,(∀ c o,c ∉ wr->c≠S->s.heap.get? c=some o->g.get? c=some o)->R (.ok (.ret d)) { s with heap:=g,toks:=tk })
  (f1:∀ v g tk,0 < n->P (zaC bt (n - 1)) v->(∀ c o,c ∉ wr->c≠S->s.heap.get? c=some o->g.get? c=some o)->R (.ok (.ret v)) { s with heap:=g,toks:=tk }) :
  ZK (XD prog w) A (.builtin "max.loop" ⟨[.ref I,.none,.ref S],[(nm',d)]⟩) R s:=by
 have sw:S ∉ wr:=λh=>hS (W.sub _ h)
 have nm:(toString "max" ++ toString ".loop" : String) = "max.loop" := by decide
 obtain ⟨ep,at'⟩:=at0
 refine run_plain Y5 zb4 ?_
 show XB (XD prog w) A.in1 (zcZ (.ref S) >>= _) _ _ s
 refine W8 (Yr at' rfl ?_)
 show XB (XD prog w) A.in1 (tryCatch (zad (.ref I)) _ >>= _) _ _ s
 rcases Nat.eq_zero_or_pos n with hn | hn
 ·refine W8 (ZT (W.done s _ _ (by rw[hn];exact st) λg tk kp=>?_))
  show XB (XD prog w) A.in1 (rule _ >>= _) _ _ _
  exact W8 (Zx (Xj (f0 hn g tk λc o c1 c2 e=>kp c o c1 e)))
 ·refine W8 (ZT (W.item 0 s _ _ hn st λv g tk pv st1 kp=>?_))
  have at1:=kp S _ sw at'
  show XB (XD prog w) A.in1 (updateSeq S (λ_=>#[v,v]) >>= _) _ _ _
  refine W8 ?_
  refine zab at1 rfl ?_
  rw[nm]
  refine Xj ⟨Zo Y5 _,LP W cm hS _ (n - 1) 0 _ v (by omega) (W.frame _ _ _ st1 λc hc o e=>(Yj _ _ (λz:S=c=>hS (by rw[z];exact hc))).trans e) pv ⟨_,zaH _ at1 rfl⟩ λv' g' tk' p' kp'=>?_⟩
  exact f1 v' g' tk' hn p' λc o c1 c2 e=>kp' c o c1 c2 ((Yj _ _ (XQ c2)).trans (kp c o c1 e))
end
variable {s:Xe}
theorem EH (a d:Xb):argsOk "max" ⟨[a],[(OF "default", d)]⟩:=by unfold argsOk;kernel_rfl
theorem Fc (d:Xb):zbe "max" ["key", "default"] 0 ⟨[],[(OF "default", d)]⟩=pure [none,some d]:=by kernel_rfl
theorem Nz {id:String}{bi:zaR}{a:Args}{Q:Xb->Xe->Prop}(hk:builtinKind id=none)(hp:plainId id=true)(hb:entryFor table id=some bi)(ha:argsOk id a)
  (h:XB (XD prog w) A.in1 (bi a) (λfin s'=>match fin with
   | .done f=>(match (Except.ok f:zd1) with | .ok (.ret v)=>Q v s' | .ok _=>False | .error e=>E e s') | .again c'=>c'.quiet=true/\ZK (XD prog w) A c' (λr s'=>match r with | .ok (.ret v)=>Q v s' | .ok _=>False | .error e=>E e s') s') E s):XB (XD prog w) A (zcG (.builtin id) a.pos a.kw) Q E s:=by
 refine wpAny_call (codeAny_call_builtin hp hb ?_);simp only[checkBuiltinCall,hk]
 unfold argsOk at ha
 split<;>rename_i sg
 ·rw[sg] at ha
  have ha':Bind.checkArgs id _ a=pure ():=ha
  rw[show (⟨a.pos,a.kw⟩:Args)=a from rfl,ha']
  exact Xj h
 ·exact Xj h
theorem EV {l:Addr}{xs:Array (Int×Tok)}{d:Xb}{Q:Xb->Xe->Prop}(hh:A.handled=none)(hl:s.heap.IsList l (zaZ xs))
  (f0:xs.size=0->∀ g tk,Kept s g->Q d { s with heap:=g,toks:=tk })
  (f1:∀ v g tk,0 < xs.size->(zaZ xs)[zaC (λi j=>decide (zeh xs i > zeh xs j)) (xs.size - 1)]? = some v->Kept s g->Q v { s with heap:=g,toks:=tk }) :
  XB (XD prog w) A (zcG (.builtin "max") [.ref l] [(OF "default", d)]) Q E s:=by
 have nm:(toString "max" ++ toString ".loop" : String) = "max.loop" := by decide
 refine Nz (a:=⟨[.ref l],[(OF "default", d)]⟩) F.kind_max F.plain_max F.entry_max (EH _ _) ?_
 show XB (XD prog w) A.in1 (zbe "max" ["key", "default"] 0 ⟨[],[(OF "default", d)]⟩ >>= _) _ _ s
 refine W8 (zef (Fc d) ?_)
 refine W8 (Xj ?_)
 refine W8 (iter_intList hl λs₂ e st hfp hlI=>?_)
 subst e
 refine W8 (Yf ?_);rw[nm]
 have W:=zfd (prog:=prog) (w:=w) (A:=A.in1) hh _ l hlI (zaZ xs)
 have n1:(zaZ xs).size=xs.size:=by simp[zaZ]
 have S0:(s.heap.push { cls:=.type "list_iterator", data:=.fields #[.ref l,.int 0 0] }).objs.size ∉ [s.heap.objs.size,l]:=λhm=>Y2 _ (hfp _ hm)
 have old:∀ g,(∀ c o,c ∉ [s.heap.objs.size]->c≠(s.heap.push { cls:=.type "list_iterator", data:=.fields #[.ref l,.int 0 0] }).objs.size->((s.heap.push { cls:=.type "list_iterator", data:=.fields #[.ref l,.int 0 0] }).push { cls:=.type "list", data:=.seq ([]:List Xb).toArray }).get? c=some o->g.get? c=some o)->Kept s g:=λg kp c o e=>by
  have lt:=Xq e
  exact kp c o (λh=>by rw[Y7.mp h] at lt;exact Y2 _ lt) (by rw[ZR];exact XF (Nat.lt_succ_of_lt lt)) (Xa _ (Xa _ e))
 refine Xj ⟨Zo Y5 _,GH W (CmpOf.ints_gt (zeh xs) λ_ _=>intItems_at) S0 (W.frame _ _ _ st λc _ o e=>Xa _ e) ⟨_,Xu _ rfl⟩ (λz g tk kp=>?_) λv g tk hn pv kp=>?_⟩
 ·exact f0 (by rw[← n1];exact z) g tk (old g kp)
 ·rw[n1] at hn pv
  exact f1 v g tk hn pv (old g kp)
end
section
variable {X:Cx} {e d:XG} {p pos kp:Pos} {Te Td:ETr}
def Tj (K:W7)(xs:List V)(zs:List V)(H:Hp)(Q:VK):Prop:=∃ (p:Addr) (ns:List Int) (z:V),xs=[.ref p]/\zs=[z]/\SqL K H p (ns.map V.int)/\(ns=[]->Q z H)/\(ns≠[]->∀ M,M∈ns->(∀ a∈ns,a<=M)->Q (.int M) H)
theorem LK {t tk:TA}(hc:X.calm=true)(hg:Gl X "max")(hm:X.mg "max" = none)(ha:PA X [e] t)(hkw:PK X [⟨some (OF "default"),d,kp⟩] tk)(he:YA pos (Xp [e] X.env)=(false,Yl e X.env)::YA pos (Xp [] X.env):=by rfl)(hpl:(YA pos (Xp [e] X.env)).any (·.1)=false:=by rfl) :
  PE X (.Call (.Name "max" p) [e] [⟨some (OF "default"),d,kp⟩] pos) (λσ H Q=>t σ H λxs H1=>tk σ H1 λzs H2=>Tj X.K xs zs H2 Q):=by
 intro pins s σ H Q I h
 refine zaf (ij I hg hm (u:=.builtin "max") (by rfl) ?_)
 refine callWith_kw (thn (ha pos pins s σ H _ I h) λus s1 ⟨vs,H1,I1,r1,q1⟩=>thn (hkw pos pins s1 σ H1 _ I1 q1) λws s2 ⟨zs,H2,I2,rz,q2⟩=>?_) he hpl rfl rfl
 obtain ⟨q,ns,z,rfl,rfl,sq,k0,k1⟩:=q2
 obtain ⟨u,rfl,ru⟩:=vals1 r1
 cases ru
 obtain ⟨u,rfl,rz1⟩:=vals1 rz
 obtain ⟨its,rv,pl,_⟩:=I2.list sq
 obtain ⟨ps,rfl,rfl⟩:=g9 (intsAre_of rv)
 have il:s2.heap.IsList q (zaZ ps.toArray):=by
  have:=pl.isList
  simpa[zaZ] using this
 have hs:ps.toArray.size=ps.length:=by simp
 refine EV (I2.ok.hd hc) il (λz0 g tk kp=>?_) λv g tk hn hv hk=>?_
 ·exact ⟨z,H2,I2.kept kp,rz1,k0 (by rw[hs] at z0;cases ps with | nil=>rfl | cons=>cases z0)⟩
 ·rcases intItems_at hv with ⟨t,rfl⟩
  obtain ⟨b1,b2⟩:=argBest_gt (zeh ps.toArray) (ps.toArray.size - 1)
  generalize zaC (λi j=>decide (zeh ps.toArray i > zeh ps.toArray j)) (ps.toArray.size - 1)=m at hv b1 b2
  rw[hs] at b1 b2 hn
  have hk':m < (ps.map zeJ).length:=by rw[W9];omega
  refine ⟨.int _,H2,I2.kept hk,⟨t,rfl⟩,k1 (λz=>by rw[zc5.mp z] at hn;cases hn) _ ?_ λa ha=>?_⟩
  ·rw[qE,Xt hk']
   exact YS hk'
  ·obtain ⟨j,hj,rfl⟩:=Zq ha
   have:=b2 j (by rw[W9] at hj;omega)
   rw[qE ps j,Xt hj] at this
   exact this
def DW (Te Td:ETr):ETr:=λρ μ Q=>Te ρ μ λx μ1=>Td ρ μ1 λy μ2=>match x with
 | .ls xs=>∃ ns:List Int,xs=ns.map .int/\(ns=[]->Q y μ2)/\(ns≠[]->∀ M,M∈ns->(∀ a∈ns,a<=M)->Q (.int M) μ2)
 | _=>False
theorem Dw (hc:X.calm=true)(hg:Gl X "max")(hm:X.mg "max" = none)(ha:LE X e Te)(hd:LE X d Td)(h1:Xp [e] X.env=(false,Yl e X.env)::Xp [] X.env:=by rfl)(he:YA pos (Xp [e] X.env)=(false,Yl e X.env)::YA pos (Xp [] X.env):=by rfl)(hpl:(YA pos (Xp [e] X.env)).any (·.1)=false:=by rfl) :
  LE X (.Call (.Name "max" p) [e] [⟨some (OF "default"),d,kp⟩] pos) (DW Te Td):=by
 obtain ⟨te,pe,se⟩:=ha.ex
 obtain ⟨td,pd,sd⟩:=hd.ex
 refine ⟨_,LK hc hg hm (dB pe hX h1) (LV pd QY) he hpl,λσ H ρ μ Q Q' rl h k=>se σ H ρ μ _ _ rl h λx H1 dx μ1 t1 m1 p1 h1=>sd σ H1 ρ μ1 _ _ (rl.go t1 m1) h1 λy H2 dy μ2 t2 m2 p2 h2=>?_⟩
 cases (p1.mono t2) with
 | @ls q xs ds sq l=>
  obtain ⟨ns,rfl,k0,k1⟩:=h2
  have ex:=l.ints_of
  subst ex
  exact ⟨q,ns,y,rfl,rfl,sq.sq,λz=>k _ H2 _ μ2 (t1.trans t2) m2 p2 (k0 z),λz M h3 h4=>k _ H2 _ μ2 (t1.trans t2) m2 (.int _) (k1 z M h3 h4)⟩
 | _=>exact Xf h2
end
end
section
open PySem PySem.Spec PyProof.Rows L2
def wN (It':ATr)(G:GTr)(tt:TTr)(te:ETr)(n:Nat)(caps:List Nat):ETr:=λρ μ Q=>It' ρ μ λds μ1=>∀ p,μ1 p=none->fF p G tt te (eZ ρ n caps) (λμ'=>Q (.obj p) μ') ds (up μ1 p (.lst []))
theorem FU {X:Cx}{tg iter elt:XG}{ifs:List XG}{scope:Scope}{pos spos py:Pos}{y:Str}{iy:Nat}{wi:TI}{g:TG}{tt:TT}{te:TE}{Nc:List Str}{n:Nat}{caps:List Nat}
  (hxe:X.xe=λ_ _=>False) (hcalm:X.calm=true) (hi:PI X tg iter wi)
  (hbody:∀ (cl:List (Str×Addr)) (C:Addr) (s₀:Xe) (H₀:Hp) (ex:List Addr),PG (bf X scope Nc cl C s₀ H₀ ex) tg g/\yH (bf X scope Nc cl C s₀ H₀ ex) ifs tt/\PE (bf X scope Nc cl C s₀ H₀ ex) elt te)
  (hfree:∀ y∈scope.names,y.2=.free->X.env.kindOf y.1=some .cell) (hcell:∀ y∈scope.names,y.2≠.cell) (gk:scope.kind=.function)
  (hnames:∀ y∈scope.names,y.2=.local->scope.names.lookup y.1=some .local) (hlen:Nc.length=n+caps.length)
  (hcap:∀ (j k:Nat),caps[j]? = some k->∃ x,Nc[n+j]? = some x/\X.N[k]? = some x/\scope.names.lookup x=some .free)
  (pgy:PG X (.Name y py) (mq iy))
  (hsw:Y3 (.ListComp elt [⟨tg,iter,ifs,0⟩] scope pos) (some (.Name y py)) spos.line X.env=pure true)
  (hs:∀ x,X4 iter X.env x=pure x:=by intro _;rfl) :
  PS X (.Assign [.Name y py] (.ListComp elt [⟨tg,iter,ifs,0⟩] scope pos) spos) (GD (kT wi g tt te n caps) (mq iy)):=
 y3 (Z:=id) hxe hcalm hi hbody hfree hcell gk hnames hlen hcap pgy hsw (λσ H Q h=>⟨_,h,λpins D H5 s5 I5 q=>⟨H5,λ_ h=>h,I5,q⟩⟩) hs
theorem EL {K:W7}{wi:TI}{It':ATr}{G:GTr}{Tt:TTr}{Te:ETr}{n:Nat}{caps:List Nat}(si:Qu K wi It'):Sim K (kT wi (mE K n G) (liftT K Tt) (lW K Te) n caps) (wN It' G Tt Te n caps):=by
 intro σ H ρ μ Q Q' rl h k
 refine si σ H ρ μ _ _ rl h λJ H1 ds μ1 t1 m1 Y h1 D hD=>?_
 have hp:=h1 D (m1.free hD)
 have tD:Tk H1 (L2.upd H1 D (.lst [])):=.new hD
 have mD:bM K (L2.upd H1 D (.lst [])) (up μ1 D (.lst [])):=λa o e=>by
  by_cases ha:a=D
  ·subst ha
   rw[aI] at e;cases e
   exact ⟨[],aN,.nil⟩
  ·rw[aU ha] at e
   exact b7 m1 hD a o e
 refine ⟨λi m ys H2=>m=ds.length - i/\i<=ds.length/\Tk H1 H2/\∃ μ2,bM K H2 μ2/\fF D G Tt Te (eZ ρ n caps) (λμ'=>Q (.obj D) μ') (ds.drop i) μ2,
  ⟨ds.length,by simp,YG _,tD,_,mD,by simpa using hp⟩,?_⟩
 rintro i m ys H2 ⟨rfl,hi,t12,μ2,m2,h2⟩
 by_cases hlt:i < ds.length
 ·refine .inr ⟨Y.go i H2 t12 hlt,λys' H'=>Tk H1 H'/\∃ μ',bM K H' μ'/\fF D G Tt Te (eZ ρ n caps) (λμ'=>Q (.obj D) μ') (ds.drop (i+1)) μ',λys' H' ⟨t',μ',m',h'⟩=>⟨ds.length - (i+1),by omega,rfl,hlt,t',μ',m',h'⟩,λx H3 y=>?_⟩
  obtain ⟨t23,⟨d,ed,pd⟩,mk⟩:=Y.yld i H2 x H3 t12 hlt y
  have e:ds.drop i=d::ds.drop (i+1):=by
   refine (YO hlt).trans ?_
   congr 1
   rw[Xt hlt] at ed
   exact XY ed
  rw[e] at h2
  have t13:=t12.trans t23
  have r3:Rl K (ko σ n caps) H3 (eZ ρ n caps) μ2:=pw (rl.go (t1.trans t13) (mk _ m2)) n caps
  refine ⟨_,_,d,_,r3,pd,h2,λσ4 H4 ρ4 μ4 t4 r4 kp h4=>⟨⟨kp.1.symm,λj v ej=>?_⟩,_,_,_,r4,h4,λb H5 μ5 t5 m5 h5=>?_⟩⟩
  ·by_cases hj:n<=j
   ·rw[kp.2 j hj];exact ej
   ·obtain ⟨j',k',e1,_⟩:=jK ej
    omega
  ·have t15:=t13.trans (t4.trans t5)
   cases b with
   | false=>exact rD ⟨t15,μ5,m5,h5⟩
   | true=>
    refine p8 ⟨_,_,_,r4.go t5 m5,h5,λv H6 d6 μ6 t6 m6 p6 h6=>?_⟩
    obtain ⟨zs,ez,lz,h7⟩:=bT h6
    obtain ⟨xs,ex,lx⟩:=m6 D _ ez
    have t67:Tk H6 (L2.upd H6 D (.lst (xs++[v]))):=.upd (λys z=>by rw[ex] at z;cases z) λo' u z=>by rw[ex] at z;cases z
    refine ⟨xs,ex,by rw[lx.length];exact Xw lz (by decide),(t15.trans t6).trans t67,up μ6 D (.lst (zs++[d6])),λa o ea=>?_,h7⟩
    by_cases ha:a=D
    ·subst ha
     rw[aI] at ea;cases ea
     exact ⟨_,aN,(lx.append (.cons p6 .nil)).mono t67⟩
    ·rw[aU ha] at ea
     exact (m6 a _ ea).ne t67 ha
 ·have e:i=ds.length:=by omega
  subst e
  rw[Y4] at h2
  exact .inl ⟨Y.stop _ H2 t12 (Xs _),k _ _ _ μ2 (t1.trans t12) m2 (.obj _) h2⟩
theorem G7 {X:Cx}{tg elt iter:XG}{Te:ETr}{Tt:TTr}{pos spos py:Pos}{y:Str}{It':ATr}{G:GTr}{ifs:List XG}{scope fsc:Scope}(iy:Nat)(hN:X.N.Nodup)(XN Nc:List Str)(n:Nat)(caps:List Nat)(hxe:X.xe=λ_ _=>False)(hcalm:X.calm=true)(hi:LI X tg iter It')
  (hbody:∀ (cl:List (Str×Addr)) (C:Addr) (s₀:Xe) (H₀:Hp) (ex:List Addr),LGc (bf X scope Nc cl C s₀ H₀ ex) n tg G/\xp (bf X scope Nc cl C s₀ H₀ ex) ifs Tt/\LE (bf X scope Nc cl C s₀ H₀ ex) elt Te)
  (hsc:X.env.scope=fsc) (hXN:X.N=XN) (hok:ik fsc.names XN scope Nc n caps=true)
  (hiy:X.N[iy]? = some y:=by rfl) (hx:Loc X.env.scope y:=by first | exact zay rfl | exact zaz rfl) (hf:X.fn y=true∨X.env.scope.names.lookup y=some .local:=by first | exact .inl rfl | exact .inr rfl | assumption)
  (hsw:Y3 (.ListComp elt [⟨tg,iter,ifs,0⟩] scope pos) (some (.Name y py)) spos.line X.env=pure true:=by rfl)
  (hs:∀ x,X4 iter X.env x=pure x:=by intro _;rfl) :
  LS X (.Assign [.Name y py] (.ListComp elt [⟨tg,iter,ifs,0⟩] scope pos) spos) (aO (wN It' G Tt Te n caps) (ay iy)):=by
 unfold ik at hok
 simp only[XX,ZZ] at hok
 obtain ⟨⟨⟨h1,h2⟩,h3⟩,h4⟩:=hok
 obtain ⟨wi,pi,si⟩:=hi.ex
 refine ⟨_,FU (g:=mE X.K n G) (tt:=liftT X.K Tt) (te:=lW X.K Te) hxe hcalm pi (λcl C s₀ H₀ ex=>let ⟨h1,h2,h3⟩:=hbody cl C s₀ H₀ ex;⟨h1.pe,h2.pe,h3.pe⟩) (λy hy hf=>?_) (λy hy hf=>?_) (by simpa using h2) (λy hy hf=>?_) (by simpa using h3) (λj k hj=>?_) (iW hN hiy hx hf) hsw hs,λσ H ρ μ E E' rl h k=>EL si σ H ρ μ _ _ rl h λv H' d μ' t' m' p' h'=>iI iy σ H' ρ μ' v d _ _ (rl.go t' m') p' h' (k.go t').nx⟩
 ·have:=(h1 y hy).1.1
  show X.env.scope.names.lookup y.1=_
  rw[hsc]
  simpa[hf] using this
 ·have:=(h1 y hy).1.2
  simp[hf] at this
 ·have:=(h1 y hy).2
  simpa[hf] using this
 ·have hl:j < caps.length:=(XR.mp hj).1
  have:=h4 j (Zr.mpr hl)
  rw[hj] at this
  dsimp only at this
  rw[hXN]
  cases e:XN[k]? with
  | none=>rw[e] at this;cases this
  | some x=>
   rw[e] at this
   dsimp only at this
   rw[XX] at this
   exact ⟨x,by simpa using this.1,rfl,by simpa using this.2⟩
section
variable {X:Cx} {o i:XG} {To Ti:ETr} {apos cpos:Pos}
end
end
section
open PySem PySem.Spec PyProof.Rows L2
section
variable {X:Cx} {o i:XG} {To Ti:ETr} {apos cpos:Pos}
theorem BB (l:Addr)(its:Array Xb)(n:Nat)(q:Addr)(its2:Array Xb)(n2:Nat)(dd:Option Addr)(sl:Array (Option Xb))(h0:¬ (!its.isEmpty&&YB (its.size+its2.size))=true)(h1:its.size<=sizeLine)(h2:its.size+its2.size<=sizeLine+1) :
  Meets (zaR.«list.extend» ⟨[.ref l,.ref q],[]⟩) (λ_ R s=>s.heap.get? l=some { cls:=.type "list", dict:=none,data:=.seq its n,slots:=#[] }/\s.heap.get? q=some { cls:=.type "tuple", dict:=dd,data:=.seq its2 n2,slots:=sl }/\
   R (.ok (.ret YX)) { s with heap:=s.heap.update l (zce λx=>x++its2) }):=
 .of_wp λprog w A R s h=>by
  rcases s with ⟨hp,g,d,tk,os⟩
  obtain ⟨hl,hb,h⟩:=h
  have z1:=zcm
  have z2:=zaO
  have z3:=za8
  have z4:=zaW
  have z5:=zaX
  have hz':(its++its2).size<=sizeLine+1:=by rw[zdQ];omega
  wp_walk using (zab hl rfl (hz:=h1) (_hz':=hz')),za9 hl,za9 hb
  exact ⟨_,rfl,h⟩
def T5 (K:W7):V->List V->Hp->VK->Prop:=λx vs H Q=>∃ l b xs zs,x=.ref l/\vs=[.ref b]/\H l=some (.lst xs)/\(SqL K H b zs∨SqT K H b zs)/\xs.length+zs.length<=sizeLine/\Q .non (L2.upd H l (.lst (xs++zs)))
theorem Ni:MtM X "list.extend" (T5 X.K):=by
 intro pins s σ H x vs v us Q I rx rv h
 obtain ⟨l,q,xs,zs,rfl,rfl,hH,hB,hz,qq⟩:=h
 rcases hB with hB | hB
 ·exact Pu pins s σ H _ _ v us Q I rx rv ⟨l,q,xs,zs,rfl,rfl,hH,hB,hz,qq⟩
 cases (show v=XT l from rx)
 obtain ⟨u,rfl,ru⟩:=rv.one
 cases (show u=XT q from ru)
 obtain ⟨z,its,n,r,hl,e⟩:=I.KY hH
 obtain ⟨its2,r2,⟨o,e2,c2,n2,dat2⟩,_⟩:=I.tuple hB
 have e2':s.heap.get? q=some ⟨.type "tuple", o.dict,.seq its2.toArray n2,o.slots⟩:=by
  rw[e2];obtain ⟨c',dd,dt,sl⟩:=o;simp only at c2 dat2;subst c2 dat2;rfl
 have hl2:=r2.length
 have hs2:its.toArray.size+its2.toArray.size<=sizeLine:=by rw[Xv,Xv];omega
 have Kd:¬ (!its.toArray.isEmpty&&YB (its.toArray.size+its2.toArray.size))=true:=by
  rw[yi hs2,zcP];decide
 refine zbq zdw ⟨_,e,rfl⟩ zc4 (zcQ _ _) (BB l its.toArray n q its2.toArray n2 o.dict o.slots Kd (by omega) (by omega)) ⟨e,e2',?_⟩
 refine ⟨.non,_,I.Nh (its':=its++its2) hH e (by simp) (r.append r2) ?_,rfl,qq⟩
 rw[Xi];omega
def y1 (To Ti:ETr):ETr:=λρ μ Q=>To ρ μ λx μ1=>kObj x λa=>kL μ1 a λ_=>Ti ρ μ1 λy μ2=>Fw μ2 y λes=>kL μ2 a λds=>ds.length+es.length<=1000000/\Q .non (up μ2 a (.lst (ds++es)))
theorem IC {K:W7}{H:Hp}{μ:Mu}{x:V}{dx:D}{f:List D->Prop}(m:bM K H μ)(p:Dp K H x dx)(h:Fw μ dx f):∃ q xs ds,x=.ref q/\(SqL K H q xs∨SqT K H q xs)/\DpL K H xs ds/\f ds:=by
 cases p with
 | tup sq l=>exact ⟨_,_,_,rfl,.inr sq,l,h⟩
 | ls sq l=>exact ⟨_,_,_,rfl,.inl sq.sq,l,h⟩
 | obj q=>
  obtain ⟨ds,e0,h⟩:=bT (show kL μ q _ from h)
  obtain ⟨xs,ex,l⟩:=m q _ e0
  exact ⟨q,xs,ds,rfl,.inl (SqL.of ex),l,h⟩
 | _=>exact Xf h
theorem wU (ho:LE X o To)(hi:LE X i Ti)
  (hbase:Z7 o "extend" X.env (Yl o X.env)=Yl o X.env:=by rfl)
  (hfew:((YA cpos (Xp [i] X.env)).all (λx=>!x.1)&&(zbl cpos (ZM [] X.env)).all (λx=>x.1.isSome)
   && decide (([i]:List XG).length+([]:List ZW).length+(if ([]:List ZW).isEmpty then 0 else 1) < 30))=true:=by rfl)
  (hline:(apos.endLine == cpos.line)=true:=by rfl) (hs:Xp [i] X.env=(false,Yl i X.env)::Xp [] X.env:=by rfl) (hplain:(YA cpos (Xp [] X.env)).any (·.1)=false:=by rfl) :
  LE X (.Call (.Attribute o "extend" apos) [i] [] cpos) (y1 To Ti):=by
 obtain ⟨to,po,so⟩:=ho.ex
 obtain ⟨ti,pi,si⟩:=hi.ex
 refine ⟨_,C0 Zu PySem.F.slot_list_extend PySem.F.type_list_extend Ni po (dB pi hX hs) hbase hfew hline hs hplain,λσ H ρ μ Q Q' rl h k=>so σ H ρ μ _ _ rl h λx H1 dx μ1 t1 m1 p1 h1=>?_⟩
 obtain ⟨q,rfl,h1⟩:=eL p1 h1
 obtain ⟨ds0,e0,h1⟩:=bT h1
 obtain ⟨xs0,ex0,_⟩:=m1 q _ e0
 refine ⟨.inl ⟨rfl,_,SqL.of ex0⟩,si σ H1 ρ μ1 _ _ (rl.go t1 m1) h1 λy H2 dy μ2 t2 m2 p2 h2=>?_⟩
 obtain ⟨q',ys,es,rfl,sq,l',h2⟩:=IC m2 p2 h2
 obtain ⟨ds,e2,hz,h2⟩:=bT h2
 obtain ⟨xs,ex,l⟩:=m2 q _ e2
 exact ⟨q,q',xs,ys,rfl,rfl,ex,sq,by rw[l.length,l'.length];exact big hz,k _ _ _ _ ((t1.trans t2).trans (kY ex)) (Jj m2 ex (l.append l')) .non h2⟩
end
end
theorem Mr (a b:ETr)(ρ:ST)(μ:Mu)(Q:DK):Iz a b ρ μ Q=a ρ μ λx μ1=>b ρ μ1 λy μ2=>kI x λi=>kI y λj=>((-4611686018427387904<=i/\i < 4611686018427387904)/\(-4611686018427387904<=j/\j < 4611686018427387904)/\(j - i).toNat<=1000000)/\Q (.tup (bX i (j - i).toNat)) μ2:=propext Xc
def QI (x y:D)(μ:Mu)(Q:DK):Prop:=match x with
 | .ls xs=>∃ ns:List Int,xs=ns.map .int/\(ns=[]->Q y μ)/\(ns≠[]->∀ M,M∈ns->(∀ a∈ns,a<=M)->Q (.int M) μ)
 | _=>False
theorem KU (a b:ETr)(ρ:ST)(μ:Mu)(Q:DK):DW a b ρ μ Q=a ρ μ λx μ1=>b ρ μ1 λy μ2=>QI x y μ2 Q:=propext Xc
theorem Od (a b:ETr)(ρ:ST)(μ:Mu)(Q:DK):y1 a b ρ μ Q=a ρ μ λx μ1=>kObj x λa=>kL μ1 a λ_=>b ρ μ1 λy μ2=>Fw μ2 y λes=>kL μ2 a λds=>ds.length+es.length<=1000000/\Q .non (up μ2 a (.lst (ds++es))):=propext Xc
theorem SR (μ:Mu)(ds:List D)(f:List D->Prop):Fw μ (.tup ds) f=f ds:=propext Xc
theorem Qz (μ:Mu)(ds:List D)(f:List D->Prop):Fw μ (.ls ds) f=f ds:=propext Xc
def ENM (vs:List D)(μ:Mu)(Q:List D->Mu->Prop):Prop:=match vs with
 | [x]=>kS x λds=>Q (gn ds) μ
 | _=>False
theorem LY (t:ATr)(ρ:ST)(μ:Mu)(Q:List D->Mu->Prop):uh t ρ μ Q=t ρ μ λvs μ1=>ENM vs μ1 Q:=propext Xc
theorem UK (x:D)(μ:Mu)(Q:List D->Mu->Prop):ENM [x] μ Q=kS x λds=>Q (gn ds) μ:=propext Xc
def OH (G:GTr)(tt:TTr)(te:ETr)(ρc:ST)(ds:List D)(μ:Mu)(Q:DK):Prop:=∀ p,μ p=none->fF p G tt te ρc (λμ'=>Q (.obj p) μ') ds (up μ p (.lst []))
theorem KG (it:ATr)(G:GTr)(tt:TTr)(te:ETr)(n:Nat)(caps:List Nat)(ρ:ST)(μ:Mu)(Q:DK):wN it G tt te n caps ρ μ Q=it ρ μ λds μ1=>OH G tt te (eZ ρ n caps) ds μ1 Q:=propext Xc
theorem JY (xs:List D)(μ:Mu)(Q:DK):ie rf [.tup xs] μ Q = ∃ ns:List Int,(xs=ns.map .int/\ns.length < 64)/\∀ ns':List Int,ns'.Perm ns->ns'.Pairwise (·<=·)->Q (.ls (ns'.map .int)) μ:=propext Xc
theorem Mg (xs:List D)(μ:Mu)(Q:DK):ie CP [.ls xs] μ Q = ∃ ns:List Int,xs=ns.map .int/\Q (.int ns.sum) μ:=propext Xc
theorem Vb (o:Option Int)(μ Q):rIs (c5 o) .non μ Q=Q (.bl (decide (o=none))) μ:=by cases o<;>simp[rIs,c5]
def d7 (ns:List Int):List Int:=ns.mergeSort (λa b=>decide (a<=b))
theorem gv (ns:List Int):(d7 ns).Perm ns:=List.mergeSort_perm ..
theorem pX (ns:List Int):(d7 ns).Pairwise (·<=·):=by
 have:=List.pairwise_mergeSort (le:=λa b:Int=>decide (a<=b)) (λa b c h1 h2=>by simp at *;omega) (λa b=>by simp;omega) ns
 exact this.imp λh=>by simpa using h
theorem jC:∀ {a b:List Int},a.Perm b->a.Pairwise (·<=·)->b.Pairwise (·<=·)->a=b
 | [],b,h,_,_=>(List.nil_perm.mp h).symm
 | x::a,[],h,_,_=>absurd h (by simp)
 | x::a,y::b,h,ha,hb=>by
  have ha':=zai.mp ha
  have hb':=zai.mp hb
  have hx:x∈y::b:=h.mem_iff.mp Xl
  have hy:y∈x::a:=h.mem_iff.mpr Xl
  have e:x=y:=by
   rcases Xr.mp hx with e | e
   ·exact e
   ·rcases Xr.mp hy with e' | e'
    ·exact e'.symm
    ·have h1:=ha'.1 y e'
     have h2:=hb'.1 x e
     omega
  subst e
  rw[jC ((List.perm_cons x).mp h) ha'.2 hb'.2]
theorem y8 {a ns:List Int}(h:a.Perm ns)(s:a.Pairwise (·<=·)):a=d7 ns:=jC (h.trans (gv ns).symm) s (pX ns)
theorem m7 (ns:List Int):(d7 ns).length=ns.length:=(gv ns).length_eq
def own (n:Str)(ls:List Lt):List Lt:=ls.filter λl=>decide (l.nm=n)
def St'.und (x:St')(n:Str):Int:=(x.ws.map λw=>((own n (w.cm++w.st)).length:Int)).sum
def gE (lf:Option Int)(places:Int):Int:=match lf with
 | none=>places
 | some l=>min places l
def rgI (a:Int)(n:Nat):List Int:=(XJ n).map λ(i:Nat)=>a+(i:Int)
theorem Ut (a:Int)(n:Nat):bX a n=(rgI a n).map .int:=by unfold bX rgI;rw[Xg];rfl
def Ss.fill (x:Ss)(pl:Nat):Ss×List Int:=
 let c:=gE x.lf ((pl:Int) - ((x.ag.take pl).length:Int))
 (⟨x.nm,x.du,x.W,x.S,x.nx+c,x.lf.map (· - c),x.ag.drop (x.ag.take pl).length,x.lo,x.gd,x.mk',x.wt⟩,x.ag.take pl++rgI x.nx c.toNat)
def Ss.hd (x:Ss):Hd:=⟨x.gd,x.mk',x.lo.length,x.wt⟩
def Ss.rdy (g:Int)(R:RN)(x:Ss):Ss:=⟨x.nm,x.du,(R.beh g x.W x.S x.hd).1,(R.beh g x.W x.S x.hd).2,x.nx,x.lf,d7 (x.ag++x.lo),[],0,0,0⟩
def Ss.bt (g:Int)(s:Sn)(x:Ss)(u:Int):Ss×List Int:=if x.du=some 0 then (x.rdy g s.rl).fill (max 0 ((s.rl.beh g x.W x.S x.hd).1 / g - u)).toNat else (x,[])
def cJ (ns:List (List Int)):Nat:=(ns.map Yy).foldr max 0
def kA (ss:List Sn)(ns:List (List Int)):List (Str×Lt):=
 (XJ (cJ ns)).flatMap λt=>(Xm ss ns).filterMap λp=>p.2[t]?.map λn=>(p.1.rd.headD (OF ""),⟨p.1.nm,n,0,0,0⟩)
def sdD (x:Str×Lt):D:=.tup [.str x.1,x.2.toD]
structure Wt where
 ca:List Lt
 lo:List Lt
 ou:List Lt
 st:List Lt
 la:Str
def Wt.toD (x:Wt):D:=.tup [.tup (ltD x.ca),.tup (ltD x.lo),.tup (ltD x.ou),.tup (ltD x.st),.str x.la]
def pass (w:Wy)(ns:List Str)(k:Ws)(aT:List (Str×Lt)):Wt:=
 let ca:=k.cm++(aT.filter λx=>decide (x.1=w.nm)).map (·.2)
 let h:=tk w k.st ca
 let t:=cx w ns h.1 k.la
 ⟨ca,h.2,t.1,t.2.1,t.2.2⟩
def kq (ss:List Sn):List (L2.Key×D):=ss.map λs=>(.inr s.nm,.tup (s.rd.map .str))
def road (ss:List Sn)(n:Str):List Str:=((ss.find? λs=>decide (s.nm=n)).map Sn.rd).getD []
def cX (ss:List Sn)(l:Lt):Option Str:=(road ss l.nm)[l.hp.toNat+1]?
def xH:Option Str->D
 | none=>.non
 | some s=>.str s
structure Ev where
 wd:Str
 nm:Str
 nu:Int
 wy:Str
def Ev.toD (x:Ev):D:=.tup [.str x.wd,.str x.nm,.int x.nu,.str x.wy]
abbrev evD (xs:List Ev):List D:=xs.map Ev.toD
def evs (ss:List Sn)(w:Wy)(x:Wt):List Ev:=
 (x.ca.zipIdx.map λp=>⟨if (p.2:Int) < (x.ca.length:Int) - x.lo.length then OF "in" else OF "lost", p.1.nm,p.1.nu,w.nm⟩) ++
 x.ou.map λl=>⟨if cX ss l=none then OF "taken" else OF "out", l.nm,l.nu,w.nm⟩
def Lt.lI (x:Lt)(h:Int):Lt:=⟨x.nm,x.nu,x.ag+1,x.hp+h,x.mr⟩
def EE (ss:List Sn)(w:Wy)(x:Wt)(out:List Lt):Ws:=⟨(out.filter λl=>decide (cX ss l=some w.nm)).map (·.lI 1),x.st.map (·.lI 0),x.la⟩
def El (s:Sn)(d:Option Int):Option Int:=d.map λi=>if i=0 then s.bt - 1 else i - 1
def sA (d:Int):List Int->Int
 | []=>d
 | a::r=>(a::r).tail.foldl max a
def sW (s:Sn)(x:Ss)(bC taken:List Lt):Ss:=
 let o:=own s.nm taken
 let m:=(o.map Lt.mr).sum
 ⟨x.nm,El s x.du,x.W,x.S,x.nx,x.lf,x.ag,d7 (x.lo++(own s.nm bC).map Lt.nu),x.gd+o.length - m,x.mk'+m,max x.wt (sA 0 (o.map λl=>l.ag - l.hp))⟩
def Pn.bE (p:Pn)(st:St'):List (Ss×List Int):=Yk (λs k=>k.bt p.g s (st.und k.nm)) p.ss st.ss
def Pn.aT (p:Pn)(st:St'):List (Str×Lt):=kA p.ss ((p.bE st).map (·.2))
def Pn.bR (p:Pn)(st:St'):List Wt:=Yk (λw k=>pass w p.sn k (p.aT st)) p.ws st.ws
def Pn.bC (p:Pn)(st:St'):List Lt:=(p.bR st).flatMap Wt.lo
def Pn.out (p:Pn)(st:St'):List Lt:=(p.bR st).flatMap Wt.ou
def Pn.taken (p:Pn)(st:St'):List Lt:=(p.out st).filter λl=>decide (cX p.ss l=none)
def Pn.step (p:Pn)(st:St'):St':=⟨Yk (λw x=>EE p.ss w x (p.out st)) p.ws (p.bR st),Yk (λs b=>sW s b.1 (p.bC st) (p.taken st)) p.ss (p.bE st)⟩
def Pn.evs (p:Pn)(st:St'):List Ev:=(p.aT st).map (λx=>⟨OF "sent", x.2.nm,x.2.nu,x.1⟩)++(Yk (λw x=>L3.evs p.ss w x) p.ws (p.bR st)).flatten
theorem VC (x:Wt)(μ:Mu)(Q:DK):L3.rIx x.toD (.int 0) μ Q=Q (.tup (ltD x.ca)) μ:=propext Xc
theorem WR (x:Wt)(μ:Mu)(Q:DK):L3.rIx x.toD (.int 1) μ Q=Q (.tup (ltD x.lo)) μ:=propext Xc
theorem WL (x:Wt)(μ:Mu)(Q:DK):L3.rIx x.toD (.int 2) μ Q=Q (.tup (ltD x.ou)) μ:=propext Xc
theorem V6 (x:Wt)(μ:Mu)(Q:DK):L3.rIx x.toD (.int 3) μ Q=Q (.tup (ltD x.st)) μ:=propext Xc
theorem V9 (x:Wt)(μ:Mu)(Q:DK):L3.rIx x.toD (.int 4) μ Q=Q (.str x.la) μ:=propext Xc
theorem Tg (i0 i1:Nat)(x:Str×Lt)(ρ:ST)(μ:Mu)(k:ST->Mu->Prop):dh [i0,i1] (sdD x) ρ μ k=dh [i0,i1] (.tup [.str x.1,x.2.toD]) ρ μ k:=propext Xc
def RN.sh1 (R:RN)(g S:Int)(h:Hd):Int:=if R.idle h then S else R.shr g S h
theorem M6 (R:RN)(g W S:Int)(h:Hd):(R.beh g W S h).2=R.sh1 g S h:=by
 unfold RN.beh RN.sh1;split<;>rfl
theorem RD {R:RN}(k:R.Ok){g S:Int}{h:Hd}(H:h.Ok)(g0:0 < g)(S0:0<=S)(S1:S<=g):0<=R.sh1 g S h/\R.sh1 g S h<=g:=by
 unfold RN.sh1
 split
 ·exact ⟨S0,S1⟩
 ·rename_i hn;exact Ks k H hn g0 S0 S1
theorem Lz {R:RN}(K:R.Ok){g:Int}(g0:0 < g)(x:Int):g<=R.clip g x/\R.clip g x<=R.cap g:=by
 have c2:=Hv K (g:=g) g0
 unfold RN.clip;omega
def Va:=Jn @Mr <| Jn @KU <| Jn @Od <| Jn @SR <| Jn @Qz <| Jn @LY <| Jn @UK <| Jn @KG <| Jn @JY <| Jn @Mg <| Jn @Vb <| Jn @VC <| Jn @WR <| Jn @WL <| Jn @V6 <| Jn @V9 <| Jn @Tg <| @Vf
local macro_rules | `(tactic| walk_at "go")=>zzS "↓L3.Va L3.EK ↓L3.yt ↓L3.xc ↓L3.zD ↓L3.ym ↓L3.zQ ↓L3.xE ↓L3.ke ↓L3.iP L3.cq L3.bY L3.cw L3.cy L3.cv L3.cz L3.cW L3.cR L3.bZ L3.cp L3.cA L3.cB L3.cu L3.cT L3.cE L3.cV L3.ck L3.cQ L3.cC L3.cU L3.iS L3.wK L3.vC L3.eZ List.map_cons List.map_nil List.replicate List.cons_append List.nil_append L3.lk L3.CH L3.Cm L3.Fx L3.Eh L3.fj L3.qf L3.nC L3.uf L3.uu L3.mT L3.mK L3.kc L3.kg L3.kb L3.ka true_and and_true and_self Bool.not_true Bool.not_false decide_true decide_false Bool.or_true Bool.or_false Bool.true_or Bool.false_or Bool.and_false Bool.false_and Bool.and_true Bool.true_and Int.reduceToNat Int.reducePow Int.reduceNeg Int.reduceSub Int.reduceAdd Int.reduceMul Int.reduceEq Int.reduceLT Int.reduceLE Int.reduceBEq L3.iA L3.fN L3.f6 L3.fI L3.fH L3.fO L3.fP L3.fX if_true if_false Bool.false_eq_true reduceCtorEq decide_eq_true_eq"
theorem eE {α β:Type}(p:α->Prop) [DecidablePred p] (f:α->β):∀ xs:List α,xs.filterMap (λx=>if p x then some (f x) else none)=(xs.filter λx=>decide (p x)).map f
 | []=>rfl
 | x::r=>by by_cases h:p x<;>simp[h,eE p f r]
theorem KR {μ:Mu}{Q:DK}(ls:List Lt)(n:Str)(hl:ls.length<=900000)(ok:∀ x∈ls,Xk x.nm=true)(hn:Xk n=true)(k:Q (.ls (ltD (own n ls))) μ) :
  qx (ay 0) (TB (aj rEq (aj rIx (ah 0) (TC (.int 0))) (ah 1))) (ah 0) [none,some (.str n)] (ltD ls) μ Q:=by
 refine jJ ls Lt.toD (λx=>if x.nm=n then some x.toD else none) rfl (by omega) (λx hx μ' _ N nn=>?_) ?_
 ·walk_at "go"
  refine ⟨⟨ok x hx,hn⟩,kif (λh=>?_) (λh=>?_)⟩
  ·rw[if_pos h] at nn;exact nn
  ·rw[if_neg h] at nn;exact nn
 ·rw[eE (λx:Lt=>x.nm=n) Lt.toD];exact k
def S6 (ls:List Lt):Prop:=∀ x∈ls,Xk x.nm=true
structure Ws.Ok (w:Ws):Prop where
 n:S6 (w.cm++w.st)
 l:w.cm.length+w.st.length<=900000
def fW:FSp:=λds μ Q=>kcA ds λd ds=>kcS ds λn ds=>kcN ds (∃ (g:Int) (x:St'),(d=x.toD g/\(∀ w∈x.ws,w.Ok)/\Xk n=true)/\Q (.int (x.und n)) μ)
theorem tJ:∀ ds μ Q,fW ds μ Q->ds.length=2:=λ_ _ _ h=>lcA h λ_ _ h=>lcS h λ_ _ h=>by rw[(ecN h).1];rfl
def nV:STr:=aA (aO (TC (.int 0)) (ay 2)) (aA (eG (cN (aj L3.rIx (ah 0) (TC (.int 0)))) (ay 3) (N0 (λm n=>m+n) 2 (au c8 (af (bK (cN (aj aQ (aj L3.rIx (ah 3) (TC (.int 0))) (aj L3.rIx (ah 3) (TC (.int 1))))) (ay 0) (TB (aj rEq (aj L3.rIx (ah 0) (TC (.int 0))) (ah 1))) (ah 0) 1 [1]) (ao))))) (aV (ah 2)))
theorem wX:∀ ds μ Q,fW ds μ Q->nV { nx:=λ_ μ'=>RT Q .non μ',rt:=RT Q } (ini 4 ds) μ:=by
 intro ds μ Q h
 replace h:=ecA h
 obtain ⟨d,ds,rfl,h⟩:=h
 replace h:=ecS h
 obtain ⟨n,ds,rfl,h⟩:=h
 replace h:=ecN h
 obtain ⟨rfl,h⟩:=h
 walk_at "ini"
 unfold nV
 walk_at "go"
 obtain ⟨g,x,⟨rfl,hw,hn⟩,k⟩:=h
 walk_at "go"
 refine bu (λr ρ μ'=>∃ (a c:List Ws) (v3:Option D),r=wsD c/\ρ=[some (x.toD g),some (.str n),some (.int (a.map λw=>((own n (w.cm++w.st)).length:Int)).sum),v3]/\μ'=μ/\a++c=x.ws) ?_ ?_ _ _ _ ⟨[],x.ws,_,rfl,rfl,rfl,rfl⟩
 ·rintro ρ μ' ⟨a,c,v3,er,rfl,rfl,e⟩
  have:c=[]:=by cases c with | nil=>rfl | cons=>cases er
  subst this
  rw[XH] at e
  subst e
  walk_at "go"
  exact ⟨_,.refl _,k⟩
 ·rintro d r ρ μ' N ⟨a,c,v3,er,rfl,rfl,e⟩ hN
  cases c with
  | nil=>cases er
  | cons w c=>
  cases er
  have ho:=hw w (by rw[← e];simp)
  walk_at "go"
  have hl:=ho.l
  refine ⟨by simp;omega,?_⟩
  rw[← Xn]
  refine KR (w.cm++w.st) n (by simp;omega) ho.n hn ?_
  walk_at "go"
  refine hN _ _ ⟨a++[w],c,some w.toD,rfl,?_,rfl,by rw[← e];simp⟩
  simp
def gI:FSp:=λds μ Q=>kcA ds λd ds=>kcI ds λn ds=>kcN ds (∃ (g:Int) (x:Ss),d=x.toD g/\Q (.int (gE x.lf n)) μ)
theorem vB:∀ ds μ Q,gI ds μ Q->ds.length=2:=λ_ _ _ h=>lcA h λ_ _ h=>lcI h λ_ _ h=>by rw[(ecN h).1];rfl
def qH:STr:=aV (ly (TB (aj rIs (aj L3.rIx (ah 0) (TC (.int 5))) (TC .non))) (ah 1) (au uE (af (ah 1) (af (aj L3.rIx (ah 0) (TC (.int 5))) (ao)))))
theorem yh:∀ ds μ Q,gI ds μ Q->qH { nx:=λ_ μ'=>RT Q .non μ',rt:=RT Q } (ini 2 ds) μ:=by
 intro ds μ Q h
 replace h:=ecA h
 obtain ⟨d,ds,rfl,h⟩:=h
 replace h:=ecI h
 obtain ⟨n,ds,rfl,h⟩:=h
 replace h:=ecN h
 obtain ⟨rfl,h⟩:=h
 walk_at "ini"
 unfold qH
 walk_at "go"
 obtain ⟨g,x,rfl,k⟩:=h
 walk_at "go"
 unfold gE at k
 cases e:x.lf with
 | none=>rw[e] at k;exact nS (by simp) ⟨_,.refl _,k⟩
 | some l=>
  rw[e] at k
  refine rG (by simp) ?_
  show ie uE [.int n,.int l] μ _
  walk_at "go"
  exact ⟨_,.refl _,k⟩
theorem wg (g:Int)(x:Ss):cutD [.str x.nm,c5 x.du,eW x.W g,eW x.S g,.int x.nx,c5 x.lf,.tup (b8 x.ag),.tup (b8 x.lo),.int x.gd,.int x.mk',.int x.wt] none (some 4)=[.str x.nm,c5 x.du,eW x.W g,eW x.S g]:=rfl
theorem Lw (g:Int)(x:Ss):cutD [.str x.nm,c5 x.du,eW x.W g,eW x.S g,.int x.nx,c5 x.lf,.tup (b8 x.ag),.tup (b8 x.lo),.int x.gd,.int x.mk',.int x.wt] (some 7) none=[.tup (b8 x.lo),.int x.gd,.int x.mk',.int x.wt]:=rfl
theorem DT (g:Int)(x:Ss)(lo hi:Option Int)(μ:Mu)(Q:DK):rSl (x.toD g) lo hi μ Q=Q (.tup (cutD [.str x.nm,c5 x.du,eW x.W g,eW x.S g,.int x.nx,c5 x.lf,.tup (b8 x.ag),.tup (b8 x.lo),.int x.gd,.int x.mk',.int x.wt] lo hi)) μ:=propext Xc
def gN:FSp:=λds μ Q=>kcA ds λd ds=>kcI ds λn ds=>kcN ds (∃ (g:Int) (x:Ss) (m:Nat),(d=x.toD g/\n=m/\m<=1000/\(-4000000000000000000<=x.nx/\x.nx<=4000000000000000000)/\x.ag.length<=1000/\(∀ l,x.lf=some l->0<=l))/\Q (.tup [(x.fill m).1.toD g,.tup (b8 (x.fill m).2)]) μ)
theorem wc:∀ ds μ Q,gN ds μ Q->ds.length=2:=λ_ _ _ h=>lcA h λ_ _ h=>lcI h λ_ _ h=>by rw[(ecN h).1];rfl
def pU:STr:=aA (aO (TSl (aj L3.rIx (ah 0) (TC (.int 6))) (ONo) (gj (ah 1))) (ay 2)) (aA (aO (au gI (af (ah 0) (af (aj kn (ah 1) (au c8 (af (ah 2) (ao)))) (ao)))) (ay 3)) (aA (aO (aj L3.rIx (ah 0) (TC (.int 4))) (ay 4)) (aA (aO (ly (TB (aj rIs (aj L3.rIx (ah 0) (TC (.int 5))) (TC .non))) (TC .non) (aj kn (aj L3.rIx (ah 0) (TC (.int 5))) (ah 3))) (ay 5)) (aA (aO (aj aQ (aj aQ (TSl (ah 0) (ONo) (gj (TC (.int 4)))) (a7 (af (aj aQ (ah 4) (ah 3)) (af (ah 5) (af (TSl (aj L3.rIx (ah 0) (TC (.int 6))) (gj (au c8 (af (ah 2) (ao)))) (ONo)) (ao)))))) (TSl (ah 0) (gj (TC (.int 7))) (ONo))) (ay 6)) (aV (a7 (af (ah 6) (af (aj aQ (ah 2) (Iz (ah 4) (aj aQ (ah 4) (ah 3)))) (ao)))))))))
theorem xh:∀ ds μ Q,gN ds μ Q->pU { nx:=λ_ μ'=>RT Q .non μ',rt:=RT Q } (ini 7 ds) μ:=by
 intro ds μ Q h
 replace h:=ecA h
 obtain ⟨d,ds,rfl,h⟩:=h
 replace h:=ecI h
 obtain ⟨n,ds,rfl,h⟩:=h
 replace h:=ecN h
 obtain ⟨rfl,h⟩:=h
 walk_at "ini"
 unfold pU
 walk_at "go"
 obtain ⟨g,x,m,⟨rfl,rfl,hm,⟨n0,n1⟩,ha,hl⟩,k⟩:=h
 simp only[↓DT]
 have c1:cutD (b8 x.ag) none (some (m:Int))=b8 (x.ag.take m):=by rw[Dy];exact zbM.symm
 have c2:∀ L:Nat,cutD (b8 x.ag) (some (L:Int)) none=b8 (x.ag.drop L):=λL=>by rw[uk];exact zbN.symm
 walk_at "go"
 simp only[c1,wg,Lw,W9,c2]
 refine ⟨g,x,rfl,?_⟩
 have tl:(x.ag.take m).length<=m:=by simp;omega
 have e1:(x.fill m).1.toD g=.tup ([.str x.nm,c5 x.du,eW x.W g,eW x.S g]++[.int (x.nx+gE x.lf ((m:Int) - ((x.ag.take m).length:Int))),c5 (x.lf.map (· - gE x.lf ((m:Int) - ((x.ag.take m).length:Int)))),.tup (b8 (x.ag.drop (x.ag.take m).length))]++[.tup (b8 x.lo),.int x.gd,.int x.mk',.int x.wt]):=rfl
 have e2:b8 (x.fill m).2=b8 (x.ag.take m)++bX x.nx (gE x.lf ((m:Int) - ((x.ag.take m).length:Int))).toNat:=by rw[Ut,← Xn];rfl
 rw[e1,e2] at k
 have c0:0<=gE x.lf ((m:Int) - ((x.ag.take m).length:Int))/\gE x.lf ((m:Int) - ((x.ag.take m).length:Int))<=1000:=by
  unfold gE
  cases e:x.lf with
  | none=>simp only;omega
  | some l=>have:=hl l e;simp only;omega
 generalize gE x.lf ((m:Int) - ((x.ag.take m).length:Int))=c at *
 have e3:(x.nx+c - x.nx).toNat=c.toNat:=by congr 1;omega
 walk_at "go"
 rw[e3]
 cases e:x.lf with
 | none=>
  rw[e] at k
  refine nS rfl ⟨by simp,by simp,⟨⟨by omega,by omega⟩,⟨by omega,by omega⟩,by omega⟩,?_,_,.refl _,k⟩
  rw[eC];omega
 | some l=>
  rw[e] at k
  refine rG nofun ?_
  walk_at "go"
  refine ⟨by simp,by simp,⟨⟨by omega,by omega⟩,⟨by omega,by omega⟩,by omega⟩,?_,_,.refl _,k⟩
  rw[eC];omega
structure Ss.Ok (g:Int) (R:RN) (x:Ss):Prop where
 n:Xk x.nm=true
 w0:g<=x.W
 w1:x.W<=R.cap g
 s0:0<=x.S
 s1:x.S<=g
 h:x.hd.Ok
 n0:-4000000000000000000<=x.nx
 n1:x.nx<=4000000000000000000
 a:x.ag.length+x.lo.length<=60
 l:∀ i,x.lf=some i->0<=i
theorem Uh (st:St')(n:Str):0<=st.und n:=by
 unfold St'.und
 generalize st.ws=l
 induction l with
 | nil=>simp
 | cons a l ih=>simp only[Xh,XU];omega
theorem Nm (o:Option Int):eqD (c5 o) (.int 0)=decide (o=some 0):=by cases o<;>simp[c5,eqD]
theorem JO {R:RN}(K:R.Ok){g W S:Int}(g0:0 < g)(h:Hd)(w0:g<=W)(w1:W<=R.cap g):g<=(R.beh g W S h).1/\(R.beh g W S h).1<=R.cap g:=by
 unfold RN.beh
 split
 ·exact ⟨w0,w1⟩
 ·exact Lz K g0 _
def km:FSp:=λds μ Q=>kcI ds λg ds=>kcA ds λsd ds=>kcA ds λkd ds=>kcA ds λtd ds=>kcN ds (∃ (s:Sn) (x:Ss) (st:St'),((sd=s.toD/\kd=x.toD g/\td=st.toD g)/\s.rl.Ok/\Gd g/\x.Ok g s.rl/\∀ w∈st.ws,w.Ok)/\Q (.tup [(x.bt g s (st.und x.nm)).1.toD g,.tup (b8 (x.bt g s (st.und x.nm)).2)]) μ)
theorem A6:∀ ds μ Q,km ds μ Q->ds.length=4:=λ_ _ _ h=>lcI h λ_ _ h=>lcA h λ_ _ h=>lcA h λ_ _ h=>lcA h λ_ _ h=>by rw[(ecN h).1];rfl
def yN:STr:=aA (bL (TB (aj rNe (aj L3.rIx (ah 2) (TC (.int 1))) (TC (.int 0)))) (aV (a7 (af (ah 2) (af (a7 (ao)) (ao))))) (ba)) (aA (aO (a7 (af (aj L3.rIx (ah 2) (TC (.int 8))) (af (aj L3.rIx (ah 2) (TC (.int 9))) (af (au c8 (af (aj L3.rIx (ah 2) (TC (.int 7))) (ao))) (af (aj L3.rIx (ah 2) (TC (.int 10))) (ao)))))) (ay 4)) (aA (aO (au gR (af (aj L3.rIx (ah 1) (TC (.int 5))) (af (ah 0) (af (aj L3.rIx (ah 2) (TC (.int 2))) (af (aj L3.rIx (ah 2) (TC (.int 3))) (af (ah 4) (ao))))))) (ay 5)) (aA (aO (au bw (af (au rf (af (aj aQ (aj L3.rIx (ah 2) (TC (.int 6))) (aj L3.rIx (ah 2) (TC (.int 7)))) (ao))) (ao))) (ay 6)) (aA (aO (a7 (af (aj L3.rIx (ah 2) (TC (.int 0))) (af (aj L3.rIx (ah 2) (TC (.int 1))) (af (aj L3.rIx (ah 5) (TC (.int 0))) (af (aj L3.rIx (ah 5) (TC (.int 1))) (af (aj L3.rIx (ah 2) (TC (.int 4))) (af (aj L3.rIx (ah 2) (TC (.int 5))) (af (ah 6) (af (a7 (ao)) (af (TC (.int 0)) (af (TC (.int 0)) (af (TC (.int 0)) (ao))))))))))))) (ay 7)) (aV (au gN (af (ah 7) (af (au qN (af (TC (.int 0)) (af (aj kn (au gX (af (aj L3.rIx (ah 5) (TC (.int 0))) (ao))) (au fW (af (ah 3) (af (aj L3.rIx (ah 2) (TC (.int 0))) (ao))))) (ao)))) (ao)))))))))
theorem E4:∀ ds μ Q,km ds μ Q->yN { nx:=λ_ μ'=>RT Q .non μ',rt:=RT Q } (ini 8 ds) μ:=by
 intro ds μ Q h
 replace h:=ecI h
 obtain ⟨g,ds,rfl,h⟩:=h
 replace h:=ecA h
 obtain ⟨sd,ds,rfl,h⟩:=h
 replace h:=ecA h
 obtain ⟨kd,ds,rfl,h⟩:=h
 replace h:=ecA h
 obtain ⟨td,ds,rfl,h⟩:=h
 replace h:=ecN h
 obtain ⟨rfl,h⟩:=h
 walk_at "ini"
 unfold yN
 walk_at "go"
 obtain ⟨s,x,st,⟨⟨rfl,rfl,rfl⟩,K,G,X,hw⟩,k⟩:=h
 obtain ⟨g0,g1⟩:=id G
 have gp:0 < g:=by omega
 walk_at "go"
 refine ⟨by cases x.du<;>rfl,?_⟩
 rw[Nm]
 unfold Ss.bt at k
 refine W5 (λhd=>?_) (λhd=>?_)
 ·rw[if_neg hd] at k
  exact ⟨_,.refl _,k⟩
 rw[if_pos hd] at k
 have cl:=He K gp
 have xa:=X.a;have w1:=X.w1;have w0:=X.w0
 rw[W9]
 refine ⟨s.rl,x.W,x.S,x.hd,⟨⟨rfl,rfl⟩,K,X.h,G,⟨Po _ gp,.of (by omega) (by omega)⟩,Po _ gp,⟨X.s0,X.s1⟩⟩,λw z Vw Vz=>?_⟩
 have bi:=JO K gp x.hd (S:=x.S) w0 w1
 have e1:=GK Vw
 have e2:=GK Vz
 walk_at "go"
 refine ⟨by simp;omega,x.ag++x.lo,⟨by rw[Xn],by simp;omega⟩,λns' pm so=>?_⟩
 have e3:=y8 pm so
 walk_at "go"
 refine ⟨_,_,⟨Vw,.of (by omega) (by omega)⟩,?_⟩
 walk_at "go"
 refine ⟨g,st,⟨rfl,hw,X.n⟩,?_⟩
 walk_at "go"
 have u0:=Uh st x.nm
 have d60:(s.rl.beh g x.W x.S x.hd).1 / g<=60:=ZG gp (by omega)
 have hm:max 0 ((s.rl.beh g x.W x.S x.hd).1 / g - st.und x.nm)=((max 0 ((s.rl.beh g x.W x.S x.hd).1 / g - st.und x.nm)).toNat:Int):=by omega
 rw[hm,e1,e2,e3]
 refine ⟨g,x.rdy g s.rl,_,⟨rfl,rfl,by omega,⟨X.n0,X.n1⟩,?_,X.l⟩,⟨_,.refl _,k⟩⟩
 show (d7 (x.ag++x.lo)).length<=1000
 rw[m7,Xi];omega
theorem Oh {ns:List (List Int)}{n:List Int}(h:n∈ns):n.length<=cJ ns:=by
 unfold cJ
 induction ns with
 | nil=>cases h
 | cons a r ih=>
  rcases Xr.mp h with rfl | h
  ·simp only[Xh,zcx];omega
  ·have:=ih h;simp only[Xh,zcx];omega
theorem CS {ns:List (List Int)}{k:Nat}(h:∀ n∈ns,n.length<=k):cJ ns<=k:=by
 unfold cJ
 induction ns with
 | nil=>simp
 | cons a r ih=>
  have h1:=h a Xl
  have h2:=ih λn hn=>h n (Xo _ hn)
  simp only[Xh,zcx];omega
theorem K9 {ns:List (List Int)}{M:Int}(h:M∈ns.map λn=>(n.length:Int))(g:∀ a∈ns.map λn=>(n.length:Int),a<=M):M=cJ ns:=by
 obtain ⟨n,hn,rfl⟩:=Xd.mp h
 have h1:=Oh hn
 have h2:cJ ns<=n.length:=CS λm hm=>by have:=g _ (Xd.mpr ⟨m,hm,rfl⟩);omega
 omega
def dP (t:Nat)(p:Sn×List Int):Option (Str×Lt):=p.2[t]?.map λn=>(p.1.rd.headD (OF ""),⟨p.1.nm,n,0,0,0⟩)
theorem lL (ss:List Sn)(ns:List (List Int)):kA ss ns=(XJ (cJ ns)).flatMap λt=>(Xm ss ns).filterMap (dP t):=rfl
abbrev nsD (ns:List (List Int)):List D:=ns.map λn=>.tup (b8 n)
def dm:FSp:=λds μ Q=>kcA ds λsd ds=>kcL ds λnd ds=>kcN ds (∃ (ss:List Sn) (ns:List (List Int)),((sd=.tup (snD ss)/\nd=nsD ns)/\ss.length<=100/\ns.length<=100/\(∀ n∈ns,n.length<=1000)/\∀ s∈ss,s.rd≠[])/\Q (.ls ((kA ss ns).map sdD)) μ)
theorem Ja {ns:List (List Int)}{μ:Mu}{Q:DK}(k:Q (.int (cJ ns:Nat)) μ):QI (.ls (ns.map λn=>.int (n.length:Int))) (.int 0) μ Q:=by
 refine ⟨ns.map λn=>(n.length:Int),by rw[Xg];rfl,λe=>?_,λ_ M h1 h2=>by rw[K9 h1 h2];exact k⟩
 rw[zc5.mp e] at k
 exact k
theorem Fj (ss:List Sn)(ns:List (List Int)):Yk (λd e=>D.tup [d,e]) (snD ss) (nsD ns)=(Xm ss ns).map λp=>.tup [p.1.toD,.tup (b8 p.2)]:=by
 simp only[snD,nsD,Xm,zd9,Zw]
theorem ma:∀ ds μ Q,dm ds μ Q->ds.length=2:=λ_ _ _ h=>lcA h λ_ _ h=>lcL h λ_ _ h=>by rw[(ecN h).1];rfl
def jh:STr:=aA (aO (kr (ao)) (ay 2)) (aA (eG (fM (DW (bK (cN (ah 1)) (ay 0) (dF) (au c8 (af (ah 0) (ao))) 1 []) (TC (.int 0)))) (ay 3) (eG (jk (af (ah 0) (af (ah 1) (ao)))) (dh [4,5]) (bL (TB (aj rLt (ah 3) (au c8 (af (ah 5) (ao))))) (eU (kx (ah 2) (a7 (af (aj L3.rIx (aj L3.rIx (ah 4) (TC (.int 1))) (TC (.int 0))) (af (a7 (af (aj L3.rIx (ah 4) (TC (.int 0))) (af (aj L3.rIx (ah 5) (ah 3)) (af (TC (.int 0)) (af (TC (.int 0)) (af (TC (.int 0)) (ao))))))) (ao)))))) (ba)))) (aV (wj (ah 2))))
theorem mQ:∀ ds μ Q,dm ds μ Q->jh { nx:=λ_ μ'=>RT Q .non μ',rt:=RT Q } (ini 6 ds) μ:=by
 intro ds μ Q h
 replace h:=ecA h
 obtain ⟨sd,ds,rfl,h⟩:=h
 replace h:=ecL h
 obtain ⟨nd,ds,rfl,h⟩:=h
 replace h:=ecN h
 obtain ⟨rfl,h⟩:=h
 walk_at "ini"
 unfold jh
 walk_at "go"
 obtain ⟨ss,ns,⟨⟨rfl,rfl⟩,hs,hn,h1000,hrd⟩,k⟩:=h
 intro p hp
 walk_at "go"
 refine bG ns (λn=>.tup (b8 n)) (λn=>.int (n.length:Int)) rfl (by omega) (λn hn μ' _ N nn=>?_) ?_
 ·walk_at "go"
  rw[W9]
  exact nn
 have m1:cJ ns<=1000:=CS h1000
 walk_at "go"
 refine Ja ?_
 walk_at "go"
 refine ⟨⟨by omega,by omega⟩,?_⟩
 rw[show ((cJ ns:Int)).toNat=cJ ns from rfl]
 refine bu (λr ρ μ'=>∃ (t:Nat) (acc:List (Str×Lt)) (v3 v4 v5:Option D),r=bX t (cJ ns - t)/\t<=cJ ns/\ρ=[some (.tup (snD ss)),some (.ls (nsD ns)),some (.obj p),v3,v4,v5]/\acc=(XJ t).flatMap (λt=>(Xm ss ns).filterMap (dP t))/\acc.length<=t*100/\μ'=up μ p (.lst (acc.map sdD))) ?_ ?_ _ _ _ ⟨0,[],_,_,_,rfl,by omega,rfl,rfl,by simp,rfl⟩
 ·rintro ρ μ' ⟨t,acc,v3,v4,v5,er,ht,rfl,rfl,_,rfl⟩
  have et:t=cJ ns:=by
   cases e:cJ ns - t with
   | zero=>omega
   | succ n=>rw[e,nz] at er;cases er
  subst et
  walk_at "go"
  rw[← lL,sN hp]
  exact ⟨_,.refl _,k⟩
 ·rintro d r ρ μ' N ⟨t,acc,v3,v4,v5,er,ht,rfl,ea,la,rfl⟩ hN
  cases e:cJ ns - t with
  | zero=>rw[e] at er;cases er
  | succ n=>
  rw[e,nz] at er
  cases er
  walk_at "go"
  rw[Fj]
  have lz:(Xm ss ns).length<=100:=by simp;omega
  refine bu (λr ρ μ'=>∃ (a c:List (Sn×List Int)) (v4 v5:Option D),r=c.map (λp=>.tup [p.1.toD,.tup (b8 p.2)])/\a++c=Xm ss ns/\ρ=[some (.tup (snD ss)),some (.ls (nsD ns)),some (.obj p),some (.int t),v4,v5]/\μ'=up μ p (.lst ((acc++a.filterMap (dP t)).map sdD))) ?_ ?_ _ _ _ ⟨[],Xm ss ns,_,_,rfl,rfl,rfl,by simp⟩
  ·rintro ρ μ' ⟨a,c,v4,v5,er,ez,rfl,rfl⟩
   have:c=[]:=by cases c with | nil=>rfl | cons=>cases er
   subst this
   rw[XH] at ez
   subst ez
   refine hN _ _ ⟨t+1,_,_,_,_,?_,by omega,rfl,?_,?_,rfl⟩
   ·congr 1
    ·omega
   ·rw[zba,Yo,← ea];simp
   ·have:=YV (dP t) (Xm ss ns)
    rw[Xi];omega
  ·rintro d r ρ μ' N ⟨a,c,v4,v5,er,ez,rfl,rfl⟩ hN
   cases c with
   | nil=>cases er
   | cons x c=>
   cases er
   obtain ⟨s,own⟩:=x
   have hx:(s,own)∈Xm ss ns:=by rw[← ez];simp
   have hs':s∈ss:=(Xx hx).1
   walk_at "go"
   rw[W9]
   obtain ⟨fw,rw',erd⟩:∃ fw rw',s.rd=fw::rw':=by
    cases e:s.rd with
    | nil=>exact absurd e (hrd s hs')
    | cons a b=>exact ⟨a,b,rfl⟩
   refine kif (λhc=>?_) (λhc=>?_)
   ·have hc':t < own.length:=by omega
    have g1:(zdK D.str s.rd)[0]? = some (.str fw):=by rw[erd];rfl
    have g2:atD (b8 own) (t:Int)=some (.int own[t]):=by rw[b5];simp[hc']
    have la':=YV (dP t) a
    have az:a.length<=100:=by have:=congrArg Yy ez;simp at this;omega
    walk_at "go"
    rw[xF,g1]
    walk_at "go"
    rw[g2]
    walk_at "go"
    refine ⟨by simp;omega,hN _ _ ⟨a++[(s,own)],c,_,_,rfl,by rw[← ez];simp,rfl,?_⟩⟩
    have e3:dP t (s,own)=some (fw,⟨s.nm,own[t],0,0,0⟩):=by unfold dP;simp[hc',erd]
    rw[Yc,show [(s,own)].filterMap (dP t)=[(fw,⟨s.nm,own[t],0,0,0⟩)] by simp[e3]]
    simp[sdD,Lt.toD]
   ·have e3:dP t (s,own)=none:=by unfold dP;simp;omega
    refine hN _ _ ⟨a++[(s,own)],c,_,_,rfl,by rw[← ez];simp,rfl,?_⟩
    rw[Yc,show [(s,own)].filterMap (dP t)=[] by simp[e3],XH]
def j5:FSp:=λds μ Q=>kcA ds λwd ds=>kcT ds λnd ds=>kcA ds λkd ds=>kcL ds λsd ds=>kcN ds (∃ (w:Wy) (ns:List Str) (k:Ws) (aT:List (Str×Lt)),((wd=w.toD/\nd=ns.map .str/\kd=k.toD/\sd=aT.map sdD)/\(Xk w.nm=true/\∀ x∈aT,Xk x.1=true)/\0<=w.pc/\(∀ n∈ns,Xk n=true)/\(∀ l∈k.cm++k.st++aT.map (·.2),l.nm∈ns)/\k.cm.length+k.st.length+aT.length<=900000/\ns.length<=900000)/\Q (pass w ns k aT).toD μ)
theorem Ei {μ:Mu}{Q:DK}(aT:List (Str×Lt)){w:Wy}(hl:aT.length<=900000)(ok:∀ x∈aT,Xk x.1=true)(hn:Xk w.nm=true)(k:Q (.ls (ltD ((aT.filter λx=>decide (x.1=w.nm)).map (·.2)))) μ) :
  qx (dh [0,1]) (TB (aj rEq (ah 0) (aj rIx (ah 2) (TC (.int 0))))) (ah 1) [none,none,some w.toD] (aT.map sdD) μ Q:=by
 refine jJ aT sdD (λx=>if x.1=w.nm then some x.2.toD else none) rfl (by omega) (λx hx μ' _ N nn=>?_) ?_
 ·walk_at "go"
  refine ⟨⟨ok x hx,hn⟩,kif (λh=>?_) (λh=>?_)⟩
  ·rw[if_pos h] at nn;exact nn
  ·rw[if_neg h] at nn;exact nn
 ·rw[eE (λx:Str×Lt=>x.1=w.nm) (λx=>x.2.toD)];unfold ltD at k;rw[Xg] at k;exact k
theorem Bx:∀ ds μ Q,j5 ds μ Q->ds.length=4:=λ_ _ _ h=>lcA h λ_ _ h=>lcT h λ_ _ h=>lcA h λ_ _ h=>lcL h λ_ _ h=>by rw[(ecN h).1];rfl
def Ac:STr:=aA (aO (aj aQ (aj L3.rIx (ah 2) (TC (.int 0))) (au bw (af (bK (cN (ah 3)) (dh [0,1]) (TB (aj rEq (ah 0) (aj L3.rIx (ah 2) (TC (.int 0))))) (ah 1) 2 [0]) (ao)))) (ay 4)) (aA (aO (au gK (af (ah 0) (af (aj L3.rIx (ah 2) (TC (.int 1))) (af (ah 4) (ao))))) (ay 5)) (aA (aO (au i4 (af (ah 0) (af (ah 1) (af (aj L3.rIx (ah 5) (TC (.int 0))) (af (aj L3.rIx (ah 2) (TC (.int 2))) (ao)))))) (ay 6)) (aV (a7 (af (ah 4) (af (aj L3.rIx (ah 5) (TC (.int 1))) (af (aj L3.rIx (ah 6) (TC (.int 0))) (af (aj L3.rIx (ah 6) (TC (.int 1))) (af (aj L3.rIx (ah 6) (TC (.int 2))) (ao))))))))))
theorem Eo:∀ ds μ Q,j5 ds μ Q->Ac { nx:=λ_ μ'=>RT Q .non μ',rt:=RT Q } (ini 7 ds) μ:=by
 intro ds μ Q h
 replace h:=ecA h
 obtain ⟨wd,ds,rfl,h⟩:=h
 replace h:=ecT h
 obtain ⟨nd,ds,rfl,h⟩:=h
 replace h:=ecA h
 obtain ⟨kd,ds,rfl,h⟩:=h
 replace h:=ecL h
 obtain ⟨sd,ds,rfl,h⟩:=h
 replace h:=ecN h
 obtain ⟨rfl,h⟩:=h
 walk_at "ini"
 unfold Ac
 walk_at "go"
 obtain ⟨w,ns,x,aT,⟨⟨rfl,rfl,rfl,rfl⟩,⟨hw,hs⟩,pc,hn,hl,len,len2⟩,k⟩:=h
 walk_at "go"
 refine Ei aT (by omega) hs hw ?_
 walk_at "go"
 have lf:=Za (λx:Str×Lt=>decide (x.1=w.nm)) aT
 refine ⟨by simp only[W9];omega,?_⟩
 rw[← Xn]
 generalize hca:x.cm++(aT.filter λx=>decide (x.1=w.nm)).map (·.2)=ca
 have lca:ca.length<=x.cm.length+aT.length:=by rw[← hca];simp only[Xi,W9];omega
 have nca:∀ l∈ca,l.nm∈ns:=λl h=>by
  rw[← hca] at h
  rcases X0.mp h with h | h
  ·exact hl l (by simp[h])
  ·obtain ⟨y,hy,rfl⟩:=Xd.mp h
   exact hl y.2 (XC _ (Xd.mpr ⟨y,(Ys.mp hy).1,rfl⟩))
 refine ⟨w,x.st,ca,⟨rfl,rfl,rfl,by omega⟩,?_⟩
 walk_at "go"
 have ln:=AA w ca x.st []
 have nn:=GF w (λn=>n∈ns) ca x.st [] (λl h=>hl l (by simp[h])) (λl h=>nomatch h) nca
 refine ⟨w,ns,(tk w x.st ca).1,⟨rfl,λ_=>⟨.inl rfl,hn,nn.1,len2⟩,rfl,?_,pc⟩,?_⟩
 ·unfold tk;simp only[za2] at ln;omega
 ·walk_at "go"
  subst hca
  exact ⟨_,.refl _,k⟩
theorem Ku {ss:List Sn}{n:Str}(h:n∈ss.map Sn.nm):cF (kq ss) (.inr n)=some (.tup ((road ss n).map .str)):=by
 unfold cF kq road
 induction ss with
 | nil=>cases h
 | cons s r ih=>
  by_cases e:s.nm=n
  ·simp[e]
  ·have h':n∈r.map Sn.nm:=by
    rcases Xr.mp h with z | z
    ·exact absurd z.symm e
    ·exact z
   have:=ih h'
   simp only[Xh,Ym]
   have e1:decide ((ZI s.nm:L2.Key)=ZI n)=false:=by simp[e]
   have e2:decide (s.nm=n)=false:=by simp[e]
   rw[e1,e2]
   exact this
def cY:FSp:=λds μ Q=>kcO ds λr ds=>kcA ds λld ds=>kcN ds (∃ (ss:List Sn) (l:Lt),(ld=l.toD/\μ r=some (.dct (kq ss))/\l.nm∈ss.map Sn.nm/\0<=l.hp)/\Q (xH (cX ss l)) μ)
theorem pV:∀ ds μ Q,cY ds μ Q->ds.length=2:=λ_ _ _ h=>lcO h λ_ _ h=>lcA h λ_ _ h=>by rw[(ecN h).1];rfl
def mj:STr:=aA (aO (bQ (ah 0) (aj L3.rIx (ah 1) (TC (.int 0)))) (ay 2)) (aV (ly (TB (aj rLt (aj aQ (aj L3.rIx (ah 1) (TC (.int 3))) (TC (.int 1))) (au c8 (af (ah 2) (ao))))) (aj L3.rIx (ah 2) (aj aQ (aj L3.rIx (ah 1) (TC (.int 3))) (TC (.int 1)))) (TC .non)))
theorem tN:∀ ds μ Q,cY ds μ Q->mj { nx:=λ_ μ'=>RT Q .non μ',rt:=RT Q } (ini 3 ds) μ:=by
 intro ds μ Q h
 replace h:=ecO h
 obtain ⟨r,ds,rfl,h⟩:=h
 replace h:=ecA h
 obtain ⟨ld,ds,rfl,h⟩:=h
 replace h:=ecN h
 obtain ⟨rfl,h⟩:=h
 walk_at "ini"
 unfold mj
 walk_at "go"
 obtain ⟨ss,l,⟨rfl,er,hl,h0⟩,k⟩:=h
 walk_at "go"
 refine Vi er (GL (Ku hl) ?_)
 obtain ⟨h,eh⟩:=zaq h0
 have e1:cX ss l=(road ss l.nm)[h+1]?:=by unfold cX;rw[eh];rfl
 rw[e1] at k
 walk_at "go"
 rw[W9]
 refine kif (λhc=>?_) (λhc=>?_)
 ·have hc':h+1 < (road ss l.nm).length:=by omega
  rw[Xt hc'] at k
  refine GL (d:=.str (road ss l.nm)[h+1]) ?_ ⟨_,.refl _,k⟩
  rw[eh,show ((h:Int)+1)=((h+1:Nat):Int) by omega,b5]
  simp[hc']
 ·rw[List.getElem?_eq_none (by omega)] at k
  exact ⟨_,.refl _,k⟩
theorem LN (ls:List Lt):gn (ltD ls)=ls.zipIdx.map λp=>.tup [.int (p.2:Nat),p.1.toD]:=by
 refine List.ext_getElem? λi=>?_
 rw[uJ]
 simp[List.getElem?_zipIdx]
 cases ls[i]? <;> rfl
theorem Du (o:Option Str)(μ:Mu)(Q:DK):rIs (xH o) .non μ Q=Q (.bl (decide (o=none))) μ:=by cases o<;>simp[rIs,xH]
def evA (w:Wy)(n:Int)(p:Lt×Nat):Ev:=⟨if (p.2:Int) < n then OF "in" else OF "lost", p.1.nm,p.1.nu,w.nm⟩
def evB (ss:List Sn)(w:Wy)(l:Lt):Ev:=⟨if cX ss l=none then OF "taken" else OF "out", l.nm,l.nu,w.nm⟩
theorem PL (ss:List Sn)(w:Wy)(x:Wt):evs ss w x=x.ca.zipIdx.map (evA w ((x.ca.length:Int) - x.lo.length))++x.ou.map (evB ss w):=rfl
def fU:FSp:=λds μ Q=>kcA ds λwd ds=>kcO ds λr ds=>kcA ds λtd ds=>kcN ds (∃ (w:Wy) (ss:List Sn) (x:Wt),((wd=w.toD/\td=x.toD)/\μ r=some (.dct (kq ss))/\(∀ l∈x.ou,l.nm∈ss.map Sn.nm/\0<=l.hp)/\x.ca.length+x.ou.length<=900000)/\Q (.ls (evD (evs ss w x))) μ)
theorem tV:∀ ds μ Q,fU ds μ Q->ds.length=3:=λ_ _ _ h=>lcA h λ_ _ h=>lcO h λ_ _ h=>lcA h λ_ _ h=>by rw[(ecN h).1];rfl
def nB:STr:=aA (aO (kr (ao)) (ay 3)) (aA (eG (uh (af (aj L3.rIx (ah 2) (TC (.int 0))) (ao))) (dh [4,5]) (aA (aO (ly (TB (aj rLt (ah 4) (aj kn (au c8 (af (aj L3.rIx (ah 2) (TC (.int 0))) (ao))) (au c8 (af (aj L3.rIx (ah 2) (TC (.int 1))) (ao)))))) (TC (.str "in")) (TC (.str "lost"))) (ay 6)) (eU (kx (ah 3) (a7 (af (ah 6) (af (aj L3.rIx (ah 5) (TC (.int 0))) (af (aj L3.rIx (ah 5) (TC (.int 1))) (af (aj L3.rIx (ah 0) (TC (.int 0))) (ao)))))))))) (aA (eG (cN (aj L3.rIx (ah 2) (TC (.int 2)))) (ay 5) (aA (aO (ly (TB (aj rIs (au cY (af (ah 1) (af (ah 5) (ao)))) (TC .non))) (TC (.str "taken")) (TC (.str "out"))) (ay 6)) (eU (kx (ah 3) (a7 (af (ah 6) (af (aj L3.rIx (ah 5) (TC (.int 0))) (af (aj L3.rIx (ah 5) (TC (.int 1))) (af (aj L3.rIx (ah 0) (TC (.int 0))) (ao)))))))))) (aV (wj (ah 3)))))
theorem wG:∀ ds μ Q,fU ds μ Q->nB { nx:=λ_ μ'=>RT Q .non μ',rt:=RT Q } (ini 7 ds) μ:=by
 intro ds μ Q h
 replace h:=ecA h
 obtain ⟨wd,ds,rfl,h⟩:=h
 replace h:=ecO h
 obtain ⟨r,ds,rfl,h⟩:=h
 replace h:=ecA h
 obtain ⟨td,ds,rfl,h⟩:=h
 replace h:=ecN h
 obtain ⟨rfl,h⟩:=h
 walk_at "ini"
 unfold nB
 walk_at "go"
 obtain ⟨w,ss,x,⟨⟨rfl,rfl⟩,er,ho,hl⟩,k⟩:=h
 intro p hp
 have npr:r≠p:=λz=>by rw[z,hp] at er;cases er
 walk_at "go"
 rw[LN]
 refine bu (λrr ρ μ'=>∃ (a c:List (Lt×Nat)) (v4 v5 v6:Option D),rr=c.map (λp=>.tup [.int (p.2:Nat),p.1.toD])/\a++c=x.ca.zipIdx/\ρ=[some w.toD,some (.obj r),some x.toD,some (.obj p),v4,v5,v6]/\μ'=up μ p (.lst (evD (a.map (evA w ((x.ca.length:Int) - x.lo.length)))))) ?_ ?_ _ _ _ ⟨[],x.ca.zipIdx,_,_,_,rfl,rfl,rfl,rfl⟩
 ·rintro ρ μ' ⟨a,c,v4,v5,v6,er',ez,rfl,rfl⟩
  have:c=[]:=by cases c with | nil=>rfl | cons=>cases er'
  subst this
  rw[XH] at ez
  subst ez
  walk_at "go"
  refine bu (λrr ρ μ'=>∃ (a c:List Lt) (v4 v5 v6:Option D),rr=ltD c/\a++c=x.ou/\ρ=[some w.toD,some (.obj r),some x.toD,some (.obj p),v4,v5,v6]/\μ'=up μ p (.lst (evD (x.ca.zipIdx.map (evA w ((x.ca.length:Int) - x.lo.length))++a.map (evB ss w))))) ?_ ?_ _ _ _ ⟨[],x.ou,_,_,_,rfl,rfl,rfl,by simp⟩
  ·rintro ρ μ' ⟨a,c,v4,v5,v6,er',ez,rfl,rfl⟩
   have:c=[]:=by cases c with | nil=>rfl | cons=>cases er'
   subst this
   rw[XH] at ez
   subst ez
   walk_at "go"
   rw[sN hp,← PL]
   exact ⟨_,.refl _,k⟩
  ·rintro d rr ρ μ' N ⟨a,c,v4,v5,v6,er',ez,rfl,rfl⟩ hN
   cases c with
   | nil=>cases er'
   | cons l c=>
   cases er'
   have hl':=ho l (by rw[← ez];simp)
   have la:a.length<=x.ou.length:=by rw[← ez];simp
   walk_at "go"
   refine ⟨ss,l,⟨rfl,by rw[aU npr];exact er,hl'.1,hl'.2⟩,?_⟩
   walk_at "go"
   rw[Du]
   walk_at "go"
   have fin:∀ wd,wd=(if cX ss l=none then OF "taken" else OF "out")->(evD (x.ca.zipIdx.map (evA w ((x.ca.length:Int) - x.lo.length))++a.map (evB ss w))).length < 1000000/\N [some w.toD,some (.obj r),some x.toD,some (.obj p),v4,some l.toD,some (.str wd)] (up μ p (.lst (evD (x.ca.zipIdx.map (evA w ((x.ca.length:Int) - x.lo.length))++a.map (evB ss w))++[.tup [.str wd,.str l.nm,.int l.nu,.str w.nm]]))):=λwd e=>by
    refine ⟨by simp;omega,hN _ _ ⟨a++[l],c,_,_,_,rfl,by rw[← ez];simp,rfl,?_⟩⟩
    simp[evB,Ev.toD,e]
   refine kif (λh=>?_) (λh=>?_)
   ·walk_at "go"
    exact fin _ (by rw[if_pos h])
   ·walk_at "go"
    exact fin _ (by rw[if_neg h])
 ·rintro d rr ρ μ' N ⟨a,c,v4,v5,v6,er',ez,rfl,rfl⟩ hN
  cases c with
  | nil=>cases er'
  | cons y c=>
  cases er'
  obtain ⟨l,i⟩:=y
  have la:a.length<=x.ca.length:=by have:=congrArg Yy ez;simp at this;omega
  walk_at "go"
  simp only[W9]
  have fin:∀ wd,wd=(if (i:Int) < (x.ca.length:Int) - x.lo.length then OF "in" else OF "lost")->(evD (a.map (evA w ((x.ca.length:Int) - x.lo.length)))).length < 1000000/\N [some w.toD,some (.obj r),some x.toD,some (.obj p),some (.int i),some l.toD,some (.str wd)] (up μ p (.lst (evD (a.map (evA w ((x.ca.length:Int) - x.lo.length)))++[.tup [.str wd,.str l.nm,.int l.nu,.str w.nm]]))):=λwd e=>by
   refine ⟨by simp;omega,hN _ _ ⟨a++[(l,i)],c,_,_,_,rfl,by rw[← ez];simp,rfl,?_⟩⟩
   simp[evA,Ev.toD,e]
  refine kif (λh=>?_) (λh=>?_)
  ·walk_at "go"
   have:=fin _ (by rw[if_pos h])
   simpa using this
  ·walk_at "go"
   have:=fin _ (by rw[if_neg h])
   simpa using this
def mB:FSp:=λds μ Q=>kcA ds λld ds=>kcI ds λh ds=>kcN ds (∃ l:Lt,ld=l.toD/\Q (l.lI h).toD μ)
theorem Ie:∀ ds μ Q,mB ds μ Q->ds.length=2:=λ_ _ _ h=>lcA h λ_ _ h=>lcI h λ_ _ h=>by rw[(ecN h).1];rfl
def G5:STr:=aV (a7 (af (aj L3.rIx (ah 0) (TC (.int 0))) (af (aj L3.rIx (ah 0) (TC (.int 1))) (af (aj aQ (aj L3.rIx (ah 0) (TC (.int 2))) (TC (.int 1))) (af (aj aQ (aj L3.rIx (ah 0) (TC (.int 3))) (ah 1)) (af (aj L3.rIx (ah 0) (TC (.int 4))) (ao)))))))
theorem Mk:∀ ds μ Q,mB ds μ Q->G5 { nx:=λ_ μ'=>RT Q .non μ',rt:=RT Q } (ini 2 ds) μ:=by
 intro ds μ Q h
 replace h:=ecA h
 obtain ⟨ld,ds,rfl,h⟩:=h
 replace h:=ecI h
 obtain ⟨h0,ds,rfl,h⟩:=h
 replace h:=ecN h
 obtain ⟨rfl,h⟩:=h
 walk_at "ini"
 unfold G5
 walk_at "go"
 obtain ⟨l,rfl,k⟩:=h
 walk_at "go"
 exact ⟨_,.refl _,k⟩
theorem NP (o:Option Str)(n:Str):eqD (xH o) (.str n)=decide (o=some n):=by cases o<;>simp[xH,eqD]
theorem Ny (o:Option Str)(h:∀ n,o=some n->Xk n=true):okD 40 (xH o)=true:=by
 cases o with
 | none=>rfl
 | some n=>simpa[xH,okD] using h n rfl
def fT:FSp:=λds μ Q=>kcA ds λwd ds=>kcO ds λr ds=>kcA ds λtd ds=>kcO ds λo ds=>kcN ds (∃ (w:Wy) (ss:List Sn) (x:Wt) (out:List Lt),((wd=w.toD/\td=x.toD)/\(μ r=some (.dct (kq ss))/\μ o=some (.lst (ltD out)))/\(∀ l∈out,l.nm∈ss.map Sn.nm/\0<=l.hp)/\(Xk w.nm=true/\∀ s∈ss,∀ n∈s.rd,Xk n=true)/\out.length<=900000/\x.st.length<=900000)/\Q (EE ss w x out).toD μ)
theorem NG {ss:List Sn}(h:∀ s∈ss,∀ n∈s.rd,Xk n=true){l:Lt}{n:Str}(e:cX ss l=some n):Xk n=true:=by
 unfold cX road at e
 cases f:ss.find? λs=>decide (s.nm=l.nm) with
 | none=>rw[f] at e;simp at e
 | some s=>
  rw[f] at e
  exact h s (zbx f) n (ZO e)
theorem tR:∀ ds μ Q,fT ds μ Q->ds.length=4:=λ_ _ _ h=>lcA h λ_ _ h=>lcO h λ_ _ h=>lcA h λ_ _ h=>lcO h λ_ _ h=>by rw[(ecN h).1];rfl
def oi:STr:=aA (aO (jV (ah 3) (ay 0) (TB (aj rEq (au cY (af (ah 1) (af (ah 0) (ao)))) (aj L3.rIx (ah 2) (TC (.int 0))))) (au mB (af (ah 0) (af (TC (.int 1)) (ao)))) 1 [1,0]) (ay 4)) (aV (a7 (af (au bw (af (ah 4) (ao))) (af (au bw (af (bK (cN (aj L3.rIx (ah 2) (TC (.int 3)))) (ay 0) (dF) (au mB (af (ah 0) (af (TC (.int 0)) (ao)))) 1 []) (ao))) (af (aj L3.rIx (ah 2) (TC (.int 4))) (ao))))))
theorem vF:∀ ds μ Q,fT ds μ Q->oi { nx:=λ_ μ'=>RT Q .non μ',rt:=RT Q } (ini 5 ds) μ:=by
 intro ds μ Q h
 replace h:=ecA h
 obtain ⟨wd,ds,rfl,h⟩:=h
 replace h:=ecO h
 obtain ⟨r,ds,rfl,h⟩:=h
 replace h:=ecA h
 obtain ⟨td,ds,rfl,h⟩:=h
 replace h:=ecO h
 obtain ⟨o,ds,rfl,h⟩:=h
 replace h:=ecN h
 obtain ⟨rfl,h⟩:=h
 walk_at "ini"
 unfold oi
 walk_at "go"
 obtain ⟨w,ss,x,out,⟨⟨rfl,rfl⟩,⟨er,eo⟩,ho,⟨hw,hs⟩,l1,l2⟩,k⟩:=h
 refine bo eo ?_
 refine nv out Lt.toD (λl=>if cX ss l=some w.nm then some (l.lI 1).toD else none) rfl eo (by omega) (λl hl μ' sb N nn=>?_) ?_
 ·walk_at "go"
  refine ⟨ss,l,⟨rfl,sb _ _ er,(ho l hl).1,(ho l hl).2⟩,?_⟩
  walk_at "go"
  rw[NP]
  refine ⟨⟨Ny _ λn e=>NG hs e,hw⟩,kif (λh=>?_) (λh=>?_)⟩
  ·rw[if_pos h] at nn
   exact ⟨l,rfl,nn⟩
  ·rw[if_neg h] at nn;exact nn
 ·rw[eE (λl:Lt=>cX ss l=some w.nm) (λl=>(l.lI 1).toD)]
  walk_at "go"
  refine bG x.st Lt.toD (λl=>(l.lI 0).toD) rfl (by omega) (λl hl μ' sb N nn=>?_) ?_
  ·walk_at "go"
   exact ⟨l,rfl,nn⟩
  ·walk_at "go"
   refine ⟨_,.refl _,?_⟩
   unfold EE Ws.toD ltD at k
   simp only[Xg] at k
   exact k
def f9:FSp:=λds μ Q=>kcA ds λsd ds=>kcA ds λd ds=>kcN ds (∃ (s:Sn) (o:Option Int),(sd=s.toD/\d=c5 o)/\Q (c5 (El s o)) μ)
theorem tQ:∀ ds μ Q,f9 ds μ Q->ds.length=2:=λ_ _ _ h=>lcA h λ_ _ h=>lcA h λ_ _ h=>by rw[(ecN h).1];rfl
def nF:STr:=aA (bL (TB (aj rIs (ah 1) (TC .non))) (aV (TC .non)) (ba)) (aV (ly (TB (aj rEq (ah 1) (TC (.int 0)))) (aj kn (aj L3.rIx (ah 0) (TC (.int 2))) (TC (.int 1))) (aj kn (ah 1) (TC (.int 1)))))
theorem vv:∀ ds μ Q,f9 ds μ Q->nF { nx:=λ_ μ'=>RT Q .non μ',rt:=RT Q } (ini 2 ds) μ:=by
 intro ds μ Q h
 replace h:=ecA h
 obtain ⟨sd,ds,rfl,h⟩:=h
 replace h:=ecA h
 obtain ⟨d,ds,rfl,h⟩:=h
 replace h:=ecN h
 obtain ⟨rfl,h⟩:=h
 walk_at "ini"
 unfold nF
 obtain ⟨s,o,⟨rfl,rfl⟩,k⟩:=h
 cases o with
 | none=>
  simp only[c5]
  walk_at "go"
  exact ⟨_,.refl _,k⟩
 | some i=>
  simp only[c5]
  walk_at "go"
  by_cases h:i=0
  ·refine nS h ⟨_,.refl _,?_⟩
   have e:El s (some i)=some (s.bt - 1):=by simp[El,h]
   rw[e] at k;exact k
  ·refine rG h ⟨_,.refl _,?_⟩
   have e:El s (some i)=some (i - 1):=by simp[El,h]
   rw[e] at k;exact k
theorem zC {d M:Int}{ns:List Int}(ne:ns≠[])(h:M∈ns)(g:∀ a∈ns,a<=M):sA d ns=M:=by
 have key:∀ (l:List Int) (a:Int),(∀ b∈a::l,b<=M)->M∈a::l->l.foldl max a=M:=by
  intro l
  induction l with
  | nil=>intro a h1 h2;simp at h2;exact h2.symm
  | cons b l ih=>
   intro a h1 h2
   rw[YN]
   refine ih (max a b) (λc hc=>?_) ?_
   ·rcases Xr.mp hc with rfl | hc
    ·have:=h1 a (by simp);have:=h1 b (by simp);omega
    ·exact h1 c (by simp[hc])
   ·have ha:=h1 a (by simp);have hb:=h1 b (by simp)
    rcases Xr.mp h2 with e | h2
    ·have:max a b=M:=by omega
     rw[this];simp
    ·rcases Xr.mp h2 with e | h2
     ·have:max a b=M:=by omega
      rw[this];simp
     ·simp[h2]
 cases ns with
 | nil=>exact absurd rfl ne
 | cons a l=>exact key l a g h
theorem RP {ns:List Int}{μ:Mu}{Q:DK}(k:Q (.int (sA 0 ns)) μ):QI (.ls (ns.map .int)) (.int 0) μ Q:=by
 refine ⟨ns,rfl,λe=>?_,λne M h1 h2=>by rw[zC ne h1 h2] at k;exact k⟩
 rw[e] at k;exact k
theorem Ht (g:Int)(x:Ss):cutD [.str x.nm,c5 x.du,eW x.W g,eW x.S g,.int x.nx,c5 x.lf,.tup (b8 x.ag),.tup (b8 x.lo),.int x.gd,.int x.mk',.int x.wt] (some 2) (some 7)=[eW x.W g,eW x.S g,.int x.nx,c5 x.lf,.tup (b8 x.ag)]:=rfl
def d9:FSp:=λds μ Q=>kcA ds λsd ds=>kcA ds λkd ds=>kcO ds λlo ds=>kcL ds λtk ds=>kcN ds (∃ (g:Int) (s:Sn) (x:Ss) (bC taken:List Lt),((sd=s.toD/\kd=x.toD g/\tk=ltD taken)/\μ lo=some (.lst (ltD bC))/\(Xk s.nm=true/\(∀ l∈bC,Xk l.nm=true)/\∀ l∈taken,Xk l.nm=true)/\(bC.length<=900000/\taken.length<=900000)/\x.lo.length+(own s.nm bC).length < 64)/\Q ((sW s x bC taken).toD g) μ)
theorem mS:∀ ds μ Q,d9 ds μ Q->ds.length=4:=λ_ _ _ h=>lcA h λ_ _ h=>lcA h λ_ _ h=>lcO h λ_ _ h=>lcL h λ_ _ h=>by rw[(ecN h).1];rfl
def jq:STr:=aA (aO (jV (ah 2) (ay 0) (TB (aj rEq (aj L3.rIx (ah 0) (TC (.int 0))) (aj L3.rIx (ah 1) (TC (.int 0))))) (aj L3.rIx (ah 0) (TC (.int 1))) 1 [0]) (ay 4)) (aA (aO (bK (cN (ah 3)) (ay 0) (TB (aj rEq (aj L3.rIx (ah 0) (TC (.int 0))) (aj L3.rIx (ah 1) (TC (.int 0))))) (ah 0) 1 [0]) (ay 5)) (aA (aO (au CP (af (bK (cN (ah 5)) (ay 0) (dF) (aj L3.rIx (ah 0) (TC (.int 4))) 1 []) (ao))) (ay 6)) (aA (aO (DW (bK (cN (ah 5)) (ay 0) (dF) (aj kn (aj L3.rIx (ah 0) (TC (.int 2))) (aj L3.rIx (ah 0) (TC (.int 3)))) 1 []) (TC (.int 0))) (ay 7)) (aA (aO (a7 (af (aj kn (aj aQ (aj L3.rIx (ah 1) (TC (.int 8))) (au c8 (af (ah 5) (ao)))) (ah 6)) (af (aj aQ (aj L3.rIx (ah 1) (TC (.int 9))) (ah 6)) (af (au qN (af (aj L3.rIx (ah 1) (TC (.int 10))) (af (ah 7) (ao)))) (ao))))) (ay 8)) (aA (aO (a7 (af (aj L3.rIx (ah 1) (TC (.int 0))) (af (au f9 (af (ah 0) (af (aj L3.rIx (ah 1) (TC (.int 1))) (ao)))) (ao)))) (ay 9)) (aV (aj aQ (aj aQ (aj aQ (ah 9) (TSl (ah 1) (gj (TC (.int 2))) (gj (TC (.int 7))))) (a7 (af (au bw (af (au rf (af (aj aQ (aj L3.rIx (ah 1) (TC (.int 7))) (au bw (af (ah 4) (ao)))) (ao))) (ao))) (ao)))) (ah 8))))))))
theorem o5:∀ ds μ Q,d9 ds μ Q->jq { nx:=λ_ μ'=>RT Q .non μ',rt:=RT Q } (ini 10 ds) μ:=by
 intro ds μ Q h
 replace h:=ecA h
 obtain ⟨sd,ds,rfl,h⟩:=h
 replace h:=ecA h
 obtain ⟨kd,ds,rfl,h⟩:=h
 replace h:=ecO h
 obtain ⟨lo,ds,rfl,h⟩:=h
 replace h:=ecL h
 obtain ⟨tk,ds,rfl,h⟩:=h
 replace h:=ecN h
 obtain ⟨rfl,h⟩:=h
 walk_at "ini"
 unfold jq
 walk_at "go"
 obtain ⟨g,s,x,bC,taken,⟨⟨rfl,rfl,rfl⟩,el,⟨hn,h1,h2⟩,⟨l1,l2⟩,h64⟩,k⟩:=h
 refine bo el ?_
 refine nv bC Lt.toD (λl=>if l.nm=s.nm then some (.int l.nu) else none) rfl el (by omega) (λl hl μ' sb N nn=>?_) ?_
 ·walk_at "go"
  refine ⟨⟨h1 l hl,hn⟩,kif (λh=>?_) (λh=>?_)⟩
  ·rw[if_pos h] at nn;exact nn
  ·rw[if_neg h] at nn;exact nn
 rw[eE (λl:Lt=>l.nm=s.nm) (λl=>D.int l.nu)]
 walk_at "go"
 refine jJ taken Lt.toD (λl=>if l.nm=s.nm then some l.toD else none) rfl (by omega) (λl hl μ' sb N nn=>?_) ?_
 ·walk_at "go"
  refine ⟨⟨h2 l hl,hn⟩,kif (λh=>?_) (λh=>?_)⟩
  ·rw[if_pos h] at nn;exact nn
  ·rw[if_neg h] at nn;exact nn
 rw[eE (λl:Lt=>l.nm=s.nm) Lt.toD]
 have lo2:=Za (λl:Lt=>decide (l.nm=s.nm)) taken
 walk_at "go"
 refine bG (own s.nm taken) Lt.toD (λl=>.int l.mr) rfl (by unfold own;omega) (λl hl μ' sb N nn=>?_) ?_
 ·walk_at "go"
  exact nn
 walk_at "go"
 refine ⟨(own s.nm taken).map Lt.mr,by rw[Xg];rfl,?_⟩
 walk_at "go"
 refine bG (own s.nm taken) Lt.toD (λl=>.int (l.ag - l.hp)) rfl (by unfold own;omega) (λl hl μ' sb N nn=>?_) ?_
 ·walk_at "go"
  exact nn
 walk_at "go"
 rw[show (own s.nm taken).map (λl=>D.int (l.ag - l.hp))=((own s.nm taken).map λl=>l.ag - l.hp).map .int by rw[Xg];rfl]
 refine RP ?_
 simp only[↓DT]
 walk_at "go"
 simp only[Ht]
 refine ⟨s,x.du,⟨rfl,rfl⟩,?_⟩
 unfold own at h64
 have eo:(List.filter (λx:Lt=>decide (x.nm=s.nm)) bC).map (λl=>D.int l.nu)=((own s.nm bC).map Lt.nu).map .int:=by unfold own;rw[Xg];rfl
 refine ⟨by simp,by simp only[W9];omega,x.lo++(own s.nm bC).map Lt.nu,⟨by rw[eo,Xn],by unfold own;rw[Xi,W9];exact h64⟩,λns' pm so=>?_⟩
 rw[y8 pm so]
 refine ⟨by simp,by simp,_,.refl _,?_⟩
 have e:(sW s x bC taken).toD g=_:=rfl
 unfold sW Ss.toD own at k
 simp only[W9]
 exact k
theorem Ji {kvs:List (L2.Key×D)}{k:L2.Key}{d:D}(h:k ∉ kvs.map (·.1)):putD kvs k d=kvs++[(k,d)]:=by
 unfold putD
 refine if_neg λz=>?_
 obtain ⟨x,hx,e⟩:=zaN.mp z
 exact h (Xd.mpr ⟨x,hx,by simpa using e⟩)
theorem um:∀ (more kvs:List (L2.Key×D)),((kvs++more).map (·.1)).Nodup->jT kvs more=kvs++more
 | [],kvs,_=>by simp[jT]
 | (k,d)::r,kvs,h=>by
  have h1:k ∉ kvs.map (·.1):=λz=>by
   rw[Xn,Xh,Zh] at h
   exact h.2.2 k z k (by simp) rfl
  show jT (putD kvs k d) r=_
  rw[Ji h1,um r _ (by simpa using h)]
  simp
theorem FI {ss:List Sn}(h:(ss.map Sn.nm).Nodup):jT [] (kq ss)=kq ss:=by
 refine um _ [] ?_
 rw[zaa]
 unfold kq
 rw[Xg]
 have:(ss.map ((λx:L2.Key×D=>x.1) ∘ λs=>((.inr s.nm,.tup (s.rd.map .str)):L2.Key×D)))=(ss.map Sn.nm).map ZI:=by rw[Xg];rfl
 rw[this]
 exact zbC _ (λa b (hab:a≠b) (z:ZI a=ZI b)=>hab (ze5 z)) h
theorem qW {α β:Type}(f:α->D)(g:β->D)(xs:List α)(ys:List β):Yk (λd e=>D.tup [d,e]) (xs.map f) (ys.map g)=(Xm xs ys).map λy=>.tup [f y.1,g y.2]:=by
 simp only[Xm,zd9,Zw]
theorem Cf {α:Type}{G:GTr}{te:ETr}{ρc:ST}{ds:List D}{μ:Mu}{Q:DK}(xs:List α)(t:α->D)(h:α->D)(hds:ds=xs.map t)(hl:xs.length<=999999)
  (step:∀ x∈xs,∀ μ',Sub μ μ'->∀ (N:DK),N (h x) μ'->G (t x) ρc μ' λρ1 μ1=>te ρ1 μ1 N)
  (k:∀ p,μ p=none->Q (.obj p) (up μ p (.lst (xs.map h)))):OH G dF te ρc ds μ Q:=by
 subst hds
 intro p hp
 suffices go:∀ (r done:List α),done++r=xs->fF p G dF te ρc (λμ'=>Q (.obj p) μ') (r.map t) (up μ p (.lst (done.map h))) from go xs [] rfl
 intro r
 induction r with
 | nil=>
  intro done e
  rw[XH] at e;subst e
  exact k p hp
 | cons d r ih=>
  intro done e
  have hd:d∈xs:=by rw[← e];simp
  have lf:(done.map h).length < 1000000:=by
   have:=congrArg Yy e
   simp at this ⊢;omega
  refine step d hd _ (Sub.new hp) _ (bo aI ⟨lf,?_⟩)
  rw[iA]
  have:=ih (done++[d]) (by rw[← e];simp)
  rw[Xn] at this
  exact this
theorem vn {β:Type}(f:Wt->List β)(zs:List (Wy×Wt)):(zs.flatMap λy=>f y.2)=(zs.map (·.2)).flatMap f:=by rw[zea]
def btD (g:Int)(b:Ss×List Int):D:=.tup [b.1.toD g,.tup (b8 b.2)]
theorem cZ {α β γ:Type}(f:α->β->γ)(xs:List α)(ys:List β):Yk f xs ys=(Xm xs ys).map λp=>f p.1 p.2:=by
 simp[Xm,Zw]
structure NH (p:Pn) (st:St'):Prop where
 g:Gd p.g
 sd:p.sn.Nodup
 sl:p.ss.length<=100
 wl:p.ws.length<=100
 sn:∀ n∈p.sn,Xk n=true
 rl:∀ s∈p.ss,s.rl.Ok/\s.rd≠[]/\∀ n∈s.rd,Xk n=true
 wy:∀ w∈p.ws,Xk w.nm=true/\0<=w.pc
 ws:∀ w∈st.ws,w.Ok
 ss:∀ y∈Xm p.ss st.ss,y.2.Ok p.g y.1.rl
 nb:∀ b∈p.bE st,b.2.length<=1000
 se:∀ x∈p.aT st,Xk x.1=true/\x.2.nm∈p.sn
 sz:(p.aT st).length<=100000
 wz:∀ w∈st.ws,(∀ l∈w.cm++w.st,l.nm∈p.sn)/\w.cm.length+w.st.length<=700000
 go:∀ x∈p.bR st,x.ca.length+x.ou.length<=900000/\x.st.length<=900000
 ou:∀ l∈p.out st,l.nm∈p.sn/\0<=l.hp
 lo:∀ l∈p.bC st,l.nm∈p.sn
 oz:(p.out st).length<=900000
 lz:(p.bC st).length<=900000
 ez:(p.evs st).length<=900000
 lt:∀ y∈Xm p.ss (p.bE st),y.2.1.lo.length+(own y.1.nm (p.bC st)).length < 64
def iL:FSp:=λds μ Q=>kcA ds λpd ds=>kcA ds λsd ds=>kcN ds (∃ (p:Pn) (st:St'),((pd=p.toD/\sd=st.toD p.g)/\NH p st)/\Q (.tup [(p.step st).toD p.g,.ls (evD (p.evs st))]) μ)
theorem xC:∀ ds μ Q,iL ds μ Q->ds.length=2:=λ_ _ _ h=>lcA h λ_ _ h=>lcA h λ_ _ h=>by rw[(ecN h).1];rfl
def uK:STr:=aA (aO (aj L3.rIx (ah 0) (TC (.int 2))) (ay 2)) (aA (aO (au bw (af (bK (cN (ah 2)) (ay 0) (dF) (aj L3.rIx (ah 0) (TC (.int 0))) 1 []) (ao))) (ay 3)) (aA (aO (au De (af (bK (cN (ah 2)) (ay 0) (dF) (a7 (af (aj L3.rIx (ah 0) (TC (.int 0))) (af (aj L3.rIx (ah 0) (TC (.int 1))) (ao)))) 1 []) (ao))) (ay 4)) (aA (aO (bK (jk (af (ah 2) (af (aj L3.rIx (ah 1) (TC (.int 1))) (ao)))) (dh [0,1]) (dF) (au km (af (aj L3.rIx (ah 3) (TC (.int 0))) (af (ah 0) (af (ah 1) (af (ah 2) (ao)))))) 2 [1,0]) (ay 5)) (aA (aO (au dm (af (ah 2) (af (bK (cN (ah 5)) (dh [0,1]) (dF) (ah 1) 2 []) (ao)))) (ay 6)) (aA (aO (bK (jk (af (aj L3.rIx (ah 0) (TC (.int 1))) (af (aj L3.rIx (ah 1) (TC (.int 0))) (ao)))) (dh [0,1]) (dF) (au j5 (af (ah 0) (af (ah 2) (af (ah 1) (af (ah 3) (ao)))))) 2 [3,6]) (ay 7)) (aA (aO (wN (cN (ah 6)) (dh [0,1]) (dF) (a7 (af (TC (.str "sent")) (af (aj L3.rIx (ah 1) (TC (.int 0))) (af (aj L3.rIx (ah 1) (TC (.int 1))) (af (ah 0) (ao)))))) 2 []) (ay 8)) (aA (aO (kr (ao)) (ay 9)) (aA (aO (kr (ao)) (ay 10)) (aA (eG (jk (af (aj L3.rIx (ah 0) (TC (.int 1))) (af (ah 7) (ao)))) (dh [11,12]) (aA (eU (y1 (ah 8) (au fU (af (ah 11) (af (ah 4) (af (ah 12) (ao))))))) (aA (eU (y1 (ah 9) (aj L3.rIx (ah 12) (TC (.int 1))))) (eU (y1 (ah 10) (aj L3.rIx (ah 12) (TC (.int 2)))))))) (aA (aO (jV (ah 10) (ay 0) (TB (aj rIs (au cY (af (ah 1) (af (ah 0) (ao)))) (TC .non))) (ah 0) 1 [4]) (ay 13)) (aA (aO (bK (jk (af (aj L3.rIx (ah 0) (TC (.int 1))) (af (ah 7) (ao)))) (dh [0,1]) (dF) (au fT (af (ah 0) (af (ah 2) (af (ah 1) (af (ah 3) (ao)))))) 2 [4,10]) (ay 14)) (aA (aO (bK (jk (af (ah 2) (af (ah 5) (ao)))) (dh [0,1]) (dF) (au d9 (af (ah 0) (af (aj L3.rIx (ah 1) (TC (.int 0))) (af (ah 2) (af (ah 3) (ao)))))) 2 [9,13]) (ay 15)) (aV (a7 (af (a7 (af (au bw (af (ah 14) (ao))) (af (au bw (af (ah 15) (ao))) (ao)))) (af (wj (ah 8)) (ao)))))))))))))))))
theorem Cv:∀ ds μ Q,iL ds μ Q->uK { nx:=λ_ μ'=>RT Q .non μ',rt:=RT Q } (ini 16 ds) μ:=by
 intro ds μ Q h
 replace h:=ecA h
 obtain ⟨pd,ds,rfl,h⟩:=h
 replace h:=ecA h
 obtain ⟨sd,ds,rfl,h⟩:=h
 replace h:=ecN h
 obtain ⟨rfl,h⟩:=h
 walk_at "ini"
 unfold uK
 walk_at "go"
 obtain ⟨p,st,⟨⟨rfl,rfl⟩,R⟩,k⟩:=h
 have sl:=R.sl
 walk_at "go"
 refine bG p.ss Sn.toD (λs=>.str s.nm) rfl (by omega) (λs hs μ' sb N nn=>?_) ?_
 ·walk_at "go"
  exact nn
 walk_at "go"
 refine bG p.ss Sn.toD (λs=>.tup [.str s.nm,.tup (s.rd.map .str)]) rfl (by omega) (λs hs μ' sb N nn=>?_) ?_
 ·walk_at "go"
  exact nn
 walk_at "go"
 refine ⟨kq p.ss,by unfold kq;rw[Xg];rfl,by unfold kq;rw[W9];omega,λr hr=>?_⟩
 rw[FI R.sd]
 walk_at "go"
 rw[qW]
 have lz:∀ {α β:Type} (xs:List α) (ys:List β),(Xm xs ys).length<=xs.length:=λxs ys=>by simp;omega
 refine bG (Xm p.ss st.ss) (λy=>.tup [y.1.toD,y.2.toD p.g]) (λy=>btD p.g (y.2.bt p.g y.1 (st.und y.2.nm))) rfl (by have:=lz p.ss st.ss;omega) (λy hy μ' sb N nn=>?_) ?_
 ·walk_at "go"
  exact ⟨y.1,y.2,st,⟨⟨rfl,rfl,rfl⟩,(R.rl _ (Xx hy).1).1,R.g,R.ss y hy,R.ws⟩,nn⟩
 have eb:(Xm p.ss st.ss).map (λy=>btD p.g (y.2.bt p.g y.1 (st.und y.2.nm)))=(p.bE st).map (btD p.g):=by unfold Pn.bE;rw[cZ,Xg];rfl
 have lb:(p.bE st).length<=100:=by unfold Pn.bE;rw[Yw];omega
 rw[eb]
 walk_at "go"
 refine bG (p.bE st) (btD p.g) (λb=>.tup (b8 b.2)) rfl (by omega) (λb hb μ' sb N nn=>?_) ?_
 ·unfold btD
  walk_at "go"
  exact nn
 walk_at "go"
 refine ⟨p.ss,(p.bE st).map (·.2),⟨⟨rfl,by unfold nsD;rw[Xg];rfl⟩,sl,by rw[W9];exact lb,λn hn=>?_,λs hs=>(R.rl s hs).2.1⟩,?_⟩
 ·obtain ⟨b,hb,rfl⟩:=Xd.mp hn
  exact R.nb b hb
 rw[show kA p.ss ((p.bE st).map (·.2))=p.aT st from rfl]
 have sz:=R.sz
 have wl:=R.wl
 walk_at "go"
 rw[qW]
 refine bG (Xm p.ws st.ws) (λy=>.tup [y.1.toD,y.2.toD]) (λy=>(pass y.1 p.sn y.2 (p.aT st)).toD) rfl (by have:=lz p.ws st.ws;omega) (λy hy μ' sb N nn=>?_) ?_
 ·walk_at "go"
  have hw:=R.wy _ (Xx hy).1
  have hk:=R.wz _ (Xx hy).2
  have len2:p.sn.length<=900000:=by unfold Pn.sn;rw[W9];omega
  refine ⟨y.1,p.sn,y.2,p.aT st,⟨⟨rfl,by unfold Pn.sn;rw[Xg];rfl,rfl,rfl⟩,⟨hw.1,λx hx=>(R.se x hx).1⟩,hw.2,R.sn,λl hl=>?_,by have:=hk.2;omega,len2⟩,nn⟩
  rcases X0.mp hl with hl | hl
  ·exact hk.1 l hl
  ·obtain ⟨x,hx,rfl⟩:=Xd.mp hl
   exact (R.se x hx).2
 have ew:(Xm p.ws st.ws).map (λy=>(pass y.1 p.sn y.2 (p.aT st)).toD)=(p.bR st).map Wt.toD:=by unfold Pn.bR;rw[cZ,Xg];rfl
 rw[ew]
 walk_at "go"
 refine Cf (p.aT st) sdD (λx=>(⟨OF "sent", x.2.nm,x.2.nu,x.1⟩:Ev).toD) rfl (by omega) (λx hx μ' sb N nn=>?_) (λe he=>?_)
 ·walk_at "go"
  exact nn
 walk_at "go"
 intro l hl o ho
 walk_at "go"
 rw[qW]
 have er0:up μ r (.dct (kq p.ss)) r=some (.dct (kq p.ss)):=aI
 generalize hμr:up μ r (.dct (kq p.ss))=μr at *
 have nre:r≠e:=λz=>by rw[← z,er0] at he;cases he
 have nel:e≠l:=λz=>by rw[← z,aI] at hl;cases hl
 have nlo:l≠o:=λz=>by rw[← z,aI] at ho;cases ho
 have hl':μr l=none:=by rw[aU (XQ nel)] at hl;exact hl
 have ho1:up μr e (.lst ((p.aT st).map λx=>(⟨OF "sent", x.2.nm,x.2.nu,x.1⟩:Ev).toD)) o=none:=by rw[aU (XQ nlo)] at ho;exact ho
 have neo:e≠o:=λz=>by rw[← z,aI] at ho1;cases ho1
 have ho':μr o=none:=by rw[aU (XQ neo)] at ho1;exact ho1
 have nrl:r≠l:=λz=>by rw[← z,er0] at hl';cases hl'
 have nro:r≠o:=λz=>by rw[← z,er0] at ho';cases ho'
 have og:=R.go;have oe:=R.ez;have oz:=R.oz;have olz:=R.lz
 have S5:∀ {a},a∈Xm p.ws (p.bR st)->a.2∈p.bR st:=λh=>(Xx h).2
 have lw:(p.bR st).length<=p.ws.length:=by unfold Pn.bR;rw[Yw];omega
 have zw:(Xm p.ws (p.bR st)).map (·.2)=p.bR st:=by
  rw[List.map_snd_zip];exact lw
 refine bu (λrr ρ μ'=>∃ (a c:List (Wy×Wt)) (v11 v12 v13 v14 v15:Option D),rr=c.map (λy=>.tup [y.1.toD,y.2.toD])/\a++c=Xm p.ws (p.bR st)/\
  ρ=[some p.toD,some (st.toD p.g),some (.tup (snD p.ss)),some (.tup (p.ss.map λs=>.str s.nm)),some (.obj r),some (.ls ((p.bE st).map (btD p.g))),some (.ls ((p.aT st).map sdD)),some (.ls ((p.bR st).map Wt.toD)),some (.obj e),some (.obj l),some (.obj o),v11,v12,v13,v14,v15]/\
  (μ' e=some (.lst (evD ((p.aT st).map (λx=>⟨OF "sent", x.2.nm,x.2.nu,x.1⟩)++a.flatMap λy=>evs p.ss y.1 y.2)))/\μ' l=some (.lst (ltD (a.flatMap λy=>y.2.lo)))/\μ' o=some (.lst (ltD (a.flatMap λy=>y.2.ou))))/\∀ b,b≠e->b≠l->b≠o->μ' b=μr b) ?_ ?_ _ _ _
  ⟨[],Xm p.ws (p.bR st),_,_,_,_,_,rfl,rfl,rfl,⟨?_,?_,?_⟩,λb h1 h2 h3=>?_⟩
 rotate_left 2
 ·rw[aU neo,aU nel,aI];simp
 ·rw[aU nlo,aI];rfl
 ·rw[aI];rfl
 ·rw[aU h3,aU h2,aU h1]
 ·rintro ρ μ' ⟨a,c,v11,v12,v13,v14,v15,er',ez,rfl,⟨ee,el,eo⟩,eq⟩
  have:c=[]:=by cases c with | nil=>rfl | cons=>cases er'
  subst this
  rw[XH] at ez
  subst ez
  have el':μ' l=some (.lst (ltD (p.bC st))):=by rw[el,vn,zw];rfl
  have eo':μ' o=some (.lst (ltD (p.out st))):=by rw[eo,vn,zw];rfl
  have ee':μ' e=some (.lst (evD (p.evs st))):=by rw[ee];unfold Pn.evs;rw[cZ];congr 3
  have er1:μ' r=some (.dct (kq p.ss)):=by rw[eq r nre nrl nro];exact er0
  have hnm:∀ {n},n∈p.sn->n∈p.ss.map Sn.nm:=λh=>h
  walk_at "go"
  refine bo eo' ?_
  refine nv (p.out st) Lt.toD (λl=>if cX p.ss l=none then some l.toD else none) rfl eo' (by omega) (λy hy μ2 sb N nn=>?_) ?_
  ·walk_at "go"
   refine ⟨p.ss,y,⟨rfl,sb _ _ er1,hnm (R.ou y hy).1,(R.ou y hy).2⟩,?_⟩
   show rIs (xH (cX p.ss y)) .non μ2 _
   rw[Du]
   walk_at "go"
   refine kif (λh=>?_) (λh=>?_)
   ·rw[if_pos h] at nn;exact nn
   ·rw[if_neg h] at nn;exact nn
  rw[eE (λl:Lt=>cX p.ss l=none) Lt.toD]
  rw[show (p.out st).filter (λl=>decide (cX p.ss l=none))=p.taken st from rfl]
  walk_at "go"
  rw[qW]
  refine bG (Xm p.ws (p.bR st)) (λy=>.tup [y.1.toD,y.2.toD]) (λy=>(EE p.ss y.1 y.2 (p.out st)).toD) rfl (by have:=lz p.ws (p.bR st);omega) (λy hy μ2 sb N nn=>?_) ?_
  ·walk_at "go"
   have h1:=R.wy _ (Xx hy).1
   exact ⟨y.1,p.ss,y.2,p.out st,⟨⟨rfl,rfl⟩,⟨sb _ _ er1,sb _ _ eo'⟩,λx hx=>⟨hnm (R.ou x hx).1,(R.ou x hx).2⟩,⟨h1.1,λs hs=>(R.rl s hs).2.2⟩,R.oz,(R.go _ (S5 hy)).2⟩,nn⟩
  have e1:(Xm p.ws (p.bR st)).map (λy=>(EE p.ss y.1 y.2 (p.out st)).toD)=wsD (p.step st).ws:=by unfold Pn.step wsD;simp only;rw[cZ,Xg];rfl
  rw[e1]
  walk_at "go"
  rw[qW]
  have lt1:(p.taken st).length<=900000:=by have:=Za (λl:Lt=>decide (cX p.ss l=none)) (p.out st);unfold Pn.taken;omega
  refine bG (Xm p.ss (p.bE st)) (λy=>.tup [y.1.toD,btD p.g y.2]) (λy=>(sW y.1 y.2.1 (p.bC st) (p.taken st)).toD p.g) rfl (by have:=lz p.ss (p.bE st);omega) (λy hy μ2 sb N nn=>?_) ?_
  ·unfold btD
   walk_at "go"
   have hs:=(Xx hy).1
   refine ⟨p.g,y.1,y.2.1,p.bC st,p.taken st,⟨⟨rfl,rfl,rfl⟩,sb _ _ el',⟨R.sn _ (Xd.mpr ⟨_,hs,rfl⟩),λx hx=>R.sn _ (R.lo x hx),λx hx=>R.sn _ (R.ou x (Ys.mp hx).1).1⟩,⟨R.lz,lt1⟩,R.lt y hy⟩,nn⟩
  have e2:(Xm p.ss (p.bE st)).map (λy=>(sW y.1 y.2.1 (p.bC st) (p.taken st)).toD p.g)=ssD p.g (p.step st).ss:=by unfold Pn.step ssD;simp only;rw[cZ,Xg];rfl
  rw[e2]
  walk_at "go"
  refine bo ee' ?_
  refine ⟨μ,λb ob hb=>?_,k⟩
  have nb:∀ z,μr z=none->b≠z:=λz hz w=>by
   rw[w] at hb
   rw[← hμr] at hz
   by_cases hzr:z=r
   ·rw[hzr,hr] at hb;cases hb
   ·rw[aU hzr,hb] at hz;cases hz
  have n1:=nb e he
  have n2:=nb l hl'
  have n3:=nb o ho'
  unfold dn
  rw[if_neg n1,eq b n1 n2 n3,← hμr,aU (λw=>by rw[w,hr] at hb;cases hb)]
  exact hb
 ·rintro d rr ρ μ' N ⟨a,c,v11,v12,v13,v14,v15,er',ez,rfl,⟨ee,el,eo⟩,eq⟩ hN
  cases c with
  | nil=>cases er'
  | cons y c=>
  cases er'
  have hy:y∈Xm p.ws (p.bR st):=by rw[← ez];simp
  have hyw:=S5 hy
  have er1:μ' r=some (.dct (kq p.ss)):=by rw[eq r nre nrl nro];exact er0
  walk_at "go"
  refine bo ee ?_
  have hou:∀ x∈y.2.ou,x.nm∈p.ss.map Sn.nm/\0<=x.hp:=λx hx=>R.ou x (Y6.mpr ⟨_,hyw,hx⟩)
  refine ⟨y.1,p.ss,y.2,⟨⟨rfl,rfl⟩,er1,hou,(og _ hyw).1⟩,?_⟩
  walk_at "go"
  have za:a++y::c=Xm p.ws (p.bR st):=ez
  have le1:(evD ((p.aT st).map (λx=>⟨OF "sent", x.2.nm,x.2.nu,x.1⟩)++a.flatMap λy=>evs p.ss y.1 y.2)).length+(evD (evs p.ss y.1 y.2)).length<=1000000:=by
   have:(p.evs st).length=(p.aT st).length+((a++y::c).flatMap λy=>evs p.ss y.1 y.2).length:=by
    unfold Pn.evs;rw[cZ,za,Xi,W9];rfl
   rw[Yo,Yz,Xi,Xi] at this
   simp only[W9,Xi];omega
  have ll1:(ltD (a.flatMap λy=>y.2.lo)).length+(ltD y.2.lo).length<=1000000:=by
   have:(p.bC st).length=((a++y::c).flatMap λy=>y.2.lo).length:=by unfold Pn.bC;rw[za,vn,zw]
   rw[Yo,Yz,Xi,Xi] at this
   simp only[W9];omega
  have lo1:(ltD (a.flatMap λy=>y.2.ou)).length+(ltD y.2.ou).length<=1000000:=by
   have:(p.out st).length=((a++y::c).flatMap λy=>y.2.ou).length:=by unfold Pn.out;rw[za,vn,zw]
   rw[Yo,Yz,Xi,Xi] at this
   simp only[W9];omega
  refine bo ee ⟨le1,?_⟩
  walk_at "go"
  refine bo (by rw[aU (XQ nel)];exact el) (bo (by rw[aU (XQ nel)];exact el) ⟨ll1,?_⟩)
  walk_at "go"
  refine bo (by rw[aU (XQ nlo),aU (XQ neo)];exact eo) (bo (by rw[aU (XQ nlo),aU (XQ neo)];exact eo) ⟨lo1,?_⟩)
  refine hN _ _ ⟨a++[y],c,_,_,_,_,_,rfl,by rw[← ez];simp,rfl,⟨?_,?_,?_⟩,λb h1 h2 h3=>?_⟩
  ·rw[aU neo,aU nel,aI,Yo];simp
  ·rw[aU nlo,aI,Yo];simp
  ·rw[aI,Yo];simp
  ·rw[aU h3,aU h2,aU h1,eq b h1 h2 h3]
theorem qY {α:Type}{f g:α->Nat}:∀ {l:List α},(∀ x∈l,f x<=g x)->(l.map f).sum<=(l.map g).sum
 | [],_=>Xs _
 | a::r,h=>by
  have h1:=h a Xl
  have h2:=qY (l:=r) λx hx=>h x (Xo _ hx)
  simp only[Xh,XU];omega
theorem aZ {α:Type}(f g:α->Nat):∀ l:List α,(l.map λx=>f x+g x).sum=(l.map f).sum+(l.map g).sum
 | []=>rfl
 | a::r=>by have:=aZ f g r;simp only[Xh,XU];omega
theorem j9 {α:Type}{f:α->Nat}{k:Nat}:∀ {l:List α},(∀ x∈l,f x<=k)->(l.map f).sum<=l.length*k
 | [],_=>by simp
 | a::r,h=>by
  have h1:=h a Xl
  have h2:=j9 (l:=r) λx hx=>h x (Xo _ hx)
  simp only[Xh,XU,XI,Nat.succ_mul];omega
theorem gA {α:Type}{f:α->Nat}:∀ {l:List α} {x:α},x∈l->f x<=(l.map f).sum
 | a::r,x,h=>by
  simp only[Xh,XU]
  rcases Xr.mp h with rfl | h
  ·omega
  ·have:=gA (f:=f) h;omega
theorem mP {κ:Type} [DecidableEq κ] (a:κ):∀ {ks:List κ},ks.Nodup->(ks.map λk=>if a=k then 1 else 0).sum<=1
 | [],_=>by simp
 | k::r,h=>by
  have h':=X5.mp h
  simp only[Xh,XU]
  by_cases e:a=k
  ·have:(r.map λk=>if a=k then 1 else 0).sum=0:=by
    have:∀ l:List κ,a ∉ l->(l.map λk=>if a=k then 1 else 0).sum=0:=by
     intro l
     induction l with
     | nil=>intro _;rfl
     | cons b l ih=>
      intro hl
      simp only[Xr,not_or] at hl
      simp[hl.1,ih hl.2]
    exact this r (by rw[e];exact h'.1)
   rw[if_pos e,this];exact Xs 1
  ·rw[if_neg e];have:=mP a h'.2;omega
theorem split_le {α κ:Type} [DecidableEq κ] (f:α->κ){ks:List κ}(nd:ks.Nodup):∀ xs:List α,(ks.map λk=>(xs.filter λx=>decide (f x=k)).length).sum<=xs.length
 | []=>by
  have:∀ l:List κ,(l.map λ_=>0).sum=0:=λl=>by induction l<;>simp_all
  simpa using this ks
 | x::r=>by
  have h1:=split_le f nd r
  have h2:=mP (f x) nd
  have e:(ks.map λk=>((x::r).filter λx=>decide (f x=k)).length)=ks.map λk=>(if f x=k then 1 else 0)+(r.filter λx=>decide (f x=k)).length:=by
   refine XA λk _=>?_
   by_cases z:f x=k<;>simp[z];omega
  rw[e,aZ,XI];omega
theorem Cr (ns:List Str):∀ ls:List Lt,(∀ l∈ls,l.nm∈ns)->ls.length<=(ns.map λn=>(own n ls).length).sum
 | [],_=>by simp
 | x::r,h=>by
  have h1:=Cr ns r λl hl=>h l (Xo _ hl)
  have hx:=h x Xl
  have e:(ns.map λn=>(own n (x::r)).length)=ns.map λn=>(if x.nm=n then 1 else 0)+(own n r).length:=by
   refine XA λk _=>?_
   unfold own
   by_cases z:x.nm=k<;>simp[z];omega
  have h2:1<=(ns.map λn=>if x.nm=n then 1 else 0).sum:=by
   have:=gA (f:=λn=>if x.nm=n then 1 else 0) hx
   simpa using this
  rw[e,aZ,XI];omega
theorem wR (n:Str)(ls:List Lt):(own n ls).length=(ls.map Lt.nm).count n:=by
 unfold own
 induction ls with
 | nil=>rfl
 | cons x r ih=>by_cases z:x.nm=n<;>simp[z,ih]
theorem pC (n:Str)(a b:List Lt):(own n (a++b)).length=(own n a).length+(own n b).length:=by unfold own;simp
theorem qy:∀ {l:List Lt} {i:Nat} (h:i < l.length),([l[i]]++l.eraseIdx i).Perm l
 | x::r,0,_=>.refl _
 | x::r,i+1,h=>by
  have:=qy (l:=r) (i:=i) (by simpa using h)
  simp only[List.getElem_cons_succ,List.eraseIdx_cons_succ]
  exact (List.Perm.swap x _ _).trans (this.cons x)
theorem qX (ws:List Str)(p:Int):∀ (f:Nat) (st out:List Lt) (l:Str),((de ws p f st out l).1++(de ws p f st out l).2.1).Perm (out++st)
 | 0,st,out,l=>.refl _
 | f+1,st,out,l=>by
  unfold de
  split
  ·split
   ·rename_i n _
    split
    ·rename_i x e
     refine (qX ws p f _ _ _).trans ?_
     obtain ⟨hi,rfl⟩:=XR.mp e
     rw[Zi]
     exact zcC _ (qy hi)
    ·exact .refl _
   ·exact .refl _
  ·exact .refl _
theorem gM (w:Wy)(ws:List Str)(st:List Lt)(l:Str):((cx w ws st l).1++(cx w ws st l).2.1).Perm st:=by
 unfold cx
 split
 ·exact qX ..
 ·simp only[zcD];exact .refl _
theorem pO (w:Wy):∀ (ys a b:List Lt),(((ys.foldl (bV w) (a,b)).1++(ys.foldl (bV w) (a,b)).2).map Lt.nm).Perm ((a++b++ys).map Lt.nm)
 | [],a,b=>by simp
 | y::r,a,b=>by
  rw[YN]
  by_cases h:w.rm<=(a.length:Int)
  ·rw[l5 h]
   refine (pO w r a (b++[y])).trans (by simp)
  ·rw[yC h]
   refine (pO w r (a++[lD w y a.length]) b).trans ?_
   simp only[Xn,Xh,Zf,DP,Zi]
   refine zcC _ ?_
   exact (List.perm_middle (l₁:=zdK Lt.nm b)).symm
def Lt.In (sn:List Str)(l:Lt):Prop:=l.nm∈sn/\0<=l.hp/\0<=l.mr/\l.mr<=1
theorem NA {sn:List Str}{w:Wy}{x:Lt}(n:Nat)(h:x.In sn):(lD w x n).In sn:=by
 unfold lD
 split
 ·exact h
 ·split
  ·exact h
  ·exact ⟨h.1,h.2.1,(show (0:Int)<=1 by decide),X1 1⟩
theorem Ar {sn:List Str}(w:Wy):∀ (ys a b:List Lt),(∀ l∈a,l.In sn)->(∀ l∈b,l.In sn)->(∀ l∈ys,l.In sn)->(∀ l∈(ys.foldl (bV w) (a,b)).1,l.In sn)/\∀ l∈(ys.foldl (bV w) (a,b)).2,l.In sn
 | [],a,b,h1,h2,_=>⟨h1,h2⟩
 | y::r,a,b,h1,h2,h3=>by
  rw[YN]
  have hy:=h3 y Xl
  have hr:∀ l∈r,l.In sn:=λl hl=>h3 l (Xo _ hl)
  by_cases h:w.rm<=(a.length:Int)
  ·rw[l5 h]
   refine Ar w r a (b++[y]) h1 (λl hl=>?_) hr
   rcases X0.mp hl with hl | hl
   ·exact h2 l hl
   ·rw[Y7.mp hl];exact hy
  ·rw[yC h]
   refine Ar w r _ b (λl hl=>?_) h2 hr
   rcases X0.mp hl with hl | hl
   ·exact h1 l hl
   ·rw[Y7.mp hl];exact NA _ hy
theorem Hf (w:Wy)(ns:List Str)(k:Ws)(aT:List (Str×Lt))(n:Str):(own n (pass w ns k aT).lo).length+(own n (pass w ns k aT).ou).length+(own n (pass w ns k aT).st).length=(own n (pass w ns k aT).ca).length+(own n k.st).length:=by
 have h1:=(pO w (pass w ns k aT).ca k.st []).count_eq n
 have h2:=((gM w ns (tk w k.st (pass w ns k aT).ca).1 k.la).map Lt.nm).count_eq n
 simp only[Xn,Yg,← wR] at h1 h2
 have e1:(pass w ns k aT).lo=(tk w k.st (pass w ns k aT).ca).2:=rfl
 have e2:(pass w ns k aT).ou=(cx w ns (tk w k.st (pass w ns k aT).ca).1 k.la).1:=rfl
 have e3:(pass w ns k aT).st=(cx w ns (tk w k.st (pass w ns k aT).ca).1 k.la).2.1:=rfl
 rw[e1,e2,e3]
 unfold tk at *
 have:(own n ([]:List Lt)).length=0:=rfl
 omega
theorem HL (w:Wy)(ns:List Str)(k:Ws)(aT:List (Str×Lt)):(pass w ns k aT).lo.length+(pass w ns k aT).ou.length+(pass w ns k aT).st.length=(pass w ns k aT).ca.length+k.st.length:=by
 have h1:=(pO w (pass w ns k aT).ca k.st []).length_eq
 have h2:=(gM w ns (tk w k.st (pass w ns k aT).ca).1 k.la).length_eq
 simp only[W9,Xi,za2] at h1 h2
 have e1:(pass w ns k aT).lo=(tk w k.st (pass w ns k aT).ca).2:=rfl
 have e2:(pass w ns k aT).ou=(cx w ns (tk w k.st (pass w ns k aT).ca).1 k.la).1:=rfl
 have e3:(pass w ns k aT).st=(cx w ns (tk w k.st (pass w ns k aT).ca).1 k.la).2.1:=rfl
 rw[e1,e2,e3]
 unfold tk at *
 omega
theorem MN {sn:List Str}{w:Wy}{ns:List Str}{k:Ws}{aT:List (Str×Lt)}(hk:∀ l∈k.cm++k.st,l.In sn)(hs:∀ x∈aT,x.2.In sn):(∀ l∈(pass w ns k aT).ca,l.In sn)/\(∀ l∈(pass w ns k aT).lo,l.In sn)/\(∀ l∈(pass w ns k aT).ou,l.In sn)/\∀ l∈(pass w ns k aT).st,l.In sn:=by
 have hca:∀ l∈(pass w ns k aT).ca,l.In sn:=λl hl=>by
  rcases X0.mp (show l∈k.cm++(aT.filter λx=>decide (x.1=w.nm)).map (·.2) from hl) with hl | hl
  ·exact hk l (by simp[hl])
  ·obtain ⟨x,hx,rfl⟩:=Xd.mp hl
   exact hs x (Ys.mp hx).1
 have ht:=Ar w (pass w ns k aT).ca k.st [] (λl hl=>hk l (by simp[hl])) (λl hl=>nomatch hl) hca
 have hp:=gM w ns (tk w k.st (pass w ns k aT).ca).1 k.la
 refine ⟨hca,ht.2,λl hl=>ht.1 l (hp.mem_iff.mp (X8 _ hl)),λl hl=>ht.1 l (hp.mem_iff.mp (XC _ hl))⟩
theorem Nu {lf:Option Int}{k:Int}(k0:0<=k)(hl:∀ i,lf=some i->0<=i):0<=gE lf k/\gE lf k<=k/\∀ i,lf.map (· - gE lf k)=some i->0<=i:=by
 cases lf with
 | none=>exact ⟨k0,X1 _,λi h=>by cases h⟩
 | some l=>
  have:=hl l rfl
  refine ⟨?_,?_,λi h=>?_⟩
  ·show 0<=min k l;omega
  ·show min k l<=k;omega
  ·have e:l - min k l=i:=by simpa[gE] using h
   omega
theorem MT (a:Int)(n:Nat):(rgI a n).length=n:=by unfold rgI;simp
structure Fills (x:Ss) (pl:Nat) (b:Ss×List Int):Prop where
 same:b.1.nm=x.nm/\b.1.du=x.du/\b.1.W=x.W/\b.1.S=x.S/\b.1.lo=x.lo/\b.1.gd=x.gd/\b.1.mk'=x.mk'/\b.1.wt=x.wt
 few:b.2.length<=pl
 all:b.1.ag.length+b.2.length<=max x.ag.length pl
 n0:x.nx<=b.1.nx
 n1:b.1.nx<=x.nx+pl
 l:∀ i,b.1.lf=some i->0<=i
theorem Mn {x:Ss}(pl:Nat)(hl:∀ i,x.lf=some i->0<=i):Fills x pl (x.fill pl):=by
 have tl:(x.ag.take pl).length=min pl x.ag.length:=ZX
 obtain ⟨c0,c1,c2⟩:=Nu (lf:=x.lf) (k:=(pl:Int) - ((x.ag.take pl).length:Int)) (by omega) hl
 have e1:(x.fill pl).1.ag.length=x.ag.length - (x.ag.take pl).length:=by show (x.ag.drop _).length=_;rw[zaK]
 have e2:(x.fill pl).2.length=(x.ag.take pl).length+(gE x.lf ((pl:Int) - ((x.ag.take pl).length:Int))).toNat:=by show (x.ag.take pl++rgI _ _).length=_;rw[Xi,MT]
 have e3:(x.fill pl).1.nx=x.nx+gE x.lf ((pl:Int) - ((x.ag.take pl).length:Int)):=rfl
 refine ⟨⟨rfl,rfl,rfl,rfl,rfl,rfl,rfl,rfl⟩,by omega,by omega,by omega,by omega,c2⟩
structure SsI (g:Int) (R:RN) (n:Nat) (x:Ss):Prop where
 w0:g<=x.W
 w1:x.W<=R.cap g
 s0:0<=x.S
 s1:x.S<=g
 g0:0<=x.gd
 g1:x.gd<=60*n
 m0:0<=x.mk'
 m1:x.mk'<=60*n
 t0:0<=x.wt
 n0:0<=x.nx
 n1:x.nx<=60*n
 l:∀ i,x.lf=some i->0<=i
theorem SsI.ok {g:Int}{R:RN}{n:Nat}{x:Ss}(h:SsI g R n x)(hn:n<=10000)(nm:Xk x.nm=true)(a:x.ag.length+x.lo.length<=60):x.Ok g R:=by
 have:=h.g1;have:=h.m1;have:=h.n1
 exact ⟨nm,h.w0,h.w1,h.s0,h.s1,⟨h.g0,(show x.gd<=1000000 by omega),h.m0,(show x.mk'<=1000000 by omega),(show (0:Int)<=(x.lo.length:Int) by omega),(show (x.lo.length:Int)<=1000000 by omega),h.t0⟩,by have:=h.n0;omega,by omega,a,h.l⟩
structure DI (g:Int) (R:RN) (n:Nat) (u:Int) (x:Ss) (b:Ss×List Int):Prop where
 nm:b.1.nm=x.nm
 i:SsI g R (n+1) b.1
 g:b.1.gd<=60*n
 m:b.1.mk'<=60*n
 few:b.2.length<=60
 all:u+(b.2.length:Int)+(b.1.ag.length:Int)+(b.1.lo.length:Int)<=60
theorem Tu {p:Int}{s:Sn}{n:Nat}{x:Ss}{u:Int}(K:s.rl.Ok)(g0:0 < p)(h:SsI p s.rl n x)(hd:x.hd.Ok)(u0:0<=u)(a:u+(x.ag.length:Int)+(x.lo.length:Int)<=60):DI p s.rl n u x (x.bt p s u):=by
 unfold Ss.bt
 have i:=h
 split
 ·have bi:=JO K g0 x.hd (S:=x.S) h.w0 h.w1
  have bs:=RD K hd g0 h.s0 h.s1
  rw[← M6 s.rl p x.W x.S x.hd] at bs
  have cl:=He K g0
  have d60:(s.rl.beh p x.W x.S x.hd).1 / p<=60:=ZG g0 (by omega)
  generalize hpl:(max 0 ((s.rl.beh p x.W x.S x.hd).1 / p - u)).toNat=pl
  have F:=Mn (x:=x.rdy p s.rl) pl h.l
  have la:(x.rdy p s.rl).ag.length=x.ag.length+x.lo.length:=by show (d7 _).length=_;rw[m7,Xi]
  obtain ⟨e1,e2,e3,e4,e5,e6,e7,e8⟩:=F.same
  have f1:=F.few;have f2:=F.all;have f3:=F.n0;have f4:=F.n1
  have ex:(x.rdy p s.rl).nx=x.nx:=rfl
  have elo:((x.rdy p s.rl).fill pl).1.lo.length=0:=by rw[e5];rfl
  have:=h.n0;have:=h.n1
  have z6:((x.rdy p s.rl).fill pl).1.gd=0:=e6
  have z7:((x.rdy p s.rl).fill pl).1.mk'=0:=e7
  have z8:((x.rdy p s.rl).fill pl).1.wt=0:=e8
  refine ⟨e1,⟨?_,?_,?_,?_,by omega,by omega,by omega,by omega,by omega,by omega,by omega,F.l⟩,by omega,by omega,by omega,by omega⟩
  ·rw[e3];exact bi.1
  ·rw[e3];exact bi.2
  ·rw[e4];exact bs.1
  ·rw[e4];exact bs.2
 ·have:=h.g1;have:=h.m1;have:=h.n1
  exact ⟨rfl,⟨h.w0,h.w1,h.s0,h.s1,h.g0,(show x.gd<=60*((n+1:Nat):Int) by omega),h.m0,(show x.mk'<=60*((n+1:Nat):Int) by omega),h.t0,h.n0,(show x.nx<=60*((n+1:Nat):Int) by omega),h.l⟩,h.g1,h.m1,by simp,by simpa using a⟩
theorem Hy {ss:List Sn}{ns:List (List Int)}{x:Str×Lt}(h:x∈kA ss ns):∃ s∈ss,∃ n,x=(s.rd.headD (OF ""),⟨s.nm,n,0,0,0⟩):=by
 rw[lL] at h
 obtain ⟨t,_,h⟩:=Y6.mp h
 obtain ⟨y,hy,e⟩:=zbk.mp h
 unfold dP at e
 cases q:y.2[t]? with
 | none=>rw[q] at e;cases e
 | some n=>
  rw[q] at e
  cases e
  exact ⟨y.1,(Xx hy).1,n,rfl⟩
theorem zd (n:Str)(t:Nat):∀ zs:List (Sn×List Int),(own n ((zs.filterMap (dP t)).map (·.2))).length<=(zs.map λy=>if n=y.1.nm then 1 else 0).sum
 | []=>by simp[own]
 | y::r=>by
  have ih:=zd n t r
  simp only[Xh,XU]
  cases e:dP t y with
  | none=>rw[zbO e];omega
  | some z=>
   rw[zbP e,Xh]
   have ez:z.2.nm=y.1.nm:=by
    unfold dP at e
    cases q:y.2[t]? with
    | none=>rw[q] at e;cases e
    | some k=>rw[q] at e;cases e;rfl
   unfold own at *
   by_cases h:n=y.1.nm
   ·rw[if_pos h]
    rw[Zt]
    split
    ·rw[XI];omega
    ·omega
   ·rw[if_neg h,zb5 (by rw[ez];simp;exact λz=>h z.symm)];omega
theorem uN (n:Str)(t L:Nat)(hL:L<=t):∀ zs:List (Sn×List Int),(∀ y∈zs,y.1.nm=n->y.2.length<=L)->(own n ((zs.filterMap (dP t)).map (·.2))).length=0
 | [],_=>rfl
 | y::r,h=>by
  have ih:=uN n t L hL r λy hy=>h y (Xo _ hy)
  cases e:dP t y with
  | none=>rw[zbO e];exact ih
  | some z=>
   rw[zbP e,Xh]
   unfold dP at e
   cases q:y.2[t]? with
   | none=>rw[q] at e;cases e
   | some k=>
    rw[q] at e;cases e
    have hlt:=(XR.mp q).1
    have ne:¬ y.1.nm=n:=λz=>by have:=h y Xl z;omega
    unfold own at *
    rw[zb5 (by simpa using ne)]
    exact ih
theorem mF {α:Type}(n:Str)(f:α->List Lt):∀ xs:List α,(own n (xs.flatMap f)).length=(xs.map λx=>(own n (f x)).length).sum
 | []=>rfl
 | x::r=>by rw[Yz,pC,mF n f r];rfl
theorem K3 (L:Nat):∀ M:Nat,((XJ M).map λt=>if t < L then 1 else 0).sum<=L
 | 0=>by simp
 | M+1=>by
  have key:∀ M:Nat,((XJ M).map λt=>if t < L then 1 else 0).sum=min M L:=by
   intro M
   induction M with
   | zero=>simp
   | succ M ih=>
    rw[zba,Xn,List.sum_append,ih]
    simp only[Xh,Zf,XU,List.sum_nil]
    split<;>omega
  rw[key];omega
theorem vN {α β:Type}:∀ (xs:List α) (ys:List β),((Xm xs ys).map (·.1)) <+: xs
 | [],_=>by simp
 | x::r,[]=>by simp
 | x::r,y::s=>by simpa using vN r s
theorem HK {ss:List Sn}{ns:List (List Int)}(nd:(ss.map Sn.nm).Nodup)(n:Str)(L:Nat)(h:∀ y∈Xm ss ns,y.1.nm=n->y.2.length<=L):(own n ((kA ss ns).map (·.2))).length<=L:=by
 rw[lL,zaP,mF]
 refine XZ (qY (g:=λt=>if t < L then 1 else 0) λt _=>?_) (K3 L _)
 split
 ·refine XZ (zd n t _) ?_
  have e:((Xm ss ns).map λy=>if n=y.1.nm then 1 else 0)=((Xm ss ns).map (·.1.nm)).map λk=>if n=k then 1 else 0:=by rw[Xg];rfl
  rw[e]
  refine mP n ?_
  have e2:(Xm ss ns).map (·.1.nm)=((Xm ss ns).map (·.1)).map Sn.nm:=by rw[Xg];rfl
  rw[e2]
  exact nd.sublist (((vN ss ns).sublist).map Sn.nm)
 ·rw[uN n t L (by omega) _ h];exact Xs 0
def St'.jQ (x:St')(n:Str):Nat:=(x.ws.map λw=>(own n (w.cm++w.st)).length).sum
theorem S7 (x:St')(n:Str):x.und n=(x.jQ n:Int):=by
 unfold St'.und St'.jQ
 induction x.ws with
 | nil=>rfl
 | cons a l ih=>simp only[Xh,XU,ih];omega
structure dk (p:Pn) (m:Int) (n:Nat) (st:St'):Prop where
 K:p.Ok m
 lw:st.ws.length=p.ws.length
 nm:st.ss.map Ss.nm=p.sn
 lt:∀ w∈st.ws,∀ l∈w.cm++w.st,l.In p.sn
 ss:∀ y∈Xm p.ss st.ss,SsI p.g y.1.rl n y.2
 cn:∀ x∈st.ss,(st.jQ x.nm:Int)+(x.ag.length:Int)+(x.lo.length:Int)<=60
theorem Ea {ns:List Str}(h:ns.Pairwise λa b=>ltS a b=true):ns.Nodup:=h.imp λ{a b} h e=>by
 subst e
 have:¬ a.cps.toList < a.cps.toList:=List.lt_irrefl _
 simp[ltS,this] at h
theorem sG {α β:Type}{f:α->List β}{k:Nat}{l:List α}(h:∀ x∈l,(f x).length<=k):(l.flatMap f).length<=l.length*k:=by
 rw[List.length_flatMap];exact j9 h
theorem mL {α β:Type}{f:α->β}{a b:α}:∀ {l:List α},(l.map f).Nodup->a∈l->b∈l->f a=f b->a=b
 | x::r,h,ha,hb,e=>by
  have h':=X5.mp h
  rcases Xr.mp ha with ea | ha
  ·rcases Xr.mp hb with eb | hb
   ·rw[ea,eb]
   ·exact absurd (Xd.mpr ⟨b,hb,by rw[← e,ea]⟩:f x∈r.map f) h'.1
  ·rcases Xr.mp hb with eb | hb
   ·exact absurd (Xd.mpr ⟨a,ha,by rw[e,eb]⟩:f x∈r.map f) h'.1
   ·exact mL h'.2 ha hb e
section
variable {p:Pn} {m:Int} {n:Nat} {st:St'} (I:dk p m n st)
include I
theorem dk.sd:p.sn.Nodup:=Ea I.K.sd
theorem dk.ls:st.ss.length=p.ss.length:=by have:=congrArg Yy I.nm;simpa using this
theorem dk.znm {y:Sn×Ss}(h:y∈Xm p.ss st.ss):y.2.nm=y.1.nm:=by
 obtain ⟨i,hi,e⟩:=Zq h
 have h1:i < p.ss.length:=by simp at hi;omega
 have h2:i < st.ss.length:=by simp at hi;omega
 have e1:=congrArg (λl=>l[i]?) I.nm
 simp[h1,h2] at e1
 rw[← e]
 simpa using e1
theorem dk.snm {a:Str}(h:a∈p.sn):∃ x∈st.ss,x.nm=a:=by rw[← I.nm] at h;obtain ⟨x,hx,e⟩:=Xd.mp h;exact ⟨x,hx,e⟩
theorem dk.TK {a:Str}(h:a∈p.sn):st.jQ a<=60:=by
 obtain ⟨x,hx,rfl⟩:=I.snm h
 have:=I.cn x hx;omega
theorem dk.snl:p.sn.length<=8:=by unfold Pn.sn;rw[W9];exact I.K.s1
theorem dk.Nj {w:Ws}(h:w∈st.ws):w.cm.length+w.st.length<=480:=by
 have h1:=Cr p.sn (w.cm++w.st) λl hl=>(I.lt w h l hl).1
 have h2:(p.sn.map λa=>(own a (w.cm++w.st)).length).sum<=p.sn.length*60:=j9 λa ha=>by
  have:=I.TK ha
  have:=gA (f:=λw:Ws=>(own a (w.cm++w.st)).length) h
  unfold St'.jQ at *;omega
 have:=I.snl
 rw[Xi] at h1;omega
theorem dk.sok {a:Str}(h:a∈p.sn):Xk a=true:=by
 obtain ⟨s,hs,rfl⟩:=Xd.mp h
 exact (I.K.s s hs).n
theorem dk.xok (hn:n<=10000){y:Sn×Ss}(h:y∈Xm p.ss st.ss):y.2.Ok p.g y.1.rl:=by
 have hx:=(Xx h).2
 have c:=I.cn _ hx
 refine (I.ss y h).ok hn (I.sok ?_) (by omega)
 rw[I.znm h];exact Xd.mpr ⟨_,(Xx h).1,rfl⟩
theorem dk.bt (hn:n<=10000){y:Sn×Ss}(h:y∈Xm p.ss st.ss):DI p.g y.1.rl n (st.jQ y.2.nm) y.2 (y.2.bt p.g y.1 (st.und y.2.nm)):=by
 have hx:=(Xx h).2
 have hs:=(Xx h).1
 have c:=I.cn _ hx
 rw[S7]
 exact Tu (I.K.s _ hs).k (by have:=I.K.g.1;omega) (I.ss y h) (I.xok hn h).h (by omega) c
theorem dk.WI (hn:n<=10000){b:Ss×List Int}(h:b∈p.bE st):∃ y∈Xm p.ss st.ss,b=y.2.bt p.g y.1 (st.und y.2.nm)/\DI p.g y.1.rl n (st.jQ y.2.nm) y.2 b:=by
 unfold Pn.bE at h
 rw[cZ] at h
 obtain ⟨y,hy,rfl⟩:=Xd.mp h
 exact ⟨y,hy,rfl,I.bt hn hy⟩
theorem dk.nb (hn:n<=10000){b:Ss×List Int}(h:b∈p.bE st):b.2.length<=60:=by obtain ⟨y,_,_,B⟩:=I.WI hn h;exact B.few
theorem dk.zb {y:Sn×(Ss×List Int)}(h:y∈Xm p.ss (p.bE st)):∃ x,(y.1,x)∈Xm p.ss st.ss/\y.2=x.bt p.g y.1 (st.und x.nm):=by
 obtain ⟨i,hi,e⟩:=Zq h
 have h1:i < p.ss.length:=by simp at hi;omega
 have h2:i < st.ss.length:=by have:=I.ls;omega
 refine ⟨st.ss[i],?_,?_⟩
 ·have:i < (Xm p.ss st.ss).length:=by simp;omega
  have hm:=YS this
  rw[zb6] at hm
  rw[← e];simpa using hm
 ·rw[← e]
  simp[Pn.bE]
theorem dk.zs {y:Sn×List Int}(h:y∈Xm p.ss ((p.bE st).map (·.2))):∃ b,(y.1,b)∈Xm p.ss (p.bE st)/\y.2=b.2:=by
 rw[YT] at h
 obtain ⟨z,hz,rfl⟩:=Xd.mp h
 exact ⟨z.2,hz,rfl⟩
theorem dk.OJ (hn:n<=10000){x:Ss}{s:Sn}(h:(s,x)∈Xm p.ss st.ss):(own s.nm ((p.aT st).map (·.2))).length<=(x.bt p.g s (st.und x.nm)).2.length:=by
 refine HK I.sd s.nm _ λy hy e=>?_
 obtain ⟨b,hb,e2⟩:=I.zs hy
 obtain ⟨x',hx',e3⟩:=I.zb hb
 have e3':b=x'.bt p.g y.1 (st.und x'.nm):=e3
 have es:y.1=s:=mL (f:=Sn.nm) I.sd (Xx hx').1 (Xx h).1 e
 have ex:x'=x:=by
  refine mL (f:=Ss.nm) (by rw[I.nm];exact I.sd) (Xx hx').2 (Xx h).2 ?_
  have n1:x'.nm=y.1.nm:=I.znm hx'
  have n2:x.nm=s.nm:=I.znm h
  rw[n1,n2];exact e
 rw[e2,e3',es,ex]
 exact Xs _
theorem dk.V5 {s:Sn}(h:s∈p.ss):∃ x,(s,x)∈Xm p.ss st.ss:=by
 obtain ⟨i,hi,e⟩:=Zq h
 have h2:i < st.ss.length:=by have:=I.ls;omega
 have:i < (Xm p.ss st.ss).length:=by simp;omega
 have hm:=YS this
 rw[zb6] at hm
 exact ⟨_,by rw[← e];exact hm⟩
theorem dk.vA {x:Str×Lt}(h:x∈p.aT st):x.2.In p.sn/\Xk x.1=true:=by
 obtain ⟨s,hs,k,rfl⟩:=Hy h
 have hk:=I.K.s s hs
 refine ⟨⟨Xd.mpr ⟨s,hs,rfl⟩,X1 0,X1 0,(show (0:Int)<=1 by decide)⟩,?_⟩
 cases e:s.rd with
 | nil=>exact absurd e hk.r0
 | cons a r=>
  have:a∈p.wn:=hk.r.subset (by rw[e];simp)
  obtain ⟨w,hw,rfl⟩:=Xd.mp this
  exact (I.K.w w hw).n
theorem dk.O1 (hn:n<=10000):(p.aT st).length<=480:=by
 have h1:=Cr p.sn ((p.aT st).map (·.2)) λl hl=>by obtain ⟨x,hx,rfl⟩:=Xd.mp hl;exact (I.vA hx).1.1
 have h2:(p.sn.map λa=>(own a ((p.aT st).map (·.2))).length).sum<=p.sn.length*60:=j9 λa ha=>by
  obtain ⟨s,hs,rfl⟩:=Xd.mp ha
  obtain ⟨x,hx⟩:=I.V5 hs
  exact XZ (I.OJ hn hx) (I.bt hn hx).few
 have:=I.snl
 rw[W9] at h1;omega
theorem dk.G4 {x:Wt}(h:x∈p.bR st):∃ y∈Xm p.ws st.ws,x=pass y.1 p.sn y.2 (p.aT st):=by
 unfold Pn.bR at h
 rw[cZ] at h
 obtain ⟨y,hy,rfl⟩:=Xd.mp h
 exact ⟨y,hy,rfl⟩
theorem dk.CF {x:Wt}(h:x∈p.bR st):(∀ l∈x.ca,l.In p.sn)/\(∀ l∈x.lo,l.In p.sn)/\(∀ l∈x.ou,l.In p.sn)/\∀ l∈x.st,l.In p.sn:=by
 obtain ⟨y,hy,rfl⟩:=I.G4 h
 exact MN (I.lt _ (Xx hy).2) λx hx=>(I.vA hx).1
theorem dk.DX (hn:n<=10000){x:Wt}(h:x∈p.bR st):x.ca.length<=960/\x.lo.length+x.ou.length+x.st.length<=1440:=by
 obtain ⟨y,hy,rfl⟩:=I.G4 h
 have h1:=I.Nj (Xx hy).2
 have h2:=I.O1 hn
 have h3:=HL y.1 p.sn y.2 (p.aT st)
 have h4:(pass y.1 p.sn y.2 (p.aT st)).ca.length<=y.2.cm.length+(p.aT st).length:=by
  show (y.2.cm++((p.aT st).filter λx=>decide (x.1=y.1.nm)).map (·.2)).length<=_
  rw[Xi,W9]
  have:=Za (λx:Str×Lt=>decide (x.1=y.1.nm)) (p.aT st)
  omega
 omega
theorem dk.wl:(p.bR st).length<=6:=by unfold Pn.bR;rw[Yw];have:=I.K.w1;omega
end
theorem m9 {α:Type}(a b:α->Bool)(l:List α):(l.filter a).filter b=(l.filter b).filter a:=by
 rw[zaj,zaj];congr 1;funext x;exact Bool.and_comm ..
theorem Oa (n:Str)(q:Str×Lt->Bool)(l:List (Str×Lt)):(own n ((l.filter q).map (·.2))).length=((l.filter λx=>decide (x.2.nm=n)).filter q).length:=by
 unfold own
 rw[zac,W9,← m9]
 rfl
theorem zU (n:Str)(h:Int)(l:List Lt):(own n (l.map (·.lI h))).length=(own n l).length:=by
 rw[wR,wR,Xg];rfl
theorem lQ {α β γ:Type}(P:α×β->γ):∀ (xs:List α) (ys:List β),Xm xs ((Xm xs ys).map P)=(Xm xs ys).map λy=>(y.1,P y)
 | [],_=>by simp
 | x::r,[]=>by simp
 | x::r,y::s=>by simp[lQ P r s]
theorem lF {α β:Type}:∀ {xs:List α} {ys:List β},xs.length<=ys.length->(Xm xs ys).map (·.1)=xs
 | [],_,_=>by simp
 | x::r,[],h=>by simp at h
 | x::r,y::s,h=>by simp[lF (xs:=r) (ys:=s) (by simpa using h)]
theorem iR {α β:Type}:∀ {xs:List α} {ys:List β},ys.length<=xs.length->(Xm xs ys).map (·.2)=ys
 | _,[],_=>by simp
 | [],y::s,h=>by simp at h
 | x::r,y::s,h=>by simp[iR (xs:=r) (ys:=s) (by simpa using h)]
theorem Ec (q:Lt->Bool)(n:Str)(l:List Lt):(own n (l.filter q)).length+(own n (l.filter λx=>!q x)).length=(own n l).length:=by
 unfold own
 induction l with
 | nil=>rfl
 | cons x r ih=>by_cases h1:q x<;>by_cases h2:x.nm=n<;>simp[h1,h2] at ih ⊢ <;> omega
theorem Jb {p:Pn}{st:St'}(nd:p.wn.Nodup)(lw:st.ws.length=p.ws.length)(a:Str) :
  (p.step st).jQ a+(own a (p.taken st)).length+(own a (p.bC st)).length<=st.jQ a+(own a ((p.aT st).map (·.2))).length:=by
 generalize hZ:Xm p.ws st.ws=Z
 have z1:Z.map (·.1)=p.ws:=by rw[← hZ];exact lF (by omega)
 have z2:Z.map (·.2)=st.ws:=by rw[← hZ];exact iR (by omega)
 let P:Wy×Ws->Wt:=λy=>pass y.1 p.sn y.2 (p.aT st)
 have ew:p.bR st=Z.map P:=by unfold Pn.bR;rw[cZ,hZ]
 have el:(own a (p.bC st)).length=(Z.map λy=>(own a (P y).lo).length).sum:=by unfold Pn.bC;rw[mF,ew,Xg];rfl
 have eo:(own a (p.out st)).length=(Z.map λy=>(own a (P y).ou).length).sum:=by unfold Pn.out;rw[mF,ew,Xg];rfl
 have e3:(Z.map λy=>(own a (P y).lo).length).sum+(Z.map λy=>(own a (P y).ou).length).sum+(Z.map λy=>(own a (P y).st).length).sum=(Z.map λy=>(own a (P y).ca).length).sum+(Z.map λy=>(own a y.2.st).length).sum:=by
  rw[← aZ,← aZ,← aZ]
  congr 1
  exact XA λy _=>Hf y.1 p.sn y.2 (p.aT st) a
 have e4:(Z.map λy=>(own a (P y).ca).length).sum<=(Z.map λy=>(own a y.2.cm).length).sum+(own a ((p.aT st).map (·.2))).length:=by
  have:(Z.map λy=>(own a (P y).ca).length)=Z.map λy=>(own a y.2.cm).length+(((p.aT st).filter λx=>decide (x.2.nm=a)).filter λx=>decide (x.1=y.1.nm)).length:=by
   refine XA λy _=>?_
   show (own a (y.2.cm++((p.aT st).filter λx=>decide (x.1=y.1.nm)).map (·.2))).length=_
   rw[pC,Oa]
  rw[this,aZ]
  have h2:=split_le (f:=λx:Str×Lt=>x.1) nd ((p.aT st).filter λx=>decide (x.2.nm=a))
  have h3:(Z.map λy=>(((p.aT st).filter λx=>decide (x.2.nm=a)).filter λx=>decide (x.1=y.1.nm)).length)=(p.wn.map λk=>(((p.aT st).filter λx=>decide (x.2.nm=a)).filter λx=>decide (x.1=k)).length):=by
   unfold Pn.wn;rw[← z1,Xg,Xg];rfl
  rw[h3]
  have h4:(own a ((p.aT st).map (·.2))).length=((p.aT st).filter λx=>decide (x.2.nm=a)).length:=by
   unfold own;rw[zac,W9];rfl
  omega
 have e5:st.jQ a=(Z.map λy=>(own a y.2.cm).length).sum+(Z.map λy=>(own a y.2.st).length).sum:=by
  unfold St'.jQ
  rw[← z2,Xg,← aZ]
  congr 1
  exact XA λy _=>pC ..
 have e6:(p.step st).jQ a=(Z.map λy=>(own a ((p.out st).filter λl=>decide (cX p.ss l=some y.1.nm))).length).sum+(Z.map λy=>(own a (P y).st).length).sum:=by
  unfold St'.jQ Pn.step
  simp only
  rw[cZ,ew,← hZ,lQ,hZ,Xg,Xg,← aZ]
  congr 1
  refine XA λy _=>?_
  show (own a (((p.out st).filter λl=>decide (cX p.ss l=some y.1.nm)).map (·.lI 1)++(P y).st.map (·.lI 0))).length=_
  rw[pC,zU,zU]
 have e7:(Z.map λy=>(own a ((p.out st).filter λl=>decide (cX p.ss l=some y.1.nm))).length).sum<=(own a ((p.out st).filter λl=>!decide (cX p.ss l=none))).length:=by
  have nd2:(p.wn.map some).Nodup:=zbC _ (λa b (h:a≠b) (z:some a=some b)=>h (XY z)) nd
  have h2:=split_le (f:=cX p.ss) nd2 (own a ((p.out st).filter λl=>!decide (cX p.ss l=none)))
  rw[Xg] at h2
  have h3:(Z.map λy=>(own a ((p.out st).filter λl=>decide (cX p.ss l=some y.1.nm))).length)=p.wn.map ((λk=>((own a ((p.out st).filter λl=>!decide (cX p.ss l=none))).filter λx=>decide (cX p.ss x=k)).length) ∘ some):=by
   unfold Pn.wn
   rw[← z1,Xg,Xg]
   refine XA λy _=>?_
   unfold own
   simp only[Function.comp,zaj]
   congr 2
   funext x
   by_cases h1:x.nm=a<;>cases h:cX p.ss x<;>simp[h1]
  rw[h3];exact h2
 have e8:=Ec (λl=>decide (cX p.ss l=none)) a (p.out st)
 have e9:(own a (p.taken st)).length=(own a ((p.out st).filter λl=>decide (cX p.ss l=none))).length:=rfl
 omega
theorem uQ:∀ {l:List Lt},(∀ x∈l,0<=x.mr/\x.mr<=1)->0<=(l.map Lt.mr).sum/\(l.map Lt.mr).sum<=(l.length:Int)
 | [],_=>by simp
 | x::r,h=>by
  have h1:=h x Xl
  have h2:=uQ (l:=r) λx hx=>h x (Xo _ hx)
  simp only[Xh,XU,XI];omega
section
variable {p:Pn} {m:Int} {n:Nat} {st:St'} (I:dk p m n st) (hn:n<=10000)
include I
theorem dk.DJ {l:Lt}(h:l∈p.out st):l.In p.sn:=by
 obtain ⟨x,hx,hl⟩:=Y6.mp h
 exact (I.CF hx).2.2.1 l hl
theorem dk.Rf {l:Lt}(h:l∈p.bC st):l.In p.sn:=by
 obtain ⟨x,hx,hl⟩:=Y6.mp h
 exact (I.CF hx).2.1 l hl
include hn
theorem dk.cons {s:Sn}{b:Ss×List Int}(h:(s,b)∈Xm p.ss (p.bE st)):b.1.nm=s.nm/\SsI p.g s.rl (n+1) b.1/\b.1.gd<=60*n/\b.1.mk'<=60*n/\
  ((p.step st).jQ s.nm:Int)+((own s.nm (p.taken st)).length:Int)+((own s.nm (p.bC st)).length:Int)+(b.1.ag.length:Int)+(b.1.lo.length:Int)<=60:=by
 obtain ⟨x,hx,e⟩:=I.zb h
 have e':b=x.bt p.g s (st.und x.nm):=e
 have B:DI p.g s.rl n (st.jQ x.nm) x (x.bt p.g s (st.und x.nm)):=I.bt hn hx
 have nm:x.nm=s.nm:=I.znm hx
 have c:=Jb (p:=p) (st:=st) I.K.wd I.lw s.nm
 have d:(own s.nm ((p.aT st).map (·.2))).length<=(x.bt p.g s (st.und x.nm)).2.length:=I.OJ hn hx
 have a:=B.all
 rw[← e'] at B d a
 rw[nm] at a
 exact ⟨B.nm.trans nm,B.i,B.g,B.m,by omega⟩
theorem dk.rd:NH p st:=by
 have w1:=I.K.w1;have s1:=I.K.s1
 have wl:=I.wl
 have sl:=I.O1 hn
 have lo:=sG (f:=Wt.lo) (k:=1440) (l:=p.bR st) λx hx=>by have:=(I.DX hn hx).2;omega
 have ou:=sG (f:=Wt.ou) (k:=1440) (l:=p.bR st) λx hx=>by have:=(I.DX hn hx).2;omega
 refine ⟨I.K.g,I.sd,by omega,by omega,λa ha=>I.sok ha,λs hs=>⟨(I.K.s s hs).k,(I.K.s s hs).r0,λa ha=>?_⟩,λw hw=>⟨(I.K.w w hw).n,by have:=(I.K.w w hw).p0;omega⟩,λw hw=>⟨λl hl=>I.sok (I.lt w hw l hl).1,by have:=I.Nj hw;omega⟩,
  λy hy=>I.xok hn hy,λb hb=>by have:=I.nb hn hb;omega,λx hx=>⟨(I.vA hx).2,(I.vA hx).1.1⟩,by omega,λw hw=>⟨λl hl=>(I.lt w hw l hl).1,by have:=I.Nj hw;omega⟩,λx hx=>by have:=I.DX hn hx;omega,
  λl hl=>⟨(I.DJ hl).1,(I.DJ hl).2.1⟩,λl hl=>(I.Rf hl).1,?_,?_,?_,λy hy=>?_⟩
 ·have:a∈p.wn:=(I.K.s s hs).r.subset ha
  obtain ⟨w,hw,rfl⟩:=Xd.mp this
  exact (I.K.w w hw).n
 ·show ((p.bR st).flatMap Wt.ou).length<=_;omega
 ·show ((p.bR st).flatMap Wt.lo).length<=_;omega
 ·unfold Pn.evs
  rw[Xi,W9,cZ]
  have h2:(Xm p.ws (p.bR st)).length<=6:=by simp;omega
  have h3:=sG (f:=λy:Wy×Wt=>evs p.ss y.1 y.2) (k:=2400) (l:=Xm p.ws (p.bR st)) λy hy=>by
   have:=I.DX hn (Xx hy).2
   show (y.2.ca.zipIdx.map _++y.2.ou.map _).length<=_
   rw[Xi,W9,W9,List.length_zipIdx];omega
  rw[List.flatMap_def] at h3
  omega
 ·have:=(I.cons hn (s:=y.1) (b:=y.2) hy).2.2.2.2
  omega
theorem dk.next:dk p m (n+1) (p.step st):=by
 have lwt:(p.bR st).length=p.ws.length:=by unfold Pn.bR;rw[Yw];have:=I.lw;omega
 have lb:(p.bE st).length=p.ss.length:=by unfold Pn.bE;rw[Yw];have:=I.ls;omega
 have es:(p.step st).ss=(Xm p.ss (p.bE st)).map λy=>sW y.1 y.2.1 (p.bC st) (p.taken st):=by unfold Pn.step;simp only;rw[cZ]
 have key:∀ y∈Xm p.ss (p.bE st),(sW y.1 y.2.1 (p.bC st) (p.taken st)).nm=y.1.nm:=λy hy=>(I.cons hn (s:=y.1) (b:=y.2) hy).1
 refine ⟨I.K,?_,?_,λw hw l hl=>?_,λy hy=>?_,λx hx=>?_⟩
 ·unfold Pn.step;simp only;rw[Yw];omega
 ·rw[es,Xg]
  have:(Xm p.ss (p.bE st)).map (Ss.nm ∘ λy=>sW y.1 y.2.1 (p.bC st) (p.taken st))=(Xm p.ss (p.bE st)).map (Sn.nm ∘ (·.1)):=XA λy hy=>key y hy
  rw[this,← Xg,lF (by omega)]
 ·unfold Pn.step at hw
  simp only at hw
  rw[cZ] at hw
  obtain ⟨y,hy,rfl⟩:=Xd.mp hw
  rcases X0.mp hl with hl | hl
  ·obtain ⟨z,hz,rfl⟩:=Xd.mp (show l∈((p.out st).filter λl=>decide (cX p.ss l=some y.1.nm)).map (·.lI 1) from hl)
   have h:=I.DJ (Ys.mp hz).1
   exact ⟨h.1,(show 0<=z.hp+1 by have:=h.2.1;omega),h.2.2⟩
  ·obtain ⟨z,hz,rfl⟩:=Xd.mp (show l∈y.2.st.map (·.lI 0) from hl)
   have h:=(I.CF (Xx hy).2).2.2.2 z hz
   exact ⟨h.1,(show 0<=z.hp+0 by have:=h.2.1;omega),h.2.2⟩
 ·rw[es,lQ] at hy
  obtain ⟨z,hz,rfl⟩:=Xd.mp hy
  obtain ⟨h1,h2,h3,h4,h5⟩:=I.cons hn (s:=z.1) (b:=z.2) hz
  have mk:=uQ (l:=own z.1.nm (p.taken st)) λl hl=>by
   have:=I.DJ (Ys.mp (Ys.mp hl).1).1
   exact this.2.2
  have g0:=h2.g0;have m0:=h2.m0;have t0:=h2.t0
  refine ⟨h2.w0,h2.w1,h2.s0,h2.s1,?_,?_,?_,?_,?_,h2.n0,h2.n1,h2.l⟩
  ·show 0<=z.2.1.gd+((own z.1.nm (p.taken st)).length:Int) - ((own z.1.nm (p.taken st)).map Lt.mr).sum;omega
  ·show z.2.1.gd+((own z.1.nm (p.taken st)).length:Int) - ((own z.1.nm (p.taken st)).map Lt.mr).sum<=60*((n+1:Nat):Int);omega
  ·show 0<=z.2.1.mk'+((own z.1.nm (p.taken st)).map Lt.mr).sum;omega
  ·show z.2.1.mk'+((own z.1.nm (p.taken st)).map Lt.mr).sum<=60*((n+1:Nat):Int);omega
  ·show 0<=max z.2.1.wt _;omega
 ·rw[es] at hx
  obtain ⟨z,hz,rfl⟩:=Xd.mp hx
  obtain ⟨h1,h2,h3,h4,h5⟩:=I.cons hn (s:=z.1) (b:=z.2) hz
  rw[key z hz]
  have e:(sW z.1 z.2.1 (p.bC st) (p.taken st)).lo.length=z.2.1.lo.length+(own z.1.nm (p.bC st)).length:=by
   show (d7 (z.2.1.lo++(own z.1.nm (p.bC st)).map Lt.nu)).length=_
   rw[m7,Xi,W9]
  have e2:(sW z.1 z.2.1 (p.bC st) (p.taken st)).ag=z.2.1.ag:=rfl
  rw[e,e2];omega
end
theorem L4 {p:Pn}{m:Int}(K:p.Ok m):dk p m 0 p.beg:=by
 have g1:=K.g.1
 have nm:∀ s:Sn,(Sn.beg p.g s).nm=s.nm:=λs=>rfl
 have und:∀ a,p.beg.jQ a=0:=λa=>by
  unfold St'.jQ Pn.beg
  simp only[Xg]
  have:∀ l:List Wy,(l.map λ_=>0).sum=0:=λl=>by induction l<;>simp_all
  exact this p.ws
 refine ⟨K,by simp[Pn.beg],by unfold Pn.beg;simp only[Xg];rfl,λw hw l hl=>?_,λy hy=>?_,λx hx=>?_⟩
 ·unfold Pn.beg at hw
  obtain ⟨_,_,rfl⟩:=Xd.mp hw
  cases hl
 ·have hy':y∈Xm p.ss (p.ss.map (Sn.beg p.g)):=hy
  rw[YT] at hy'
  obtain ⟨z,hz,rfl⟩:=Xd.mp hy'
  have e:z.2=z.1:=by
   have:∀ (l:List Sn) (z:Sn×Sn),z∈Xm l l->z.2=z.1:=by
    intro l
    induction l with
    | nil=>intro z hz;simp at hz
    | cons a l ih=>
     intro z hz
     rcases Xr.mp (by simpa using hz) with e | h
     ·rw[e]
     ·exact ih z h
   exact this _ z hz
  have hk:=K.s z.1 (Xx hz).1
  have R:=hk.k
  have q0:=R.w.q0;have s0:=R.t.q0
  show SsI p.g z.1.rl 0 (Sn.beg p.g z.2)
  rw[e]
  refine ⟨?_,?_,X1 0,(show (0:Int)<=p.g by omega),X1 0,X1 0,X1 0,X1 0,X1 0,X1 0,X1 0,λi hi=>(hk.mm i hi).1⟩
  ·show p.g<=z.1.rl.p*p.g / z.1.rl.q
   rw[YK q0]
   have:=Xz R.w.ge (show 0<=p.g by omega)
   rw[zcR,YC z.1.rl.q] at this
   exact this
  ·show z.1.rl.p*p.g / z.1.rl.q<=z.1.rl.r*p.g / z.1.rl.s
   rw[YK s0]
   generalize hW:z.1.rl.p*p.g / z.1.rl.q=W
   have h1:W*z.1.rl.q<=z.1.rl.p*p.g:=by rw[← hW];exact zcw _ (by omega)
   have h2:=Xz h1 (show 0<=z.1.rl.s by omega)
   have h3:=Xz R.wt (show 0<=p.g by omega)
   refine ZU (a:=z.1.rl.q) ?_ q0
   calc W*z.1.rl.s*z.1.rl.q=W*z.1.rl.q*z.1.rl.s:=by ac_rfl
    _<=z.1.rl.p*p.g*z.1.rl.s:=h2
    _=z.1.rl.p*z.1.rl.s*p.g:=by ac_rfl
    _<=z.1.rl.r*z.1.rl.q*p.g:=h3
    _=z.1.rl.r*p.g*z.1.rl.q:=by ac_rfl
 ·have hx':x∈p.ss.map (Sn.beg p.g):=hx
  obtain ⟨s,hs,rfl⟩:=Xd.mp hx'
  rw[und]
  show ((0:Nat):Int)+((0:Nat):Int)+((0:Nat):Int)<=60
  decide
def spD (is:List Nat):List (L2.Key×D):=is.map λi:Nat=>(.inl (i:Int),.bl true)
def WU (cs:List Int)(t l u:Int)(c:Addr):List (L2.Key×D):=[(.inr (OF "cells"),.ls (cs.map .int)),(.inr (OF "turn"),.int t),(.inr (OF "left"),.int l),(.inr (OF "used"),.int u),(.inr (OF "spent"),.obj c)]
structure Pq (μ:Mu) (b c:Addr) (n:Nat):Prop where
 ne:b≠c
 ex:∃ (cs:List Int) (t l u:Int) (is:List Nat),μ b=some (.dct (WU cs t l u c))/\μ c=some (.dct (spD is))/\(0<=t/\t<=n)/\is.Nodup/\(∀ i∈is,i < cs.length)/\cs.length<=63
structure Cj (b c:Addr) (n:Nat) (μ μ':Mu):Prop where
 p:Pq μ' b c n
 o:∀ a,a≠b->a≠c->μ' a=μ a
theorem Pq.mono {μ:Mu}{b c:Addr}{n m:Nat}(h:Pq μ b c n)(k:n<=m):Pq μ b c m:=by
 obtain ⟨ne,cs,t,l,u,is,e1,e2,⟨t0,t1⟩,r⟩:=h
 exact ⟨ne,cs,t,l,u,is,e1,e2,⟨t0,by omega⟩,r⟩
theorem Cj.mono {μ μ':Mu}{b c:Addr}{n m:Nat}(h:Cj b c n μ μ')(k:n<=m):Cj b c m μ μ':=⟨h.p.mono k,h.o⟩
theorem Cj.trans {b c:Addr}{μ μ1 μ2:Mu}{n m:Nat}(h:Cj b c n μ μ1)(k:Cj b c m μ1 μ2):Cj b c m μ μ2:=⟨k.p,λa h1 h2=>(k.o a h1 h2).trans (h.o a h1 h2)⟩
theorem Pq.nb {μ:Mu}{b c a:Addr}{n:Nat}(h:Pq μ b c n)(e:μ a=none):a≠b/\a≠c:=by
 obtain ⟨_,cs,t,l,u,is,e1,e2,_⟩:=h
 exact ⟨(λz=>by subst z;rw[e1] at e;cases e),(λz=>by subst z;rw[e2] at e;cases e)⟩
theorem Pq.up {μ:Mu}{b c a:Addr}{o:MO}{n:Nat}(h:Pq μ b c n)(k:a≠b/\a≠c):Pq (up μ a o) b c n:=by
 obtain ⟨ne,cs,t,l,u,is,e1,e2,r⟩:=h
 exact ⟨ne,cs,t,l,u,is,by rw[aU k.1.symm];exact e1,by rw[aU k.2.symm];exact e2,r⟩
section
variable (cs:List Int) (t l u x:Int) (c:Addr)
end
section
variable {G:GTr} {tt:TTr} {te:ETr} {ρc:ST} {ds:List D} {μ:Mu} {Q:DK} {b c:Addr} {n m:Nat}
end
def nxF (ss:List Ss)(n:Str):Int:=((ss.find? λx=>decide (x.nm=n)).map Ss.nx).getD 0
def Lt.lw (f:Str->Int)(l:Lt):Lt:=⟨l.nm,l.nu - f l.nm,l.ag,l.hp,l.mr⟩
def Ws.lw (f:Str->Int)(w:Ws):Ws:=⟨w.cm.map (Lt.lw f),w.st.map (Lt.lw f),w.la⟩
def Ss.lk (x:Ss):Ss:=⟨x.nm,x.du,x.W,x.S,0,x.lf,x.ag.map (· - x.nx),x.lo.map (· - x.nx),x.gd,x.mk',x.wt⟩
def St'.lk (st:St'):St':=⟨st.ws.map (Ws.lw (nxF st.ss)),st.ss.map Ss.lk⟩
def Lt.mv (f:Str->Int)(l:Lt):Lt:=⟨l.nm,l.nu+f l.nm,l.ag,l.hp,l.mr⟩
def Ws.mv (f:Str->Int)(w:Ws):Ws:=⟨w.cm.map (Lt.mv f),w.st.map (Lt.mv f),w.la⟩
def Ss.mv (f:Str->Int)(x:Ss):Ss:=⟨x.nm,x.du,x.W,x.S,x.nx+f x.nm,x.lf,x.ag.map (· + f x.nm),x.lo.map (· + f x.nm),x.gd,x.mk',x.wt⟩
def St'.mv (f:Str->Int)(st:St'):St':=⟨st.ws.map (Ws.mv f),st.ss.map (Ss.mv f)⟩
structure StL (st:St'):Prop where
 nd:(st.ss.map Ss.nm).Nodup
 sn:∀ x∈st.ss,Xk x.nm=true
 lt:∀ w∈st.ws,∀ l∈w.cm++w.st,l.nm∈st.ss.map Ss.nm
 la:∀ w∈st.ws,Xk w.la=true
 z1:st.ws.length<=100/\st.ss.length<=100
 z2:∀ w∈st.ws,w.cm.length<=10000/\w.st.length<=10000
 z3:∀ x∈st.ss,x.ag.length<=10000/\x.lo.length<=10000
theorem Om (ss:List Ss):(ss.map Ss.lk).map Ss.nm=ss.map Ss.nm:=by rw[Xg];rfl
theorem OL (f:Str->Int)(ss:List Ss):(ss.map (Ss.mv f)).map Ss.nm=ss.map Ss.nm:=by rw[Xg];rfl
theorem StL.lk {st:St'}(h:StL st):StL st.lk:=by
 refine ⟨by show ((st.ss.map Ss.lk).map Ss.nm).Nodup;rw[Om];exact h.nd,λx hx=>?_,λw hw l hl=>?_,λw hw=>?_,?_,λw hw=>?_,λx hx=>?_⟩
 ·obtain ⟨y,hy,rfl⟩:=Xd.mp hx
  exact h.sn y hy
 ·obtain ⟨v,hv,rfl⟩:=Xd.mp hw
  show l.nm∈(st.ss.map Ss.lk).map Ss.nm
  rw[Om]
  have hl:l∈v.cm.map (Lt.lw (nxF st.ss))++v.st.map (Lt.lw (nxF st.ss)):=hl
  rw[← Xn] at hl
  obtain ⟨k,hk,rfl⟩:=Xd.mp hl
  exact h.lt v hv k hk
 ·obtain ⟨v,hv,rfl⟩:=Xd.mp hw
  exact h.la v hv
 ·show (st.ws.map (Ws.lw (nxF st.ss))).length<=100/\(st.ss.map Ss.lk).length<=100
  rw[W9,W9];exact h.z1
 ·obtain ⟨v,hv,rfl⟩:=Xd.mp hw
  show (v.cm.map _).length<=_/\(v.st.map _).length<=_
  rw[W9,W9];exact h.z2 v hv
 ·obtain ⟨y,hy,rfl⟩:=Xd.mp hx
  show (y.ag.map _).length<=_/\(y.lo.map _).length<=_
  rw[W9,W9];exact h.z3 y hy
theorem StL.mv {st:St'}(f:Str->Int)(h:StL st):StL (st.mv f):=by
 refine ⟨by show ((st.ss.map (Ss.mv f)).map Ss.nm).Nodup;rw[OL];exact h.nd,λx hx=>?_,λw hw l hl=>?_,λw hw=>?_,?_,λw hw=>?_,λx hx=>?_⟩
 ·obtain ⟨y,hy,rfl⟩:=Xd.mp hx
  exact h.sn y hy
 ·obtain ⟨v,hv,rfl⟩:=Xd.mp hw
  show l.nm∈(st.ss.map (Ss.mv f)).map Ss.nm
  rw[OL]
  have hl:l∈v.cm.map (Lt.mv f)++v.st.map (Lt.mv f):=hl
  rw[← Xn] at hl
  obtain ⟨k,hk,rfl⟩:=Xd.mp hl
  exact h.lt v hv k hk
 ·obtain ⟨v,hv,rfl⟩:=Xd.mp hw
  exact h.la v hv
 ·show (st.ws.map (Ws.mv f)).length<=100/\(st.ss.map (Ss.mv f)).length<=100
  rw[W9,W9];exact h.z1
 ·obtain ⟨v,hv,rfl⟩:=Xd.mp hw
  show (v.cm.map _).length<=_/\(v.st.map _).length<=_
  rw[W9,W9];exact h.z2 v hv
 ·obtain ⟨y,hy,rfl⟩:=Xd.mp hx
  show (y.ag.map _).length<=_/\(y.lo.map _).length<=_
  rw[W9,W9];exact h.z3 y hy
def Pn.run (p:Pn):Nat->St'
 | 0=>p.beg
 | n+1=>p.step (p.run n)
def Pn.rows (p:Pn)(n:Nat):List D:=(XJ n).map λi=>.ls (evD (p.evs (p.run i)))
theorem Pn.kj {p:Pn}{m:Int}(K:p.Ok m):∀ n:Nat,n<=10000->dk p m n (p.run n)
 | 0,_=>L4 K
 | n+1,h=>(p.kj K n (by omega)).next (by omega)
theorem yq (ws:List Str)(p:Int):∀ (f:Nat) (st out:List Lt) (l:Str),(de ws p f st out l).2.2=l∨(de ws p f st out l).2.2∈ws
 | 0,_,_,_=>.inl rfl
 | f+1,st,out,l=>by
  unfold de
  split
  ·split
   ·rename_i n hn
    split
    ·rename_i x _
     rcases yq ws p f (st.eraseIdx (at1 n st)) (out++[x]) n with e | e
     ·rw[e];exact .inr (xN hn).1
     ·exact .inr e
    ·exact .inl rfl
   ·exact .inl rfl
  ·exact .inl rfl
theorem E1 (w:Wy)(ws:List Str)(st:List Lt)(l:Str)(hl:Xk l=true)(hw:∀ n∈ws,Xk n=true):Xk (cx w ws st l).2.2=true:=by
 unfold cx
 split
 ·rcases yq ws w.pc st.length st [] l with e | e
  ·rw[e];exact hl
  ·exact hw _ e
 ·show Xk (OF "")=true
  decide +kernel
theorem F4 {p:Pn}{m:Int}(K:p.Ok m):∀ n:Nat,n<=10000->∀ w∈(p.run n).ws,Xk w.la=true
 | 0,_,w,hw=>by
  obtain ⟨_,_,rfl⟩:=Xd.mp hw
  show Xk (OF "")=true
  decide +kernel
 | n+1,h,w,hw=>by
  have I:=p.kj K n (by omega)
  have ih:=F4 K n (by omega)
  have hw:w∈Yk (λw x=>EE p.ss w x (p.out (p.run n))) p.ws (p.bR (p.run n)):=hw
  rw[cZ] at hw
  obtain ⟨y,hy,rfl⟩:=Xd.mp hw
  show Xk y.2.la=true
  obtain ⟨z,hz,e⟩:=I.G4 (Xx hy).2
  rw[e]
  exact E1 _ _ _ _ (ih _ (Xx hz).2) λn hn=>I.sok hn
theorem Mm {p:Pn}{m:Int}(K:p.Ok m){n:Nat}(h:n<=10000):StL (p.run n):=by
 have I:=p.kj K n h
 have s1:=K.s1
 have w1:=K.w1
 refine ⟨by rw[I.nm];exact I.sd,λx hx=>?_,λw hw l hl=>?_,F4 K n h,⟨by rw[I.lw];omega,by rw[I.ls];omega⟩,λw hw=>?_,λx hx=>?_⟩
 ·exact I.sok (by rw[← I.nm];exact Xd.mpr ⟨x,hx,rfl⟩)
 ·rw[I.nm];exact (I.lt w hw l hl).1
 ·have:=I.Nj hw;omega
 ·have:=I.cn x hx;omega
abbrev mvS (f:Str->Int)(x:Str×Lt):Str×Lt:=(x.1,x.2.mv f)
theorem KC (f:Str->Int)(n:Str)(ls:List Lt):own n (ls.map (Lt.mv f))=(own n ls).map (Lt.mv f):=by
 unfold own
 rw[zac]
 rfl
theorem Si (f:Str->Int)(st:St')(n:Str):(st.mv f).und n=st.und n:=by
 unfold St'.und St'.mv
 rw[Xg]
 congr 1
 refine XA λw hw=>?_
 show ((own n ((w.cm.map (Lt.mv f))++w.st.map (Lt.mv f))).length:Int)=_
 rw[← Xn,KC,W9]
theorem F5 (c:Int)(xs:List Int):d7 (xs.map (· + c))=(d7 xs).map (· + c):=by
 refine jC ((gv _).trans ((gv xs).symm.map _)) (pX _) ?_
 rw[zaB]
 exact (pX xs).imp λh=>by omega
theorem Q6 (f:Str->Int)(g:Int)(R:RN)(x:Ss):(x.mv f).rdy g R=(x.rdy g R).mv f:=by
 have h:(x.mv f).hd=x.hd:=by unfold Ss.hd Ss.mv;simp
 unfold Ss.rdy
 rw[h]
 show Ss.mk _ _ _ _ _ _ (d7 (x.ag.map (· + f x.nm)++x.lo.map (· + f x.nm))) [] 0 0 0=_
 rw[← Xn,F5]
 rfl
theorem Qh (a c:Int)(n:Nat):rgI (a+c) n=(rgI a n).map (· + c):=by
 unfold rgI
 rw[Xg]
 refine XA λi hi=>?_
 show a+c+(i:Int)=a+(i:Int)+c
 omega
abbrev mvB (f:Str->Int)(b:Ss×List Int):Ss×List Int:=(b.1.mv f,b.2.map (· + f b.1.nm))
theorem L7 (f:Str->Int)(x:Ss)(m:Nat):(x.mv f).fill m=mvB f (x.fill m):=by
 unfold Ss.fill
 show (Ss.mk x.nm x.du x.W x.S (x.nx+f x.nm+gE x.lf ((m:Int) - (((x.ag.map (· + f x.nm)).take m).length:Int))) (x.lf.map (· - gE x.lf ((m:Int) - (((x.ag.map (· + f x.nm)).take m).length:Int)))) ((x.ag.map (· + f x.nm)).drop ((x.ag.map (· + f x.nm)).take m).length) _ _ _ _,(x.ag.map (· + f x.nm)).take m++rgI (x.nx+f x.nm) (gE x.lf ((m:Int) - (((x.ag.map (· + f x.nm)).take m).length:Int))).toNat)=_
 rw[← zbM,W9,← zbN,Qh]
 generalize gE x.lf ((m:Int) - ((x.ag.take m).length:Int))=c
 refine zbU ?_ ?_
 ·show Ss.mk _ _ _ _ _ _ _ _ _ _ _=Ss.mk _ _ _ _ _ _ _ _ _ _ _
  congr 1
  show x.nx+f x.nm+c=x.nx+c+f x.nm
  omega
 ·exact (Xn).symm
theorem Tr (f:Str->Int)(g:Int)(s:Sn)(x:Ss)(u:Int):(x.mv f).bt g s u=mvB f (x.bt g s u):=by
 have h:(x.mv f).hd=x.hd:=by unfold Ss.hd Ss.mv;simp
 unfold Ss.bt
 rw[Q6,L7,h]
 show (if x.du=some 0 then _ else _)=_
 split
 ·rfl
 ·rfl
theorem qP (f:Str->Int)(p:Pn)(st:St'):p.bE (st.mv f)=(p.bE st).map (mvB f):=by
 unfold Pn.bE
 show Yk _ p.ss (st.ss.map (Ss.mv f))=_
 rw[zaD,Zw]
 congr 1
 funext s k
 rw[Si]
 exact Tr f p.g s k _
theorem Sw (f:Str->Int)(w:Wy)(a b:List Lt)(y:Lt):bV w (a.map (Lt.mv f),b.map (Lt.mv f)) (y.mv f)=((bV w (a,b) y).1.map (Lt.mv f),(bV w (a,b) y).2.map (Lt.mv f)):=by
 unfold bV
 simp only[W9]
 split
 ·simp
 ·unfold lD
  split
  ·simp
  ·by_cases h:(a.length:Int) < ‹Int› <;> simp[h,Lt.mv]
theorem Ov (f:Str->Int)(w:Wy):∀ (ys a b:List Lt),(ys.map (Lt.mv f)).foldl (bV w) (a.map (Lt.mv f),b.map (Lt.mv f))=((ys.foldl (bV w) (a,b)).1.map (Lt.mv f),(ys.foldl (bV w) (a,b)).2.map (Lt.mv f))
 | [],_,_=>rfl
 | y::r,a,b=>by
  rw[Xh,YN,Sw,YN]
  exact Ov f w r _ _
theorem Ga {α β:Type}(f:α->β):∀ (l:List α) (i:Nat),(l.map f).eraseIdx i=(l.eraseIdx i).map f
 | [],_=>rfl
 | _::_,0=>rfl
 | a::r,i+1=>congrArg (f a::·) (Ga f r i)
theorem OK {α β:Type}{f g:α->Option β}:∀ {l:List α},(∀ x∈l,f x=g x)->l.filterMap f=l.filterMap g
 | [],_=>rfl
 | a::r,h=>by
  rw[YL,YL,h a (Xl ..),OK λx hx=>h x (Xo _ hx)]
theorem SJ (f:Str->Int)(n:Str)(st:List Lt):at1 n (st.map (Lt.mv f))=at1 n st:=by
 unfold at1
 rw[List.findIdx_map]
 rfl
theorem TY (f:Str->Int)(st:List Lt):(st.map (Lt.mv f)).map Lt.nm=st.map Lt.nm:=by rw[Xg];rfl
theorem yu (f:Str->Int)(ws:List Str)(p:Int):∀ (m:Nat) (st out:List Lt) (l:Str),de ws p m (st.map (Lt.mv f)) (out.map (Lt.mv f)) l=((de ws p m st out l).1.map (Lt.mv f),(de ws p m st out l).2.1.map (Lt.mv f),(de ws p m st out l).2.2)
 | 0,_,_,_=>rfl
 | m+1,st,out,l=>by
  unfold de
  rw[W9,W9,TY]
  split
  ·split
   ·rename_i n _
    rw[SJ,Yp]
    cases h:st[at1 n st]? with
    | none=>rfl
    | some x=>
     have:=yu f ws p m (st.eraseIdx (at1 n st)) (out++[x]) n
     rw[Xn,← Ga] at this
     exact this
   ·rfl
  ·rfl
theorem EC (f:Str->Int)(w:Wy)(ws:List Str)(st:List Lt)(l:Str):cx w ws (st.map (Lt.mv f)) l=((cx w ws st l).1.map (Lt.mv f),(cx w ws st l).2.1.map (Lt.mv f),(cx w ws st l).2.2):=by
 unfold cx
 split
 ·rw[W9]
  exact yu f ws w.pc st.length st [] l
 ·rw[← zbM,← zbN]
def Wt.mv (f:Str->Int)(x:Wt):Wt:=⟨x.ca.map (Lt.mv f),x.lo.map (Lt.mv f),x.ou.map (Lt.mv f),x.st.map (Lt.mv f),x.la⟩
theorem NV (f:Str->Int)(w:Wy)(ns:List Str)(k:Ws)(se:List (Str×Lt)):pass w ns (k.mv f) (se.map (mvS f))=(pass w ns k se).mv f:=by
 have e:((se.map (mvS f)).filter λx=>decide (x.1=w.nm)).map (·.2)=((se.filter λx=>decide (x.1=w.nm)).map (·.2)).map (Lt.mv f):=by
  rw[zac,Xg,Xg]
  rfl
 unfold pass
 rw[e]
 simp only[Ws.mv,← Xn,tk]
 have t:=Ov f w (k.cm++(se.filter λx=>decide (x.1=w.nm)).map (·.2)) k.st []
 rw[Zf] at t
 rw[t]
 simp only[EC]
 rfl
theorem IT (f:Str->Int)(ss:List Sn)(bs:List (Ss×List Int))(h:∀ y∈Xm ss bs,y.2.1.nm=y.1.nm):kA ss ((bs.map (mvB f)).map (·.2))=(kA ss (bs.map (·.2))).map (mvS f):=by
 have e1:cJ ((bs.map (mvB f)).map (·.2))=cJ (bs.map (·.2)):=by
  unfold cJ
  rw[Xg,Xg,Xg]
  congr 1
  refine XA λb hb=>?_
  show (b.2.map _).length=b.2.length
  rw[W9]
 unfold kA
 rw[e1,zaP]
 congr 1
 funext t
 rw[Xg,YT,YT,zbo,zbo,List.map_filterMap]
 refine OK λy hy=>?_
 show ((y.2.2.map (· + f y.2.1.nm))[t]?).map _=((y.2.2[t]?).map _).map _
 rw[Yp,zeP,zeP]
 rw[h y hy]
 rfl
theorem pD (f:Str->Int)(p:Pn)(st:St')(h:∀ y∈Xm p.ss (p.bE st),y.2.1.nm=y.1.nm):p.aT (st.mv f)=(p.aT st).map (mvS f):=by
 unfold Pn.aT
 rw[qP]
 exact IT f p.ss (p.bE st) h
theorem pB (f:Str->Int)(p:Pn)(st:St')(h:∀ y∈Xm p.ss (p.bE st),y.2.1.nm=y.1.nm):p.bR (st.mv f)=(p.bR st).map (Wt.mv f):=by
 unfold Pn.bR
 rw[pD f p st h]
 show Yk _ p.ws (st.ws.map (Ws.mv f))=_
 rw[zaD,Zw]
 congr 1
 funext w k
 exact NV f w p.sn k _
theorem Ds (f:Str->Int)(g:Wt->List Lt)(h:∀ x:Wt,g (x.mv f)=(g x).map (Lt.mv f))(l:List Wt):(l.map (Wt.mv f)).flatMap g=(l.flatMap g).map (Lt.mv f):=by
 rw[zea,zaP]
 congr 1
 funext x
 exact h x
theorem HE (f:Str->Int)(p:Pn)(st:St')(h:∀ y∈Xm p.ss (p.bE st),y.2.1.nm=y.1.nm):p.bC (st.mv f)=(p.bC st).map (Lt.mv f)/\p.out (st.mv f)=(p.out st).map (Lt.mv f)/\p.taken (st.mv f)=(p.taken st).map (Lt.mv f):=by
 have o:p.out (st.mv f)=(p.out st).map (Lt.mv f):=by
  unfold Pn.out
  rw[pB f p st h]
  exact Ds f Wt.ou (λ_=>rfl) _
 refine ⟨?_,o,?_⟩
 ·unfold Pn.bC
  rw[pB f p st h]
  exact Ds f Wt.lo (λ_=>rfl) _
 ·unfold Pn.taken
  rw[o,zac]
  rfl
abbrev Ev.mv (f:Str->Int)(x:Ev):Ev:=⟨x.wd,x.nm,x.nu+f x.nm,x.wy⟩
theorem SH (f:Str->Int)(p:Pn)(st:St')(h:∀ y∈Xm p.ss (p.bE st),y.2.1.nm=y.1.nm):p.evs (st.mv f)=(p.evs st).map (Ev.mv f):=by
 unfold Pn.evs
 rw[pD f p st h,pB f p st h,Xn,Xg,Xg,zaD,List.map_flatten,Zw]
 congr 1
 congr 1
 congr 1
 funext w x
 unfold evs
 rw[Xn,Xg,Xg]
 congr 1
 ·show ((x.ca.map (Lt.mv f)).zipIdx.map _)=_
  rw[List.zipIdx_map,Xg]
  refine XA λy hy=>?_
  simp[Wt.mv,Lt.mv,Ev.mv]
 ·show (x.ou.map (Lt.mv f)).map _=_
  rw[Xg]
  rfl
theorem Ss.Ok.mv {g:Int}{R:RN}{x:Ss}(f:Str->Int)(h:x.Ok g R)(a:-4000000000000000000<=x.nx+f x.nm/\x.nx+f x.nm<=4000000000000000000):(x.mv f).Ok g R:=by
 have e:(x.mv f).hd=x.hd:=by unfold Ss.hd Ss.mv;simp
 exact ⟨h.n,h.w0,h.w1,h.s0,h.s1,by rw[e];exact h.h,a.1,a.2,by unfold Ss.mv;simp only[W9];exact h.a,h.l⟩
theorem u7 {f:Str->Int}{ls:List Lt}{P:Lt->Prop}(k:∀ l:Lt,P l->P (l.mv f))(h:∀ l∈ls,P l):∀ l∈ls.map (Lt.mv f),P l:=λl hl=>by
 obtain ⟨y,hy,rfl⟩:=Xd.mp hl
 exact k y (h y hy)
theorem U8 {f:Str->Int}{p:Pn}{st:St'}(h:∀ y∈Xm p.ss (p.bE st),y.2.1.nm=y.1.nm)(R:NH p st)(b:∀ x∈st.ss,-4000000000000000000<=x.nx+f x.nm/\x.nx+f x.nm<=4000000000000000000):NH p (st.mv f):=by
 obtain ⟨e1,e2,e3⟩:=HE f p st h
 have wm:∀ {P:Ws->Prop},(∀ w∈st.ws,P (w.mv f))->∀ w∈(st.mv f).ws,P w:=λk w hw=>by
  obtain ⟨y,hy,rfl⟩:=Xd.mp (show w∈st.ws.map (Ws.mv f) from hw)
  exact k y hy
 have ap:∀ w:Ws,(w.mv f).cm++(w.mv f).st=(w.cm++w.st).map (Lt.mv f):=λw=>by rw[Xn];rfl
 refine ⟨R.g,R.sd,R.sl,R.wl,R.sn,R.rl,R.wy,wm λw hw=>⟨?_,?_⟩,λy hy=>?_,λx hx=>?_,λx hx=>?_,?_,wm λw hw=>⟨?_,?_⟩,λx hx=>?_,?_,?_,?_,?_,?_,λy hy=>?_⟩
 ·rw[ap]
  exact u7 (λ_=>id) (R.ws w hw).n
 ·unfold Ws.mv;simp only[W9];exact (R.ws w hw).l
 ·obtain ⟨s,k⟩:=y
  rw[show (st.mv f).ss=st.ss.map (Ss.mv f) from rfl,YT] at hy
  obtain ⟨z,hz,e⟩:=Xd.mp hy
  cases e
  exact (R.ss z hz).mv f (b z.2 (Xx (a:=z.1) (b:=z.2) hz).2)
 ·rw[qP] at hx
  obtain ⟨z,hz,rfl⟩:=Xd.mp hx
  show (z.2.map _).length<=_
  rw[W9]
  exact R.nb z hz
 ·rw[pD f p st h] at hx
  obtain ⟨z,hz,rfl⟩:=Xd.mp hx
  exact R.se z hz
 ·rw[pD f p st h,W9];exact R.sz
 ·rw[ap]
  exact u7 (λ_=>id) (R.wz w hw).1
 ·unfold Ws.mv;simp only[W9];exact (R.wz w hw).2
 ·rw[pB f p st h] at hx
  obtain ⟨z,hz,rfl⟩:=Xd.mp hx
  unfold Wt.mv
  simp only[W9]
  exact R.go z hz
 ·rw[e2];exact u7 (λ_=>id) R.ou
 ·rw[e1];exact u7 (λ_=>id) R.lo
 ·rw[e2,W9];exact R.oz
 ·rw[e1,W9];exact R.lz
 ·rw[SH f p st h,W9];exact R.ez
 ·rw[qP,YT] at hy
  obtain ⟨z,hz,rfl⟩:=Xd.mp hy
  show (z.2.1.lo.map _).length+_ < 64
  rw[e1,KC,W9,W9]
  exact R.lt z hz
theorem dk.nx {p:Pn}{m:Int}{n:Nat}{st:St'}(I:dk p m n st):∀ x∈st.ss,0<=x.nx/\x.nx<=60*n:=by
 intro x hx
 obtain ⟨i,hi,e⟩:=Zq hx
 have h1:i < p.ss.length:=by rw[← I.ls];exact hi
 have:(p.ss[i],st.ss[i])∈Xm p.ss st.ss:=by
  rw[← zb6 (h:=by simp;omega)];exact YS ..
 have h:=I.ss _ this
 rw[← e]
 exact ⟨h.n0,h.n1⟩
abbrev Lt.key (l:Lt):Str×Int:=(l.nm,l.nu)
def cK (k:Str×Int)(ls:List Lt):Nat:=(ls.map Lt.key).count k
theorem fu (k:Str×Int)(a b:List Lt):cK k (a++b)=cK k a+cK k b:=by unfold cK;rw[Xn,Yg]
theorem pG {α:Type}(k:Str×Int)(f:α->List Lt):∀ xs:List α,cK k (xs.flatMap f)=(xs.map λx=>cK k (f x)).sum
 | []=>rfl
 | x::r=>by rw[Yz,fu,pG k f r];rfl
theorem C6 (k:Str×Int)(h:Int)(l:List Lt):cK k (l.map (·.lI h))=cK k l:=by unfold cK;rw[Xg];rfl
theorem HZ (k:Str×Int)(q:Lt->Bool):∀ l:List Lt,cK k (l.filter q)+cK k (l.filter λx=>!q x)=cK k l
 | []=>rfl
 | x::r=>by
  have ih:=HZ k q r
  unfold cK at *
  by_cases h1:q x<;>simp[h1,Yd] at ih ⊢ <;> omega
theorem M1 {k:Str×Int}{a b:List Lt}(h:a.Perm b):cK k a=cK k b:=(h.map Lt.key).count_eq k
theorem Nn (w:Wy)(x:Lt)(n:Nat):(lD w x n).key=x.key:=by
 unfold lD
 split
 ·rfl
 ·split<;>rfl
theorem Bw (w:Wy)(k:Str×Int):∀ (ys a b:List Lt),cK k (ys.foldl (bV w) (a,b)).1+cK k (ys.foldl (bV w) (a,b)).2=cK k a+cK k b+cK k ys
 | [],a,b=>rfl
 | y::r,a,b=>by
  have e:cK k (y::r)=cK k [y]+cK k r:=fu k [y] r
  rw[YN,e]
  by_cases h:w.rm<=(a.length:Int)
  ·rw[l5 h,Bw w k r a (b++[y]),fu];omega
  ·rw[yC h,Bw w k r _ b,fu]
   have:cK k [lD w y a.length]=cK k [y]:=by unfold cK;rw[Xh,Xh,Nn]
   omega
theorem Ic (w:Wy)(ns:List Str)(s:Ws)(se:List (Str×Lt))(k:Str×Int):cK k (pass w ns s se).lo+cK k (pass w ns s se).ou+cK k (pass w ns s se).st=cK k (pass w ns s se).ca+cK k s.st:=by
 have h1:=Bw w k (pass w ns s se).ca s.st []
 have h2:=M1 (k:=k) (gM w ns (tk w s.st (pass w ns s se).ca).1 s.la)
 rw[fu] at h2
 have e1:(pass w ns s se).lo=(tk w s.st (pass w ns s se).ca).2:=rfl
 have e2:(pass w ns s se).ou=(cx w ns (tk w s.st (pass w ns s se).ca).1 s.la).1:=rfl
 have e3:(pass w ns s se).st=(cx w ns (tk w s.st (pass w ns s se).ca).1 s.la).2.1:=rfl
 rw[e1,e2,e3]
 unfold tk at *
 have:cK k []=0:=rfl
 omega
def St'.fly (st:St')(k:Str×Int):Nat:=(st.ws.map λw=>cK k (w.cm++w.st)).sum
theorem Mo (k:Str×Int){κ:Type} [DecidableEq κ] (f:Lt->κ){ks:List κ}(nd:ks.Nodup)(ls:List Lt):(ks.map λj=>cK k (ls.filter λl=>decide (f l=j))).sum<=cK k ls:=by
 have e:∀ xs:List Lt,cK k xs=(xs.filter λl=>decide (l.key=k)).length:=λxs=>by
  unfold cK
  induction xs with
  | nil=>rfl
  | cons a r ih=>by_cases h:a.key=k<;>simp[Yd,h,ih]
 have h:=split_le f nd (ls.filter λl=>decide (l.key=k))
 rw[e ls]
 refine XZ (zcg ?_) h
 congr 1
 refine XA λj _=>?_
 rw[e,m9]
def Wt.tot (x:Wt)(k:Str×Int):Nat:=cK k x.lo+cK k x.ou+cK k x.st
theorem GR {p:Pn}{st:St'}(nd:p.wn.Nodup)(lw:st.ws.length=p.ws.length)(k:Str×Int):((p.bR st).map λx=>x.tot k).sum<=st.fly k+cK k ((p.aT st).map (·.2)):=by
 generalize hZ:Xm p.ws st.ws=Z
 have z1:Z.map (·.1)=p.ws:=by rw[← hZ];exact lF (by omega)
 have z2:Z.map (·.2)=st.ws:=by rw[← hZ];exact iR (by omega)
 let P:Wy×Ws->Wt:=λy=>pass y.1 p.sn y.2 (p.aT st)
 have ew:p.bR st=Z.map P:=by unfold Pn.bR;rw[cZ,hZ]
 have e3:(Z.map λy=>cK k (P y).lo).sum+(Z.map λy=>cK k (P y).ou).sum+(Z.map λy=>cK k (P y).st).sum=(Z.map λy=>cK k (P y).ca).sum+(Z.map λy=>cK k y.2.st).sum:=by
  rw[← aZ,← aZ,← aZ]
  congr 1
  exact XA λy _=>Ic y.1 p.sn y.2 (p.aT st) k
 have e4:(Z.map λy=>cK k (P y).ca).sum<=(Z.map λy=>cK k y.2.cm).sum+cK k ((p.aT st).map (·.2)):=by
  have:(Z.map λy=>cK k (P y).ca)=Z.map λy=>cK k y.2.cm+cK k (((p.aT st).filter λx=>decide (x.1=y.1.nm)).map (·.2)):=by
   refine XA λy _=>?_
   show cK k (y.2.cm++_)=_
   rw[fu]
  rw[this,aZ]
  have h2:(Z.map λy=>cK k (((p.aT st).filter λx=>decide (x.1=y.1.nm)).map (·.2))).sum<=cK k ((p.aT st).map (·.2)):=by
   have e:∀ xs:List (Str×Lt),cK k (xs.map (·.2))=(xs.filter λx=>decide (x.2.key=k)).length:=λxs=>by
    unfold cK
    induction xs with
    | nil=>rfl
    | cons a r ih=>by_cases h:a.2.key=k<;>simp[Yd,h] at ih ⊢ <;> omega
   have h:=split_le (f:=λx:Str×Lt=>x.1) nd ((p.aT st).filter λx=>decide (x.2.key=k))
   rw[e]
   refine XZ (zcg ?_) h
   unfold Pn.wn
   rw[← z1,Xg,Xg]
   congr 1
   refine XA λy _=>?_
   rw[e,m9]
   rfl
  omega
 have e5:st.fly k=(Z.map λy=>cK k y.2.cm).sum+(Z.map λy=>cK k y.2.st).sum:=by
  unfold St'.fly
  rw[← z2,Xg,← aZ]
  congr 1
  exact XA λy _=>fu ..
 have e0:((p.bR st).map λx=>x.tot k).sum=(Z.map λy=>cK k (P y).lo).sum+(Z.map λy=>cK k (P y).ou).sum+(Z.map λy=>cK k (P y).st).sum:=by
  rw[ew,Xg,← aZ,← aZ]
  rfl
 omega
theorem Km {p:Pn}{st:St'}(nd:p.wn.Nodup)(lw:st.ws.length=p.ws.length)(k:Str×Int) :
  (p.step st).fly k+cK k (p.taken st)+cK k (p.bC st)<=st.fly k+cK k ((p.aT st).map (·.2)):=by
 generalize hZ:Xm p.ws st.ws=Z
 have z1:Z.map (·.1)=p.ws:=by rw[← hZ];exact lF (by omega)
 have z2:Z.map (·.2)=st.ws:=by rw[← hZ];exact iR (by omega)
 let P:Wy×Ws->Wt:=λy=>pass y.1 p.sn y.2 (p.aT st)
 have ew:p.bR st=Z.map P:=by unfold Pn.bR;rw[cZ,hZ]
 have el:cK k (p.bC st)=(Z.map λy=>cK k (P y).lo).sum:=by unfold Pn.bC;rw[pG,ew,Xg];rfl
 have eo:cK k (p.out st)=(Z.map λy=>cK k (P y).ou).sum:=by unfold Pn.out;rw[pG,ew,Xg];rfl
 have e0:((p.bR st).map λx=>x.tot k).sum=(Z.map λy=>cK k (P y).lo).sum+(Z.map λy=>cK k (P y).ou).sum+(Z.map λy=>cK k (P y).st).sum:=by
  rw[ew,Xg,← aZ,← aZ]
  rfl
 have e1:=GR nd lw k
 have e6:(p.step st).fly k=(Z.map λy=>cK k ((p.out st).filter λl=>decide (cX p.ss l=some y.1.nm))).sum+(Z.map λy=>cK k (P y).st).sum:=by
  unfold St'.fly Pn.step
  simp only
  rw[cZ,ew,← hZ,lQ,hZ,Xg,Xg,← aZ]
  congr 1
  refine XA λy _=>?_
  show cK k (((p.out st).filter λl=>decide (cX p.ss l=some y.1.nm)).map (·.lI 1)++(P y).st.map (·.lI 0))=_
  rw[fu,C6,C6]
 have e7:(Z.map λy=>cK k ((p.out st).filter λl=>decide (cX p.ss l=some y.1.nm))).sum<=cK k ((p.out st).filter λl=>!decide (cX p.ss l=none)):=by
  have nd2:(p.wn.map some).Nodup:=zbC _ (λa b (h:a≠b) (z:some a=some b)=>h (XY z)) nd
  have h2:=Mo k (cX p.ss) nd2 ((p.out st).filter λl=>!decide (cX p.ss l=none))
  refine XZ (zcg ?_) h2
  unfold Pn.wn
  rw[← z1,Xg,Xg,Xg]
  congr 1
  refine XA λy _=>?_
  show cK k _=cK k _
  rw[zaj]
  congr 2
  funext x
  cases h:cX p.ss x<;>simp[h]
 have e8:=HZ k (λl=>decide (cX p.ss l=none)) (p.out st)
 have e9:cK k (p.taken st)=cK k ((p.out st).filter λl=>decide (cX p.ss l=none)):=rfl
 omega
theorem yU {α β:Type}(f:α->β->Nat)(ys:List β):∀ xs:List α,(xs.map λx=>(ys.map λy=>f x y).sum).sum=(ys.map λy=>(xs.map λx=>f x y).sum).sum
 | []=>by
  have:∀ l:List β,(l.map λ_=>0).sum=0:=λl=>by induction l<;>simp_all
  simpa using (this ys).symm
 | a::r=>by
  rw[Xh];rw[XU]
  simp only[Xh,XU,Zf]
  rw[yU f ys r,← aZ]
theorem xi (k:Str×Int)(t:Nat):∀ zs:List (Sn×List Int),cK k ((zs.filterMap (dP t)).map (·.2))=(zs.map λy=>if y.1.nm=k.1/\y.2[t]? = some k.2 then 1 else 0).sum
 | []=>rfl
 | y::r=>by
  have ih:=xi k t r
  unfold cK at *
  rw[YL,Xh,XU,← ih]
  unfold dP
  cases e:y.2[t]? with
  | none=>simp
  | some n=>
   simp only[zcu,Xh,Yd]
   by_cases h:y.1.nm=k.1/\n=k.2
   ·obtain ⟨k1,k2⟩:=k
    obtain ⟨rfl,rfl⟩:=h
    simp;omega
   ·have:¬ ((y.1.nm,n)=k):=λz=>h (by rw[← z];exact ⟨rfl,rfl⟩)
    have h':¬ (y.1.nm=k.1/\some n=some k.2):=λz=>h ⟨z.1,XY z.2⟩
    rw[if_neg h']
    simp[this]
theorem F3 (i:Int):∀ (ns:List Int) (L:Nat),((XJ L).map λt=>if ns[t]? = some i then 1 else 0).sum<=ns.count i
 | [],L=>by
  have:∀ l:List Nat,(l.map λ_=>0).sum=0:=λl=>by induction l<;>simp_all
  simpa using this (XJ L)
 | a::r,0=>by simp
 | a::r,L+1=>by
  have ih:=F3 i r L
  rw[zcj,Xh,XU]
  rw[Xg]
  have e:((XJ L).map ((λt=>if (a::r)[t]? = some i then 1 else 0) ∘ Nat.succ))=(XJ L).map λt=>if r[t]? = some i then 1 else 0:=XA λt ht=>by simp
  rw[e,Yd]
  by_cases h:a=i<;>simp[h]<;>omega
theorem NJ {ss:List Sn}{ns:List (List Int)}(nd:(ss.map Sn.nm).Nodup){s:Sn}{n:List Int}(h:(s,n)∈Xm ss ns)(i:Int):cK (s.nm,i) ((kA ss ns).map (·.2))<=n.count i:=by
 rw[lL,zaP,pG]
 have e:((XJ (cJ ns)).map λt=>cK (s.nm,i) (((Xm ss ns).filterMap (dP t)).map (·.2)))=(XJ (cJ ns)).map λt=>((Xm ss ns).map λy=>if y.1.nm=s.nm/\y.2[t]? = some i then 1 else 0).sum:=XA λt ht=>xi (s.nm,i) t _
 rw[e,yU]
 have one:∀ zs:List (Sn×List Int),(zs.map λy=>y.1.nm).Nodup->(s,n)∈zs->(zs.map λy=>((XJ (cJ ns)).map λt=>if y.1.nm=s.nm/\y.2[t]? = some i then 1 else 0).sum).sum<=n.count i:=λzs=>by
  have zero:∀ (y:Sn×List Int),y.1.nm≠s.nm->((XJ (cJ ns)).map λt=>if y.1.nm=s.nm/\y.2[t]? = some i then 1 else 0).sum=0:=λy hy=>by
   have:∀ l:List Nat,(l.map λt=>if y.1.nm=s.nm/\y.2[t]? = some i then 1 else 0).sum=0:=λl=>by induction l<;>simp_all
   exact this _
  induction zs with
  | nil=>intro _ h;cases h
  | cons y r ih=>
   intro nd h
   rw[Xh] at nd
   have ⟨n1,n2⟩:=X5.mp nd
   rw[Xh];rw[XU]
   rcases Xr.mp h with h | h
   ·have h0:(r.map λy=>((XJ (cJ ns)).map λt=>if y.1.nm=s.nm/\y.2[t]? = some i then 1 else 0).sum).sum=0:=by
     have:∀ l:List (Sn×List Int),(∀ y∈l,y.1.nm≠s.nm)->(l.map λy=>((XJ (cJ ns)).map λt=>if y.1.nm=s.nm/\y.2[t]? = some i then 1 else 0).sum).sum=0:=λl=>by
      induction l with
      | nil=>intro _;rfl
      | cons a l ih=>intro hl;rw[Xh,XU,zero a (hl a Xl),ih λy hy=>hl y (Xo _ hy)]
     refine this r λy' hy' e=>n1 ?_
     rw[← h]
     exact Xd.mpr ⟨y',hy',e⟩
    rw[h0,← h]
    have:=F3 i n (cJ ns)
    simpa using this
   ·have hy:y.1.nm≠s.nm:=λe=>n1 (by rw[e];exact Xd.mpr ⟨(s,n),h,rfl⟩)
    rw[zero y hy]
    have:=ih n2 h
    omega
 refine one _ ?_ h
 have:(Xm ss ns).map (λy=>y.1.nm)=((Xm ss ns).map (·.1)).map Sn.nm:=by rw[Xg];rfl
 rw[this]
 exact nd.sublist (((vN ss ns).sublist).map Sn.nm)
theorem Md (a i:Int)(n:Nat):(rgI a n).count i=if a<=i/\i < a+n then 1 else 0:=by
 unfold rgI
 induction n with
 | zero=>rw[if_neg (by omega)];rfl
 | succ n ih=>
  rw[zba,Xn,Yg,ih]
  show _+List.count i [a+(n:Int)]=_
  rw[List.count_singleton]
  by_cases h:a+(n:Int)=i
  ·rw[if_neg (by omega),if_pos (by simpa using h),if_pos (by omega)]
  ·rw[if_neg (c:=(a+(n:Int) == i)=true) (by simpa using h)]
   by_cases h2:a<=i/\i < a+(n:Int)
   ·rw[if_pos h2,if_pos (by omega)]
   ·rw[if_neg h2,if_neg (by omega)]
theorem uS (i:Int)(xs:List Int):(d7 xs).count i=xs.count i:=(gv xs).count_eq i
theorem Rj (g:Int)(s:Sn)(x:Ss)(u:Int)(hl:∀ i,x.lf=some i->0<=i)(i:Int):(x.bt g s u).2.count i+(x.bt g s u).1.ag.count i+(x.bt g s u).1.lo.count i=x.ag.count i+x.lo.count i+(if x.nx<=i/\i < (x.bt g s u).1.nx then 1 else 0)/\x.nx<=(x.bt g s u).1.nx:=by
 unfold Ss.bt
 split
 ·generalize (max 0 ((s.rl.beh g x.W x.S x.hd).1 / g - u)).toNat=m
  unfold Ss.fill Ss.rdy
  simp only
  have tl:((d7 (x.ag++x.lo)).take m).length<=m:=by simp;omega
  generalize hc:gE x.lf ((m:Int) - (((d7 (x.ag++x.lo)).take m).length:Int))=c
  have c0:0<=c:=by
   rw[← hc]
   unfold gE
   cases e:x.lf with
   | none=>simp only;omega
   | some l=>have:=hl l e;simp only;omega
  have e1:=uS i (x.ag++x.lo)
  rw[Yg] at e1
  have e2:((d7 (x.ag++x.lo)).take m).count i+((d7 (x.ag++x.lo)).drop ((d7 (x.ag++x.lo)).take m).length).count i=(d7 (x.ag++x.lo)).count i:=by
   rw[← Yg]
   congr 1
   rw[ZX]
   by_cases h:m<=(d7 (x.ag++x.lo)).length
   ·rw[zcr h,zcD]
   ·rw[zbY (by omega),ZA (by omega),Y4,XH]
  rw[Yg,Md,YM c0]
  have e3:([]:List Int).count i=0:=rfl
  refine ⟨by omega,by omega⟩
 ·refine ⟨?_,X1 _⟩
  have e3:([]:List Int).count i=0:=rfl
  show ([]:List Int).count i+x.ag.count i+x.lo.count i=x.ag.count i+x.lo.count i+(if x.nx<=i/\i < x.nx then 1 else 0)
  rw[if_neg (by omega)]
  omega
def St'.One (st:St'):Prop:=∀ x∈st.ss,∀ i:Int,st.fly (x.nm,i)+x.ag.count i+x.lo.count i<=if 0<=i/\i < x.nx then 1 else 0
theorem KO {p:Pn}{m:Int}{n:Nat}{st:St'}(I:dk p m n st)(hn:n<=10000)(O:st.One):(p.step st).One:=by
 intro x' hx' i
 unfold Pn.step at hx'
 simp only at hx'
 rw[cZ] at hx'
 obtain ⟨⟨s,b⟩,hb,rfl⟩:=Xd.mp hx'
 obtain ⟨x,hx,eb⟩:=I.zb (y:=(s,b)) hb
 simp only at eb hx
 have nm:x.nm=s.nm:=I.znm hx
 have X:=O x (Xx hx).2 i
 have B:=Rj p.g s x (st.und x.nm) (I.ss _ hx).l i
 have N:=(I.cons hn hb).1
 have F:=Km (p:=p) (st:=st) I.K.wd I.lw (s.nm,i)
 have S:cK (s.nm,i) ((p.aT st).map (·.2))<=b.2.count i:=by
  unfold Pn.aT
  refine NJ I.sd ?_ i
  rw[YT]
  exact Xd.mpr ⟨(s,b),hb,rfl⟩
 rw[← eb] at B
 have n0:=(I.ss _ hx).n0
 simp only at n0
 have L:((own s.nm (p.bC st)).map Lt.nu).count i=cK (s.nm,i) (p.bC st):=by
  unfold cK own
  generalize p.bC st=ls
  induction ls with
  | nil=>rfl
  | cons a r ih=>
   by_cases h:a.nm=s.nm
   ·by_cases h2:a.nu=i<;>simp[h,h2,Yd,ih]
   ·have:¬ ((a.nm,a.nu)=(s.nm,i)):=λz=>h (by injection z)
    simp[h,this,Yd,ih]
 show (p.step st).fly (b.1.nm,i)+b.1.ag.count i+(d7 (b.1.lo++(own s.nm (p.bC st)).map Lt.nu)).count i<=if 0<=i/\i < b.1.nx then 1 else 0
 rw[N,uS,Yg,L]
 rw[nm] at X
 obtain ⟨B1,B2⟩:=B
 by_cases h1:0<=i/\i < x.nx
 ·rw[if_pos h1] at X
  rw[if_neg (by omega)] at B1
  rw[if_pos (by omega)]
  omega
 ·rw[if_neg h1] at X
  by_cases h2:x.nx<=i/\i < b.1.nx
  ·rw[if_pos h2] at B1
   rw[if_pos (by omega)]
   omega
  ·rw[if_neg h2] at B1
   rw[if_neg (by omega)]
   omega
def Ev.fin (e:Ev):Prop:=e.wd=OF "lost" ∨ e.wd=OF "taken"
abbrev Ev.key (e:Ev):Str×Int:=(e.nm,e.nu)
def Pn.told (p:Pn)(st:St'):List Ev:=(Yk (λw x=>L3.evs p.ss w x) p.ws (p.bR st)).flatten
theorem LQ (p:Pn):p.beg.One:=by
 intro x hx i
 obtain ⟨s,hs,rfl⟩:=Xd.mp (show x∈p.ss.map (Sn.beg p.g) from hx)
 have:p.beg.fly (s.nm,i)=0:=by
  unfold St'.fly Pn.beg
  rw[Xg]
  have:∀ l:List Wy,(l.map λ_=>0).sum=0:=λl=>by induction l<;>simp_all
  exact this p.ws
 show p.beg.fly (s.nm,i)+0+0<=_
 rw[this]
 exact YG _
theorem Pn.Dl {p:Pn}{m:Int}(K:p.Ok m):∀ n:Nat,n<=10000->(p.run n).One
 | 0,_=>LQ p
 | n+1,h=>KO (p.kj K n (by omega)) (by omega) (p.Dl K n (by omega))
def gB (s:String):D:=.tup [.str (OF s)]
def iD (k:Str×Int)(ls:List Lt):D:=if 1<=cK k ls then .int (ls.findIdx λl=>decide (l.key=k):Nat) else .non
def iU (k:Str×Int):List (Wy×Ws)->D
 | []=>.non
 | (w,s)::r=>if 1<=cK k s.st then .tup [.str "stands", .str w.nm,iD k s.st] else if 1<=cK k s.cm then .tup [.str "comes", .str w.nm,iD k s.cm] else iU k r
def AE (p:Pn)(st:St')(x:Ss)(i:Int):D:=if x.nx<=i then gB "new" else if 1<=st.fly (x.nm,i) then iU (x.nm,i) (Xm p.ws st.ws) else if i∈x.lo then gB "lost" else if i∈x.ag then gB "again" else gB "taken"
theorem DL {k:Str×Int}{ls:List Lt}(h:1<=cK k ls):∃ l∈ls,l.key=k:=by
 obtain ⟨l,hl,e⟩:=Xd.mp (zbu.mp (show 0 < (ls.map Lt.key).count k by unfold cK at h;omega))
 exact ⟨l,hl,e⟩
theorem DM {k:Str×Int}{ls:List Lt}{l:Lt}(h:l∈ls)(e:l.key=k):1<=cK k ls:=zbu.mpr (Xd.mpr ⟨l,h,e⟩)
theorem Q4 (i0 i1 i2:Nat)(w:Ws)(ρ:ST)(μ:Mu)(k:ST->Mu->Prop):dh [i0,i1,i2] w.toD ρ μ k=dh [i0,i1,i2] (.tup [.tup (ltD w.cm),.tup (ltD w.st),.str w.la]) ρ μ k:=propext Xc
abbrev Pt:=(Str×Int)×D
def kyL (k:Str×Int):List L2.Key:=[.inr k.1,.inl k.2]
theorem vE {a b:Str×Int}(h:kyL a=kyL b):a=b:=by
 unfold kyL at h
 have h1:a.1=b.1:=by have:=(zbQ h).1;injection this
 have h2:a.2=b.2:=by have:=(zbQ (zbQ h).2).1;injection this
 exact zbU h1 h2
def gy (ps:List Pt):List (List L2.Key×D):=ps.map λy=>(kyL y.1,y.2)
theorem yn {a:List Pt}{k:Str×Int}{d:D}(h:k ∉ a.map (·.1)):putD (gy a) (kyL k) d=gy (a++[(k,d)]):=by
 unfold putD gy
 rw[if_neg,Xn]
 ·rfl
 ·intro z
  obtain ⟨y,hy,e⟩:=zaN.mp z
  obtain ⟨q,hq,rfl⟩:=Xd.mp hy
  exact h (Xd.mpr ⟨q,hq,vE (by simpa using e)⟩)
theorem CK {a:List Pt}{k:Str×Int}{d:D}(nd:(a.map (·.1)).Nodup)(h:(k,d)∈a):cF (gy a) (kyL k)=some d:=by
 unfold cF gy
 induction a with
 | nil=>cases h
 | cons y r ih=>
  rw[Xh] at nd
  have ⟨n1,n2⟩:=X5.mp nd
  rw[Xh,Ym]
  rcases Xr.mp h with (e | h)
  ·subst e;simp
  ·have:¬ kyL y.1=kyL k:=λe=>n1 (by rw[vE e];exact Xd.mpr ⟨_,h,rfl⟩)
   simp only[this,decide_false]
   exact ih n2 h
theorem M3 {a:List Pt}{k:Str×Int}(h:k ∉ a.map (·.1)):cF (gy a) (kyL k)=none:=by
 unfold cF gy
 rw[List.find?_eq_none.mpr λy hy=>?_];rfl
 obtain ⟨q,hq,rfl⟩:=Xd.mp hy
 intro e
 exact h (Xd.mpr ⟨q,hq,vE (by simpa using e)⟩)
def plR (w:String)(nm:Str)(ls:List Lt):List Pt:=(ls.zipIdx 0).map λz=>(z.1.key,.tup [.str (OF w),.str nm,.int (z.2:Nat)])
def ptW (y:Wy×Ws):List Pt:=plR "comes" y.1.nm y.2.cm++plR "stands" y.1.nm y.2.st
def ptS (x:Ss):List Pt:=(x.ag.map λi=>((x.nm,i),gB "again"))++x.lo.map λi=>((x.nm,i),gB "lost")
def pts (p:Pn)(st:St'):List Pt:=(Xm p.ws st.ws).flatMap ptW++st.ss.flatMap ptS
theorem pq (w:String)(nm:Str)(ls:List Lt):(plR w nm ls).map (·.1)=ls.map Lt.key:=by
 unfold plR
 rw[Xg,show ((λx:Pt=>x.1) ∘ λz:Lt×Nat=>((z.1.key,.tup [.str (OF w),.str nm,.int (z.2:Nat)]):Pt))=Lt.key ∘ (·.1) from rfl,← Xg,List.zipIdx_map_fst]
theorem DV {k:Str×Int}{w:String}{nm:Str}{ls:List Lt}(h:1<=cK k ls):(k,.tup [.str (OF w),.str nm,iD k ls])∈plR w nm ls:=by
 obtain ⟨l,hl,e⟩:=DL h
 have lt:(ls.findIdx λl=>decide (l.key=k)) < ls.length:=List.findIdx_lt_length.mpr ⟨l,hl,by simpa using e⟩
 have at':=zcT (w:=lt)
 unfold plR iD
 rw[if_pos h]
 refine Xd.mpr ⟨(ls[ls.findIdx λl=>decide (l.key=k)]'lt,ls.findIdx λl=>decide (l.key=k)),?_,?_⟩
 ·exact List.mem_zipIdx_iff_getElem?.mpr (Xt lt)
 ·rw[show (ls[ls.findIdx λl=>decide (l.key=k)]'lt).key=k by simpa using at']
theorem C9 {k:Str×Int}:∀ {zs:List (Wy×Ws)},(∃ y∈zs,1<=cK k (y.2.cm++y.2.st))->(k,iU k zs)∈zs.flatMap ptW
 | [],h=>by obtain ⟨_,h,_⟩:=h;cases h
 | (w,s)::r,h=>by
  rw[Yz]
  show (k,if 1<=cK k s.st then _ else if 1<=cK k s.cm then _ else iU k r)∈_
  by_cases h1:1<=cK k s.st
  ·rw[if_pos h1]
   exact X8 _ (XC _ (DV h1))
  rw[if_neg h1]
  by_cases h2:1<=cK k s.cm
  ·rw[if_pos h2]
   exact X8 _ (X8 _ (DV h2))
  rw[if_neg h2]
  refine XC _ (C9 ?_)
  obtain ⟨y,hy,q⟩:=h
  rcases Xr.mp hy with (e | hy)
  ·rw[e,fu] at q;simp only at q;omega
  ·exact ⟨y,hy,q⟩
def St'.Uq (st:St'):Prop:=∀ x∈st.ss,∀ i:Int,st.fly (x.nm,i)+x.ag.count i+x.lo.count i<=1
theorem One.uq {st:St'}(h:st.One):st.Uq:=λx hx i=>by have:=h x hx i;split at this<;>omega
theorem UA (f:Str->Int)(n:Str)(i:Int)(ls:List Lt):cK (n,i) (ls.map (Lt.mv f))=cK (n,i - f n) ls:=by
 unfold cK
 induction ls with
 | nil=>rfl
 | cons l r ih=>
  rw[Xh,Xh,Xh,Yd,Yd,ih]
  have:((l.mv f).key == (n,i))=(l.key == (n,i - f n)):=by
   rw[za7];rw[beq_iff_eq,beq_iff_eq]
   show (l.nm,l.nu+f l.nm)=(n,i)↔(l.nm,l.nu)=(n,i - f n)
   constructor
   ·intro e;have e1:=congrArg (·.1) e;have e2:=congrArg (·.2) e;simp only at e1 e2;subst e1;rw[← e2];exact zbU rfl (by simp only;omega)
   ·intro e;have e1:=congrArg (·.1) e;have e2:=congrArg (·.2) e;simp only at e1 e2;subst e1;rw[e2];exact zbU rfl (by simp only;omega)
  rw[this]
theorem Ir (c i:Int)(ns:List Int):(ns.map (· + c)).count i=ns.count (i - c):=by
 induction ns with
 | nil=>rfl
 | cons n r ih=>
  rw[Xh,Yd,Yd,ih]
  have:(n+c == i)=(n == i - c):=by rw[za7];rw[beq_iff_eq,beq_iff_eq];omega
  rw[this]
theorem Pd (f:Str->Int)(st:St')(n:Str)(i:Int):(st.mv f).fly (n,i)=st.fly (n,i - f n):=by
 unfold St'.fly St'.mv
 rw[Xg]
 congr 1
 refine XA λw _=>?_
 show cK (n,i) (w.cm.map (Lt.mv f)++w.st.map (Lt.mv f))=_
 rw[← Xn,UA]
theorem UN {f:Str->Int}{st:St'}(h:st.Uq):(st.mv f).Uq:=λx hx i=>by
 obtain ⟨y,hy,rfl⟩:=Xd.mp (show x∈st.ss.map (Ss.mv f) from hx)
 have:=h y hy (i - f y.nm)
 show (st.mv f).fly (y.nm,i)+(y.ag.map (· + f y.nm)).count i+(y.lo.map (· + f y.nm)).count i<=1
 rw[Pd,Ir,Ir]
 exact this
theorem NX (k:Str×Int)(x:Ss):((ptS x).map (·.1)).count k=if x.nm=k.1 then x.ag.count k.2+x.lo.count k.2 else 0:=by
 have one:∀ (d:D) (ns:List Int),((ns.map λi=>(((x.nm,i),d):Pt)).map (·.1)).count k=if x.nm=k.1 then ns.count k.2 else 0:=λd ns=>by
  induction ns with
  | nil=>simp
  | cons n r ih=>
   rw[Xh,Xh,Yd,ih,Yd]
   by_cases h:x.nm=k.1
   ·rw[if_pos h,if_pos h]
    have:((x.nm,n) == k)=(n == k.2):=by
     rw[za7];rw[beq_iff_eq,beq_iff_eq]
     exact ⟨λe=>congrArg (·.2) e,λe=>zbU h e⟩
    simp only[this]
   ·rw[if_neg h,if_neg h]
    have:((x.nm,n) == k)=false:=by
     rw[beq_eq_false_iff_ne]
     exact λe=>h (congrArg (·.1) e)
    simp[this]
 unfold ptS
 rw[Xn,Yg,one,one]
 split<;>rfl
theorem Rr {p:Pn}{st:St'}(U:st.Uq)(nd:(st.ss.map Ss.nm).Nodup)(lt:∀ w∈st.ws,∀ l∈w.cm++w.st,l.nm∈st.ss.map Ss.nm)(len:st.ws.length<=p.ws.length):((pts p st).map (·.1)).Nodup:=by
 rw[List.nodup_iff_count]
 intro k
 unfold pts
 rw[Xn,Yg]
 have e1:(((Xm p.ws st.ws).flatMap ptW).map (·.1)).count k=st.fly k:=by
  have z2:(Xm p.ws st.ws).map (·.2)=st.ws:=iR (by omega)
  have e:st.fly k=((Xm p.ws st.ws).map λy=>cK k (y.2.cm++y.2.st)).sum:=by
   unfold St'.fly
   rw[← z2,Xg,z2];rfl
  rw[e]
  generalize Xm p.ws st.ws=zs
  induction zs with
  | nil=>rfl
  | cons y r ih=>
   rw[Yz,Xn,Yg,ih,Xh,XU]
   congr 1
   unfold ptW
   rw[Xn,pq,pq,← Xn]
   rfl
 have e2:∀ ss:List Ss,((ss.flatMap ptS).map (·.1)).count k=(ss.map λx=>if x.nm=k.1 then x.ag.count k.2+x.lo.count k.2 else 0).sum:=λss=>by
  induction ss with
  | nil=>rfl
  | cons x r ih=>rw[Yz,Xn,Yg,ih,Xh,XU,NX]
 have z0:∀ ss:List Ss,(∀ x∈ss,x.nm≠k.1)->(ss.map λx=>if x.nm=k.1 then x.ag.count k.2+x.lo.count k.2 else 0).sum=0:=λss h=>by
  induction ss with
  | nil=>rfl
  | cons x r ih=>rw[Xh,XU,ih λy hy=>h y (Xo _ hy),if_neg (h x Xl)]
 have z1:∀ ss:List Ss,(ss.map Ss.nm).Nodup->∀ x∈ss,x.nm=k.1->(ss.map λx=>if x.nm=k.1 then x.ag.count k.2+x.lo.count k.2 else 0).sum=x.ag.count k.2+x.lo.count k.2:=λss=>by
  induction ss with
  | nil=>intro _ x hx;cases hx
  | cons y r ih=>
   intro nd x hx e
   rw[Xh] at nd
   have ⟨n1,n2⟩:=X5.mp nd
   rw[Xh];rw[XU]
   rcases Xr.mp hx with e' | hx
   ·subst e'
    rw[if_pos e,z0 r λz hz q=>n1 (Xd.mpr ⟨z,hz,q.trans e.symm⟩)]
    omega
   ·rw[if_neg λq=>n1 (Xd.mpr ⟨x,hx,e.trans q.symm⟩),ih n2 x hx e]
    omega
 rw[e1,e2]
 by_cases h:k.1∈st.ss.map Ss.nm
 ·obtain ⟨x,hx,e⟩:=Xd.mp h
  rw[z1 st.ss nd x hx e]
  have:=U x hx k.2
  rw[show (x.nm,k.2)=k from zbU e rfl] at this
  omega
 ·rw[z0 st.ss λx hx e=>h (Xd.mpr ⟨x,hx,e⟩)]
  have:st.fly k=0:=by
   by_cases q:1<=st.fly k
   ·exfalso
    unfold St'.fly at q
    obtain ⟨w,hw,q⟩:∃ w∈st.ws,1<=cK k (w.cm++w.st):=by
     generalize st.ws=ws at q
     induction ws with
     | nil=>simp at q
     | cons w r ih=>
      by_cases z:1<=cK k (w.cm++w.st)
      ·exact ⟨w,Xl,z⟩
      ·rw[Xh,XU] at q
       obtain ⟨v,hv,y⟩:=ih (by omega)
       exact ⟨v,Xo _ hv,y⟩
    obtain ⟨l,hl,e⟩:=DL q
    exact h (by rw[← e];exact lt w hw l hl)
   ·omega
  omega
theorem ng {ss:List Ss}{x:Ss}(nd:(ss.map Ss.nm).Nodup)(h:x∈ss):(ss.filter λy=>decide (y.nm=x.nm))=[x]:=by
 induction ss with
 | nil=>cases h
 | cons y r ih=>
  rw[Xh] at nd
  have ⟨n1,n2⟩:=X5.mp nd
  rcases Xr.mp h with (e | h)
  ·subst e
   have:(r.filter λy=>decide (y.nm=x.nm))=[]:=List.filter_eq_nil_iff.mpr λz hz q=>n1 (Xd.mpr ⟨z,hz,by simpa using q⟩)
   rw[Zt,if_pos (by simp),this]
  ·have:¬ y.nm=x.nm:=λe=>n1 (by rw[e];exact Xd.mpr ⟨x,h,rfl⟩)
   rw[Zt,if_neg (by simpa using this)]
   exact ih n2 h
theorem Pc {p:Pn}{st:St'}(nd:((pts p st).map (·.1)).Nodup)(U:st.Uq)(nn:(st.ss.map Ss.nm).Nodup)(len:st.ws.length<=p.ws.length){x:Ss}(hx:x∈st.ss){i:Int}(hi:i < x.nx):(cF (gy (pts p st)) (kyL (x.nm,i))).getD (gB "taken")=AE p st x i:=by
 unfold AE
 rw[if_neg (by omega)]
 have u:=U x hx i
 have z2:(Xm p.ws st.ws).map (·.2)=st.ws:=iR (by omega)
 by_cases h1:1<=st.fly (x.nm,i)
 ·rw[if_pos h1,CK nd (d:=iU (x.nm,i) (Xm p.ws st.ws)) ?_];rfl
  refine X8 _ (C9 ?_)
  have e:st.fly (x.nm,i)=((Xm p.ws st.ws).map λy=>cK (x.nm,i) (y.2.cm++y.2.st)).sum:=by
   unfold St'.fly
   rw[← z2,Xg,z2];rfl
  rw[e] at h1
  clear e z2
  generalize Xm p.ws st.ws=zs at h1
  induction zs with
  | nil=>simp at h1
  | cons y r ih=>
   by_cases z:1<=cK (x.nm,i) (y.2.cm++y.2.st)
   ·exact ⟨y,Xl,z⟩
   ·rw[Xh,XU] at h1
    obtain ⟨v,hv,q⟩:=ih (by omega)
    exact ⟨v,Xo _ hv,q⟩
 rw[if_neg h1]
 have inS:∀ d,((x.nm,i),d)∈ptS x->cF (gy (pts p st)) (kyL (x.nm,i))=some d:=λd hd=>CK nd (XC _ (Y6.mpr ⟨x,hx,hd⟩))
 by_cases h2:i∈x.lo
 ·rw[if_pos h2,inS _ (XC _ (Xd.mpr ⟨i,h2,rfl⟩))];rfl
 rw[if_neg h2]
 by_cases h3:i∈x.ag
 ·rw[if_pos h3,inS _ (X8 _ (Xd.mpr ⟨i,h3,rfl⟩))];rfl
 rw[if_neg h3,M3 ?_];rfl
 intro hm
 obtain ⟨y,hy,e⟩:=Xd.mp hm
 rcases X0.mp hy with h | h
 ·obtain ⟨z,hz,hw⟩:=Y6.mp h
  have:y.1∈(z.2.cm++z.2.st).map Lt.key:=by
   rw[Xn]
   rcases X0.mp hw with q | q
   ·exact X8 _ (by rw[← pq "comes" z.1.nm];exact Xd.mpr ⟨y,q,rfl⟩)
   ·exact XC _ (by rw[← pq "stands" z.1.nm];exact Xd.mpr ⟨y,q,rfl⟩)
  rw[e] at this
  have c:1<=cK (x.nm,i) (z.2.cm++z.2.st):=zbu.mpr this
  have:=gA (f:=λw:Ws=>cK (x.nm,i) (w.cm++w.st)) (Xx (a:=z.1) (b:=z.2) hz).2
  unfold St'.fly at h1
  omega
 ·obtain ⟨z,hz,hw⟩:=Y6.mp h
  have zx:z=x:=by
   have:z.nm=x.nm:=by
    rcases X0.mp hw with q | q<;>(obtain ⟨j,_,rfl⟩:=Xd.mp q;exact congrArg (·.1) e)
   have f:=ng nn hz
   have g:=ng nn hx
   rw[this] at f
   rw[f] at g
   exact (zbQ g).1
  subst zx
  rcases X0.mp hw with q | q
  ·obtain ⟨j,hj,rfl⟩:=Xd.mp q
   exact h3 (by rw[← show j=i from congrArg (·.2) e];exact hj)
  ·obtain ⟨j,hj,rfl⟩:=Xd.mp q
   exact h2 (by rw[← show j=i from congrArg (·.2) e];exact hj)
theorem vM {α β:Type}{f:α->List β}{M:Nat}:∀ {xs:List α},(∀ x∈xs,(f x).length<=M)->(xs.flatMap f).length<=xs.length*M
 | [],_=>by simp
 | x::r,h=>by
  have h1:=h x Xl
  have h2:=vM (f:=f) (M:=M) (xs:=r) λy hy=>h y (Xo _ hy)
  rw[Yz,Xi,XI,Nat.add_mul]
  omega
theorem MH {p:Pn}{st:St'}(S:StL st)(hw:p.ws.length<=6)(hs:st.ss.length<=8):(pts p st).length<=900000:=by
 have h1:((Xm p.ws st.ws).flatMap ptW).length<=(Xm p.ws st.ws).length*20000:=vM λy hy=>by
  have:=S.z2 y.2 (Xx (a:=y.1) (b:=y.2) hy).2
  unfold ptW plR
  simp
  omega
 have h2:(st.ss.flatMap ptS).length<=st.ss.length*20000:=vM λx hx=>by
  have:=S.z3 x hx
  unfold ptS
  simp
  omega
 have h3:(Xm p.ws st.ws).length<=6:=by rw[zeq];omega
 unfold pts
 rw[Xi]
 omega
theorem pL:∀ u∈["new", "taken", "lost", "again"],pl 5 (gB u)=true:=by decide +kernel
theorem D5 {k:Str×Int}:∀ {zs:List (Wy×Ws)},(∀ y∈zs,Xk y.1.nm=true)->pl 5 (iU k zs)=true
 | [],_=>rfl
 | (w,s)::r,h=>by
  have wk:=h (w,s) Xl
  have one:∀ (u:String) (ls:List Lt),Xk (OF u)=true->pl 5 (.tup [.str (OF u),.str w.nm,iD k ls])=true:=λu ls hu=>by
   have:pl 4 (iD k ls)=true:=by unfold iD;split<;>rfl
   simp only[pl,pls,hu,wk,this]
   rfl
  unfold iU
  split
  ·exact one _ _ (by decide +kernel)
  ·split
   ·exact one _ _ (by decide +kernel)
   ·exact D5 λy hy=>h y (Xo _ hy)
theorem NU {p:Pn}{st:St'}{x:Ss}{i:Int}(h:∀ w∈p.ws,Xk w.nm=true):pl 5 (AE p st x i)=true:=by
 unfold AE
 split
 ·exact pL _ (by simp)
 split
 ·exact D5 λy hy=>h _ (Xx (a:=y.1) (b:=y.2) hy).1
 split
 ·exact pL _ (by simp)
 split<;>exact pL _ (by simp)
section
open PySem PySem.Spec PyProof.Rows L2
def kTp (x:D)(f:List D->Prop):Prop:=match x with
 | .tup ds=>f ds
 | _=>False
end
section
open PySem PySem.Spec PyProof.Rows L2
section
variable {X:Cx} {a b c d:XG} {ta tb tc td:TE} {Ta Tb Tc Td:ETr} {pos:Pos} {o1 o2 o3:CmpOp} {r1 r2 r3:L2.R2} {R1 R2 R3:DR2}
end
end
section
open PySem PySem.Spec PyProof.Rows L2
section
variable {X:Cx} {tg a b:XG} {Ta Tb:ETr} {pos:Pos}
end
end
section
open PySem PySem.Spec PyProof.Rows L2
end
section
open PySem PySem.Spec PyProof.Rows L2
section
variable {X:Cx} {o i:XG} {apos cpos:Pos}
end
end
section
open PySem PySem.Spec PyProof PyProof.Rows L2
section
variable {X:Cx} {o:XG} {apos cpos pos p:Pos} {x:Str}
end
end
section
open PySem PySem.Spec PyProof.Rows L2
end
section
open PySem PySem.Spec PyProof.Rows L2
section
variable {X:Cx} {i o:XG} {pos:Pos} {Ti To:ETr}
end
end
section
open PySem PySem.Spec PyProof.Rows L2
def WC (K:W7)(n:Nat)(t:TGs):TG:=λv σ H Q=>∃ a xs,v=.ref a/\SqL K H a xs/\xs.length=n/\t xs σ H Q
def RL (is:List Nat):GTr:=λd ρ μ k=>match d with
 | .ls ds=>ds.length=is.length/\k (jB ρ is ds) μ
 | _=>False
section
variable {X:Cx} {es:List XG} {is:List Nat} {pos:Pos}
theorem RO {k:Nat}{t:TGs}{n:Nat}(hc:X.calm=true)(h:PGs X es t)
  (hn:(X7 es X.env).length=n:=by rfl) (hst:(X7 es X.env).findIdx? (·.1)=none:=by rfl):PG X (.Tuple es k pos) (WC X.K n t):=by
 intro pins s σ H v u Q I r hw
 obtain ⟨a,xs,e1,hq,hl,hw⟩:=hw
 subst e1
 cases r
 obtain ⟨its,rv,ht,hz⟩:=I.list hq
 have hL:s.heap.IsList a its.toArray:=by
  obtain ⟨o,m,e,c,_,d⟩:=ht
  exact ⟨o,e,c,m,d⟩
 rw[assign_Tuple]
 refine W8 (zaQ ?_)
 unfold unpack
 rw[hn,hst,show n=its.toArray.size by simp[← hl,rv.length]]
 refine W8 (Zk (PySem.W.kun_itemsOf (I.ok.hd hc) hL λh' hx=>?_))
 have I1:Inv X pins σ H { s with heap:=h' }:=I.kept (t':=s.toks) λb o e=>hx b o (XF (Xq e)) e
 exact h pins _ σ H xs _ Q I1 (by simpa using rv) hw
theorem Rv {k:Nat}(hc:X.calm=true)(h:LGs X es is)(hn:(X7 es X.env).length=is.length:=by rfl)(hst:(X7 es X.env).findIdx? (·.1)=none:=by rfl):LG X (.Tuple es k pos) (RL is):=by
 obtain ⟨t,pt,st⟩:=h.ex
 refine ⟨_,RO hc pt hn hst,λσ H ρ μ v d k k' rl p h q=>?_⟩
 cases p with
 | @ls a xs ds sq l=>exact ⟨a,xs,rfl,sq.sq,by rw[l.length];exact h.1,st σ H ρ μ xs ds k k' rl l h.1 h.2 q⟩
 | _=>exact Xf h
end
theorem Pz (i j:Nat)(a b:D)(ρ:ST)(μ:Mu)(k:ST->Mu->Prop):RL [i,j] (.ls [a,b]) ρ μ k=dh [i,j] (.tup [a,b]) ρ μ k:=propext Xc
end
section
open PySem PySem.Spec PyProof.Rows L2
def kDT (μ:Mu)(a:Addr)(f:List (List Key×D)->Prop):Prop:=match μ a with
 | some (.dcT kvs)=>f kvs
 | _=>False
def kTK:List D->(List Key->Prop)->Prop
 | [],f=>f []
 | d::r,f=>sI d λk=>kTK r λks=>f (k::ks)
theorem pR {μ:Mu}{a:Addr}{f:List (List Key×D)->Prop}(h:kDT μ a f):∃ ds,μ a=some (.dcT ds)/\f ds:=by
 unfold kDT at h
 split at h
 ·rename_i kvs e;exact ⟨kvs,e,h⟩
 ·exact h.elim
theorem pM {K:W7}{H:Hp}:∀ {vs:List V} {ds:List D} {f:List Key->Prop},DpL K H vs ds->kTK ds f->∃ ks:List Key,vs=ks.map kV/\f ks
 | _,_,_,.nil,h=>⟨[],rfl,h⟩
 | _,_,_,.cons p l,h=>by
  obtain ⟨k,rfl,h⟩:=lS p h
  obtain ⟨ks,rfl,h⟩:=pM l h
  exact ⟨k::ks,rfl,h⟩
theorem wV {H:Hp}{q:Addr}{u:HO}{xs:List (List Key×V)}(ex:H q=some (.dT xs)):Tk H (L2.upd H q u):=
 .upd (λys z=>by rw[ex] at z;cases z) λo' w z=>by rw[ex] at z;cases z
theorem Hs {K:W7}{H:Hp}{μ:Mu}{q:Addr}{xs ys:List (List Key×V)}{ds:List (List Key×D)}(m:bM K H μ)(ex:H q=some (.dT xs))(l:DpK K H ys ds):bM K (L2.upd H q (.dT ys)) (up μ q (.dcT ds)):=λz y ez=>by
 by_cases zq:z=q
 ·subst zq
  rw[aI] at ez;cases ez
  exact ⟨ys,aN,l.mono (wV ex)⟩
 ·rw[aU zq] at ez
  exact (m z _ ez).ne (wV ex) zq
section
variable {X:Cx} {o e value:XG} {es:List XG} {To Te:ETr} {Ta:ATr} {pos tpos ppos apos cpos:Pos} {x1:Nat}
def Al:ETr:=λρ μ Q=>∀ p,μ p=none->Q (.obj p) (up μ p (.dcT []))
theorem Lp:LE X (.Dict [] [] pos) Al:=⟨_,J8,λσ H ρ μ Q Q' rl h k p hp=>k _ _ _ (up μ p (.dcT [])) (.new hp) (λz y ez=>by
 by_cases zq:z=p
 ·subst zq
  rw[aI] at ez;cases ez
  exact ⟨[],aN,.nil⟩
 ·rw[aU zq] at ez
  exact b7 rl.mu hp z y ez) (.obj p) (h p (rl.mu.free hp))⟩
def rQ (To:ETr)(Ta:ATr)(Te:ETr):STr:=λE ρ μ=>Te ρ μ λv μ1=>To ρ μ1 λx μ2=>Ta ρ μ2 λds μ3=>ds.length<=1000/\kObj x λa=>kDT μ3 a λkvs=>kTK ds λk=>kvs.length < 1000000/\E.nx ρ (up μ3 a (.dcT (putD kvs k v)))
theorem xl (hu:X.A.units+64 < cLine)(ho:LE X o To)(hi:LA X es Ta)(he:LE X value Te)(hs:Y3 value (some (.Subscript o (.Tuple es x1 ppos) tpos)) pos.line X.env=pure false:=by rfl) :
  LS X (.Assign [.Subscript o (.Tuple es x1 ppos) tpos] value pos) (rQ To Ta Te):=by
 obtain ⟨to,po,so⟩:=ho.ex
 obtain ⟨ta,pa,sa⟩:=hi.ex
 obtain ⟨te,pe,se⟩:=he.ex
 refine ⟨_,vi (hu1 hu) po (AJ pa) pe hs,λσ H ρ μ E E' rl h k=>se σ H ρ μ _ _ rl h λv H1 dv μ1 t1 m1 p1 h1=>so σ H1 ρ μ1 _ _ (rl.go t1 m1) h1 λx H2 dx μ2 t2 m2 p2 h2=>
  sa σ H2 ρ μ2 _ _ (rl.go (t1.trans t2) m2) h2 λvs H3 ds μ3 t3 m3 l3 h3=>?_⟩
 obtain ⟨hl,h3⟩:=h3
 refine ⟨by rw[l3.length];exact XZ hl (by decide),λb hb=>?_⟩
 obtain ⟨q,rfl,h3⟩:=eL p2 h3
 obtain ⟨kvs,e0,h3⟩:=pR h3
 obtain ⟨kk,rfl,h3⟩:=pM l3 h3
 obtain ⟨xs,ex,l⟩:=m3 q _ e0
 have t4:Tk H3 (L2.upd H3 b (.tup (kk.map kV))):=.new hb
 have ex':L2.upd H3 b (.tup (kk.map kV)) q=some (.dT xs):=by rw[aP (λz=>by rw[z,hb] at ex;cases ex)];exact ex
 have t5:=t4.trans (wV (u:=.dT (putK xs kk v)) ex')
 have t15:=t1.trans (t2.trans (t3.trans t5))
 refine ⟨q,_,rfl,qr.t ex' aN (by rw[l.length];exact Xw h3.1 (by decide)),k.nx _ _ ρ _ t15 (rl.go t15 (Hs (b7 m3 hb) ex' ((l.put kk (p1.mono (t2.trans t3))).mono t4))) h3.2⟩
def vR (To:ETr)(Ta:ATr)(Te:ETr):ETr:=λρ μ Q=>To ρ μ λx μ1=>kObj x λa=>kDT μ1 a λ_=>Ta ρ μ1 λds μ2=>ds.length<=1000/\Te ρ μ2 λz μ3=>kDT μ3 a λkvs=>kTK ds λk=>Q ((cF kvs k).getD z) μ3
theorem Ew (hu:X.A.units+64 < cLine)(ho:LE X o To)(hi:LA X es Ta)(he:LE X e Te)(m:M2 X o "get" apos (.Tuple es x1 ppos) e cpos:=by exact ⟨rfl,rfl,rfl,rfl⟩) :
  LE X (.Call (.Attribute o "get" apos) [.Tuple es x1 ppos,e] [] cpos) (vR To Ta Te):=by
 obtain ⟨to,po,so⟩:=ho.ex
 obtain ⟨ta,pa,sa⟩:=hi.ex
 obtain ⟨te,pe,se⟩:=he.ex
 refine ⟨_,Ip (hu1 hu) po (AJ pa) pe m,λσ H ρ μ Q Q' rl h k=>so σ H ρ μ _ _ rl h λx H1 dx μ1 t1 m1 p1 h1=>?_⟩
 obtain ⟨q,rfl,h1⟩:=eL p1 h1
 obtain ⟨kvs0,e0,h1⟩:=pR h1
 obtain ⟨xs0,ex0,l0⟩:=m1 q _ e0
 refine ⟨q,rfl,.inr ⟨_,.inl ex0⟩,sa σ H1 ρ μ1 _ _ (rl.go t1 m1) h1 λvs H2 ds μ2 t2 m2 l2 h2=>?_⟩
 obtain ⟨hl,h2⟩:=h2
 refine ⟨by rw[l2.length];exact XZ hl (by decide),λb hb=>?_⟩
 have t3:Tk H2 (L2.upd H2 b (.tup vs)):=.new hb
 refine se σ _ ρ μ2 _ _ ((rl.go t1 m1).go (t2.trans t3) (b7 m2 hb)) h2 λz H3 dz μ3 t4 m3 p3 h3=>?_
 obtain ⟨kvs,e3,h3⟩:=pR h3
 obtain ⟨kk,rfl,h3⟩:=pM l2 h3
 obtain ⟨xs,ex,l⟩:=m3 q _ e3
 have eb:H3 b=some (.tup (kk.map kV)):=t4.tup b _ aN
 refine ⟨_,nh.t ex eb,?_⟩
 have tt:=t1.trans (t2.trans (t3.trans t4))
 rcases l.look kk with ⟨a,b⟩ | ⟨v,d,a,b,pv⟩
 ·rw[b];rw[a] at h3
  exact k _ H3 _ μ3 tt m3 p3 h3
 ·rw[b];rw[a] at h3
  exact k _ H3 _ μ3 tt m3 pv h3
end
end
section
open PySem PySem.Spec PyProof.Rows L2
def Ai:List GTr->List D->ST->Mu->(ST->Mu->Prop)->Prop
 | [],[],ρ,μ,k=>k ρ μ
 | g::gs,d::ds,ρ,μ,k=>g d ρ μ λρ' μ'=>Ai gs ds ρ' μ' k
 | _,_,_,_,_=>False
def SQ (gs:List GTr):GTr:=λd ρ μ k=>match d with
 | .tup ds=>ds.length=gs.length/\Ai gs ds ρ μ k
 | _=>False
def Ud (K:W7)(t:TGs)(gs:List GTr):Prop:=∀ σ H ρ μ vs ds (k:ST->Mu->Prop) (k':L2.St->Hp->Prop),Rl K σ H ρ μ->DpL K H vs ds->Ai gs ds ρ μ k->uP K H k k'->t vs σ H k'
structure LGm (X:Cx) (es:List XG) (gs:List GTr):Prop where
 ex:∃ t,PGs X es t/\Ud X.K t gs
section
variable {X:Cx} {e:XG} {es:List XG} {gs:List GTr} {G:GTr} {pos:Pos}
theorem Mz:LGm X [] []:=⟨_,wq,λσ H ρ μ vs ds k k' rl l h q=>by
 cases l with
 | nil=>exact ⟨rfl,q _ _ _ _ (.refl H) rl h⟩
 | cons=>exact Xf h⟩
theorem y4 (h1:LG X e G)(h2:LGm X es gs)(hs:(X7 (e::es) X.env).map (·.2)=zb8 e X.env::(X7 es X.env).map (·.2):=by rfl):LGm X (e::es) (G::gs):=by
 obtain ⟨g,pg,sg⟩:=h1.ex
 obtain ⟨t,pt,st⟩:=h2.ex
 refine ⟨_,rN pg pt hs,λσ H ρ μ vs ds k k' rl l h q=>?_⟩
 cases l with
 | nil=>exact Xf h
 | @cons v d vs ds p l=>exact ⟨v,vs,rfl,sg σ H ρ μ v d _ _ rl p h λσ1 H1 ρ1 μ1 t1 r1 h1=>st σ1 H1 ρ1 μ1 vs ds k k' r1 (l.mono t1) h1 λ_ _ _ _ t'=>q _ _ _ _ (t1.trans t')⟩
theorem RS {k:Nat}(hc:X.calm=true)(h:LGm X es gs)(hn:(X7 es X.env).length=gs.length:=by rfl)(hst:(X7 es X.env).findIdx? (·.1)=none:=by rfl):LG X (.Tuple es k pos) (SQ gs):=by
 obtain ⟨t,pt,st⟩:=h.ex
 refine ⟨_,AK hc pt hn hst,λσ H ρ μ v d k k' rl p h q=>?_⟩
 cases p with
 | @tup a xs ds sq l=>exact ⟨a,xs,rfl,sq,by rw[l.length];exact h.1,st σ H ρ μ xs ds k k' rl l h.2 q⟩
 | _=>exact Xf h
end
section
variable {X:Cx} {o a value:XG} {lo hi:Option XG} {To Ta Te:ETr} {Tl Th:OTr} {pos tpos p2 spos:Pos}
def rP (To Ta:ETr)(Tl Th:OTr)(Te:ETr):STr:=λE ρ μ=>Te ρ μ λv μ1=>To ρ μ1 λx μ2=>Ta ρ μ2 λy μ3=>Tl ρ μ3 λl μ4=>Th ρ μ4 λh μ5=>kTp y λds=>
 ¬ (HT.sIx ds.length 0 l=0/\HT.sIx ds.length ds.length h=ds.length)/\kTK (cutD ds l h) λk=>kObj x λa=>kDT μ5 a λkvs=>kvs.length < 1000000/\E.nx ρ (up μ5 a (.dcT (putD kvs k v)))
theorem wZ (hu:X.A.units+64 < cLine)(ho:LE X o To)(ha:LE X a Ta)(hl:LO X lo Tl)(hh:LO X hi Th)(he:LE X value Te)(hs:Y3 value (some (.Subscript o (.Subscript a (.Slice lo hi none p2) spos) tpos)) pos.line X.env=pure false:=by rfl) :
  LS X (.Assign [.Subscript o (.Subscript a (.Slice lo hi none p2) spos) tpos] value pos) (rP To Ta Tl Th Te):=by
 obtain ⟨to,po,so⟩:=ho.ex
 obtain ⟨ta,pa,sa⟩:=ha.ex
 obtain ⟨te,pe,se⟩:=he.ex
 obtain ⟨tl,pl,sl⟩:=hl.ex
 obtain ⟨th,ph,sh⟩:=hh.ex
 refine ⟨_,vi (hu1 hu) po (yI II pa pl ph) pe hs,λσ H ρ μ E E' rl h k=>se σ H ρ μ _ _ rl h λv H1 dv μ1 t1 m1 p1 h1=>so σ H1 ρ μ1 _ _ (rl.go t1 m1) h1 λx H2 dx μ2 t2 m2 p2 h2=>
  sa σ H2 ρ μ2 _ _ (rl.go (t1.trans t2) m2) h2 λy H3 dy μ3 t3 m3 p3 h3=>sl σ H3 ρ μ3 _ _ (rl.go (t1.trans (t2.trans t3)) m3) h3 λi H4 μ4 t4 m4 h4=>sh σ H4 ρ μ4 _ _ (rl.go (t1.trans (t2.trans (t3.trans t4))) m4) h4 λj H5 μ5 t5 m5 h5=>?_⟩
 cases p3 with
 | @tup b ys ds sq l=>
  obtain ⟨hw,h5⟩:=h5
  have t45:=t4.trans t5
  have l':=l.mono t45
  refine ⟨b,ys,rfl,t45.sqT sq,by rw[l.length];exact hw,λz hz=>?_⟩
  obtain ⟨kk,ek,h6⟩:=pM (l'.cut i j) h5
  obtain ⟨q,rfl,h6⟩:=eL p2 h6
  obtain ⟨kvs,e0,h6⟩:=pR h6
  obtain ⟨xs,ex,lx⟩:=m5 q _ e0
  have t6:Tk H5 (L2.upd H5 z (.tup (cutD ys i j))):=.new hz
  have ex':L2.upd H5 z (.tup (cutD ys i j)) q=some (.dT xs):=by rw[aP (λw=>by rw[w,hz] at ex;cases ex)];exact ex
  have t7:=t6.trans (wV (u:=.dT (putK xs kk v)) ex')
  have t17:=t1.trans (t2.trans (t3.trans (t45.trans t7)))
  refine ⟨q,_,rfl,qr.t ex' (by rw[aN,ek]) (by rw[lx.length];exact Xw h6.1 (by decide)),k.nx _ _ ρ _ t17 (rl.go t17 (Hs (b7 m5 hz) ex' ((lx.put kk (p1.mono (t2.trans (t3.trans t45)))).mono t6))) h6.2⟩
 | _=>exact Xf h5
end
theorem F8 (ρ:ST)(μ:Mu)(k:ST->Mu->Prop):Ai [] [] ρ μ k=k ρ μ:=propext Xc
theorem E9 (g:GTr)(gs:List GTr)(d:D)(ds:List D)(ρ:ST)(μ:Mu)(k:ST->Mu->Prop):Ai (g::gs) (d::ds) ρ μ k=g d ρ μ λρ' μ'=>Ai gs ds ρ' μ' k:=propext Xc
theorem Px (gs:List GTr)(ds:List D)(ρ:ST)(μ:Mu)(k:ST->Mu->Prop):SQ gs (.tup ds) ρ μ k=(ds.length=gs.length/\Ai gs ds ρ μ k):=propext Xc
end
theorem HR (ρ:ST)(μ:Mu)(Q:DK):Al ρ μ Q = ∀ p,μ p=none->Q (.obj p) (up μ p (.dcT [])):=propext Xc
theorem Ko (a b:ETr)(l h:OTr)(e:ETr)(nx:ST->Mu->Prop)(rt:DK)(bk ct:ST->Mu->Prop)(ρ:ST)(μ:Mu):rP a b l h e ⟨nx,rt,bk,ct⟩ ρ μ=e ρ μ λv μ1=>a ρ μ1 λx μ2=>b ρ μ2 λy μ3=>l ρ μ3 λi μ4=>h ρ μ4 λj μ5=>kTp y λds=>
 ¬ (HT.sIx ds.length 0 i=0/\HT.sIx ds.length ds.length j=ds.length)/\kTK (cutD ds i j) λk=>kObj x λa=>kDT μ5 a λkvs=>kvs.length < 1000000/\nx ρ (up μ5 a (.dcT (putD kvs k v))):=propext Xc
theorem Kv (a:ETr)(b:ATr)(e:ETr)(nx:ST->Mu->Prop)(rt:DK)(bk ct:ST->Mu->Prop)(ρ:ST)(μ:Mu):rQ a b e ⟨nx,rt,bk,ct⟩ ρ μ=e ρ μ λv μ1=>a ρ μ1 λx μ2=>b ρ μ2 λds μ3=>ds.length<=1000/\kObj x λa=>kDT μ3 a λkvs=>kTK ds λk=>kvs.length < 1000000/\nx ρ (up μ3 a (.dcT (putD kvs k v))):=propext Xc
theorem ER (a:ETr)(b:ATr)(e:ETr)(ρ:ST)(μ:Mu)(Q:DK):vR a b e ρ μ Q=a ρ μ λx μ1=>kObj x λa=>kDT μ1 a λ_=>b ρ μ1 λds μ2=>ds.length<=1000/\e ρ μ2 λz μ3=>kDT μ3 a λkvs=>kTK ds λk=>Q ((cF kvs k).getD z) μ3:=propext Xc
theorem TR (f:List L2.Key->Prop):kTK [] f=f []:=propext Xc
theorem Ts (d:D)(r:List D)(f:List L2.Key->Prop):kTK (d::r) f=sI d λk=>kTK r λks=>f (k::ks):=propext Xc
theorem PR {μ:Mu}{a:Addr}{kvs:List (List L2.Key×D)}{f:List (List L2.Key×D)->Prop}:kDT (up μ a (.dcT kvs)) a f=f kvs:=by unfold kDT;rw[aI]
end L3
namespace Kk
local macro_rules | `(tactic| walk_at "ln")=>`(tactic| (intro ds μ Q h;split at h;rfl;exact h.elim))
open PySem L3
def Wf:=Jn @HR <| Jn @Ko <| Jn @Kv <| Jn @ER <| Jn @TR <| Jn @Ts <| Jn @PR <| Jn @Px <| Jn @F8 <| Jn @E9 <| Jn @Pz <| Jn @Q4 <| @Va
local macro_rules | `(tactic| walk_at "go")=>zzS "↓Kk.Wf L3.EK ↓L3.yt ↓L3.xc ↓L3.zD ↓L3.ym ↓L3.zQ ↓L3.xE ↓L3.ke ↓L3.iP L3.cq L3.bY L3.cw L3.cy L3.cv L3.cz L3.cW L3.cR L3.bZ L3.cp L3.cA L3.cB L3.cu L3.cT L3.cE L3.cV L3.ck L3.cQ L3.cC L3.cU L3.iS L3.wK L3.vC L3.eZ List.map_cons List.map_nil List.replicate List.cons_append List.nil_append L3.lk L3.CH L3.Cm L3.Fx L3.Eh L3.fj L3.qf L3.nC L3.uf L3.uu L3.mT L3.mK L3.kc L3.kg L3.kb L3.ka true_and and_true and_self Bool.not_true Bool.not_false decide_true decide_false Bool.or_true Bool.or_false Bool.true_or Bool.false_or Bool.and_false Bool.false_and Bool.and_true Bool.true_and Int.reduceToNat Int.reducePow Int.reduceNeg Int.reduceSub Int.reduceAdd Int.reduceMul Int.reduceEq Int.reduceLT Int.reduceLE Int.reduceBEq L3.iA L3.fN L3.f6 L3.fI L3.fH L3.fO L3.fP L3.fX if_true if_false Bool.false_eq_true reduceCtorEq decide_eq_true_eq"
local macro_rules | `(tactic| walk_at "ok")=>`(tactic| (simp only[L3.jO,L3.MulOk,L3.S64,L3.gw,L3.nH] at *;omega))
local macro_rules | `(tactic| walk_at "ini")=>`(tactic| simp only[ini,List.map,List.length,List.replicate,Nat.reduceSub,Nat.reduceAdd,Nat.sub_self,List.cons_append,List.nil_append,List.append_nil])
def vx:FSp:=λds μ Q=>kcA ds λd ds=>kcI ds λn ds=>kcN ds (∃ (p:Pn) (m:Int) (j:Nat),(d=p.toD/\p.Ok m/\n=j/\j<=1000)/\Q (.tup [(p.run j).toD p.g,.ls (p.rows j)]) μ)
theorem Nd:∀ ds μ Q,vx ds μ Q->ds.length=2:=λ_ _ _ h=>lcA h λ_ _ h=>lcI h λ_ _ h=>by rw[(ecN h).1];rfl
def OZ:STr:=aA (aO (au L3.l9 (af (ah 0) (ao))) (ay 2)) (aA (aO (kr (ao)) (ay 3)) (aA (eG (fM (ah 1)) (ay 4) (aA (aO (au L3.iL (af (ah 0) (af (ah 2) (ao)))) (ay 5)) (aA (aO (aj L3.rIx (ah 5) (TC (.int 0))) (ay 2)) (eU (kx (ah 3) (aj L3.rIx (ah 5) (TC (.int 1)))))))) (aV (a7 (af (ah 2) (af (wj (ah 3)) (ao)))))))
theorem R6:∀ ds μ Q,vx ds μ Q->OZ { nx:=λ_ μ'=>RT Q .non μ',rt:=RT Q } (ini 6 ds) μ:=by
 intro ds μ Q h
 replace h:=ecA h
 obtain ⟨d,ds,rfl,h⟩:=h
 replace h:=ecI h
 obtain ⟨n,ds,rfl,h⟩:=h
 replace h:=ecN h
 obtain ⟨rfl,h⟩:=h
 walk_at "ini"
 unfold OZ
 walk_at "go"
 obtain ⟨p,m,j,⟨rfl,K,rfl,hj⟩,k⟩:=h
 have w1:=K.w1
 have s1:=K.s1
 refine ⟨p,⟨rfl,λx hx=>(K.s x hx).k,K.g,by omega,by omega⟩,?_⟩
 walk_at "go"
 intro q hq
 walk_at "go"
 refine ⟨⟨by omega,by omega⟩,?_⟩
 rw[zax]
 refine bu (λr ρ μ'=>∃ (i:Nat) (v4 v5:Option D),i+r.length=j/\ρ=[some p.toD,some (.int j),some ((p.run i).toD p.g),some (.obj q),v4,v5]/\μ'=up μ q (.lst (p.rows i))) ?_ ?_ _ _ _ ⟨0,_,_,by rw[eC];omega,rfl,rfl⟩
 ·rintro ρ μ' ⟨i,v4,v5,e,rfl,rfl⟩
  have e:i=j:=by simpa using e
  subst e
  walk_at "go"
  rw[sN hq]
  exact ⟨_,.refl _,k⟩
 ·rintro d r ρ μ' N ⟨i,v4,v5,e,rfl,rfl⟩ hN
  rw[XI] at e
  have I:=p.kj K i (by omega)
  walk_at "go"
  refine ⟨p,p.run i,⟨⟨rfl,rfl⟩,I.rd (by omega)⟩,?_⟩
  walk_at "go"
  refine ⟨by unfold Pn.rows;simp;omega,hN _ _ ⟨i+1,_,_,by omega,rfl,?_⟩⟩
  unfold Pn.rows
  rw[zba,Xn]
  rfl
def eP:FSp:=λds μ Q=>kcT ds λxs ds=>kcS ds λa ds=>kcI ds λi ds=>kcN ds (∃ ls:List Lt,(xs=ltD ls/\(∀ l∈ls,Xk l.nm=true)/\Xk a=true/\ls.length<=100000)/\Q (iD (a,i) ls) μ)
theorem oP:∀ ds μ Q,eP ds μ Q->ds.length=3:=λ_ _ _ h=>lcT h λ_ _ h=>lcS h λ_ _ h=>lcI h λ_ _ h=>by rw[(ecN h).1];rfl
def kH:STr:=aA (eG (uh (af (ah 0) (ao))) (dh [3,4]) (bL (sQ (TB (aj rEq (aj L3.rIx (ah 4) (TC (.int 0))) (ah 1))) (TB (aj rEq (aj L3.rIx (ah 4) (TC (.int 1))) (ah 2)))) (aV (ah 3)) (ba))) (aV (TC .non))
theorem rB:∀ ds μ Q,eP ds μ Q->kH { nx:=λ_ μ'=>RT Q .non μ',rt:=RT Q } (ini 5 ds) μ:=by
 intro ds μ Q h
 replace h:=ecT h
 obtain ⟨xs,ds,rfl,h⟩:=h
 replace h:=ecS h
 obtain ⟨a,ds,rfl,h⟩:=h
 replace h:=ecI h
 obtain ⟨i,ds,rfl,h⟩:=h
 replace h:=ecN h
 obtain ⟨rfl,h⟩:=h
 walk_at "ini"
 unfold kH
 walk_at "go"
 obtain ⟨ls,⟨rfl,hl,ha,ll⟩,k⟩:=h
 have en:gn (ltD ls)=(ls.zipIdx 0).map λy=>.tup [.int (y.2:Nat),y.1.toD]:=by
  unfold gn
  refine zeb (by simp) λj h1 h2=>?_
  simp
 walk_at "go"
 rw[en]
 refine bu (λr ρ μ'=>∃ (dn rs:List Lt) (v3 v4:Option D),r=(rs.zipIdx dn.length).map (λy=>.tup [.int (y.2:Nat),y.1.toD])/\dn++rs=ls/\cK (a,i) dn=0/\ρ=[some (.tup (ltD ls)),some (.str a),some (.int i),v3,v4]/\μ'=μ) ?_ ?_ _ _ _ ⟨[],ls,_,_,rfl,rfl,rfl,rfl,rfl⟩
 ·rintro ρ μ' ⟨dn,rs,v3,v4,er,es,c0,rfl,rfl⟩
  cases rs with
  | cons _ _=>cases er
  | nil=>
  rw[XH] at es
  subst es
  walk_at "go"
  unfold iD at k
  rw[if_neg (by omega)] at k
  exact ⟨_,.refl _,k⟩
 ·rintro d r ρ μ' N ⟨dn,rs,v3,v4,er,es,c0,rfl,rfl⟩ hN
  cases rs with
  | nil=>cases er
  | cons l rs=>
  rw[zaM] at er
  cases er
  have hm:l∈ls:=by rw[← es];simp
  walk_at "go"
  refine ⟨⟨hl l hm,ha⟩,?_⟩
  have more:l.key≠(a,i)->N [some (.tup (ltD ls)),some (.str a),some (.int i),some (.int (dn.length:Nat)),some l.toD] μ':=λhk=>hN _ _ ⟨dn++[l],rs,_,_,by rw[Xi];rfl,by rw[← es];simp,by rw[fu];unfold cK at c0 ⊢;simp[c0,hk],rfl,rfl⟩
  refine kif (λh1=>kif (λh2=>?_) λh2=>more λz=>h2 (congrArg (·.2) z)) λh1=>more λz=>h1 (congrArg (·.1) z)
  have hk:l.key=(a,i):=by rw[← h1,← h2]
  unfold iD at k
  rw[if_pos (DM hm hk)] at k
  have no:(dn.findIdx λl=>decide (l.key=(a,i)))=dn.length:=by
   refine List.findIdx_eq_length.mpr λz hz=>?_
   by_cases q:z.key=(a,i)
   ·have:=DM hz q;omega
   ·simpa using q
  have e:(ls.findIdx λl=>decide (l.key=(a,i)))=dn.length:=by
   rw[← es,List.findIdx_append,no,if_neg (Y2 _),List.findIdx_cons]
   simp[hk]
  rw[e] at k
  exact ⟨_,.refl _,k⟩
def dA:FSp:=λds μ Q=>kcA ds λpd ds=>kcA ds λsd ds=>kcS ds λa ds=>kcI ds λi ds=>kcN ds (∃ (p:Pn) (st:St'),((pd=p.toD/\sd=st.toD p.g)/\(∀ w∈st.ws,w.Ok)/\Xk a=true/\∀ w∈st.ws,w.cm.length<=100000/\w.st.length<=100000)/\Q (iU (a,i) (Xm p.ws st.ws)) μ)
theorem l7:∀ ds μ Q,dA ds μ Q->ds.length=4:=λ_ _ _ h=>lcA h λ_ _ h=>lcA h λ_ _ h=>lcS h λ_ _ h=>lcI h λ_ _ h=>by rw[(ecN h).1];rfl
def jc:STr:=aA (eG (jk (af (aj L3.rIx (ah 0) (TC (.int 1))) (af (aj L3.rIx (ah 1) (TC (.int 0))) (ao)))) (dh [4,5]) (eG (cN (a7 (af (a7 (af (TC (.str "stands")) (af (aj L3.rIx (ah 5) (TC (.int 1))) (ao)))) (af (a7 (af (TC (.str "comes")) (af (aj L3.rIx (ah 5) (TC (.int 0))) (ao)))) (ao))))) (dh [6,7]) (aA (aO (au eP (af (ah 7) (af (ah 2) (af (ah 3) (ao))))) (ay 8)) (bL (TB (aj iq (ah 8) (TC .non))) (aV (a7 (af (ah 6) (af (aj L3.rIx (ah 4) (TC (.int 0))) (af (ah 8) (ao)))))) (ba))))) (aV (TC .non))
theorem nr:∀ ds μ Q,dA ds μ Q->jc { nx:=λ_ μ'=>RT Q .non μ',rt:=RT Q } (ini 9 ds) μ:=by
 intro ds μ Q h
 replace h:=ecA h
 obtain ⟨pd,ds,rfl,h⟩:=h
 replace h:=ecA h
 obtain ⟨sd,ds,rfl,h⟩:=h
 replace h:=ecS h
 obtain ⟨a,ds,rfl,h⟩:=h
 replace h:=ecI h
 obtain ⟨i,ds,rfl,h⟩:=h
 replace h:=ecN h
 obtain ⟨rfl,h⟩:=h
 walk_at "ini"
 unfold jc
 walk_at "go"
 obtain ⟨p,st,⟨⟨rfl,rfl⟩,hw,ha,hl⟩,k⟩:=h
 walk_at "go"
 rw[qW]
 refine bu (λr ρ μ'=>∃ (rs:List (Wy×Ws)) (v4 v5 v6 v7 v8:Option D),r=rs.map (λy=>.tup [y.1.toD,y.2.toD])/\(∀ y∈rs,y∈Xm p.ws st.ws)/\RT Q (iU (a,i) rs) μ/\ρ=[some p.toD,some (st.toD p.g),some (.str a),some (.int i),v4,v5,v6,v7,v8]/\μ'=μ) ?_ ?_ _ _ _ ⟨Xm p.ws st.ws,_,_,_,_,_,rfl,λ_ h=>h,⟨_,.refl _,k⟩,rfl,rfl⟩
 ·rintro ρ μ' ⟨rs,v4,v5,v6,v7,v8,er,hs,k,rfl,rfl⟩
  cases rs with
  | cons _ _=>cases er
  | nil=>
  walk_at "go"
  exact k
 ·rintro d r ρ μ' N ⟨rs,v4,v5,v6,v7,v8,er,hs,k,rfl,rfl⟩ hN
  cases rs with
  | nil=>cases er
  | cons y rs=>
  cases er
  obtain ⟨w,s⟩:=y
  have hz:=hs (w,s) Xl
  have so:=hw s (Xx hz).2
  have sl:=hl s (Xx hz).2
  have Lok:∀ l∈s.cm++s.st,Xk l.nm=true:=so.n
  walk_at "go"
  simp only[forR]
  walk_at "go"
  refine ⟨s.st,⟨rfl,λl hl=>Lok l (XC _ hl),ha,sl.2⟩,?_⟩
  have k':RT Q (if 1<=cK (a,i) s.st then .tup [.str "stands", .str w.nm,iD (a,i) s.st] else if 1<=cK (a,i) s.cm then .tup [.str "comes", .str w.nm,iD (a,i) s.cm] else iU (a,i) rs) μ':=k
  by_cases h1:1<=cK (a,i) s.st
  ·rw[if_pos h1] at k'
   unfold iD at k' ⊢
   rw[if_pos h1] at k' ⊢
   walk_at "go"
   exact k'
  ·rw[if_neg h1] at k'
   have e1:iD (a,i) s.st=.non:=by unfold iD;rw[if_neg h1]
   rw[e1]
   walk_at "go"
   refine ⟨s.cm,⟨rfl,λl hl=>Lok l (X8 _ hl),ha,sl.1⟩,?_⟩
   by_cases h2:1<=cK (a,i) s.cm
   ·rw[if_pos h2] at k'
    unfold iD at k' ⊢
    rw[if_pos h2] at k' ⊢
    walk_at "go"
    exact k'
   ·rw[if_neg h2] at k'
    have e2:iD (a,i) s.cm=.non:=by unfold iD;rw[if_neg h2]
    rw[e2]
    walk_at "go"
    exact hN _ _ ⟨rs,_,_,_,_,_,rfl,λy hy=>hs y (Xo _ hy),k',rfl,rfl⟩
theorem CU {k:Str×Int}:∀ {zs:List (Wy×Ws)},(∀ y∈zs,cK k (y.2.cm++y.2.st)=0)->iU k zs=.non
 | [],_=>rfl
 | (w,s)::r,h=>by
  have h1:=h (w,s) Xl
  rw[fu] at h1
  simp only at h1
  unfold iU
  rw[if_neg (by omega),if_neg (by omega)]
  exact CU λy hy=>h y (Xo _ hy)
theorem yD {k:Str×Int}:∀ {zs:List (Wy×Ws)},(∃ y∈zs,1<=cK k (y.2.cm++y.2.st))->∃ y∈zs,∃ j:D,(1<=cK k y.2.st/\iU k zs=.tup [.str "stands", .str y.1.nm,j])∨(1<=cK k y.2.cm/\iU k zs=.tup [.str "comes", .str y.1.nm,j])
 | [],h=>by obtain ⟨_,h,_⟩:=h;cases h
 | (w,s)::r,h=>by
  by_cases h1:1<=cK k s.st
  ·exact ⟨(w,s),Xl,iD k s.st,.inl ⟨h1,by unfold iU;rw[if_pos h1]⟩⟩
  ·by_cases h2:1<=cK k s.cm
   ·exact ⟨(w,s),Xl,iD k s.cm,.inr ⟨h2,by unfold iU;rw[if_neg h1,if_pos h2]⟩⟩
   ·obtain ⟨y,hy,j,q⟩:=yD (k:=k) (zs:=r) (by
     obtain ⟨y,hy,q⟩:=h
     rcases Xr.mp hy with (e | hy)
     ·rw[e,fu] at q;simp only at q;omega
     ·exact ⟨y,hy,q⟩)
    refine ⟨y,Xo _ hy,j,?_⟩
    have e:iU k ((w,s)::r)=iU k r:=by
     show (if 1<=cK k s.st then _ else if 1<=cK k s.cm then _ else iU k r)=_
     rw[if_neg h1,if_neg h2]
    rw[e]
    exact q
theorem CV {α:Type}{f:α->Nat}:∀ {zs:List α},1<=(zs.map f).sum->∃ y∈zs,1<=f y
 | [],h=>by simp at h
 | y::r,h=>by
  rw[Xh,XU] at h
  by_cases q:1<=f y
  ·exact ⟨y,Xl,q⟩
  ·obtain ⟨z,hz,q⟩:=CV (f:=f) (zs:=r) (by omega)
   exact ⟨z,Xo _ hz,q⟩
theorem Dr (i:Int)(ns:List Int):inG (.int i) (b8 ns)=decide (i∈ns):=by
 unfold inG
 induction ns with
 | nil=>rfl
 | cons a r ih=>
  have:b8 (a::r)=.int a::b8 r:=rfl
  rw[this,Zl,ih,qf]
  by_cases h:a=i
  ·simp[h]
  ·have h':¬ i=a:=λz=>h z.symm
   simp[h,h']
theorem Ot (ns:List Int):c6 38 (b8 ns)=true:=by
 induction ns with
 | nil=>rfl
 | cons a r ih=>
  have:b8 (a::r)=.int a::b8 r:=rfl
  rw[this,fj,CH,ih];rfl
def fo:FSp:=λds μ Q=>kcA ds λpd ds=>kcA ds λsd ds=>kcS ds λa ds=>kcI ds λi ds=>kcN ds (∃ (p:Pn) (st:St') (x:Ss),((pd=p.toD/\sd=st.toD p.g)/\StL st/\(∀ w∈st.ws,w.Ok)/\st.ws.length=p.ws.length/\a=x.nm/\x∈st.ss)/\Q (AE p st x i) μ)
theorem vp:∀ ds μ Q,fo ds μ Q->ds.length=4:=λ_ _ _ h=>lcA h λ_ _ h=>lcA h λ_ _ h=>lcS h λ_ _ h=>lcI h λ_ _ h=>by rw[(ecN h).1];rfl
def sD:STr:=aA (aO (aj L3.rIx (bK (cN (aj L3.rIx (ah 1) (TC (.int 1)))) (ay 0) (TB (aj rEq (aj L3.rIx (ah 0) (TC (.int 0))) (ah 1))) (ah 0) 1 [2]) (TC (.int 0))) (ay 4)) (aA (bL (TB (aj rGe (ah 3) (aj L3.rIx (ah 4) (TC (.int 4))))) (aV (a7 (af (TC (.str "new")) (ao)))) (ba)) (aA (aO (au dA (af (ah 0) (af (ah 1) (af (ah 2) (af (ah 3) (ao)))))) (ay 5)) (aA (bL (TB (aj iq (ah 5) (TC .non))) (aV (ah 5)) (ba)) (aA (bL (TB (aj (CB false) (ah 3) (aj L3.rIx (ah 4) (TC (.int 7))))) (aV (a7 (af (TC (.str "lost")) (ao)))) (ba)) (aV (ly (TB (aj (CB false) (ah 3) (aj L3.rIx (ah 4) (TC (.int 6))))) (a7 (af (TC (.str "again")) (ao))) (a7 (af (TC (.str "taken")) (ao)))))))))
theorem zX:∀ ds μ Q,fo ds μ Q->sD { nx:=λ_ μ'=>RT Q .non μ',rt:=RT Q } (ini 6 ds) μ:=by
 intro ds μ Q h
 replace h:=ecA h
 obtain ⟨pd,ds,rfl,h⟩:=h
 replace h:=ecA h
 obtain ⟨sd,ds,rfl,h⟩:=h
 replace h:=ecS h
 obtain ⟨a,ds,rfl,h⟩:=h
 replace h:=ecI h
 obtain ⟨i,ds,rfl,h⟩:=h
 replace h:=ecN h
 obtain ⟨rfl,h⟩:=h
 walk_at "ini"
 unfold sD
 walk_at "go"
 obtain ⟨p,st,x,⟨⟨rfl,rfl⟩,S,wo,lw,rfl,hm⟩,k⟩:=h
 have sk:=S.sn x hm
 have sl:=S.z1.2
 walk_at "go"
 refine jJ st.ss (Ss.toD p.g) (λy=>if y.nm=x.nm then some (y.toD p.g) else none) rfl (by omega) (λy hy μ1 sb N m=>?_) ?_
 ·walk_at "go"
  refine ⟨⟨S.sn y hy,sk⟩,?_⟩
  by_cases h:y.nm=x.nm
  ·rw[if_pos h] at m
   refine nS h ?_
   walk_at "go"
   exact m
  ·rw[if_neg h] at m
   exact rG h m
 rw[eE (λy:Ss=>y.nm=x.nm) (Ss.toD p.g),ng S.nd hm,Xh,Zf]
 walk_at "go"
 unfold AE at k
 by_cases h1:x.nx<=i
 ·rw[if_pos h1] at k
  refine nS h1 ?_
  walk_at "go"
  exact ⟨_,.refl _,k⟩
 rw[if_neg h1] at k
 refine rG h1 ?_
 walk_at "go"
 refine ⟨p,st,⟨⟨rfl,rfl⟩,wo,sk,λw hw=>by have:=S.z2 w hw;omega⟩,?_⟩
 have z2:(Xm p.ws st.ws).map (·.2)=st.ws:=iR (by omega)
 have ef:st.fly (x.nm,i)=((Xm p.ws st.ws).map λy=>cK (x.nm,i) (y.2.cm++y.2.st)).sum:=by
  unfold St'.fly
  rw[← z2,Xg,z2];rfl
 by_cases h2:1<=st.fly (x.nm,i)
 ·rw[if_pos h2] at k
  obtain ⟨y,hy,j,q⟩:=yD (k:=(x.nm,i)) (zs:=Xm p.ws st.ws) (by rw[ef] at h2;exact CV h2)
  rcases q with (⟨_,e⟩ | ⟨_,e⟩) <;>
  ·rw[e] at k ⊢
   walk_at "go"
   exact ⟨_,.refl _,k⟩
 ·rw[if_neg h2] at k
  have e:=CU (k:=(x.nm,i)) (zs:=Xm p.ws st.ws) λy hy=>by
   have:=gA (f:=λy:Wy×Ws=>cK (x.nm,i) (y.2.cm++y.2.st)) hy
   omega
  rw[e]
  walk_at "go"
  refine ⟨Ot _,?_⟩
  rw[Dr,Dr]
  by_cases h3:i∈x.lo
  ·rw[if_pos h3] at k
   exact nS h3 ⟨_,.refl _,k⟩
  rw[if_neg h3] at k
  refine rG h3 ⟨Ot _,?_⟩
  by_cases h4:i∈x.ag
  ·rw[if_pos h4] at k
   exact nS h4 ⟨_,.refl _,k⟩
  ·rw[if_neg h4] at k
   exact rG h4 ⟨_,.refl _,k⟩
abbrev iQ:FSp:=L3.aB
def qA:STr:=aA (bL (sQ (TB (aj rGt (bQ (ah 0) (TC (.str "left"))) (TC (.int 0)))) (TB (aj rLt (bQ (ah 0) (TC (.str "given"))) (TC (.int 60))))) (aA (mG (λm n=>m+n) (ah 0) (TC (.str "given")) (TC (.int 1))) (aA (aO (aj lX (bQ (ah 0) (TC (.str "left"))) (ah 1)) (ay 3)) (aA (jj (ah 0) (TC (.str "left")) (aj ni (bQ (ah 0) (TC (.str "left"))) (ah 1))) (aV (ah 3))))) (ba)) (aA (jj (ah 0) (TC (.str "seed")) (au L3.i6 (af (bQ (ah 0) (TC (.str "seed"))) (af (bQ (ah 0) (TC (.str "many"))) (ao))))) (aV (aj lX (aj ni (bQ (ah 0) (TC (.str "seed"))) (TC (.int 7))) (ah 1))))
def zN:STr:=aA (mG (λm n=>m+n) (ah 0) (TC (.str "many")) (TC (.int 1))) (aA (bL (sQ (TOr (TB (aj rEq (bQ (ah 0) (TC (.str "left"))) (TC (.int 0)))) (TB (aj rEq (bQ (ah 0) (TC (.str "given"))) (TC (.int 60))))) (TB (aj rLt (bQ (ah 0) (TC (.str "at"))) (au c8 (af (bQ (ah 0) (TC (.str "cells"))) (ao)))))) (aA (aO (au yO (af (aj L3.rIx (bQ (ah 0) (TC (.str "cells"))) (bQ (ah 0) (TC (.str "at")))) (ao))) (ay 2)) (aA (mG (λm n=>m+n) (ah 0) (TC (.str "at")) (TC (.int 1))) (aA (jj (ah 0) (TC (.str "left")) (aj eK (ah 2) (au Cy (af (aj rGe (ah 2) (aj E7 (TC (.int 10)) (TC (.int 18)))) (ao))))) (aA (jj (ah 0) (TC (.str "given")) (TC (.int 0))) (jj (ah 0) (TC (.str "seed")) (au L3.i6 (af (aj aQ (bQ (ah 0) (TC (.str "seed"))) (ah 2)) (af (bQ (ah 0) (TC (.str "many"))) (ao))))))))) (ba)) (qA))
theorem tX:∀ ds μ Q,iQ ds μ Q->ds.length=2:=L3.Fo
theorem u5:∀ ds μ Q,iQ ds μ Q->zN { nx:=λ_ μ'=>RT Q .non μ',rt:=RT Q } (ini 4 ds) μ:=L3.HA
abbrev iT:FSp:=L3.jX
def qw:STr:=aA (aO (aj aQ (TC (.int 1)) (au L3.aB (af (ah 0) (af (TC (.int 5)) (ao))))) (ay 5)) (aA (aO (au L3.b9 (af (aj aQ (TC (.int 1)) (au L3.aB (af (ah 0) (af (aj eK (TC (.int 2)) (ah 5)) (ao))))) (af (ah 5) (ao)))) (ay 6)) (aA (aO (au L3.b9 (af (aj aQ (TC (.int 1)) (au L3.aB (af (ah 0) (af (ah 5) (ao))))) (af (aj aQ (ah 5) (TC (.int 1))) (ao)))) (ay 7)) (aA (bL (TB (aj rEq (ah 2) (TC (.str "still")))) (aV (a7 (af (ah 2) (af (ah 3) (ao))))) (ba)) (aA (bL (TB (aj rEq (ah 2) (TC (.str "step")))) (aV (a7 (af (ah 2) (af (ah 3) (af (ah 6) (af (ah 7) (af (ah 4) (ao)))))))) (ba)) (aA (bL (TB (aj rEq (ah 2) (TC (.str "swell")))) (aV (a7 (af (ah 2) (af (ah 3) (af (au L3.b9 (af (aj aQ (aj L3.rIx (ah 6) (TC (.int 0))) (aj L3.rIx (ah 6) (TC (.int 1)))) (af (aj L3.rIx (ah 6) (TC (.int 1))) (ao)))) (af (ah 7) (af (ah 4) (ao)))))))) (ba)) (aA (bL (TB (aj rEq (ah 2) (TC (.str "heed")))) (aV (a7 (af (ah 2) (af (ah 3) (af (ah 6) (af (au L3.b9 (af (aj aQ (TC (.int 1)) (au L3.aB (af (ah 0) (af (ah 5) (ao))))) (af (ah 5) (ao)))) (af (ah 4) (ao)))))))) (ba)) (aA (aO (au L3.aB (af (ah 0) (af (TC (.int 4)) (ao)))) (ay 8)) (aV (a7 (af (ah 2) (af (ah 3) (af (ah 6) (af (ah 8) (af (aj aQ (ah 8) (au L3.aB (af (ah 0) (af (TC (.int 5)) (ao))))) (af (ah 4) (ao))))))))))))))))
def xR:STr:=aA (aO (aj L3.rIx (fB (af (TC (.str "still")) (af (TC (.str "step")) (af (TC (.str "swell")) (af (TC (.str "heed")) (af (TC (.str "calm")) (ao))))))) (au L3.aB (af (ah 0) (af (TC (.int 5)) (ao))))) (ay 2)) (aA (ri 3 4 (af (au L3.cS (af (ah 0) (af (TC (.int 1)) (af (ah 1) (ao))))) (af (au L3.cS (af (ah 0) (af (TC (.int 1)) (af (ah 1) (ao))))) (ao)))) (aA (bL (TB (aj rGt (aj eK (aj L3.rIx (ah 3) (TC (.int 0))) (aj L3.rIx (ah 4) (TC (.int 1)))) (aj eK (aj L3.rIx (ah 4) (TC (.int 0))) (aj L3.rIx (ah 3) (TC (.int 1)))))) (ri 3 4 (af (ah 4) (af (ah 3) (ao)))) (ba)) (qw)))
theorem tM:∀ ds μ Q,iT ds μ Q->ds.length=2:=L3.Eb
theorem vw:∀ ds μ Q,iT ds μ Q->xR { nx:=λ_ μ'=>RT Q .non μ',rt:=RT Q } (ini 9 ds) μ:=L3.HC
abbrev gh:FSp:=L3.iK
def mO:STr:=aA (aO (aj L3.rIx (fB (af (TC (.int 1)) (af (TC (.int 1)) (af (TC (.int 2)) (af (TC (.int 3)) (af (aj aQ (TC (.int 1)) (au L3.aB (af (ah 0) (af (TC (.int 8)) (ao))))) (ao))))))) (au L3.aB (af (ah 0) (af (TC (.int 5)) (ao))))) (ay 5)) (aA (aO (aj L3.rIx (fB (af (TC .non) (af (TC .non) (af (au L3.aB (af (ah 0) (af (TC (.int 4)) (ao)))) (af (au L3.aB (af (ah 0) (af (TC (.int 40)) (ao)))) (ao)))))) (au L3.aB (af (ah 0) (af (TC (.int 4)) (ao))))) (ay 6)) (aV (a7 (af (ah 1) (af (ah 4) (af (ah 5) (af (aj L3.rIx (fB (af (TC (.int 0)) (af (TC (.int 0)) (af (au L3.aB (af (ah 0) (af (TC (.int 3)) (ao)))) (af (au L3.aB (af (ah 0) (af (TC (.int 12)) (ao)))) (ao)))))) (au L3.aB (af (ah 0) (af (TC (.int 4)) (ao))))) (af (ah 6) (af (au L3.jX (af (ah 0) (af (ah 3) (ao)))) (ao))))))))))
def tU:STr:=aA (aO (au bw (af (bK (cN (ah 2)) (ay 0) (TB (aj rEq (au L3.aB (af (ah 1) (af (TC (.int 2)) (ao)))) (TC (.int 0)))) (aj L3.rIx (ah 0) (TC (.int 0))) 1 [0]) (ao))) (ay 4)) (aA (bL (TB (aj rEq (au c8 (af (ah 4) (ao))) (TC (.int 0)))) (aO (a7 (af (aj L3.rIx (aj L3.rIx (ah 2) (au L3.aB (af (ah 0) (af (au c8 (af (ah 2) (ao))) (ao))))) (TC (.int 0))) (ao))) (ay 4)) (ba)) (mO))
theorem oW:∀ ds μ Q,gh ds μ Q->ds.length=4:=L3.Ae
theorem sU:∀ ds μ Q,gh ds μ Q->tU { nx:=λ_ μ'=>RT Q .non μ',rt:=RT Q } (ini 7 ds) μ:=L3.A1
abbrev dj:Nat->FSp:=L3.gc
abbrev my:FSp:=L3.pz
def nA (sp_self:FSp):STr:=aA (bL (TB (au (zO ["tuple", "list"]) (af (ah 1) (af (a7 (af (TC (.ty "tuple")) (af (TC (.ty "list")) (ao)))) (ao))))) (aA (bL (TOr (TB (aj rNe (TUn (eX "tuple") (ah 0)) (TUn (eX "tuple") (ah 1)))) (TB (aj rNe (TUn (eX "list") (ah 0)) (TUn (eX "list") (ah 1))))) (aV (TC (.bl false))) (ba)) (aV (iE (aj rEq (au c8 (af (ah 0) (ao))) (au c8 (af (ah 1) (ao)))) (au F0 (af (bK (jk (af (ah 0) (af (ah 1) (ao)))) (dh [0,1]) (dF) (au sp_self (af (ah 0) (af (ah 1) (ao)))) 2 []) (ao)))))) (ba)) (aA (bL (TB (aj rIs (ah 1) (TC .non))) (aV (aj rIs (ah 0) (TC .non))) (ba)) (aA (bL (TB (TUn (eX "str") (ah 1))) (aV (iE (TUn (eX "str") (ah 0)) (aj rEq (ah 0) (ah 1)))) (ba)) (aV (iE (TUn (eX "int") (ah 0)) (iE (qc (TUn (eX "bool") (ah 0))) (aj rEq (ah 0) (ah 1)))))))
theorem oS:∀ n ds μ Q,dj n ds μ Q->ds.length=2:=L3.Bh
theorem qi (n:Nat):∀ ds μ Q,dj (n+1) ds μ Q->nA (dj n) { nx:=λ_ μ'=>RT Q .non μ',rt:=RT Q } (ini 2 ds) μ:=L3.EW n
theorem Uu (x:Lt)(lo hi:Option Int)(μ:Mu)(Q:DK):rSl x.toD lo hi μ Q=Q (.tup (cutD [.str x.nm,.int x.nu,.int x.ag,.int x.hp,.int x.mr] lo hi)) μ:=propext Xc
theorem Vc (a b c d e:D):cutD [a,b,c,d,e] (some 2) none=[c,d,e]:=rfl
theorem Dk (g:Int)(x:Ss):cutD [.str x.nm,c5 x.du,eW x.W g,eW x.S g,.int x.nx,c5 x.lf,.tup (b8 x.ag),.tup (b8 x.lo),.int x.gd,.int x.mk',.int x.wt] (some 8) none=[.int x.gd,.int x.mk',.int x.wt]:=rfl
theorem xm (g:Int)(x:Ss):cutD [.str x.nm,c5 x.du,eW x.W g,eW x.S g,.int x.nx,c5 x.lf,.tup (b8 x.ag),.tup (b8 x.lo),.int x.gd,.int x.mk',.int x.wt] (some 6) (some 8)=[x.ag,x.lo].map λl=>.tup (b8 l):=rfl
def fh:FSp:=λds μ Q=>kcA ds λd ds=>kcI ds λc ds=>kcN ds (∃ (g:Int) (st:St'),(d=st.toD g/\StL st)/\Q ((st.mv λ_=>c).toD g) μ)
theorem sF:∀ ds μ Q,fh ds μ Q->ds.length=2:=λ_ _ _ h=>lcA h λ_ _ h=>lcI h λ_ _ h=>by rw[(ecN h).1];rfl
def lM:STr:=aA (aO (kr (ao)) (ay 2)) (aA (eG (cN (aj L3.rIx (ah 0) (TC (.int 0)))) (dh [3,4,5]) (aA (aO (kr (ao)) (ay 6)) (aA (eG (cN (a7 (af (ah 3) (af (ah 4) (ao))))) (ay 7) (eU (kx (ah 6) (au bw (af (bK (cN (ah 7)) (ay 0) (dF) (aj aQ (a7 (af (aj L3.rIx (ah 0) (TC (.int 0))) (af (aj aQ (aj L3.rIx (ah 0) (TC (.int 1))) (ah 1)) (ao)))) (TSl (ah 0) (gj (TC (.int 2))) (ONo))) 1 [1]) (ao)))))) (eU (kx (ah 2) (a7 (af (aj L3.rIx (ah 6) (TC (.int 0))) (af (aj L3.rIx (ah 6) (TC (.int 1))) (af (ah 5) (ao)))))))))) (aA (aO (kr (ao)) (ay 8)) (aA (eG (cN (aj L3.rIx (ah 0) (TC (.int 1)))) (ay 9) (aA (aO (bK (cN (TSl (ah 9) (gj (TC (.int 6))) (gj (TC (.int 8))))) (ay 0) (dF) (au bw (af (bK (cN (ah 0)) (ay 0) (dF) (aj aQ (ah 0) (ah 1)) 1 [1]) (ao))) 1 [1]) (RL [10,11])) (eU (kx (ah 8) (aj aQ (aj aQ (TSl (ah 9) (ONo) (gj (TC (.int 4)))) (a7 (af (aj aQ (aj L3.rIx (ah 9) (TC (.int 4))) (ah 1)) (af (aj L3.rIx (ah 9) (TC (.int 5))) (af (ah 10) (af (ah 11) (ao))))))) (TSl (ah 9) (gj (TC (.int 8))) (ONo))))))) (aV (a7 (af (au bw (af (ah 2) (ao))) (af (au bw (af (ah 8) (ao))) (ao))))))))
theorem tY:∀ ds μ Q,fh ds μ Q->lM { nx:=λ_ μ'=>RT Q .non μ',rt:=RT Q } (ini 12 ds) μ:=by
 intro ds μ Q h
 replace h:=ecA h
 obtain ⟨d,ds,rfl,h⟩:=h
 replace h:=ecI h
 obtain ⟨c,ds,rfl,h⟩:=h
 replace h:=ecN h
 obtain ⟨rfl,h⟩:=h
 walk_at "ini"
 unfold lM
 walk_at "go"
 obtain ⟨g,st,⟨rfl,S⟩,k⟩:=h
 have z1:=S.z1
 intro q hq
 walk_at "go"
 generalize ef:(λ_:Str=>c)=f at *
 have fc:∀ n,f n=c:=λn=>by rw[← ef]
 have ltm:∀ (ls:List Lt) (μ1:Mu) (Q:DK),ls.length<=10000->Q (.ls (ltD (ls.map (Lt.mv f)))) μ1->qx (ay 0) dF (aj aQ (a7 (af (aj rIx (ah 0) (TC (D.int 0))) (af (aj aQ (aj rIx (ah 0) (TC (D.int 1))) (ah 1)) ao))) (TSl (ah 0) (gj (TC (D.int 2))) ONo)) [none,some (.int c)] (ltD ls) μ1 Q:=λls μ1 Q ll q=>by
  refine bG ls Lt.toD (λl=>(l.mv f).toD) rfl (by omega) (λl hl μ3 sb3 N m=>?_) (by rw[show ltD (ls.map (Lt.mv f))=ls.map λl=>(l.mv f).toD from Xg] at q;exact q)
  walk_at "go"
  simp only[↓Uu,Vc]
  walk_at "go"
  unfold Lt.mv at m
  rw[fc] at m
  refine (show 2+3<=1000000/\_ from ⟨by decide,m⟩)
 refine bu (λr ρ μ'=>∃ (dn' rs':List Ws) (v3 v4 v5 v6 v7:Option D),r=wsD rs'/\dn'++rs'=st.ws/\ρ=[some (st.toD g),some (.int c),some (.obj q),v3,v4,v5,v6,v7,none,none,none,none]/\Sub μ μ'/\μ' q=some (.lst (wsD (dn'.map (Ws.mv f))))) ?_ ?_ _ _ _ ⟨[],st.ws,_,_,_,_,_,rfl,rfl,rfl,Sub.new hq,aI⟩
 rotate_left
 ·rintro d r ρ μ1 N ⟨dn',rs',v3,v4,v5,v6,v7,er,es,rfl,sb,e1⟩ hN
  cases rs' with
  | nil=>cases er
  | cons w rs'=>
  cases er
  have hw:w∈st.ws:=by rw[← es];simp
  have z:=S.z2 w hw
  walk_at "go"
  intro t ht
  have tq:q≠t:=λz=>by rw[z,ht] at e1;cases e1
  walk_at "go"
  simp only[forR]
  walk_at "go"
  refine ltm w.cm _ _ z.1 ?_
  walk_at "go"
  refine ⟨by decide,?_⟩
  walk_at "go"
  refine ltm w.st _ _ z.2 ?_
  walk_at "go"
  have dl:dn'.length+(rs'.length+1)=st.ws.length:=by rw[← es];simp
  have e2:∀ ob:MO,up μ1 t ob q=some (.lst (wsD (dn'.map (Ws.mv f)))):=λob=>by rw[aU tq];exact e1
  refine ⟨(show 1 < 1000000 by decide),bo (e2 _) (bo (e2 _) ⟨by rw[W9,W9];omega,hN _ _ ⟨dn'++[w],rs',_,_,_,_,_,rfl,by rw[← es];simp,rfl,λa o h=>?_,?_⟩⟩)⟩
  ·have aq:a≠q:=λz=>by rw[z,hq] at h;cases h
   have at':a≠t:=λz=>by rw[z] at h;rw[sb _ _ h] at ht;cases ht
   rw[aU aq,aU at']
   exact sb _ _ h
  ·rw[aI,Xn]
   simp[wsD,Ws.toD,Ws.mv]
 ·rintro ρ μ1 ⟨dn',rs',v3,v4,v5,v6,v7,er,es,rfl,sb,e1⟩
  cases rs' with
  | cons _ _=>cases er
  | nil=>
  rw[XH] at es
  subst es
  walk_at "go"
  intro s hs
  have qs:q≠s:=λz=>by rw[z,hs] at e1;cases e1
  walk_at "go"
  refine bu (λr ρ μ'=>∃ (dn' rs':List Ss) (v9 v10 v11:Option D),r=ssD g rs'/\dn'++rs'=st.ss/\ρ=[some (st.toD g),some (.int c),some (.obj q),v3,v4,v5,v6,v7,some (.obj s),v9,v10,v11]/\μ'=up μ1 s (.lst (ssD g (dn'.map (Ss.mv f))))) ?_ ?_ _ _ _ ⟨[],st.ss,_,_,_,rfl,rfl,rfl,rfl⟩
  ·rintro ρ μ' ⟨dn',rs',v9,v10,v11,er,es,rfl,rfl⟩
   cases rs' with
   | cons _ _=>cases er
   | nil=>
   rw[XH] at es
   subst es
   walk_at "go"
   refine bo (by rw[aU qs];exact e1) ?_
   walk_at "go"
   exact ⟨μ,sb.trans (Sub.new hs),k⟩
  ·rintro d r ρ μ' N ⟨dn',rs',v9,v10,v11,er,es,rfl,rfl⟩ hN
   cases rs' with
   | nil=>cases er
   | cons x rs'=>
   cases er
   have hx:x∈st.ss:=by rw[← es];simp
   have z:=S.z3 x hx
   have dl:dn'.length+(rs'.length+1)=st.ss.length:=by rw[← es];simp
   walk_at "go"
   simp only[↓DT,wg,Dk,xm]
   walk_at "go"
   refine bG [x.ag,x.lo] (λl=>.tup (b8 l)) (λl=>.tup (l.map λi=>.int (i+f x.nm))) rfl (by simp) (λl hl μ3 sb3 N m=>?_) ?_
   ·walk_at "go"
    refine bG l .int (λi=>.int (i+f x.nm)) rfl (by rcases (show l=x.ag∨l=x.lo by simpa using hl) with rfl | rfl<;>omega) (λi hi μ4 sb4 N m=>?_) ?_
    ·walk_at "go"
     rw[fc] at m
     exact m
    walk_at "go"
    exact m
   walk_at "go"
   try simp only[↓DT,wg,Dk,xm]
   walk_at "go"
   refine (show 4+4<=1000000/\8+3<=1000000/\(ssD g (dn'.map (Ss.mv f))).length < 1000000/\_ from ⟨by decide,by decide,by rw[W9,W9];omega,hN _ _ ⟨dn'++[x],rs',_,_,_,rfl,by rw[← es];simp,rfl,?_⟩⟩)
   rw[Xn]
   simp[ssD,Ss.toD,Ss.mv,fc]
   rfl
theorem Pe (x:Lt)(f:List D->Prop):kTp x.toD f=f [.str x.nm,.int x.nu,.int x.ag,.int x.hp,.int x.mr]:=propext Xc
theorem U4 (a b c d e:D):cutD [a,b,c,d,e] none (some 2)=[a,b]:=rfl
theorem Ka (w:String)(nm:Str)(ls:List Lt)(l:Lt):plR w nm (ls++[l])=plR w nm ls++[(l.key,.tup [.str (OF w),.str nm,.int (ls.length:Nat)])]:=by
 unfold plR
 rw[zdy,Xn]
 simp
theorem UM (ls:List Lt):gn (ltD ls)=(ls.zipIdx 0).map λy=>.tup [.int (y.2:Nat),y.1.toD]:=by
 unfold gn
 refine zeb (by simp) λj h1 h2=>?_
 simp
theorem zI (a:List Pt):(gy a).length=a.length:=by unfold gy;simp
theorem wY (w:String)(nm:Str)(ls:List Lt):(plR w nm ls).length=ls.length:=by unfold plR;simp
theorem JV {a b c:List Pt}{y:Pt}(h:((a++b++(y::c)).map (·.1)).Nodup):y.1 ∉ (a++b).map (·.1):=λm=>by
 rw[Xn,Zh] at h
 exact h.2.2 _ m _ (by simp) rfl
def eS:FSp:=λds μ Q=>kcA ds λpd ds=>kcA ds λsd ds=>kcN ds (∃ (p:Pn) (st:St'),((pd=p.toD/\sd=st.toD p.g)/\StL st/\((pts p st).map (·.1)).Nodup/\(pts p st).length<=900000)/\∀ q,μ q=none->Q (.obj q) (up μ q (.dcT (gy (pts p st)))))
theorem o6:∀ ds μ Q,eS ds μ Q->ds.length=2:=λ_ _ _ h=>lcA h λ_ _ h=>lcA h λ_ _ h=>by rw[(ecN h).1];rfl
def kK:STr:=aA (aO (Al) (ay 2)) (aA (eG (jk (af (aj L3.rIx (ah 0) (TC (.int 1))) (af (aj L3.rIx (ah 1) (TC (.int 0))) (ao)))) (SQ [ay 3,dh [4,5,6]]) (aA (eG (uh (af (ah 4) (ao))) (dh [7,8]) (rP (ah 2) (ah 8) (ONo) (gj (TC (.int 2))) (a7 (af (TC (.str "comes")) (af (aj L3.rIx (ah 3) (TC (.int 0))) (af (ah 7) (ao))))))) (eG (uh (af (ah 5) (ao))) (dh [7,8]) (rP (ah 2) (ah 8) (ONo) (gj (TC (.int 2))) (a7 (af (TC (.str "stands")) (af (aj L3.rIx (ah 3) (TC (.int 0))) (af (ah 7) (ao))))))))) (aA (eG (cN (aj L3.rIx (ah 1) (TC (.int 1)))) (ay 9) (aA (eG (cN (aj L3.rIx (ah 9) (TC (.int 6)))) (ay 10) (rQ (ah 2) (af (aj L3.rIx (ah 9) (TC (.int 0))) (af (ah 10) (ao))) (a7 (af (TC (.str "again")) (ao))))) (eG (cN (aj L3.rIx (ah 9) (TC (.int 7)))) (ay 10) (rQ (ah 2) (af (aj L3.rIx (ah 9) (TC (.int 0))) (af (ah 10) (ao))) (a7 (af (TC (.str "lost")) (ao))))))) (aV (ah 2))))
theorem sL:∀ ds μ Q,eS ds μ Q->kK { nx:=λ_ μ'=>RT Q .non μ',rt:=RT Q } (ini 11 ds) μ:=by
 intro ds μ Q h
 replace h:=ecA h
 obtain ⟨pd,ds,rfl,h⟩:=h
 replace h:=ecA h
 obtain ⟨sd,ds,rfl,h⟩:=h
 replace h:=ecN h
 obtain ⟨rfl,h⟩:=h
 walk_at "ini"
 unfold kK
 walk_at "go"
 obtain ⟨p,st,⟨⟨rfl,rfl⟩,S,nd,ln⟩,k⟩:=h
 intro q hq
 walk_at "go"
 have inner:∀ (w:String) (y:Wy) (d4 d5 d6:Option D) (ls:List Lt) (a:List Pt) (E:En) (v7 v8:Option D),((a++plR w y.nm ls).map (·.1)).Nodup->a.length+ls.length<=900000->(∀ v7 v8,E.nx [some p.toD,some (st.toD p.g),some (.obj q),some y.toD,d4,d5,d6,v7,v8,none,none] (up μ q (.dcT (gy (a++plR w y.nm ls)))))->
   forR (dh [7,8]) (rP (ah 2) (ah 8) ONo (gj (TC (.int 2))) (a7 (af (TC (.str (OF w))) (af (aj rIx (ah 3) (TC (.int 0))) (af (ah 7) ao))))) E (gn (ltD ls)) [some p.toD,some (st.toD p.g),some (.obj q),some y.toD,d4,d5,d6,v7,v8,none,none] (up μ q (.dcT (gy a))):=λw y d4 d5 d6 ls a E v7 v8 nd ln kE=>by
  rw[UM]
  refine bu (λr ρ μ'=>∃ (dn rs:List Lt) (v7 v8:Option D),r=(rs.zipIdx dn.length).map (λy=>.tup [.int (y.2:Nat),y.1.toD])/\dn++rs=ls/\ρ=[some p.toD,some (st.toD p.g),some (.obj q),some y.toD,d4,d5,d6,v7,v8,none,none]/\μ'=up μ q (.dcT (gy (a++plR w y.nm dn)))) ?_ ?_ _ _ _ ⟨[],ls,_,_,rfl,rfl,rfl,by simp[plR]⟩
  ·rintro ρ μ' ⟨dn,rs,v7,v8,er,es,rfl,rfl⟩
   cases rs with
   | cons _ _=>cases er
   | nil=>
   rw[XH] at es
   subst es
   exact kE _ _
  ·rintro d r ρ μ' N ⟨dn,rs,v7,v8,er,es,rfl,rfl⟩ hN
   cases rs with
   | nil=>cases er
   | cons l rs=>
   rw[zaM] at er
   cases er
   have ll:dn.length+(rs.length+1)=ls.length:=by rw[← es];simp
   have nk:l.key ∉ (a++plR w y.nm dn).map (·.1):=by
    have e:a++plR w y.nm ls=a++plR w y.nm dn++((l.key,.tup [.str (OF w),.str y.nm,.int (dn.length:Nat)])::((rs.zipIdx (dn.length+1)).map λz=>(z.1.key,.tup [.str (OF w),.str y.nm,.int (z.2:Nat)]))):=by
     rw[← es]
     unfold plR
     rw[zdy,Xn]
     simp
    rw[e] at nd
    exact JV nd
   walk_at "go"
   rw[Pe,U4]
   refine ⟨(show ¬ (HT.sIx 5 0 none=0/\HT.sIx 5 5 (some 2)=5) by decide),?_⟩
   walk_at "go"
   refine ⟨by rw[zI,Xi,wY];omega,?_⟩
   rw[show [ZI l.nm,zbb l.nu]=kyL l.key from rfl,yn nk,Zi,← Ka]
   exact hN _ _ ⟨dn++[l],rs,_,_,by rw[Xi];rfl,by rw[← es];simp,rfl,rfl⟩
 have FY:∀ (u:String) (x:Ss) (ns:List Int) (a:List Pt) (E:En) (v3 v4 v5 v6 v7 v8 v10:Option D),((a++ns.map λi=>((x.nm,i),gB u)).map (·.1)).Nodup->a.length+ns.length<=900000->(∀ v10,E.nx [some p.toD,some (st.toD p.g),some (.obj q),v3,v4,v5,v6,v7,v8,some (x.toD p.g),v10] (up μ q (.dcT (gy (a++ns.map λi=>((x.nm,i),gB u))))))->
   forR (ay 10) (rQ (ah 2) (af (aj rIx (ah 9) (TC (.int 0))) (af (ah 10) ao)) (a7 (af (TC (.str (OF u))) ao))) E (b8 ns) [some p.toD,some (st.toD p.g),some (.obj q),v3,v4,v5,v6,v7,v8,some (x.toD p.g),v10] (up μ q (.dcT (gy a))):=λu x ns a E v3 v4 v5 v6 v7 v8 v10 nd ln kE=>by
  refine bu (λr ρ μ'=>∃ (dn rs:List Int) (v10:Option D),r=b8 rs/\dn++rs=ns/\ρ=[some p.toD,some (st.toD p.g),some (.obj q),v3,v4,v5,v6,v7,v8,some (x.toD p.g),v10]/\μ'=up μ q (.dcT (gy (a++dn.map λi=>((x.nm,i),gB u))))) ?_ ?_ _ _ _ ⟨[],ns,_,rfl,rfl,rfl,by simp⟩
  ·rintro ρ μ' ⟨dn,rs,v10,er,es,rfl,rfl⟩
   cases rs with
   | cons _ _=>cases er
   | nil=>
   rw[XH] at es
   subst es
   exact kE _
  ·rintro d r ρ μ' N ⟨dn,rs,v10,er,es,rfl,rfl⟩ hN
   cases rs with
   | nil=>cases er
   | cons i rs=>
   cases er
   have ll:dn.length+(rs.length+1)=ns.length:=by rw[← es];simp
   have nk:(x.nm,i) ∉ (a++dn.map λi=>(((x.nm,i),gB u):Pt)).map (·.1):=by
    have e:a++ns.map (λi=>(((x.nm,i),gB u):Pt))=a++dn.map (λi=>((x.nm,i),gB u))++(((x.nm,i),gB u)::rs.map λi=>((x.nm,i),gB u)):=by
     rw[← es,Xn]
     simp
    rw[e] at nd
    exact JV nd
   walk_at "go"
   refine ⟨(show 2<=1000 by decide),by rw[zI,Xi,W9];omega,?_⟩
   rw[show [ZI x.nm,zbb i]=kyL (x.nm,i) from rfl,show D.tup [D.str (OF u)]=gB u from rfl,yn nk]
   exact hN _ _ ⟨dn++[i],rs,_,rfl,by rw[← es];simp,rfl,by rw[Xn,Zi];rfl⟩
 have len:∀ a b:List Pt,a++b=pts p st->a.length<=900000:=λa b e=>by
  have:=congrArg Yy e
  rw[Xi] at this
  omega
 have sub:∀ a b:List Pt,a++b=pts p st->(a.map (·.1)).Nodup:=λa b e=>by
  rw[← e,Xn] at nd
  exact (Zh.mp nd).1
 rw[qW]
 refine bu (λr ρ μ'=>∃ (dn rs:List (Wy×Ws)) (v3 v4 v5 v6 v7 v8:Option D),r=rs.map (λy=>.tup [y.1.toD,y.2.toD])/\dn++rs=Xm p.ws st.ws/\ρ=[some p.toD,some (st.toD p.g),some (.obj q),v3,v4,v5,v6,v7,v8,none,none]/\μ'=up μ q (.dcT (gy (dn.flatMap ptW)))) ?_ ?_ _ _ _ ⟨[],Xm p.ws st.ws,_,_,_,_,_,_,rfl,rfl,rfl,rfl⟩
 ·rintro ρ μ' ⟨dn,rs,v3,v4,v5,v6,v7,v8,er,es,rfl,rfl⟩
  cases rs with
  | cons _ _=>cases er
  | nil=>
  rw[XH] at es
  subst es
  walk_at "go"
  refine bu (λr ρ μ'=>∃ (dn rs:List Ss) (v9 v10:Option D),r=ssD p.g rs/\dn++rs=st.ss/\ρ=[some p.toD,some (st.toD p.g),some (.obj q),v3,v4,v5,v6,v7,v8,v9,v10]/\μ'=up μ q (.dcT (gy ((Xm p.ws st.ws).flatMap ptW++dn.flatMap ptS)))) ?_ ?_ _ _ _ ⟨[],st.ss,_,_,rfl,rfl,rfl,by simp⟩
  ·rintro ρ μ' ⟨dn,rs,v9,v10,er,es,rfl,rfl⟩
   cases rs with
   | cons _ _=>cases er
   | nil=>
   rw[XH] at es
   subst es
   walk_at "go"
   exact ⟨_,.refl _,k q hq⟩
  ·rintro d r ρ μ' N ⟨dn,rs,v9,v10,er,es,rfl,rfl⟩ hN
   cases rs with
   | nil=>cases er
   | cons x rs=>
   cases er
   have ep:((Xm p.ws st.ws).flatMap ptW++dn.flatMap ptS++ptS x)++rs.flatMap ptS=pts p st:=by
    unfold pts
    rw[← es]
    simp
   have l1:=len _ _ ep
   have n1:=sub _ _ ep
   rw[show ptS x=(x.ag.map λi=>(((x.nm,i),gB "again"):Pt))++x.lo.map λi=>((x.nm,i),gB "lost") from rfl] at l1 n1
   rw[← Zi] at n1 l1
   rw[Xi,W9] at l1
   have n0:(((Xm p.ws st.ws).flatMap ptW++dn.flatMap ptS++x.ag.map λi=>(((x.nm,i),gB "again"):Pt)).map (·.1)).Nodup:=by
    rw[Xn] at n1
    exact (Zh.mp n1).1
   walk_at "go"
   refine FY "again" x x.ag _ _ _ _ _ _ _ _ _ n0 (by rw[Xi,W9] at l1;omega) λw10=>?_
   walk_at "go"
   refine FY "lost" x x.lo _ _ _ _ _ _ _ _ _ n1 (by omega) λw10=>?_
   exact hN _ _ ⟨dn++[x],rs,_,_,rfl,by rw[← es];simp,rfl,by rw[Yo];simp[ptS]⟩
 ·rintro d r ρ μ' N ⟨dn,rs,v3,v4,v5,v6,v7,v8,er,es,rfl,rfl⟩ hN
  cases rs with
  | nil=>cases er
  | cons y rs=>
  cases er
  obtain ⟨w,s⟩:=y
  have ep:(dn.flatMap ptW++ptW (w,s))++(rs.flatMap ptW++st.ss.flatMap ptS)=pts p st:=by
   unfold pts
   rw[← es]
   simp
  have l1:=len _ _ ep
  have n1:=sub _ _ ep
  rw[show ptW (w,s)=plR "comes" w.nm s.cm++plR "stands" w.nm s.st from rfl] at l1 n1
  rw[← Zi] at n1 l1
  rw[Xi,wY] at l1
  have n0:((dn.flatMap ptW++plR "comes" w.nm s.cm).map (·.1)).Nodup:=by
   rw[Xn] at n1
   exact (Zh.mp n1).1
  walk_at "go"
  refine ⟨rfl,inner "comes" w _ _ _ s.cm _ _ _ _ n0 (by rw[Xi,wY] at l1;omega) λw7 w8=>?_⟩
  walk_at "go"
  refine inner "stands" w _ _ _ s.st _ _ _ _ n1 (by omega) λw7 w8=>?_
  exact hN _ _ ⟨dn++[(w,s)],rs,_,_,_,_,_,_,rfl,by rw[← es];simp,rfl,by rw[Yo];simp[ptW]⟩
abbrev ip:FSp:=L3.ip
theorem uZ:∀ ds μ Q,ip ds μ Q->ds.length=1:=L3.uZ
def JR:STr:=aA (aO (au L3.pH (af (ah 0) (ao))) (ay 1)) (aA (aO (au L3.mx (af (ah 1) (ao))) (ay 2)) (aA (aO (au L3.aB (af (ah 1) (af (TC (.int 41)) (ao)))) (ay 3)) (aA (aO (aj L3.rIx (fB (af (TC (.int 0)) (af (au L3.aB (af (ah 1) (af (TC (.int 201)) (ao)))) (ao)))) (au L3.aB (af (ah 1) (af (TC (.int 2)) (ao))))) (ay 4)) (aA (eG (fM (TC (.int 3))) (ay 5) (aA (aO (au fh (af (aj L3.rIx (au vx (af (ah 2) (af (aj aQ (ah 3) (ah 5)) (ao)))) (TC (.int 0))) (af (ah 4) (ao)))) (ay 6)) (aA (aO (au eS (af (ah 2) (af (ah 6) (ao)))) (ay 7)) (eG (cN (aj L3.rIx (ah 6) (TC (.int 1)))) (ay 8) (aA (eG (wO (au qN (af (ah 4) (af (aj kn (aj L3.rIx (ah 8) (TC (.int 4))) (TC (.int 60))) (ao)))) (aj L3.rIx (ah 8) (TC (.int 4)))) (ay 9) (aA (aO (vR (ah 7) (af (aj L3.rIx (ah 8) (TC (.int 0))) (af (ah 9) (ao))) (a7 (af (TC (.str "taken")) (ao)))) (ay 10)) (bL (Bm (TB (au L3.pz (af (au fo (af (ah 2) (af (ah 6) (af (aj L3.rIx (ah 8) (TC (.int 0))) (af (ah 9) (ao)))))) (af (ah 10) (ao)))))) (aV (TC (.bl false))) (ba)))) (eG (cN (a7 (af (aj L3.rIx (ah 8) (TC (.int 4))) (af (aj aQ (aj L3.rIx (ah 8) (TC (.int 4))) (TC (.int 1))) (af (aj aQ (aj L3.rIx (ah 8) (TC (.int 4))) (aj E7 (TC (.int 10)) (TC (.int 6)))) (ao)))))) (ay 9) (bL (Bm (TB (au L3.pz (af (au fo (af (ah 2) (af (ah 6) (af (aj L3.rIx (ah 8) (TC (.int 0))) (af (ah 9) (ao)))))) (af (a7 (af (TC (.str "new")) (ao))) (ao)))))) (aV (TC (.bl false))) (ba)))))))) (aV (TC (.bl true)))))))
theorem RF:∀ ds μ Q,ip ds μ Q->JR { nx:=λ_ μ'=>RT Q .non μ',rt:=RT Q } (ini 11 ds) μ:=by
 intro ds μ Q h
 replace h:=ecL h
 obtain ⟨_,ds,rfl,h⟩:=h
 replace h:=ecN h
 obtain ⟨rfl,h⟩:=h
 obtain ⟨⟨ns,rfl,hn⟩,k⟩:=h
 walk_at "ini"
 unfold JR
 walk_at "go"
 refine ⟨⟨ns,rfl⟩,λb μ1 hb P1 _=>?_⟩
 walk_at "go"
 refine ⟨P1,λp m μ2 K M P2=>?_⟩
 have s1:=K.s1
 walk_at "go"
 refine aX P2.pot (by decide) (by decide) λt μ3 t0 t1 P3=>?_
 obtain ⟨t,rfl⟩:∃ j:Nat,t=(j:Int):=⟨t.toNat,by omega⟩
 walk_at "go"
 refine aX P3.pot (by decide) (by decide) λc1 μ4 c10 c11 P4=>?_
 walk_at "go"
 refine aX P4.pot (by decide) (by decide) λc2 μ5 c20 c21 P5=>?_
 obtain ⟨c,ec,c0,cb⟩:∃ c:Int,atD [D.int 0,D.int c1] c2=some (.int c)/\0<=c/\c<=200:=by
  have:c2=0∨c2=1:=by omega
  rcases this with e | e
  ·subst e;exact ⟨0,rfl,by omega,by omega⟩
  ·subst e;exact ⟨c1,rfl,by omega,by omega⟩
 refine GL ec ?_
 walk_at "go"
 refine bu (λr ρ μ'=>∃ (v5 v6 v7 v8 v9 v10:Option D),(∀ d∈r,∃ j:Int,d=.int j/\0<=j/\j < 3)/\ρ=[some (.ls (ns.map .int)),some (.obj b),some p.toD,some (.int t),some (.int c),v5,v6,v7,v8,v9,v10]) ?_ ?_ _ _ _ ⟨_,_,_,_,_,_,λd hd=>by obtain ⟨j,e,j0,j1⟩:=kZ hd;exact ⟨j,e,by omega,by omega⟩,rfl⟩
 ·rintro ρ μ' ⟨v5,v6,v7,v8,v9,v10,_,rfl⟩
  walk_at "go"
  exact ⟨_,.refl _,k _⟩
 ·rintro d r ρ μ' N ⟨v5,v6,v7,v8,v9,v10,hr,rfl⟩ hN
  obtain ⟨j,rfl,j0,j1⟩:=hr d Xl
  obtain ⟨j,rfl⟩:∃ i:Nat,j=(i:Int):=⟨j.toNat,by omega⟩
  have I:=p.kj K (t+j) (by omega)
  have S0:=Mm K (n:=t+j) (by omega)
  have R0:=I.rd (by omega)
  have nm:∀ y∈Xm p.ss (p.bE (p.run (t+j))),y.2.1.nm=y.1.nm:=λy hy=>(I.cons (by omega) (s:=y.1) (b:=y.2) hy).1
  have nxb:=I.nx
  have R:=U8 (f:=λ_=>c) nm R0 λx hx=>by have:=nxb x hx;omega
  have S:=S0.mv λ_=>c
  have U:((p.run (t+j)).mv λ_=>c).Uq:=UN (One.uq (p.Dl K (t+j) (by omega)))
  have lw:((p.run (t+j)).mv λ_=>c).ws.length=p.ws.length:=by rw[show ((p.run (t+j)).mv λ_=>c).ws=(p.run (t+j)).ws.map (Ws.mv λ_=>c) from rfl,W9,I.lw]
  have sl:((p.run (t+j)).mv λ_=>c).ss.length<=8:=by
   have e:=congrArg Yy I.nm
   rw[W9] at e
   rw[show ((p.run (t+j)).mv λ_=>c).ss=(p.run (t+j)).ss.map (Ss.mv λ_=>c) from rfl,W9]
   simp only[Pn.sn,W9] at e
   omega
  have nx':∀ x∈((p.run (t+j)).mv λ_=>c).ss,0<=x.nx/\x.nx<=100000:=λx hx=>by
   obtain ⟨y,hy,rfl⟩:=Xd.mp (show x∈(p.run (t+j)).ss.map (Ss.mv λ_=>c) from hx)
   have:=nxb y hy
   show 0<=y.nx+c/\y.nx+c<=100000
   omega
  walk_at "go"
  refine ⟨p,m,t+j,⟨rfl,K,by omega,by omega⟩,?_⟩
  walk_at "go"
  refine ⟨p.g,p.run (t+j),⟨rfl,S0⟩,?_⟩
  clear nxb nm R0 S0 I
  generalize (p.run (t+j)).mv (λ_=>c)=st at *
  have nd:=Rr (p:=p) U S.nd S.lt (by omega)
  walk_at "go"
  refine ⟨p,st,⟨⟨rfl,rfl⟩,S,nd,MH S K.w1 sl⟩,λq hq=>?_⟩
  walk_at "go"
  have wk:=λw hw=>(R.wy w hw).1
  refine bu (λr ρ μ1=>∃ (rs:List Ss) (v8 v9 v10:Option D),r=ssD p.g rs/\(∀ x∈rs,x∈st.ss)/\ρ=[some (.ls (ns.map .int)),some (.obj b),some p.toD,some (.int t),some (.int c),some (.int j),some (st.toD p.g),some (.obj q),v8,v9,v10]/\μ1=up μ' q (.dcT (gy (pts p st)))) ?_ ?_ _ _ _ ⟨st.ss,_,_,_,rfl,λ_ h=>h,rfl,rfl⟩
  ·rintro ρ μ1 ⟨rs,v8,v9,v10,er,_,rfl,rfl⟩
   cases rs with
   | cons _ _=>cases er
   | nil=>exact hN _ _ ⟨_,_,_,_,_,_,λd hd=>hr d (Xo _ hd),rfl⟩
  ·rintro d r ρ μ1 N2 ⟨rs,v8,v9,v10,er,hs,rfl,rfl⟩ hN2
   cases rs with
   | nil=>cases er
   | cons x rs=>
   cases er
   have hx:=hs x Xl
   have xb:=nx' x hx
   walk_at "go"
   refine ⟨⟨⟨by omega,by omega⟩,by omega,by omega⟩,?_⟩
   refine bu (λr ρ μ1=>∃ (v9 v10:Option D),(∀ d∈r,∃ i:Int,d=.int i/\i < x.nx)/\ρ=[some (.ls (ns.map .int)),some (.obj b),some p.toD,some (.int t),some (.int c),some (.int j),some (st.toD p.g),some (.obj q),some (x.toD p.g),v9,v10]/\μ1=up μ' q (.dcT (gy (pts p st)))) ?_ ?_ _ _ _ ⟨_,_,λd hd=>by obtain ⟨i,e,i0,i1⟩:=kZ hd;exact ⟨i,e,by omega⟩,rfl,rfl⟩
   ·rintro ρ μ1 ⟨v9,v10,_,rfl,rfl⟩
    walk_at "go"
    refine ⟨by unfold nH;decide,?_⟩
    refine bu (λr ρ μ1=>∃ (v9:Option D),(∀ d∈r,∃ i:Int,d=.int i/\x.nx<=i)/\ρ=[some (.ls (ns.map .int)),some (.obj b),some p.toD,some (.int t),some (.int c),some (.int j),some (st.toD p.g),some (.obj q),some (x.toD p.g),v9,v10]/\μ1=up μ' q (.dcT (gy (pts p st)))) ?_ ?_ _ _ _ ⟨_,λd hd=>?_,rfl,rfl⟩
    ·rintro ρ μ1 ⟨v9,_,rfl,rfl⟩
     exact hN2 _ _ ⟨rs,_,_,_,rfl,λy hy=>hs y (Xo _ hy),rfl,rfl⟩
    ·rintro d r ρ μ1 N3 ⟨v9,hi,rfl,rfl⟩ hN3
     obtain ⟨i,rfl,hi1⟩:=hi d Xl
     walk_at "go"
     refine ⟨p,st,x,⟨⟨rfl,rfl⟩,S,R.ws,lw,rfl,hx⟩,?_⟩
     have e:AE p st x i=gB "new" := if_pos hi1
     rw[e]
     refine Dv rfl (pL _ (by simp)) ?_
     walk_at "go"
     exact hN3 _ _ ⟨_,λd hd=>hi d (Xo _ hd),rfl,rfl⟩
    ·simp only[Xr,XW,or_false] at hd
     rcases hd with e | e | e<;>exact ⟨_,e,by omega⟩
   ·rintro d r ρ μ1 N3 ⟨v9,v10,hi,rfl,rfl⟩ hN3
    obtain ⟨i,rfl,hi1⟩:=hi d Xl
    walk_at "go"
    refine ⟨(show 2<=1000 by decide),p,st,x,⟨⟨rfl,rfl⟩,S,R.ws,lw,rfl,hx⟩,?_⟩
    have e:=Pc nd U S.nd (by omega) hx hi1
    rw[show [ZI x.nm,zbb i]=kyL (x.nm,i) from rfl,show D.tup [D.str "taken"]=gB "taken" from rfl,e]
    refine Dv rfl (NU wk) ?_
    walk_at "go"
    exact hN3 _ _ ⟨_,_,λd hd=>hi d (Xo _ hd),rfl,rfl⟩
theorem nq (ns:List Int)(h:ns.length<=63)(μ:Mu):ip [.ls (ns.map .int)] μ (λd _=>d=.bl true):=L3.nq ns h μ
end Kk
namespace Kk
open PySem L2 L3
theorem S3 {α:Type}{us:List α}(h:us.length=1):∃ x0,us=[x0]:=match us,h with | [x0],_=>⟨x0,rfl⟩
theorem Tq {α:Type}{us:List α}(h:us.length=2):∃ x0 x1,us=[x0,x1]:=match us,h with | [x0,x1],_=>⟨x0,x1,rfl⟩
theorem Ug {α:Type}{us:List α}(h:us.length=3):∃ x0 x1 x2,us=[x0,x1,x2]:=match us,h with | [x0,x1,x2],_=>⟨x0,x1,x2,rfl⟩
theorem U1 {α:Type}{us:List α}(h:us.length=4):∃ x0 x1 x2 x3,us=[x0,x1,x2,x3]:=match us,h with | [x0,x1,x2,x3],_=>⟨x0,x1,x2,x3,rfl⟩
theorem T7 {α:Type}{us:List α}(h:us.length=5):∃ x0 x1 x2 x3 x4,us=[x0,x1,x2,x3,x4]:=match us,h with | [x0,x1,x2,x3,x4],_=>⟨x0,x1,x2,x3,x4,rfl⟩
def top (i:Nat):Stmt:=PySem.Challenge.pw_swellways_k38_places_of_letters.main.body.getD i (.Pass ⟨0,0,0,0⟩)
abbrev nU:Stmt:=top 33
abbrev Jx:Stmt:=top 34
abbrev Gm:Stmt:=top 35
abbrev CZ:Stmt:=top 36
abbrev D2:Stmt:=top 37
abbrev Gx:Stmt:=top 38
abbrev qB:Stmt:=top 39
abbrev xD:Stmt:=top 40
abbrev xg:Stmt:=top 45
abbrev qh:Stmt:=top 46
abbrev uj:Stmt:=top 47
abbrev jP:Stmt:=top 48
abbrev oa:Stmt:=top 49
abbrev D6:Stmt:=top 50
abbrev Kz:Stmt:=top 51
abbrev sj:Stmt:=top 52
abbrev mH:Stmt:=top 54
abbrev sR:Stmt:=top 55
abbrev gS:Stmt:=top 56
abbrev gx:Stmt:=top 57
abbrev ud:Stmt:=top 58
abbrev jv:Stmt:=top 60
abbrev pJ:Stmt:=top 61
abbrev jr:Stmt:=top 62
abbrev r8:Stmt:=top 63
abbrev qI:Stmt:=top 64
abbrev yy:Stmt:=top 65
abbrev fz:Stmt:=top 66
abbrev qm:Stmt:=top 67
abbrev md:Stmt:=top 68
abbrev nY:Stmt:=top 69
abbrev Iw:Stmt:=top 70
abbrev gO:Stmt:=top 71
abbrev nN:Stmt:=top 72
abbrev cM:Stmt:=top 73
abbrev cI:Stmt:=top 74
abbrev OD:Stmt:=top 76
abbrev kC:Stmt:=top 78
abbrev jl:Stmt:=top 79
abbrev lj:Stmt:=top 80
abbrev qg:Stmt:=top 82
abbrev qL:Stmt:=top 83
abbrev ow:Stmt:=top 84
abbrev i3:Stmt:=top 85
abbrev kR:Stmt:=top 86
abbrev jf:Stmt:=top 87
abbrev nM:Stmt:=top 88
abbrev nP:Stmt:=top 89
abbrev h9:Stmt:=top 90
abbrev jH:Stmt:=top 91
abbrev j3:Stmt:=top 92
abbrev fK:Stmt:=top 93
abbrev kU:Stmt:=top 94
abbrev Oz:Stmt:=top 95
set_option genInjectivity false in
set_option genSizeOfSpec false in
structure Adr where
 nL:Addr
 zh:Xy
 J6:Addr
 Qg:Xy
 Hu:Addr
 Pr:Xy
 CN:Addr
 Oj:Xy
 Dx:Addr
 L9:Xy
 Gr:Addr
 PM:Xy
 p7:Addr
 Bj:Xy
 zu:Addr
 Jf:Xy
 xB:Addr
 J3:Xy
 rg:Addr
 BR:Xy
 uO:Addr
 Fb:Xy
 jy:Addr
 rh:Xy
 nR:Addr
 yE:Xy
 DF:Addr
 MA:Xy
 Ke:Addr
 QD:Xy
 qt:Addr
 Az:Xy
 lK:Addr
 wH:Xy
 qF:Addr
 Ce:Xy
 oF:Addr
 xo:Xy
 jZ:Addr
 su:Xy
 uH:Addr
 Ez:Xy
 jR:Addr
 r9:Xy
 D3:Addr
 Ls:Xy
 oE:Addr
 yl:Xy
 qU:Addr
 AF:Xy
 rH:Addr
 B5:Xy
 xX:Addr
 IS:Xy
 jd:Addr
 oM:Xy
 zg:Addr
 KH:Xy
 mJ:Addr
 uX:Xy
 oD:Addr
 zW:Xy
 FX:Addr
 Rb:Xy
 nQ:Addr
 xO:Xy
 nD:Addr
 Ad:Xy
 jW:Addr
 rO:Xy
 ub:Addr
 FN:Xy
 ON:Addr
 T6:Xy
 kz:Addr
 tF:Xy
 jb:Addr
 oI:Xy
 r6:Addr
 AG:Xy
 pS:Addr
 Bv:Xy
 rM:Addr
 A3:Xy
 nZ:Addr
 zp:Xy
 mh:Addr
 vz:Xy
 kP:Addr
 sX:Xy
 jg:Addr
 oN:Xy
 nJ:Addr
 zR:Xy
 nW:Addr
 zl:Xy
 kM:Addr
 sZ:Xy
 oj:Addr
 Ah:Xy
 gF:Addr
 gJ:Xy
 lT:Addr
 wW:Xy
 ky:Addr
 tZ:Xy
 I0:Addr
 OQ:Xy
structure Txt (Pm:zeB) (K:W7) (mg:Str->Option Xb) (t:Adr):Prop where
 xw:mg "common_of" = some (.ref t.nL)
 zK:Fun K "common_of" "common_of" nU t.nL t.zh
 RQ:mg "part" = some (.ref t.J6)
 Qw:Fun K "part" "part" Jx t.J6 t.Qg
 Qq:mg "plus" = some (.ref t.Hu)
 RC:Fun K "plus" "plus" Gm t.Hu t.Pr
 MY:mg "minus" = some (.ref t.CN)
 Mh:Fun K "minus" "minus" CZ t.CN t.Oj
 MU:mg "times" = some (.ref t.Dx)
 N9:Fun K "times" "times" D2 t.Dx t.L9
 So:mg "less" = some (.ref t.Gr)
 PJ:Fun K "less" "less" Gx t.Gr t.PM
 BW:mg "floor_of" = some (.ref t.p7)
 Cd:Fun K "floor_of" "floor_of" qB t.p7 t.Bj
 JK:mg "cut_by" = some (.ref t.zu)
 HU:Fun K "cut_by" "cut_by" xD t.zu t.Jf
 J4:mg "top_of" = some (.ref t.xB)
 GN:Fun K "top_of" "top_of" xg t.xB t.J3
 BP:mg "begun_by" = some (.ref t.rg)
 AR:Fun K "begun_by" "begun_by" qh t.rg t.BR
 D9:mg "is_idle" = some (.ref t.uO)
 FK:Fun K "is_idle" "is_idle" uj t.uO t.Fb
 rS:mg "share_behind" = some (.ref t.jy)
 sC:Fun K "share_behind" "share_behind" jP t.jy t.rh
 yS:mg "factor_of" = some (.ref t.nR)
 xV:Fun K "factor_of" "factor_of" oa t.nR t.yE
 LB:mg "moved" = some (.ref t.DF)
 Nw:Fun K "moved" "moved" D6 t.DF t.MA
 Rh:mg "held" = some (.ref t.Ke)
 Q1:Fun K "held" "held" Kz t.Ke t.QD
 Cq:mg "heard_by" = some (.ref t.qt)
 AI:Fun K "heard_by" "heard_by" sj t.qt t.Az
 vP:mg "put_behind" = some (.ref t.lK)
 wC:Fun K "put_behind" "put_behind" mH t.lK t.wH
 CG:mg "taken_in" = some (.ref t.qF)
 CD:Fun K "taken_in" "taken_in" sR t.qF t.Ce
 y9:mg "next_name" = some (.ref t.oF)
 yF:Fun K "next_name" "next_name" gS t.oF t.xo
 sM:mg "out_by_turns" = some (.ref t.jZ)
 rj:Fun K "out_by_turns" "out_by_turns" gx t.jZ t.su
 FG:mg "let_out" = some (.ref t.uH)
 E8:Fun K "let_out" "let_out" ud t.uH t.Ez
 qu:mg "begun_sender" = some (.ref t.jR)
 qO:Fun K "begun_sender" "begun_sender" jv t.jR t.r9
 Nx:mg "begun" = some (.ref t.D3)
 LH:Fun K "begun" "begun" pJ t.D3 t.Ls
 yY:mg "under_way" = some (.ref t.oE)
 xk:Fun K "under_way" "under_way" jr t.oE t.yl
 AQ:mg "new_ones" = some (.ref t.qU)
 Aj:Fun K "new_ones" "new_ones" r8 t.qU t.AF
 AZ:mg "sent_off" = some (.ref t.rH)
 AL:Fun K "sent_off" "sent_off" qI t.rH t.B5
 Kh:mg "beaten" = some (.ref t.xX)
 JG:Fun K "beaten" "beaten" yy t.xX t.IS
 oU:mg "sent_in_order" = some (.ref t.jd)
 oX:Fun K "sent_in_order" "sent_in_order" fz t.jd t.oM
 Iu:mg "passed" = some (.ref t.zg)
 F6:Fun K "passed" "passed" qm t.zg t.KH
 vg:mg "way_behind" = some (.ref t.mJ)
 vZ:Fun K "way_behind" "way_behind" md t.mJ t.uX
 zM:mg "events_of" = some (.ref t.oD)
 zm:Fun K "events_of" "events_of" nY t.oD t.zW
 RG:mg "aged" = some (.ref t.FX)
 R8:Fun K "aged" "aged" Iw t.FX t.Rb
 zL:mg "way_after" = some (.ref t.nQ)
 zy:Fun K "way_after" "way_after" gO t.nQ t.xO
 zr:mg "due_after" = some (.ref t.nD)
 xn:Fun K "due_after" "due_after" nN t.nD t.Ad
 rW:mg "sender_after" = some (.ref t.jW)
 rR:Fun K "sender_after" "sender_after" cM t.jW t.rO
 FC:mg "stepped" = some (.ref t.ub)
 FF:Fun K "stepped" "stepped" cI t.ub t.FN
 Us:mg "run" = some (.ref t.ON)
 S9:Fun K "run" "run" OD t.ON t.T6
 tH:mg "place_among" = some (.ref t.kz)
 tj:Fun K "place_among" "place_among" kC t.kz t.tF
 oY:mg "place_in_ways" = some (.ref t.jb)
 pf:Fun K "place_in_ways" "place_in_ways" jl t.jb t.oI
 Bg:mg "place_of" = some (.ref t.r6)
 CI:Fun K "place_of" "place_of" lj t.r6 t.AG
 Cz:mg "_law_pot" = some (.ref t.pS)
 Bf:Fun K "_law_pot" "_law_pot" qg t.pS t.Bv
 BY:mg "_law_mix" = some (.ref t.rM)
 BC:Fun K "_law_mix" "_law_mix" qL t.rM t.A3
 yf:mg "_law_take" = some (.ref t.nZ)
 zP:Fun K "_law_take" "_law_take" ow t.nZ t.zp
 wB:mg "_law_names" = some (.ref t.mh)
 we:Fun K "_law_names" "_law_names" i3 t.mh t.vz
 tG:mg "_law_lowest" = some (.ref t.kP)
 tu:Fun K "_law_lowest" "_law_lowest" kR t.kP t.sX
 oV:mg "_law_fraction" = some (.ref t.jg)
 pk:Fun K "_law_fraction" "_law_fraction" jf t.jg t.oN
 zH:mg "_law_rule" = some (.ref t.nJ)
 xZ:Fun K "_law_rule" "_law_rule" nM t.nJ t.zR
 yJ:mg "_law_ways" = some (.ref t.nW)
 zV:Fun K "_law_ways" "_law_ways" nP t.nW t.zl
 tT:mg "_law_sender" = some (.ref t.kM)
 tI:Fun K "_law_sender" "_law_sender" h9 t.kM t.sZ
 yk:mg "_law_plan" = some (.ref t.oj)
 xf:Fun K "_law_plan" "_law_plan" jH t.oj t.Ah
 nG:mg "_law_same" = some (.ref t.gF)
 dg:Fun K "_law_same" "_law_same" j3 t.gF t.gJ
 u4:mg "_law_moved" = some (.ref t.lT)
 wL:Fun K "_law_moved" "_law_moved" fK t.lT t.wW
 tP:mg "_law_places" = some (.ref t.ky)
 tS:Fun K "_law_places" "_law_places" kU t.ky t.tZ
 Tz:mg "law" = some (.ref t.I0)
 C3:Fun K "law" "law" Oz t.I0 t.OQ
 Kf:mg "abs" = none
 Uj:mg "all" = none
 SK:mg "bool" = none
 R7:mg "dict" = none
 gY:mg "enumerate" = none
 OR:mg "int" = none
 bS:mg "isinstance" = none
 dZ:mg "len" = none
 mR:mg "list" = none
 zJ:mg "max" = none
 T9:mg "min" = none
 kf:mg "range" = none
 ro:mg "sorted" = none
 Ou:mg "str" = none
 UI:mg "sum" = none
 bh:mg "tuple" = none
 lN:mg "zip" = none
 pP:GV K mg "AGAIN" (.int 6)
 O4:GV K mg "AGE" (.int 2)
 Qx:GV K mg "BEAT" (.int 2)
 La:GV K mg "BEGIN" (.int 3)
 rX:GV K mg "COMING" (.int 0)
 GI:GV K mg "DUE" (.int 1)
 J7:GV K mg "GOOD" (.int 8)
 Ju:GV K mg "GRID" (.int 0)
 Io:GV K mg "HALF" (.tup [.int 1,.int 2])
 DN:GV K mg "HOP" (.int 3)
 jG:GV K mg "IS_MARKED" (.int 4)
 QR:GV K mg "LAST" (.int 2)
 rL:GV K mg "LEFT" (.int 5)
 mU:GV K mg "LOST" (.int 7)
 RZ:GV K mg "MANY" (.int 4)
 J2:GV K mg "MARK" (.int 3)
 w4:GV K mg "MARKED" (.int 9)
 bO:GV K mg "NAME" (.int 0)
 u9:GV K mg "NEXT" (.int 4)
 G3:GV K mg "NOUGHT" (.tup [.int 0,.int 1])
 iu:GV K mg "NUMBER" (.int 1)
 FW:GV K mg "ONE" (.tup [.int 1,.int 1])
 An:GV K mg "PACE" (.int 1)
 Ih:GV K mg "ROAD" (.int 1)
 QH:GV K mg "ROOM" (.int 2)
 Jp:GV K mg "RULE" (.int 5)
 uB:GV K mg "SENDERS" (.int 2)
 Oe:GV K mg "SHARE" (.int 3)
 RM:GV K mg "SORT" (.int 4)
 lu:GV K mg "STANDING" (.int 1)
 je:GV K mg "STATE_SENDERS" (.int 1)
 iO:GV K mg "STATE_WAYS" (.int 0)
 Gp:GV K mg "WAIT" (.int 10)
 rV:GV K mg "WAYS" (.int 1)
 yj:GV K mg "WINDOW" (.int 2)
local macro_rules | `(tactic| walk_at "sc")=>`(tactic| exact Tx rfl rfl rfl rfl (by decide +kernel))
local macro_rules | `(tactic| walk_at "b1")=>`(tactic| (rename_i hl;obtain ⟨x0,e⟩:=S3 hl;subst e;rfl))
local macro_rules | `(tactic| walk_at "b2")=>`(tactic| (rename_i hl;obtain ⟨x0,x1,e⟩:=Tq hl;subst e;rfl))
local macro_rules | `(tactic| walk_at "b3")=>`(tactic| (rename_i hl;obtain ⟨x0,x1,x2,e⟩:=Ug hl;subst e;rfl))
local macro_rules | `(tactic| walk_at "b4")=>`(tactic| (rename_i hl;obtain ⟨x0,x1,x2,x3,e⟩:=U1 hl;subst e;rfl))
local macro_rules | `(tactic| walk_at "b5")=>`(tactic| (rename_i hl;obtain ⟨x0,x1,x2,x3,x4,e⟩:=T7 hl;subst e;rfl))
section
variable {P:XO} {w:X2} {K:W7} {mg:Str->Option Xb} {base:Heap} {t:Adr}
theorem dr:aH ["one", "other", "divisor", "rest", "behind"] ["one", "other"] (aw nU):=by walk_at "sc"
theorem xu (T:Txt w.params K mg t):aR P w K mg base 1 "common_of" ["one", "other"] L3.fR:=aM T.xw T.zK dr L3.tW L3.vW (λ_ _ _ _ _ _ _ _=>by walk_at "b2") λ_ _ _ _ _ _ hr hu=>
 ak (aC 2 dr.nd (aY qQ ve rfl T.Kf rfl (aa (ae 0) (ai)))) (ak (aC 3 dr.nd (aY qQ ve rfl T.Kf rfl (aa (ae 1) (ai)))) (ak (qG XE (om (ae 3) (le_int)) (ak (aC 4 dr.nd (i8 (ae 2) (ae 3))) (ak (aC 2 dr.nd (ae 3)) (ax (aC 3 dr.nd (ae 4)))))) (ax (aE (ae 2)))))
theorem wb:aH ["top", "bottom", "divisor"] ["top", "bottom"] (aw Jx):=by walk_at "sc"
theorem rE (T:Txt w.params K mg t):aR P w K mg base 2 "part" ["top", "bottom"] L3.gU:=aM T.RQ T.Qw wb L3.IB L3.Ob (λ_ _ _ _ _ _ _ _=>by walk_at "b2") λ_ _ _ _ _ _ hr hu=>
 ak (aC 2 wb.nd (ar (xu T) hr rfl (aa (ae 0) (aa (ae 1) (ai))))) (ak (bH (lY (ae 1) (le_int)) (ax (aC 2 wb.nd (le_neg (ae 2)))) (a5)) (ax (aE (aK (aa (jM (ae 0) (ae 2)) (aa (jM (ae 1) (ae 2)) (ai)))))))
theorem Nq:aH ["one", "other"] ["one", "other"] (aw Gm):=by walk_at "sc"
theorem HH (T:Txt w.params K mg t):aR P w K mg base 3 "plus" ["one", "other"] L3.kh:=aM T.Qq T.RC Nq L3.Hj L3.NN (λ_ _ _ _ _ _ _ _=>by walk_at "b2") λ_ _ _ _ _ _ hr hu=>
 ax (aE (ar (rE T) hr rfl (aa (aJ (le_mul (av (ae 0) (le_int)) (av (ae 1) (le_int))) (le_mul (av (ae 1) (le_int)) (av (ae 0) (le_int)))) (aa (le_mul (av (ae 0) (le_int)) (av (ae 1) (le_int))) (ai)))))
theorem Hq:aH ["one", "other"] ["one", "other"] (aw CZ):=by walk_at "sc"
theorem vT (T:Txt w.params K mg t):aR P w K mg base 3 "minus" ["one", "other"] L3.iz:=aM T.MY T.Mh Hq L3.FQ L3.JS (λ_ _ _ _ _ _ _ _=>by walk_at "b2") λ_ _ _ _ _ _ hr hu=>
 ax (aE (ar (rE T) hr rfl (aa (fE (le_mul (av (ae 0) (le_int)) (av (ae 1) (le_int))) (le_mul (av (ae 1) (le_int)) (av (ae 0) (le_int)))) (aa (le_mul (av (ae 0) (le_int)) (av (ae 1) (le_int))) (ai)))))
theorem HV:aH ["one", "other"] ["one", "other"] (aw D2):=by walk_at "sc"
theorem vV (T:Txt w.params K mg t):aR P w K mg base 3 "times" ["one", "other"] L3.iC:=aM T.MU T.N9 HV L3.Fe L3.KD (λ_ _ _ _ _ _ _ _=>by walk_at "b2") λ_ _ _ _ _ _ hr hu=>
 ax (aE (ar (rE T) hr rfl (aa (le_mul (av (ae 0) (le_int)) (av (ae 1) (le_int))) (aa (le_mul (av (ae 0) (le_int)) (av (ae 1) (le_int))) (ai)))))
theorem M7:aH ["one", "other"] ["one", "other"] (aw Gx):=by walk_at "sc"
theorem Jh (T:Txt w.params K mg t):aR P w K mg base 1 "less" ["one", "other"] L3.mf:=aM T.So T.PJ M7 L3.G6 L3.N6 (λ_ _ _ _ _ _ _ _=>by walk_at "b2") λ_ _ _ _ _ _ hr hu=>
 ax (aE (UT (le_mul (av (ae 0) (le_int)) (av (ae 1) (le_int))) (le_mul (av (ae 1) (le_int)) (av (ae 0) (le_int)))))
theorem w6:aH ["one"] ["one"] (aw qB):=by walk_at "sc"
theorem BF (T:Txt w.params K mg t):aR P w K mg base 1 "floor_of" ["one"] L3.gX:=aM T.BW T.Cd w6 L3.vD L3.yo (λ_ _ _ _ _ _ _ _=>by walk_at "b1") λ_ _ _ _ _ _ hr hu=>
 ax (aE (jM (av (ae 0) (le_int)) (av (ae 0) (le_int))))
theorem E3:aH ["one", "grid"] ["one", "grid"] (aw xD):=by walk_at "sc"
theorem mi (T:Txt w.params K mg t):aR P w K mg base 3 "cut_by" ["one", "grid"] L3.fe:=aM T.JK T.HU E3 L3.Ct L3.Fh (λ_ _ _ _ _ _ _ _=>by walk_at "b2") λ_ _ _ _ _ _ hr hu=>
 ax (aE (ar (rE T) hr rfl (aa (jM (le_mul (av (ae 0) (le_int)) (ae 1)) (av (ae 0) (le_int))) (aa (ae 1) (ai)))))
theorem EA:aH ["rule"] ["rule"] (aw xg):=by walk_at "sc"
theorem xK (T:Txt w.params K mg t):aR P w K mg base 1 "top_of" ["rule"] L3.iH:=aM T.J4 T.GN EA L3.BQ L3.Fg (λ_ _ _ _ _ _ _ _=>by walk_at "b1") λ_ _ _ _ _ _ hr hu=>
 ax (aE (av (ae 0) (fE (aY bc bI rfl T.dZ rfl (aa (ae 0) (ai))) (le_int))))
theorem zf:aH ["rule", "grid"] ["rule", "grid"] (aw qh):=by walk_at "sc"
theorem A8 (T:Txt w.params K mg t):aR P w K mg base 4 "begun_by" ["rule", "grid"] L3.gT:=aM T.BP T.AR zf L3.vc L3.xW (λ_ _ _ _ _ _ _ _=>by walk_at "b2") λ_ _ _ _ _ _ hr hu=>
 ax (aE (aK (aa (ar (mi T) hr rfl (aa (av (ae 0) (le_int)) (aa (ae 1) (ai)))) (aa (aF rfl T.G3) (ai)))))
theorem B0:aH ["rule", "heard"] ["rule", "heard"] (aw uj):=by walk_at "sc"
theorem EY (T:Txt w.params K mg t):aR P w K mg base 1 "is_idle" ["rule", "heard"] L3.iV:=aM T.D9 T.FK B0 L3.yz L3.BV (λ_ _ _ _ _ _ _ _=>by walk_at "b2") λ_ _ _ _ _ _ hr hu=>
 ax (aE (Tv (le_eq hu (av (ae 0) (le_int)) (le_str)) (uY (le_eq hu (aJ (aJ (av (ae 1) (le_int)) (av (ae 1) (le_int))) (av (ae 1) (le_int))) (le_int)))))
theorem fD:aH ["rule", "grid", "share", "heard", "bad", "nearer"] ["rule", "grid", "share", "heard"] (aw jP):=by walk_at "sc"
theorem pW (T:Txt w.params K mg t):aR P w K mg base 4 "share_behind" ["rule", "grid", "share", "heard"] L3.eA:=aM T.rS T.sC fD L3.nj L3.pj (λ_ _ _ _ _ _ _ _=>by walk_at "b4") λ_ _ _ _ _ _ hr hu=>
 ak (bH (zY hu (av (ae 0) (le_int)) (le_str)) (ax (aE (ae 2))) (a5)) (ak (aC 4 fD.nd (aJ (av (ae 3) (le_int)) (av (ae 3) (le_int)))) (ak (aC 5 fD.nd (ar (vV T) hr rfl (aa (av (ae 0) (le_int)) (aa (ar (vT T) hr rfl (aa (ar (rE T) hr rfl (aa (ae 4) (aa (aJ (av (ae 3) (le_int)) (ae 4)) (ai)))) (aa (ae 2) (ai)))) (ai))))) (ax (aE (ar (mi T) hr rfl (aa (ar (HH T) hr rfl (aa (ae 2) (aa (ae 5) (ai)))) (aa (ae 1) (ai))))))))
theorem vX:aH ["rule", "share", "heard"] ["rule", "share", "heard"] (aw oa):=by walk_at "sc"
theorem xx (T:Txt w.params K mg t):aR P w K mg base 4 "factor_of" ["rule", "share", "heard"] L3.fV:=aM T.yS T.xV vX L3.tf L3.wA (λ_ _ _ _ _ _ _ _=>by walk_at "b3") λ_ _ _ _ _ _ hr hu=>
 ak (bH (lt_eq hu (av (ae 0) (le_int)) (le_str)) (ax (aE (hV (om (av (ae 2) (le_int)) (le_int)) (aF rfl T.Io) (cD)))) (a5)) (ak (bH (lt_eq hu (aJ (av (ae 2) (le_int)) (av (ae 2) (le_int))) (le_int)) (ax (aE (hV (lt_eq hu (av (ae 0) (le_int)) (le_str)) (av (ae 0) (le_int)) (cD)))) (a5)) (ak (bH (lt_eq hu (av (ae 0) (le_int)) (le_str)) (ax (aE (ar (vT T) hr rfl (aa (aF rfl T.FW) (aa (ar (vV T) hr rfl (aa (aF rfl T.Io) (aa (ae 1) (ai)))) (ai)))))) (a5)) (ax (aE (av (ae 0) (le_int))))))
theorem HG:aH ["rule", "window", "heard"] ["rule", "window", "heard"] (aw D6):=by walk_at "sc"
theorem Mc (T:Txt w.params K mg t):aR P w K mg base 4 "moved" ["rule", "window", "heard"] L3.lH:=aM T.LB T.Nw HG L3.Ep L3.FT (λ_ _ _ _ _ _ _ _=>by walk_at "b3") λ_ _ _ _ _ _ hr hu=>
 ak (bH (LW.lt (Dd (zY hu (av (ae 0) (le_int)) (le_str)) (vo (lY (av (ae 2) (le_int)) (av (ae 0) (le_int)))))) (ax (aE (ar (HH T) hr rfl (aa (ae 1) (aa (av (ae 0) (le_int)) (ai)))))) (a5)) (ak (bH (om (av (ae 2) (le_int)) (av (ae 0) (le_int))) (ax (aE (ar (vT T) hr rfl (aa (ae 1) (aa (av (ae 0) (le_int)) (ai)))))) (a5)) (ax (aE (ae 1))))
theorem Lr:aH ["rule", "grid", "window"] ["rule", "grid", "window"] (aw Kz):=by walk_at "sc"
theorem G8 (T:Txt w.params K mg t):aR P w K mg base 4 "held" ["rule", "grid", "window"] L3.lV:=aM T.Rh T.Q1 Lr L3.IA L3.NB (λ_ _ _ _ _ _ _ _=>by walk_at "b3") λ_ _ _ _ _ _ hr hu=>
 ak (bH (lC (ar (Jh T) hr rfl (aa (ae 2) (aa (aF rfl T.FW) (ai))))) (ax (aE (aF rfl T.FW))) (a5)) (ak (bH (lC (ar (Jh T) hr rfl (aa (ar (xK T) hr rfl (aa (ae 0) (ai))) (aa (ae 2) (ai))))) (ax (aE (ar (mi T) hr rfl (aa (ar (xK T) hr rfl (aa (ae 0) (ai))) (aa (ae 1) (ai)))))) (a5)) (ax (aE (ar (mi T) hr rfl (aa (ae 2) (aa (ae 1) (ai)))))))
theorem j4:aH ["rule", "grid", "window", "share", "heard", "nearer", "factor"] ["rule", "grid", "window", "share", "heard"] (aw sj):=by walk_at "sc"
theorem Cp (T:Txt w.params K mg t):aR P w K mg base 5 "heard_by" ["rule", "grid", "window", "share", "heard"] L3.gR:=aM T.Cq T.AI j4 L3.wF L3.yZ (λ_ _ _ _ _ _ _ _=>by walk_at "b5") λ_ _ _ _ _ _ hr hu=>
 ak (bH (lC (ar (EY T) hr rfl (aa (ae 0) (aa (ae 4) (ai))))) (ax (aE (aK (aa (ae 2) (aa (ae 3) (ai)))))) (a5)) (ak (aC 5 j4.nd (ar (pW T) hr rfl (aa (ae 0) (aa (ae 1) (aa (ae 3) (aa (ae 4) (ai))))))) (ak (aC 6 j4.nd (ar (xx T) hr rfl (aa (ae 0) (aa (ae 5) (aa (ae 4) (ai)))))) (ak (bH (oq (ae 6) (cD)) (ax (aE (aK (aa (ar (G8 T) hr rfl (aa (ae 0) (aa (ae 1) (aa (ar (Mc T) hr rfl (aa (ae 0) (aa (ae 2) (aa (ae 4) (ai))))) (ai))))) (aa (ae 5) (ai)))))) (a5)) (ax (aE (aK (aa (ar (G8 T) hr rfl (aa (ae 0) (aa (ae 1) (aa (ar (vV T) hr rfl (aa (ae 2) (aa (ae 6) (ai)))) (ai))))) (aa (ae 5) (ai)))))))))
theorem tw:aH ["way", "letter", "ahead"] ["way", "letter", "ahead"] (aw mH):=by walk_at "sc"
theorem wD (T:Txt w.params K mg t):aR P w K mg base 1 "put_behind" ["way", "letter", "ahead"] L3.ff:=aM T.vP T.wC tw L3.sO L3.tL (λ_ _ _ _ _ _ _ _=>by walk_at "b3") λ_ _ _ _ _ _ hr hu=>
 ak (bH (LW.lt (Dd (oq (av (ae 0) (aF rfl T.J2)) (cD)) (vo (lY (ae 2) (av (ae 0) (aF rfl T.J2)))))) (ax (aE (ae 1))) (a5)) (ax (aE (aJ (jm (ae 1) (ji) (dE (aF rfl T.jG))) (aK (aa (le_int) (ai))))))
theorem gL:aH ["way", "standing", "letters", "stands", "lost", "letter"] ["way", "standing", "letters"] (aw sR):=by walk_at "sc"
theorem Ao (T:Txt w.params K mg t):aR P w K mg base 2 "taken_in" ["way", "standing", "letters"] L3.gK:=aM T.CG T.CD gL L3.vL L3.xI (λ_ _ _ _ _ _ _ _=>by walk_at "b3") λ_ _ _ _ _ _ hr hu=>
 ak (aC 3 gL.nd (aW i7 ua rfl T.mR rfl (aa (ae 1) (ai)))) (ak (aC 4 gL.nd (gq (ai))) (ak (bN XE rfl (br (ae 2)) (cG 5 gL.nd) (ax (bH (OP (aY bc bI rfl T.dZ rfl (aa (ae 3) (ai))) (av (ae 0) (aF rfl T.QH))) (ax (c7 (le_app (ae 4) (ae 5)))) (ax (c7 (le_app (ae 3) (ar (wD T) hr rfl (aa (ae 0) (aa (ae 5) (aa (aY bc bI rfl T.dZ rfl (aa (ae 3) (ai))) (ai))))))))))) (ax (aE (aK (aa (aW aL a6 rfl T.bh rfl (aa (ae 3) (ai))) (aa (aW aL a6 rfl T.bh rfl (aa (ae 4) (ai))) (ai))))))))
theorem iY:aH ["names", "owners", "last", "there", "behind"] ["names", "owners", "last"] (aw gS):=by walk_at "sc"
theorem zS (T:Txt w.params K mg t):aR P w K mg base 1 "next_name" ["names", "owners", "last"] L3.fJ:=aM T.y9 T.yF iY L3.t8 L3.vQ (λ_ _ _ _ _ _ _ _=>by walk_at "b3") λ_ _ _ _ _ _ hr hu=>
 ak (gu (fsc:=aw gS) 3 iY.nd ["names", "owners", "last", "there", "behind"] ["name", "owners"] 1 [1] rfl rfl (br (ae 0)) (λcl C s₀ H₀ ex=>⟨bj 0 (show (["name", "owners"]:List Str).Nodup from by decide +kernel),fg (BI hu (ae 0) (ae 1)),ae 0⟩) rfl rfl (by decide +kernel)) (ak (gu (fsc:=aw gS) 4 iY.nd ["names", "owners", "last", "there", "behind"] ["name", "last"] 1 [2] rfl rfl (br (ae 3)) (λcl C s₀ H₀ ex=>⟨bj 0 (show (["name", "last"]:List Str).Nodup from by decide +kernel),fg (O7 (ae 0) (ae 1)),ae 0⟩) rfl rfl (by decide +kernel)) (ax (aE (hV (om (aY bc bI rfl T.dZ rfl (aa (ae 4) (ai))) (le_int)) (av (ae 4) (le_int)) (av (ae 3) (le_int))))))
theorem cc:aH ["way", "names", "standing", "last", "stands", "out", "name", "owners"] ["way", "names", "standing", "last"] (aw gx):=by walk_at "sc"
theorem qM (T:Txt w.params K mg t):aR P w K mg base 2 "out_by_turns" ["way", "names", "standing", "last"] L3.eg:=aM T.sM T.rj cc L3.ny L3.oR (λ_ _ _ _ _ _ _ _=>by walk_at "b4") λ_ _ _ _ _ _ hr hu=>
 ak (aC 4 cc.nd (aW i7 ua rfl T.mR rfl (aa (ae 2) (ai)))) (ak (aC 5 cc.nd (gq (ai))) (ak (aC 6 cc.nd (ae 3)) (ak (qG XE (LW.lt (wJ (om (aY bc bI rfl T.dZ rfl (aa (ae 4) (ai))) (le_int)) (pQ (lY (aY bc bI rfl T.dZ rfl (aa (ae 5) (ai))) (av (ae 0) (aF rfl T.An)))))) (ak (mN (fsc:=aw gx) 7 cc.nd ["way", "names", "standing", "last", "stands", "out", "name", "owners"] ["letter"] 1 [] rfl rfl (ae 4) (λcl C s₀ H₀ ex=>⟨bj 0 (show (["letter"]:List Str).Nodup from by decide +kernel),bJ,av (ae 0) (aF rfl T.bO)⟩) rfl rfl (by decide +kernel)) (ak (aC 6 cc.nd (ar (zS T) hr rfl (aa (ae 1) (aa (ae 7) (aa (ae 6) (ai)))))) (ax (c7 (le_app (ae 5) (PY (ae 4) (Hk hu (ae 7) (ae 6))))))))) (ax (aE (aK (aa (aW aL a6 rfl T.bh rfl (aa (ae 5) (ai))) (aa (aW aL a6 rfl T.bh rfl (aa (ae 4) (ai))) (aa (ae 6) (ai))))))))))
theorem Ca:aH ["way", "names", "standing", "last"] ["way", "names", "standing", "last"] (aw ud):=by walk_at "sc"
theorem EJ (T:Txt w.params K mg t):aR P w K mg base 3 "let_out" ["way", "names", "standing", "last"] L3.i4:=aM T.FG T.E8 Ca L3.xA L3.By (λ_ _ _ _ _ _ _ _=>by walk_at "b4") λ_ _ _ _ _ _ hr hu=>
 ak (bH (lt_eq hu (av (ae 0) (aF rfl T.RM)) (le_str)) (ax (aE (ar (qM T) hr rfl (aa (ae 0) (aa (ae 1) (aa (ae 2) (aa (ae 3) (ai)))))))) (a5)) (ax (aE (aK (aa (aW aL a6 rfl T.bh rfl (aa (jm (ae 2) (ji) (dE (av (ae 0) (aF rfl T.An)))) (ai))) (aa (aW aL a6 rfl T.bh rfl (aa (jm (ae 2) (dE (av (ae 0) (aF rfl T.An))) (ji)) (ai))) (aa (le_str) (ai)))))))
theorem i9:aH ["grid", "sender", "first"] ["grid", "sender"] (aw jv):=by walk_at "sc"
theorem sS (T:Txt w.params K mg t):aR P w K mg base 5 "begun_sender" ["grid", "sender"] L3.d8:=aM T.qu T.qO i9 L3.m8 L3.o4 (λ_ _ _ _ _ _ _ _=>by walk_at "b2") λ_ _ _ _ _ _ hr hu=>
 ak (aC 2 i9.nd (ar (A8 T) hr rfl (aa (av (ae 1) (aF rfl T.Jp)) (aa (ae 0) (ai))))) (ax (aE (aK (aa (av (ae 1) (aF rfl T.bO)) (aa (av (ae 1) (aF rfl T.La)) (aa (av (ae 2) (le_int)) (aa (av (ae 2) (le_int)) (aa (le_int) (aa (av (ae 1) (aF rfl T.RZ)) (aa (aK (ai)) (aa (aK (ai)) (aa (le_int) (aa (le_int) (aa (le_int) (ai)))))))))))))))
theorem zB:aH ["plan", "ways"] ["plan"] (aw pJ):=by walk_at "sc"
theorem NC (T:Txt w.params K mg t):aR P w K mg base 6 "begun" ["plan"] L3.l9:=aM T.Nx T.LH zB L3.Er L3.FV (λ_ _ _ _ _ _ _ _=>by walk_at "b1") λ_ _ _ _ _ _ hr hu=>
 ak (aC 1 zB.nd (aW aL a6 rfl T.bh rfl (aa (bD (fsc:=aw pJ) ["plan", "ways"] ["way"] 1 [] rfl rfl (br (av (ae 0) (aF rfl T.rV))) (λcl C s₀ H₀ ex=>⟨bj 0 (show (["way"]:List Str).Nodup from by decide +kernel),bJ,aK (aa (aK (ai)) (aa (aK (ai)) (aa (le_str) (ai))))⟩) rfl rfl (by decide +kernel)) (ai)))) (ax (aE (aK (aa (ae 1) (aa (aW aL a6 rfl T.bh rfl (aa (bD (fsc:=aw pJ) ["plan", "ways"] ["sender", "plan"] 1 [0] rfl rfl (br (av (ae 0) (aF rfl T.uB))) (λcl C s₀ H₀ ex=>⟨bj 0 (show (["sender", "plan"]:List Str).Nodup from by decide +kernel),bJ,ar (sS T) hr rfl (aa (av (ae 1) (aF rfl T.Ju)) (aa (ae 0) (ai)))⟩) rfl rfl (by decide +kernel)) (ai))) (ai))))))
theorem fS:aH ["state", "name", "count", "way"] ["state", "name"] (aw jr):=by walk_at "sc"
theorem xU (T:Txt w.params K mg t):aR P w K mg base 1 "under_way" ["state", "name"] L3.fW:=aM T.yY T.xk fS L3.tJ L3.wX (λ_ _ _ _ _ _ _ _=>by walk_at "b2") λ_ _ _ _ _ _ hr hu=>
 ak (aC 2 fS.nd (le_int)) (ak (bN XE rfl (br (av (ae 0) (aF rfl T.iO))) (cG 3 fS.nd) (ax (EX 2 fS.nd (aY bc bI rfl T.dZ rfl (aa (bD (fsc:=aw jr) ["state", "name", "count", "way"] ["letter", "name"] 1 [1] rfl rfl (br (aJ (av (ae 3) (aF rfl T.rX)) (av (ae 3) (aF rfl T.lu)))) (λcl C s₀ H₀ ex=>⟨bj 0 (show (["letter", "name"]:List Str).Nodup from by decide +kernel),fg (lt_eq hu (av (ae 0) (aF rfl T.bO)) (ae 1)),ae 0⟩) rfl rfl (by decide +kernel)) (ai)))))) (ax (aE (ae 2))))
theorem zk:aH ["kept", "places"] ["kept", "places"] (aw r8):=by walk_at "sc"
theorem Aw (T:Txt w.params K mg t):aR P w K mg base 1 "new_ones" ["kept", "places"] L3.gI:=aM T.AQ T.Aj zk L3.vB L3.yh (λ_ _ _ _ _ _ _ _=>by walk_at "b2") λ_ _ _ _ _ _ hr hu=>
 ax (aE (hV (oq (av (ae 0) (aF rfl T.rL)) (cD)) (ae 1) (aY (Fn rfl) Kb rfl T.T9 rfl (aa (ae 1) (aa (av (ae 0) (aF rfl T.rL)) (ai))))))
theorem eF:aH ["kept", "places", "old", "count", "first", "left", "filled"] ["kept", "places"] (aw qI):=by walk_at "sc"
theorem BG (T:Txt w.params K mg t):aR P w K mg base 2 "sent_off" ["kept", "places"] L3.gN:=aM T.AZ T.AL eF L3.wc L3.xh (λ_ _ _ _ _ _ _ _=>by walk_at "b2") λ_ _ _ _ _ _ hr hu=>
 ak (aC 2 eF.nd (jm (av (ae 0) (aF rfl T.pP)) (ji) (dE (ae 1)))) (ak (aC 3 eF.nd (ar (Aw T) hr rfl (aa (ae 0) (aa (fE (ae 1) (aY bc bI rfl T.dZ rfl (aa (ae 2) (ai)))) (ai))))) (ak (aC 4 eF.nd (av (ae 0) (aF rfl T.u9))) (ak (aC 5 eF.nd (hV (oq (av (ae 0) (aF rfl T.rL)) (cD)) (cD) (fE (av (ae 0) (aF rfl T.rL)) (ae 3)))) (ak (aC 6 eF.nd (aJ (aJ (jm (ae 0) (ji) (dE (aF rfl T.u9))) (aK (aa (aJ (ae 4) (ae 3)) (aa (ae 5) (aa (jm (av (ae 0) (aF rfl T.pP)) (dE (aY bc bI rfl T.dZ rfl (aa (ae 2) (ai)))) (ji)) (ai)))))) (jm (ae 0) (dE (aF rfl T.mU)) (ji)))) (ax (aE (aK (aa (ae 6) (aa (aJ (ae 2) (LF rfl rfl T.bh rfl T.kf (ae 4) (aJ (ae 4) (ae 3)))) (ai))))))))))
theorem iG:aH ["grid", "sender", "kept", "state", "heard", "told", "again", "ready"] ["grid", "sender", "kept", "state"] (aw yy):=by walk_at "sc"
theorem JB (T:Txt w.params K mg t):aR P w K mg base 6 "beaten" ["grid", "sender", "kept", "state"] L3.km:=aM T.Kh T.JG iG L3.A6 L3.E4 (λ_ _ _ _ _ _ _ _=>by walk_at "b4") λ_ _ _ _ _ _ hr hu=>
 ak (bH (zY hu (av (ae 2) (aF rfl T.GI)) (le_int)) (ax (aE (aK (aa (ae 2) (aa (aK (ai)) (ai)))))) (a5)) (ak (aC 4 iG.nd (aK (aa (av (ae 2) (aF rfl T.J7)) (aa (av (ae 2) (aF rfl T.w4)) (aa (aY bc bI rfl T.dZ rfl (aa (av (ae 2) (aF rfl T.mU)) (ai))) (aa (av (ae 2) (aF rfl T.Gp)) (ai))))))) (ak (aC 5 iG.nd (ar (Cp T) hr rfl (aa (av (ae 1) (aF rfl T.Jp)) (aa (ae 0) (aa (av (ae 2) (aF rfl T.yj)) (aa (av (ae 2) (aF rfl T.Oe)) (aa (ae 4) (ai)))))))) (ak (aC 6 iG.nd (aW aL a6 rfl T.bh rfl (aa (yB rfl T.ro rfl (aa (aJ (av (ae 2) (aF rfl T.pP)) (av (ae 2) (aF rfl T.mU))) (ai))) (ai)))) (ak (aC 7 iG.nd (aK (aa (av (ae 2) (aF rfl T.bO)) (aa (av (ae 2) (aF rfl T.GI)) (aa (av (ae 5) (le_int)) (aa (av (ae 5) (le_int)) (aa (av (ae 2) (aF rfl T.u9)) (aa (av (ae 2) (aF rfl T.rL)) (aa (ae 6) (aa (aK (ai)) (aa (le_int) (aa (le_int) (aa (le_int) (ai)))))))))))))) (ax (aE (ar (BG T) hr rfl (aa (ae 7) (aa (aY (mZ rfl) qk rfl T.zJ rfl (aa (le_int) (aa (fE (ar (BF T) hr rfl (aa (av (ae 5) (le_int)) (ai))) (ar (xU T) hr rfl (aa (ae 3) (aa (av (ae 2) (aF rfl T.bO)) (ai))))) (ai)))) (ai))))))))))
theorem cL:aH ["senders", "numbers", "sent", "turn", "sender", "own"] ["senders", "numbers"] (aw fz):=by walk_at "sc"
theorem oG (T:Txt w.params K mg t):aR P w K mg base 1 "sent_in_order" ["senders", "numbers"] L3.dm:=aM T.oU T.oX cL L3.ma L3.mQ (λ_ _ _ _ _ _ _ _=>by walk_at "b2") λ_ _ _ _ _ _ hr hu=>
 ak (aC 2 cL.nd (gq (ai))) (ak (bN XE rfl (kl rfl T.kf (Dw rfl rfl T.zJ (bD (fsc:=aw fz) ["senders", "numbers", "sent", "turn", "sender", "own"] ["own"] 1 [] rfl rfl (br (ae 1)) (λcl C s₀ H₀ ex=>⟨bj 0 (show (["own"]:List Str).Nodup from by decide +kernel),bJ,aY bc bI rfl T.dZ rfl (aa (ae 0) (ai))⟩) rfl rfl (by decide +kernel)) (le_int))) (cG 3 cL.nd) (ax (bN XE rfl (fL rfl T.lN (aa (ae 0) (aa (ae 1) (ai)))) (gf rfl (a9 4 cL.nd (a9 5 cL.nd (eu)))) (ax (bH (lY (ae 3) (aY bc bI rfl T.dZ rfl (aa (ae 5) (ai)))) (ax (c7 (le_app (ae 2) (aK (aa (av (av (ae 4) (aF rfl T.Ih)) (le_int)) (aa (aK (aa (av (ae 4) (aF rfl T.bO)) (aa (av (ae 5) (ae 3)) (aa (le_int) (aa (le_int) (aa (le_int) (ai))))))) (ai))))))) (a5)))))) (ax (aE (vJ (ae 2)))))
theorem j7:aH ["way", "names", "kept", "sent", "came", "held", "told"] ["way", "names", "kept", "sent"] (aw qm):=by walk_at "sc"
theorem JT (T:Txt w.params K mg t):aR P w K mg base 4 "passed" ["way", "names", "kept", "sent"] L3.j5:=aM T.Iu T.F6 j7 L3.Bx L3.Eo (λ_ _ _ _ _ _ _ _=>by walk_at "b4") λ_ _ _ _ _ _ hr hu=>
 ak (aC 4 j7.nd (aJ (av (ae 2) (aF rfl T.rX)) (aW aL a6 rfl T.bh rfl (aa (bD (fsc:=aw qm) ["way", "names", "kept", "sent", "came", "held", "told"] ["first", "letter", "way"] 2 [0] rfl rfl (br (ae 3)) (λcl C s₀ H₀ ex=>⟨gZ rfl (bF 0 (show (["first", "letter", "way"]:List Str).Nodup from by decide +kernel) (bF 1 (show (["first", "letter", "way"]:List Str).Nodup from by decide +kernel) (fk))),fg (lt_eq hu (ae 0) (av (ae 2) (aF rfl T.bO))),ae 1⟩) rfl rfl (by decide +kernel)) (ai))))) (ak (aC 5 j7.nd (ar (Ao T) hr rfl (aa (ae 0) (aa (av (ae 2) (aF rfl T.lu)) (aa (ae 4) (ai)))))) (ak (aC 6 j7.nd (ar (EJ T) hr rfl (aa (ae 0) (aa (ae 1) (aa (av (ae 5) (le_int)) (aa (av (ae 2) (aF rfl T.QR)) (ai))))))) (ax (aE (aK (aa (ae 4) (aa (av (ae 5) (le_int)) (aa (av (ae 6) (le_int)) (aa (av (ae 6) (le_int)) (aa (av (ae 6) (le_int)) (ai)))))))))))
theorem kG:aH ["roads", "letter", "road"] ["roads", "letter"] (aw md):=by walk_at "sc"
theorem iN (T:Txt w.params K mg t):aR P w K mg base 1 "way_behind" ["roads", "letter"] L3.cY:=aM T.vg T.vZ kG L3.pV L3.tN (λ_ _ _ _ _ _ _ _=>by walk_at "b2") λ_ _ _ _ _ _ hr hu=>
 ak (aC 2 kG.nd (cH hu (ae 0) (av (ae 1) (aF rfl T.bO)))) (ax (aE (hV (lY (aJ (av (ae 1) (aF rfl T.DN)) (le_int)) (aY bc bI rfl T.dZ rfl (aa (ae 2) (ai)))) (av (ae 2) (aJ (av (ae 1) (aF rfl T.DN)) (le_int))) (cD))))
theorem cP:aH ["way", "roads", "went", "events", "place", "letter", "word"] ["way", "roads", "went"] (aw nY):=by walk_at "sc"
theorem xT (T:Txt w.params K mg t):aR P w K mg base 2 "events_of" ["way", "roads", "went"] L3.fU:=aM T.zM T.zm cP L3.tV L3.wG (λ_ _ _ _ _ _ _ _=>by walk_at "b3") λ_ _ _ _ _ _ hr hu=>
 ak (aC 3 cP.nd (gq (ai))) (ak (bN XE rfl (pE rfl T.gY (aa (av (ae 2) (le_int)) (ai))) (gf rfl (a9 4 cP.nd (a9 5 cP.nd (eu)))) (ak (aC 6 cP.nd (hV (lY (ae 4) (fE (aY bc bI rfl T.dZ rfl (aa (av (ae 2) (le_int)) (ai))) (aY bc bI rfl T.dZ rfl (aa (av (ae 2) (le_int)) (ai))))) (le_str) (le_str))) (ax (c7 (le_app (ae 3) (aK (aa (ae 6) (aa (av (ae 5) (aF rfl T.bO)) (aa (av (ae 5) (aF rfl T.iu)) (aa (av (ae 0) (aF rfl T.bO)) (ai))))))))))) (ak (bN XE rfl (br (av (ae 2) (le_int))) (cG 5 cP.nd) (ak (aC 6 cP.nd (hV (oq (ar (iN T) hr rfl (aa (ae 1) (aa (ae 5) (ai)))) (cD)) (le_str) (le_str))) (ax (c7 (le_app (ae 3) (aK (aa (ae 6) (aa (av (ae 5) (aF rfl T.bO)) (aa (av (ae 5) (aF rfl T.iu)) (aa (av (ae 0) (aF rfl T.bO)) (ai))))))))))) (ax (aE (vJ (ae 3))))))
theorem Li:aH ["letter", "hops"] ["letter", "hops"] (aw Iw):=by walk_at "sc"
theorem IV (T:Txt w.params K mg t):aR P w K mg base 1 "aged" ["letter", "hops"] L3.mB:=aM T.RG T.R8 Li L3.Ie L3.Mk (λ_ _ _ _ _ _ _ _=>by walk_at "b2") λ_ _ _ _ _ _ hr hu=>
 ax (aE (aK (aa (av (ae 0) (aF rfl T.bO)) (aa (av (ae 0) (aF rfl T.iu)) (aa (aJ (av (ae 0) (aF rfl T.O4)) (le_int)) (aa (aJ (av (ae 0) (aF rfl T.DN)) (ae 1)) (aa (av (ae 0) (aF rfl T.jG)) (ai))))))))
theorem me:aH ["way", "roads", "went", "out", "coming"] ["way", "roads", "went", "out"] (aw gO):=by walk_at "sc"
theorem yd (T:Txt w.params K mg t):aR P w K mg base 2 "way_after" ["way", "roads", "went", "out"] L3.fT:=aM T.zL T.zy me L3.tR L3.vF (λ_ _ _ _ _ _ _ _=>by walk_at "b4") λ_ _ _ _ _ _ hr hu=>
 ak (mN (fsc:=aw gO) 4 me.nd ["way", "roads", "went", "out", "coming"] ["letter", "roads", "way"] 1 [1,0] rfl rfl (ae 3) (λcl C s₀ H₀ ex=>⟨bj 0 (show (["letter", "roads", "way"]:List Str).Nodup from by decide +kernel),fg (lt_eq hu (ar (iN T) hr rfl (aa (ae 1) (aa (ae 0) (ai)))) (av (ae 2) (aF rfl T.bO))),ar (IV T) hr rfl (aa (ae 0) (aa (le_int) (ai)))⟩) rfl rfl (by decide +kernel)) (ax (aE (aK (aa (aW aL a6 rfl T.bh rfl (aa (ae 4) (ai))) (aa (aW aL a6 rfl T.bh rfl (aa (bD (fsc:=aw gO) ["way", "roads", "went", "out", "coming"] ["letter"] 1 [] rfl rfl (br (av (ae 2) (le_int))) (λcl C s₀ H₀ ex=>⟨bj 0 (show (["letter"]:List Str).Nodup from by decide +kernel),bJ,ar (IV T) hr rfl (aa (ae 0) (aa (le_int) (ai)))⟩) rfl rfl (by decide +kernel)) (ai))) (aa (av (ae 2) (le_int)) (ai)))))))
theorem vd:aH ["sender", "due"] ["sender", "due"] (aw nN):=by walk_at "sc"
theorem ze (T:Txt w.params K mg t):aR P w K mg base 1 "due_after" ["sender", "due"] L3.f9:=aM T.zr T.xn vd L3.tQ L3.vv (λ_ _ _ _ _ _ _ _=>by walk_at "b2") λ_ _ _ _ _ _ hr hu=>
 ak (bH (oq (ae 1) (cD)) (ax (aE (cD))) (a5)) (ax (aE (hV (lt_eq hu (ae 1) (le_int)) (fE (av (ae 0) (aF rfl T.Qx)) (le_int)) (fE (ae 1) (le_int)))))
theorem bP:aH ["sender", "kept", "lost", "taken", "numbers", "own", "marked", "wait", "heard", "start"] ["sender", "kept", "lost", "taken"] (aw cM):=by walk_at "sc"
theorem sx (T:Txt w.params K mg t):aR P w K mg base 2 "sender_after" ["sender", "kept", "lost", "taken"] L3.d9:=aM T.rW T.rR bP L3.mS L3.o5 (λ_ _ _ _ _ _ _ _=>by walk_at "b4") λ_ _ _ _ _ _ hr hu=>
 ak (mN (fsc:=aw cM) 4 bP.nd ["sender", "kept", "lost", "taken", "numbers", "own", "marked", "wait", "heard", "start"] ["letter", "sender"] 1 [0] rfl rfl (ae 2) (λcl C s₀ H₀ ex=>⟨bj 0 (show (["letter", "sender"]:List Str).Nodup from by decide +kernel),fg (lt_eq hu (av (ae 0) (aF rfl T.bO)) (av (ae 1) (aF rfl T.bO))),av (ae 0) (aF rfl T.iu)⟩) rfl rfl (by decide +kernel)) (ak (gu (fsc:=aw cM) 5 bP.nd ["sender", "kept", "lost", "taken", "numbers", "own", "marked", "wait", "heard", "start"] ["letter", "sender"] 1 [0] rfl rfl (br (ae 3)) (λcl C s₀ H₀ ex=>⟨bj 0 (show (["letter", "sender"]:List Str).Nodup from by decide +kernel),fg (lt_eq hu (av (ae 0) (aF rfl T.bO)) (av (ae 1) (aF rfl T.bO))),ae 0⟩) rfl rfl (by decide +kernel)) (ak (aC 6 bP.nd (aY (FH rfl) Im rfl T.UI rfl (aa (bD (fsc:=aw cM) ["sender", "kept", "lost", "taken", "numbers", "own", "marked", "wait", "heard", "start"] ["letter"] 1 [] rfl rfl (br (ae 5)) (λcl C s₀ H₀ ex=>⟨bj 0 (show (["letter"]:List Str).Nodup from by decide +kernel),bJ,av (ae 0) (aF rfl T.jG)⟩) rfl rfl (by decide +kernel)) (ai)))) (ak (aC 7 bP.nd (Dw rfl rfl T.zJ (bD (fsc:=aw cM) ["sender", "kept", "lost", "taken", "numbers", "own", "marked", "wait", "heard", "start"] ["letter"] 1 [] rfl rfl (br (ae 5)) (λcl C s₀ H₀ ex=>⟨bj 0 (show (["letter"]:List Str).Nodup from by decide +kernel),bJ,fE (av (ae 0) (aF rfl T.O4)) (av (ae 0) (aF rfl T.DN))⟩) rfl rfl (by decide +kernel)) (le_int))) (ak (aC 8 bP.nd (aK (aa (fE (aJ (av (ae 1) (aF rfl T.J7)) (aY bc bI rfl T.dZ rfl (aa (ae 5) (ai)))) (ae 6)) (aa (aJ (av (ae 1) (aF rfl T.w4)) (ae 6)) (aa (aY (mZ rfl) qk rfl T.zJ rfl (aa (av (ae 1) (aF rfl T.Gp)) (aa (ae 7) (ai)))) (ai)))))) (ak (aC 9 bP.nd (aK (aa (av (ae 1) (aF rfl T.bO)) (aa (ar (ze T) hr rfl (aa (ae 0) (aa (av (ae 1) (aF rfl T.GI)) (ai)))) (ai))))) (ax (aE (aJ (aJ (aJ (ae 9) (jm (ae 1) (dE (aF rfl T.yj)) (dE (aF rfl T.mU)))) (aK (aa (aW aL a6 rfl T.bh rfl (aa (yB rfl T.ro rfl (aa (aJ (av (ae 1) (aF rfl T.mU)) (aW aL a6 rfl T.bh rfl (aa (ae 4) (ai)))) (ai))) (ai))) (ai)))) (ae 8)))))))))
theorem bB:aH ["plan", "state", "senders", "names", "roads", "beats", "sent", "went", "events", "lost", "out", "way", "told", "taken", "ways", "after"] ["plan", "state"] (aw cI):=by walk_at "sc"
theorem FD (T:Txt w.params K mg t):aR P w K mg base 7 "stepped" ["plan", "state"] L3.iL:=aM T.FC T.FF bB L3.xC L3.Cv (λ_ _ _ _ _ _ _ _=>by walk_at "b2") λ_ _ _ _ _ _ hr hu=>
 ak (aC 2 bB.nd (av (ae 0) (aF rfl T.uB))) (ak (aC 3 bB.nd (aW aL a6 rfl T.bh rfl (aa (bD (fsc:=aw cI) ["plan", "state", "senders", "names", "roads", "beats", "sent", "went", "events", "lost", "out", "way", "told", "taken", "ways", "after"] ["sender"] 1 [] rfl rfl (br (ae 2)) (λcl C s₀ H₀ ex=>⟨bj 0 (show (["sender"]:List Str).Nodup from by decide +kernel),bJ,av (ae 0) (aF rfl T.bO)⟩) rfl rfl (by decide +kernel)) (ai)))) (ak (aC 4 bB.nd (aW (Cu rfl) KQ rfl T.R7 rfl (aa (bD (fsc:=aw cI) ["plan", "state", "senders", "names", "roads", "beats", "sent", "went", "events", "lost", "out", "way", "told", "taken", "ways", "after"] ["sender"] 1 [] rfl rfl (br (ae 2)) (λcl C s₀ H₀ ex=>⟨bj 0 (show (["sender"]:List Str).Nodup from by decide +kernel),bJ,aK (aa (av (ae 0) (aF rfl T.bO)) (aa (av (ae 0) (aF rfl T.Ih)) (ai)))⟩) rfl rfl (by decide +kernel)) (ai)))) (ak (gu (fsc:=aw cI) 5 bB.nd ["plan", "state", "senders", "names", "roads", "beats", "sent", "went", "events", "lost", "out", "way", "told", "taken", "ways", "after"] ["sender", "kept", "state", "plan"] 2 [1,0] rfl rfl (fL rfl T.lN (aa (ae 2) (aa (av (ae 1) (aF rfl T.je)) (ai)))) (λcl C s₀ H₀ ex=>⟨gZ rfl (bF 0 (show (["sender", "kept", "state", "plan"]:List Str).Nodup from by decide +kernel) (bF 1 (show (["sender", "kept", "state", "plan"]:List Str).Nodup from by decide +kernel) (fk))),bJ,ar (JB T) hr rfl (aa (av (ae 3) (aF rfl T.Ju)) (aa (ae 0) (aa (ae 1) (aa (ae 2) (ai)))))⟩) rfl rfl (by decide +kernel)) (ak (aC 6 bB.nd (ar (oG T) hr rfl (aa (ae 2) (aa (bD (fsc:=aw cI) ["plan", "state", "senders", "names", "roads", "beats", "sent", "went", "events", "lost", "out", "way", "told", "taken", "ways", "after"] ["kept", "numbers"] 2 [] rfl rfl (br (ae 5)) (λcl C s₀ H₀ ex=>⟨gZ rfl (bF 0 (show (["kept", "numbers"]:List Str).Nodup from by decide +kernel) (bF 1 (show (["kept", "numbers"]:List Str).Nodup from by decide +kernel) (fk))),bJ,ae 1⟩) rfl rfl (by decide +kernel)) (ai))))) (ak (gu (fsc:=aw cI) 7 bB.nd ["plan", "state", "senders", "names", "roads", "beats", "sent", "went", "events", "lost", "out", "way", "told", "taken", "ways", "after"] ["way", "kept", "names", "sent"] 2 [3,6] rfl rfl (fL rfl T.lN (aa (av (ae 0) (aF rfl T.rV)) (aa (av (ae 1) (aF rfl T.iO)) (ai)))) (λcl C s₀ H₀ ex=>⟨gZ rfl (bF 0 (show (["way", "kept", "names", "sent"]:List Str).Nodup from by decide +kernel) (bF 1 (show (["way", "kept", "names", "sent"]:List Str).Nodup from by decide +kernel) (fk))),bJ,ar (JT T) hr rfl (aa (ae 0) (aa (ae 2) (aa (ae 1) (aa (ae 3) (ai)))))⟩) rfl rfl (by decide +kernel)) (ak (G7 (fsc:=aw cI) 8 bB.nd ["plan", "state", "senders", "names", "roads", "beats", "sent", "went", "events", "lost", "out", "way", "told", "taken", "ways", "after"] ["first", "letter"] 2 [] rfl rfl (br (ae 6)) (λcl C s₀ H₀ ex=>⟨gZ rfl (bF 0 (show (["first", "letter"]:List Str).Nodup from by decide +kernel) (bF 1 (show (["first", "letter"]:List Str).Nodup from by decide +kernel) (fk))),bJ,aK (aa (le_str) (aa (av (ae 1) (aF rfl T.bO)) (aa (av (ae 1) (aF rfl T.iu)) (aa (ae 0) (ai)))))⟩) rfl rfl (by decide +kernel)) (ak (aC 9 bB.nd (gq (ai))) (ak (aC 10 bB.nd (gq (ai))) (ak (bN XE rfl (fL rfl T.lN (aa (av (ae 0) (aF rfl T.rV)) (aa (ae 7) (ai)))) (gf rfl (a9 11 bB.nd (a9 12 bB.nd (eu)))) (ak (c7 (wU (ae 8) (ar (xT T) hr rfl (aa (ae 11) (aa (ae 4) (aa (ae 12) (ai))))))) (ak (c7 (wU (ae 9) (av (ae 12) (le_int)))) (ax (c7 (wU (ae 10) (av (ae 12) (le_int)))))))) (ak (aC 13 bB.nd (EZ (fsc:=aw cI) ["plan", "state", "senders", "names", "roads", "beats", "sent", "went", "events", "lost", "out", "way", "told", "taken", "ways", "after"] ["letter", "roads"] 1 [4] rfl rfl (ae 10) (λcl C s₀ H₀ ex=>⟨bj 0 (show (["letter", "roads"]:List Str).Nodup from by decide +kernel),fg (oq (ar (iN T) hr rfl (aa (ae 1) (aa (ae 0) (ai)))) (cD)),ae 0⟩) rfl rfl (by decide +kernel))) (ak (gu (fsc:=aw cI) 14 bB.nd ["plan", "state", "senders", "names", "roads", "beats", "sent", "went", "events", "lost", "out", "way", "told", "taken", "ways", "after"] ["way", "told", "roads", "out"] 2 [4,10] rfl rfl (fL rfl T.lN (aa (av (ae 0) (aF rfl T.rV)) (aa (ae 7) (ai)))) (λcl C s₀ H₀ ex=>⟨gZ rfl (bF 0 (show (["way", "told", "roads", "out"]:List Str).Nodup from by decide +kernel) (bF 1 (show (["way", "told", "roads", "out"]:List Str).Nodup from by decide +kernel) (fk))),bJ,ar (yd T) hr rfl (aa (ae 0) (aa (ae 2) (aa (ae 1) (aa (ae 3) (ai)))))⟩) rfl rfl (by decide +kernel)) (ak (gu (fsc:=aw cI) 15 bB.nd ["plan", "state", "senders", "names", "roads", "beats", "sent", "went", "events", "lost", "out", "way", "told", "taken", "ways", "after"] ["sender", "beat", "lost", "taken"] 2 [9,13] rfl rfl (fL rfl T.lN (aa (ae 2) (aa (ae 5) (ai)))) (λcl C s₀ H₀ ex=>⟨gZ rfl (bF 0 (show (["sender", "beat", "lost", "taken"]:List Str).Nodup from by decide +kernel) (bF 1 (show (["sender", "beat", "lost", "taken"]:List Str).Nodup from by decide +kernel) (fk))),bJ,ar (sx T) hr rfl (aa (ae 0) (aa (av (ae 1) (le_int)) (aa (ae 2) (aa (ae 3) (ai)))))⟩) rfl rfl (by decide +kernel)) (ax (aE (aK (aa (aK (aa (aW aL a6 rfl T.bh rfl (aa (ae 14) (ai))) (aa (aW aL a6 rfl T.bh rfl (aa (ae 15) (ai))) (ai)))) (aa (vJ (ae 8)) (ai))))))))))))))))))
theorem mV:aH ["plan", "many", "state", "rows", "turn", "told"] ["plan", "many"] (aw OD):=by walk_at "sc"
theorem Up (T:Txt w.params K mg t):aR P w K mg base 8 "run" ["plan", "many"] vx:=aM T.Us T.S9 mV Nd R6 (λ_ _ _ _ _ _ _ _=>by walk_at "b2") λ_ _ _ _ _ _ hr hu=>
 ak (aC 2 mV.nd (ar (NC T) hr rfl (aa (ae 0) (ai)))) (ak (aC 3 mV.nd (gq (ai))) (ak (bN XE rfl (kl rfl T.kf (ae 1)) (cG 4 mV.nd) (ak (aC 5 mV.nd (ar (FD T) hr rfl (aa (ae 0) (aa (ae 2) (ai))))) (ak (aC 2 mV.nd (av (ae 5) (le_int))) (ax (c7 (le_app (ae 3) (av (ae 5) (le_int)))))))) (ax (aE (aK (aa (ae 2) (aa (vJ (ae 3)) (ai))))))))
theorem gm:aH ["letters", "name", "number", "place", "letter"] ["letters", "name", "number"] (aw kC):=by walk_at "sc"
theorem t9 (T:Txt w.params K mg t):aR P w K mg base 1 "place_among" ["letters", "name", "number"] eP:=aM T.tH T.tj gm oP rB (λ_ _ _ _ _ _ _ _=>by walk_at "b3") λ_ _ _ _ _ _ hr hu=>
 ak (bN XE rfl (pE rfl T.gY (aa (ae 0) (ai))) (gf rfl (a9 3 gm.nd (a9 4 gm.nd (eu)))) (ax (bH (LW.lt (wJ (lt_eq hu (av (ae 4) (aF rfl T.bO)) (ae 1)) (pQ (lt_eq hu (av (ae 4) (aF rfl T.iu)) (ae 2))))) (ax (aE (ae 3))) (a5)))) (ax (aE (cD)))
theorem bW:aH ["plan", "state", "name", "number", "way", "kept", "word", "letters", "place"] ["plan", "state", "name", "number"] (aw jl):=by walk_at "sc"
theorem oQ (T:Txt w.params K mg t):aR P w K mg base 2 "place_in_ways" ["plan", "state", "name", "number"] dA:=aM T.oY T.pf bW l7 nr (λ_ _ _ _ _ _ _ _=>by walk_at "b4") λ_ _ _ _ _ _ hr hu=>
 ak (bN XE rfl (fL rfl T.lN (aa (av (ae 0) (aF rfl T.rV)) (aa (av (ae 1) (aF rfl T.iO)) (ai)))) (gf rfl (a9 4 bW.nd (a9 5 bW.nd (eu)))) (ax (bN XE rfl (br (aK (aa (aK (aa (le_str) (aa (av (ae 5) (aF rfl T.lu)) (ai)))) (aa (aK (aa (le_str) (aa (av (ae 5) (aF rfl T.rX)) (ai)))) (ai))))) (gf rfl (a9 6 bW.nd (a9 7 bW.nd (eu)))) (ak (aC 8 bW.nd (ar (t9 T) hr rfl (aa (ae 7) (aa (ae 2) (aa (ae 3) (ai)))))) (ax (bH (Ag (ae 8) (cD)) (ax (aE (aK (aa (ae 6) (aa (av (ae 4) (aF rfl T.bO)) (aa (ae 8) (ai))))))) (a5))))))) (ax (aE (cD)))
theorem jL:aH ["plan", "state", "name", "number", "kept", "found"] ["plan", "state", "name", "number"] (aw lj):=by walk_at "sc"
theorem qe (T:Txt w.params K mg t):aR P w K mg base 3 "place_of" ["plan", "state", "name", "number"] fo:=aM T.Bg T.CI jL vp zX (λ_ _ _ _ _ _ _ _=>by walk_at "b4") λ_ _ _ _ _ _ hr hu=>
 ak (aC 4 jL.nd (av (bD (fsc:=aw lj) ["plan", "state", "name", "number", "kept", "found"] ["one", "name"] 1 [2] rfl rfl (br (av (ae 1) (aF rfl T.je))) (λcl C s₀ H₀ ex=>⟨bj 0 (show (["one", "name"]:List Str).Nodup from by decide +kernel),fg (lt_eq hu (av (ae 0) (aF rfl T.bO)) (ae 1)),ae 0⟩) rfl rfl (by decide +kernel)) (le_int))) (ak (bH (OP (ae 3) (av (ae 4) (aF rfl T.u9))) (ax (aE (aK (aa (le_str) (ai))))) (a5)) (ak (aC 5 jL.nd (ar (oQ T) hr rfl (aa (ae 0) (aa (ae 1) (aa (ae 2) (aa (ae 3) (ai))))))) (ak (bH (Ag (ae 5) (cD)) (ax (aE (ae 5))) (a5)) (ak (bH (BI hu (ae 3) (av (ae 4) (aF rfl T.mU))) (ax (aE (aK (aa (le_str) (ai))))) (a5)) (ax (aE (hV (BI hu (ae 3) (av (ae 4) (aF rfl T.pP))) (aK (aa (le_str) (ai))) (aK (aa (le_str) (ai))))))))))
theorem yG:aH ["_law_script"] ["_law_script"] (aw qg):=by walk_at "sc"
theorem A0 (T:Txt w.params K mg t):aR P w K mg base 1 "_law_pot" ["_law_script"] L3.pH:=aM T.Cz T.Bf yG L3.Hg L3.Mj (λ_ _ _ _ _ _ _ _=>by walk_at "b1") λ_ _ _ _ _ _ hr hu=>
 ax (aE (Oc (j6 (JW rfl rfl T.mR rfl (aa (ae 0) (ai))) (j6 (le_int) (j6 (le_int) (j6 (le_int) (j6 (le_int) (j6 (le_int) (NW)))))))))
theorem jU:aH ["_law_number", "_law_turn", "_law_one", "_law_two"] ["_law_number", "_law_turn"] (aw qL):=by walk_at "sc"
theorem qK (T:Txt w.params K mg t):aR P w K mg base 1 "_law_mix" ["_law_number", "_law_turn"] L3.i6:=aM T.BY T.BC jU L3.HX L3.Mt (λ_ _ _ _ _ _ _ _=>by walk_at "b2") λ_ _ _ _ _ _ hr hu=>
 ak (aC 2 jU.nd (i8 (le_mul (aJ (aJ (i8 (ae 0) (le_int)) (le_mul (le_int) (ae 1))) (le_int)) (le_int)) (le_int))) (ak (aC 3 jU.nd (i8 (le_mul (ae 2) (ae 2)) (le_int))) (ax (aE (i8 (le_mul (aJ (ae 3) (ae 1)) (le_int)) (le_int)))))
theorem i5:aH ["_law_pot_here", "_law_many", "_law_cell", "_law_digit"] ["_law_pot_here", "_law_many"] (aw ow):=by walk_at "sc"
theorem aD (T:Txt w.params K mg t):aR P w K mg base 2 "_law_take" ["_law_pot_here", "_law_many"] iQ:=aM T.yf T.zP i5 tX u5 (λ_ _ _ _ _ _ _ _=>by walk_at "b2") λ_ _ _ _ _ _ hr hu=>
 ak (kW hu (ae 0) (le_str) (le_int)) (ak (bH (LW.lt (wJ (LW.lt (Dd (lt_eq hu (cH hu (ae 0) (le_str)) (le_int)) (vo (lt_eq hu (cH hu (ae 0) (le_str)) (le_int))))) (pQ (lY (cH hu (ae 0) (le_str)) (aY bc bI rfl T.dZ rfl (aa (cH hu (ae 0) (le_str)) (ai))))))) (ak (aC 2 i5.nd (aY qQ ve rfl T.Kf rfl (aa (av (cH hu (ae 0) (le_str)) (cH hu (ae 0) (le_str))) (ai)))) (ak (kW hu (ae 0) (le_str) (le_int)) (ak (lO hu (ae 0) (le_str) (le_mul (ae 2) (aW Ft MX rfl T.OR rfl (aa (US (ae 2) (le_pow (le_int) (le_int))) (ai))))) (ak (lO hu (ae 0) (le_str) (le_int)) (ax (lO hu (ae 0) (le_str) (ar (qK T) hr rfl (aa (aJ (cH hu (ae 0) (le_str)) (ae 2)) (aa (cH hu (ae 0) (le_str)) (ai)))))))))) (a5)) (ak (bH (LW.lt (wJ (om (cH hu (ae 0) (le_str)) (le_int)) (pQ (lY (cH hu (ae 0) (le_str)) (le_int))))) (ak (kW hu (ae 0) (le_str) (le_int)) (ak (aC 3 i5.nd (i8 (cH hu (ae 0) (le_str)) (ae 1))) (ak (lO hu (ae 0) (le_str) (jM (cH hu (ae 0) (le_str)) (ae 1))) (ax (aE (ae 3)))))) (a5)) (ak (lO hu (ae 0) (le_str) (ar (qK T) hr rfl (aa (cH hu (ae 0) (le_str)) (aa (cH hu (ae 0) (le_str)) (ai))))) (ax (aE (i8 (jM (cH hu (ae 0) (le_str)) (le_int)) (ae 1)))))))
theorem fi:aH ["_law_pot_here", "_law_many", "_law_words", "_law_first", "_law_step"] ["_law_pot_here", "_law_many"] (aw i3):=by walk_at "sc"
theorem lP (T:Txt w.params K mg t):aR P w K mg base 3 "_law_names" ["_law_pot_here", "_law_many"] L3.iB:=aM T.wB T.we fi L3.Bo L3.Fv (λ_ _ _ _ _ _ _ _=>by walk_at "b2") λ_ _ _ _ _ _ hr hu=>
 ak (aC 2 fi.nd (dD (aa (le_str) (aa (le_str) (aa (le_str) (aa (le_str) (aa (le_str) (aa (le_str) (aa (le_str) (aa (le_str) (aa (le_str) (aa (le_str) (aa (le_str) (aa (le_str) (aa (le_str) (aa (le_str) (aa (le_str) (aa (le_str) (ai))))))))))))))))))) (ak (J1 (aK (aa (ar (aD T) hr rfl (aa (ae 0) (aa (le_int) (ai)))) (aa (aJ (le_int) (ar (aD T) hr rfl (aa (ae 0) (aa (le_int) (ai))))) (ai)))) (gf rfl (a9 3 fi.nd (a9 4 fi.nd (eu))))) (ax (aE (bD (fsc:=aw i3) ["_law_pot_here", "_law_many", "_law_words", "_law_first", "_law_step"] ["_law_k", "_law_words", "_law_first", "_law_step"] 1 [2,3,4] rfl rfl (kl rfl T.kf (ae 1)) (λcl C s₀ H₀ ex=>⟨bj 0 (show (["_law_k", "_law_words", "_law_first", "_law_step"]:List Str).Nodup from by decide +kernel),bJ,av (aJ (ae 1) (dD (aa (le_str) (ai)))) (i8 (aJ (ae 2) (le_mul (ae 3) (ae 0))) (le_int))⟩) rfl rfl (by decide +kernel)))))
theorem gi:aH ["_law_top", "_law_bottom", "_law_one", "_law_other"] ["_law_top", "_law_bottom"] (aw kR):=by walk_at "sc"
theorem dM (T:Txt w.params K mg t):aR P w K mg base 1 "_law_lowest" ["_law_top", "_law_bottom"] L3.b9:=aM T.tG T.tu gi L3.BJ L3.D8 (λ_ _ _ _ _ _ _ _=>by walk_at "b2") λ_ _ _ _ _ _ hr hu=>
 ak (vG 2 3 rfl gi.nd (aa (ae 0) (aa (ae 1) (ai)))) (ak (qG XE (om (ae 3) (le_int)) (ax (vG 2 3 rfl gi.nd (aa (ae 3) (aa (i8 (ae 2) (ae 3)) (ai)))))) (ax (aE (aK (aa (jM (ae 0) (ae 2)) (aa (jM (ae 1) (ae 2)) (ai)))))))
theorem ir:aH ["_law_pot_here", "_law_low", "_law_most", "_law_bottom"] ["_law_pot_here", "_law_low", "_law_most"] (aw jf):=by walk_at "sc"
theorem jn (T:Txt w.params K mg t):aR P w K mg base 3 "_law_fraction" ["_law_pot_here", "_law_low", "_law_most"] L3.cS:=aM T.oV T.pk ir L3.sY L3.va (λ_ _ _ _ _ _ _ _=>by walk_at "b3") λ_ _ _ _ _ _ hr hu=>
 ak (aC 3 ir.nd (av (dD (aa (le_int) (aa (le_int) (aa (le_int) (aa (le_int) (aa (le_int) (aa (le_int) (ai)))))))) (ar (aD T) hr rfl (aa (ae 0) (aa (le_int) (ai)))))) (ax (aE (ar (dM T) hr rfl (aa (aJ (le_mul (ae 1) (ae 3)) (ar (aD T) hr rfl (aa (ae 0) (aa (aJ (le_mul (fE (ae 2) (ae 1)) (ae 3)) (le_int)) (ai))))) (aa (ae 3) (ai))))))
theorem cf:aH ["_law_pot_here", "_law_most", "_law_word", "_law_w", "_law_top", "_law_parts", "_law_up", "_law_down", "_law_low"] ["_law_pot_here", "_law_most"] (aw nM):=by walk_at "sc"
theorem xt (T:Txt w.params K mg t):aR P w K mg base 4 "_law_rule" ["_law_pot_here", "_law_most"] iT:=aM T.zH T.xZ cf tM vw (λ_ _ _ _ _ _ _ _=>by walk_at "b2") λ_ _ _ _ _ _ hr hu=>
 ak (aC 2 cf.nd (av (dD (aa (le_str) (aa (le_str) (aa (le_str) (aa (le_str) (aa (le_str) (ai))))))) (ar (aD T) hr rfl (aa (ae 0) (aa (le_int) (ai)))))) (ak (vG 3 4 rfl cf.nd (aa (ar (jn T) hr rfl (aa (ae 0) (aa (le_int) (aa (ae 1) (ai))))) (aa (ar (jn T) hr rfl (aa (ae 0) (aa (le_int) (aa (ae 1) (ai))))) (ai)))) (ak (bH (om (le_mul (av (ae 3) (le_int)) (av (ae 4) (le_int))) (le_mul (av (ae 4) (le_int)) (av (ae 3) (le_int)))) (ax (vG 3 4 rfl cf.nd (aa (ae 4) (aa (ae 3) (ai))))) (a5)) (ak (aC 5 cf.nd (aJ (le_int) (ar (aD T) hr rfl (aa (ae 0) (aa (le_int) (ai)))))) (ak (aC 6 cf.nd (ar (dM T) hr rfl (aa (aJ (le_int) (ar (aD T) hr rfl (aa (ae 0) (aa (le_mul (le_int) (ae 5)) (ai))))) (aa (ae 5) (ai))))) (ak (aC 7 cf.nd (ar (dM T) hr rfl (aa (aJ (le_int) (ar (aD T) hr rfl (aa (ae 0) (aa (ae 5) (ai))))) (aa (aJ (ae 5) (le_int)) (ai))))) (ak (bH (lt_eq hu (ae 2) (le_str)) (ax (aE (aK (aa (ae 2) (aa (ae 3) (ai)))))) (a5)) (ak (bH (lt_eq hu (ae 2) (le_str)) (ax (aE (aK (aa (ae 2) (aa (ae 3) (aa (ae 6) (aa (ae 7) (aa (ae 4) (ai))))))))) (a5)) (ak (bH (lt_eq hu (ae 2) (le_str)) (ax (aE (aK (aa (ae 2) (aa (ae 3) (aa (ar (dM T) hr rfl (aa (aJ (av (ae 6) (le_int)) (av (ae 6) (le_int))) (aa (av (ae 6) (le_int)) (ai)))) (aa (ae 7) (aa (ae 4) (ai))))))))) (a5)) (ak (bH (lt_eq hu (ae 2) (le_str)) (ax (aE (aK (aa (ae 2) (aa (ae 3) (aa (ae 6) (aa (ar (dM T) hr rfl (aa (aJ (le_int) (ar (aD T) hr rfl (aa (ae 0) (aa (ae 5) (ai))))) (aa (ae 5) (ai)))) (aa (ae 4) (ai))))))))) (a5)) (ak (aC 8 cf.nd (ar (aD T) hr rfl (aa (ae 0) (aa (le_int) (ai))))) (ax (aE (aK (aa (ae 2) (aa (ae 3) (aa (ae 6) (aa (ae 8) (aa (aJ (ae 8) (ar (aD T) hr rfl (aa (ae 0) (aa (le_int) (ai))))) (aa (ae 4) (ai))))))))))))))))))))
theorem dq:aH ["_law_pot_here", "_law_names_here", "_law_rows", "_law_name", "_law_pace", "_law_room", "_law_mark"] ["_law_pot_here", "_law_names_here"] (aw nP):=by walk_at "sc"
theorem yR (T:Txt w.params K mg t):aR P w K mg base 3 "_law_ways" ["_law_pot_here", "_law_names_here"] L3.lR:=aM T.yJ T.zV dq L3.EN L3.GG (λ_ _ _ _ _ _ _ _=>by walk_at "b2") λ_ _ _ _ _ _ hr hu=>
 ak (aC 2 dq.nd (gq (ai))) (ak (bN XE rfl (br (ae 1)) (cG 3 dq.nd) (ak (aC 4 dq.nd (av (dD (aa (le_int) (aa (le_int) (aa (le_int) (aa (le_int) (aa (aJ (le_int) (ar (aD T) hr rfl (aa (ae 0) (aa (le_int) (ai))))) (ai))))))) (ar (aD T) hr rfl (aa (ae 0) (aa (le_int) (ai)))))) (ak (aC 5 dq.nd (av (dD (aa (aJ (le_int) (ar (aD T) hr rfl (aa (ae 0) (aa (le_int) (ai))))) (aa (aJ (le_int) (ar (aD T) hr rfl (aa (ae 0) (aa (le_int) (ai))))) (aa (aJ (le_int) (ar (aD T) hr rfl (aa (ae 0) (aa (le_int) (ai))))) (ai))))) (ar (aD T) hr rfl (aa (ae 0) (aa (le_int) (ai)))))) (ak (aC 6 dq.nd (av (dD (aa (cD) (aa (ar (aD T) hr rfl (aa (ae 0) (aa (aJ (ae 5) (le_int)) (ai)))) (aa (ar (aD T) hr rfl (aa (ae 0) (aa (le_int) (ai)))) (ai))))) (ar (aD T) hr rfl (aa (ae 0) (aa (le_int) (ai)))))) (ax (c7 (le_app (ae 2) (aK (aa (ae 3) (aa (ae 4) (aa (ae 5) (aa (ae 6) (aa (av (dD (aa (le_str) (aa (le_str) (ai)))) (ar (aD T) hr rfl (aa (ae 0) (aa (le_int) (ai))))) (ai)))))))))))))) (ax (aE (aW aL a6 rfl T.bh rfl (aa (ae 2) (ai))))))
theorem da:aH ["_law_pot_here", "_law_name", "_law_ways_here", "_law_most", "_law_road", "_law_beat", "_law_many"] ["_law_pot_here", "_law_name", "_law_ways_here", "_law_most"] (aw h9):=by walk_at "sc"
theorem tm (T:Txt w.params K mg t):aR P w K mg base 5 "_law_sender" ["_law_pot_here", "_law_name", "_law_ways_here", "_law_most"] gh:=aM T.tT T.tI da oW sU (λ_ _ _ _ _ _ _ _=>by walk_at "b4") λ_ _ _ _ _ _ hr hu=>
 ak (aC 4 da.nd (aW aL a6 rfl T.bh rfl (aa (bD (fsc:=aw h9) ["_law_pot_here", "_law_name", "_law_ways_here", "_law_most", "_law_road", "_law_beat", "_law_many"] ["_law_way", "_law_pot_here"] 1 [0] rfl rfl (br (ae 2)) (λcl C s₀ H₀ ex=>⟨bj 0 (show (["_law_way", "_law_pot_here"]:List Str).Nodup from by decide +kernel),fg (lt_eq hu (ar (aD T) hr rfl (aa (ae 1) (aa (le_int) (ai)))) (le_int)),av (ae 0) (le_int)⟩) rfl rfl (by decide +kernel)) (ai)))) (ak (bH (lt_eq hu (aY bc bI rfl T.dZ rfl (aa (ae 4) (ai))) (le_int)) (ax (aC 4 da.nd (aK (aa (av (av (ae 2) (ar (aD T) hr rfl (aa (ae 0) (aa (aY bc bI rfl T.dZ rfl (aa (ae 2) (ai))) (ai))))) (le_int)) (ai))))) (a5)) (ak (aC 5 da.nd (av (dD (aa (le_int) (aa (le_int) (aa (le_int) (aa (le_int) (aa (aJ (le_int) (ar (aD T) hr rfl (aa (ae 0) (aa (le_int) (ai))))) (ai))))))) (ar (aD T) hr rfl (aa (ae 0) (aa (le_int) (ai)))))) (ak (aC 6 da.nd (av (dD (aa (cD) (aa (cD) (aa (ar (aD T) hr rfl (aa (ae 0) (aa (le_int) (ai)))) (aa (ar (aD T) hr rfl (aa (ae 0) (aa (le_int) (ai)))) (ai)))))) (ar (aD T) hr rfl (aa (ae 0) (aa (le_int) (ai)))))) (ax (aE (aK (aa (ae 1) (aa (ae 4) (aa (ae 5) (aa (av (dD (aa (le_int) (aa (le_int) (aa (ar (aD T) hr rfl (aa (ae 0) (aa (le_int) (ai)))) (aa (ar (aD T) hr rfl (aa (ae 0) (aa (le_int) (ai)))) (ai)))))) (ar (aD T) hr rfl (aa (ae 0) (aa (le_int) (ai))))) (aa (ae 6) (aa (ar (xt T) hr rfl (aa (ae 0) (aa (ae 3) (ai)))) (ai)))))))))))))
theorem eN:aH ["_law_pot_here", "_law_grid", "_law_ways_here", "_law_most", "_law_names_here"] ["_law_pot_here"] (aw jH):=by walk_at "sc"
theorem zT (T:Txt w.params K mg t):aR P w K mg base 6 "_law_plan" ["_law_pot_here"] L3.mx:=aM T.yk T.xf eN L3.Ee L3.JP (λ_ _ _ _ _ _ _ _=>by walk_at "b1") λ_ _ _ _ _ _ hr hu=>
 ak (aC 1 eN.nd (av (dD (aa (le_int) (aa (le_int) (aa (le_int) (aa (aJ (le_int) (ar (aD T) hr rfl (aa (ae 0) (aa (le_int) (ai))))) (ai)))))) (ar (aD T) hr rfl (aa (ae 0) (aa (le_int) (ai)))))) (ak (aC 2 eN.nd (ar (yR T) hr rfl (aa (ae 0) (aa (ar (lP T) hr rfl (aa (ae 0) (aa (av (dD (aa (le_int) (aa (le_int) (aa (le_int) (aa (le_int) (aa (le_int) (aa (le_int) (ai)))))))) (ar (aD T) hr rfl (aa (ae 0) (aa (le_int) (ai))))) (ai)))) (ai))))) (ak (aC 3 eN.nd (av (dD (aa (le_int) (aa (le_int) (aa (le_int) (aa (le_int) (aa (le_int) (ai))))))) (ar (aD T) hr rfl (aa (ae 0) (aa (le_int) (ai)))))) (ak (aC 4 eN.nd (ar (lP T) hr rfl (aa (ae 0) (aa (av (dD (aa (le_int) (aa (le_int) (aa (le_int) (aa (le_int) (aa (le_int) (aa (le_int) (aa (le_int) (aa (le_int) (ai)))))))))) (ar (aD T) hr rfl (aa (ae 0) (aa (le_int) (ai))))) (ai))))) (ax (aE (aK (aa (ae 1) (aa (ae 2) (aa (aW aL a6 rfl T.bh rfl (aa (bD (fsc:=aw jH) ["_law_pot_here", "_law_grid", "_law_ways_here", "_law_most", "_law_names_here"] ["_law_name", "_law_pot_here", "_law_ways_here", "_law_most"] 1 [0,2,3] rfl rfl (br (G9 rfl T.ro rfl (aa (ae 4) (ai)))) (λcl C s₀ H₀ ex=>⟨bj 0 (show (["_law_name", "_law_pot_here", "_law_ways_here", "_law_most"]:List Str).Nodup from by decide +kernel),bJ,ar (tm T) hr rfl (aa (ae 1) (aa (ae 0) (aa (ae 2) (aa (ae 3) (ai)))))⟩) rfl rfl (by decide +kernel)) (ai))) (ai))))))))))
theorem l6:aH ["_law_found", "_law_due"] ["_law_found", "_law_due"] (aw j3):=by walk_at "sc"
theorem nT {Pm:zeB}(T:Txt Pm K mg t):Binds K t.gJ ["_law_found", "_law_due"] []:=T.dg.binds λ_ _ _ _ _ _ _ _=>by walk_at "b2"
theorem kF (T:Txt w.params K mg t):∀ n:Nat,jo P w K mg base CX0 (1+n) t.gF t.gJ ["_law_found", "_law_due"] (lift K (dj n))
 | 0=>Vt T.dg l6
 | n+1=>by
  refine IM (k:=1+n) (T:=nA (dj n)) T.dg l6 (oS (n+1)) (λcdv A outer s H E hr=>?_) (qi n)
  have hu:=hr.units
  exact ak (bH (lC (aY Fm (Gb _) rfl T.bS rfl (aa (ae 1) (aa (aK (aa (Oq rfl T.bh rfl) (aa (Oq rfl T.mR rfl) (ai)))) (ai))))) (ak (bH (LW.lt (Dd (zY hu (jE rfl T.bS rfl (ae 0) rfl T.bh rfl) (jE rfl T.bS rfl (ae 1) rfl T.bh rfl)) (vo (zY hu (jE rfl T.bS rfl (ae 0) rfl T.mR rfl) (jE rfl T.bS rfl (ae 1) rfl T.mR rfl))))) (ax (aE (Dt))) (a5)) (ax (aE (wx (le_eq hu (aY bc bI rfl T.dZ rfl (aa (ae 0) (ai))) (aY bc bI rfl T.dZ rfl (aa (ae 1) (ai)))) (uY (aY (FP rfl) LM rfl T.Uj rfl (aa (bD (fsc:=aw j3) ["_law_found", "_law_due"] ["_law_one", "_law_other"] 2 [] rfl rfl (fL rfl T.lN (aa (ae 0) (aa (ae 1) (ai)))) (λcl C s₀ H₀ ex=>⟨gZ rfl (bF 0 (show (["_law_one", "_law_other"]:List Str).Nodup from by decide +kernel) (bF 1 (show (["_law_one", "_law_other"]:List Str).Nodup from by decide +kernel) (fk))),bJ,CW (kF T n) (hr.mono (by omega)) rfl T.nG T.dg.kp (nT T) (aa (ae 0) (aa (ae 1) (ai)))⟩) rfl rfl (by decide +kernel)) (ai)))))))) (a5)) (ak (bH (oq (ae 1) (cD)) (ax (aE (TL (ae 0) (cD)))) (a5)) (ak (bH (lC (jE rfl T.bS rfl (ae 1) rfl T.Ou rfl)) (ax (aE (wx (jE rfl T.bS rfl (ae 0) rfl T.Ou rfl) (uY (le_eq hu (ae 0) (ae 1)))))) (a5)) (ax (aE (wx (jE rfl T.bS rfl (ae 0) rfl T.OR rfl) (wx (RB (jE rfl T.bS rfl (ae 0) rfl T.SK rfl)) (uY (le_eq hu (ae 0) (ae 1)))))))))
theorem dg (T:Txt w.params K mg t):jo P w K mg base CX0 7 t.gF t.gJ ["_law_found", "_law_due"] (lift K my):=kF T 6
theorem oo (T:Txt w.params K mg t):aR P w K mg base 7 "_law_same" ["_law_found", "_law_due"] my:=⟨_,_,dg T,T.nG,T.dg.kp,nT T⟩
theorem bA:aH ["_law_state", "_law_by", "_law_ways_here", "_law_coming", "_law_standing", "_law_last", "_law_told", "_law_letters", "_law_senders", "_law_row", "_law_resent", "_law_lost"] ["_law_state", "_law_by"] (aw fK):=by walk_at "sc"
theorem wa (T:Txt w.params K mg t):aR P w K mg base 1 "_law_moved" ["_law_state", "_law_by"] fh:=aM T.u4 T.wL bA sF tY (λ_ _ _ _ _ _ _ _=>by walk_at "b2") λ_ _ _ _ _ _ hr hu=>
 ak (aC 2 bA.nd (gq (ai))) (ak (bN XE rfl (br (av (ae 0) (le_int))) (gf rfl (a9 3 bA.nd (a9 4 bA.nd (a9 5 bA.nd (eu))))) (ak (aC 6 bA.nd (gq (ai))) (ak (bN XE rfl (br (aK (aa (ae 3) (aa (ae 4) (ai))))) (cG 7 bA.nd) (ax (c7 (le_app (ae 6) (aW aL a6 rfl T.bh rfl (aa (bD (fsc:=aw fK) ["_law_state", "_law_by", "_law_ways_here", "_law_coming", "_law_standing", "_law_last", "_law_told", "_law_letters", "_law_senders", "_law_row", "_law_resent", "_law_lost"] ["_law_letter", "_law_by"] 1 [1] rfl rfl (br (ae 7)) (λcl C s₀ H₀ ex=>⟨bj 0 (show (["_law_letter", "_law_by"]:List Str).Nodup from by decide +kernel),bJ,aJ (aK (aa (av (ae 0) (le_int)) (aa (aJ (av (ae 0) (le_int)) (ae 1)) (ai)))) (jm (ae 0) (dE (le_int)) (ji))⟩) rfl rfl (by decide +kernel)) (ai))))))) (ax (c7 (le_app (ae 2) (aK (aa (av (ae 6) (le_int)) (aa (av (ae 6) (le_int)) (aa (ae 5) (ai))))))))))) (ak (aC 8 bA.nd (gq (ai))) (ak (bN XE rfl (br (av (ae 0) (le_int))) (cG 9 bA.nd) (ak (J1 (bD (fsc:=aw fK) ["_law_state", "_law_by", "_law_ways_here", "_law_coming", "_law_standing", "_law_last", "_law_told", "_law_letters", "_law_senders", "_law_row", "_law_resent", "_law_lost"] ["_law_numbers", "_law_by"] 1 [1] rfl rfl (br (jm (ae 9) (dE (le_int)) (dE (le_int)))) (λcl C s₀ H₀ ex=>⟨bj 0 (show (["_law_numbers", "_law_by"]:List Str).Nodup from by decide +kernel),bJ,aW aL a6 rfl T.bh rfl (aa (bD (fsc:={ kind:=.function,names:=[(".0", .local),("_law_numbers", .local),("tuple", .globalImplicit),("_law_by", .cell)],isGenerator:=false,isCoroutine:=false }) ["_law_numbers", "_law_by"] ["_law_number", "_law_by"] 1 [1] rfl rfl (br (ae 0)) (λcl C s₀ H₀ ex=>⟨bj 0 (show (["_law_number", "_law_by"]:List Str).Nodup from by decide +kernel),bJ,aJ (ae 0) (ae 1)⟩) rfl rfl (by decide +kernel)) (ai))⟩) rfl rfl (by decide +kernel)) (Rv rfl (a9 10 bA.nd (a9 11 bA.nd (eu))))) (ax (c7 (le_app (ae 8) (aJ (aJ (jm (ae 9) (ji) (dE (le_int))) (aK (aa (aJ (av (ae 9) (le_int)) (ae 1)) (aa (av (ae 9) (le_int)) (aa (ae 10) (aa (ae 11) (ai))))))) (jm (ae 9) (dE (le_int)) (ji)))))))) (ax (aE (aK (aa (aW aL a6 rfl T.bh rfl (aa (ae 2) (ai))) (aa (aW aL a6 rfl T.bh rfl (aa (ae 8) (ai))) (ai)))))))))
theorem a8:aH ["_law_plan_here", "_law_state", "_law_found", "_law_way", "_law_coming", "_law_standing", "_law_last", "_law_place", "_law_letter", "_law_row", "_law_number"] ["_law_plan_here", "_law_state"] (aw kU):=by walk_at "sc"
theorem tE (T:Txt w.params K mg t):aR P w K mg base 1 "_law_places" ["_law_plan_here", "_law_state"] eS:=aM T.tP T.tS a8 o6 sL (λ_ _ _ _ _ _ _ _=>by walk_at "b2") λ_ _ _ _ _ _ hr hu=>
 ak (aC 2 a8.nd (Lp)) (ak (bN XE rfl (fL rfl T.lN (aa (av (ae 0) (le_int)) (aa (av (ae 1) (le_int)) (ai)))) (RS rfl (y4 (cG 3 a8.nd) (y4 (gf rfl (a9 4 a8.nd (a9 5 a8.nd (a9 6 a8.nd (eu))))) (Mz)))) (ak (bN XE rfl (pE rfl T.gY (aa (ae 4) (ai))) (gf rfl (a9 7 a8.nd (a9 8 a8.nd (eu)))) (ax (wZ hu (ae 2) (ae 8) (ji) (dE (le_int)) (aK (aa (le_str) (aa (av (ae 3) (le_int)) (aa (ae 7) (ai)))))))) (ax (bN XE rfl (pE rfl T.gY (aa (ae 5) (ai))) (gf rfl (a9 7 a8.nd (a9 8 a8.nd (eu)))) (ax (wZ hu (ae 2) (ae 8) (ji) (dE (le_int)) (aK (aa (le_str) (aa (av (ae 3) (le_int)) (aa (ae 7) (ai))))))))))) (ak (bN XE rfl (br (av (ae 1) (le_int))) (cG 9 a8.nd) (ak (bN XE rfl (br (av (ae 9) (le_int))) (cG 10 a8.nd) (ax (xl hu (ae 2) (aa (av (ae 9) (le_int)) (aa (ae 10) (ai))) (aK (aa (le_str) (ai)))))) (ax (bN XE rfl (br (av (ae 9) (le_int))) (cG 10 a8.nd) (ax (xl hu (ae 2) (aa (av (ae 9) (le_int)) (aa (ae 10) (ai))) (aK (aa (le_str) (ai))))))))) (ax (aE (ae 2)))))
theorem fq:aH ["_law_script", "_law_pot_here", "_law_plan_here", "_law_many", "_law_by", "_law_more", "_law_state", "_law_places_here", "_law_row", "_law_number", "_law_due"] ["_law_script"] (aw Oz):=by walk_at "sc"
theorem C3 (T:Txt w.params K mg t):jo P w K mg base CX0 9 t.I0 t.OQ ["_law_script"] (lift K ip):=by
 refine IM (T:=JR) T.C3 fq uZ (λcdv A outer s H E hr=>?_) RF
 have hu:=hr.units
 exact ak (aC 1 fq.nd (ar (A0 T) hr rfl (aa (ae 0) (ai)))) (ak (aC 2 fq.nd (ar (zT T) hr rfl (aa (ae 1) (ai)))) (ak (aC 3 fq.nd (ar (aD T) hr rfl (aa (ae 1) (aa (le_int) (ai))))) (ak (aC 4 fq.nd (av (dD (aa (le_int) (aa (ar (aD T) hr rfl (aa (ae 1) (aa (le_int) (ai)))) (ai)))) (ar (aD T) hr rfl (aa (ae 1) (aa (le_int) (ai)))))) (ak (bN XE rfl (kl rfl T.kf (le_int)) (cG 5 fq.nd) (ak (aC 6 fq.nd (ar (wa T) hr rfl (aa (av (ar (Up T) hr rfl (aa (ae 2) (aa (aJ (ae 3) (ae 5)) (ai)))) (le_int)) (aa (ae 4) (ai))))) (ak (aC 7 fq.nd (ar (tE T) hr rfl (aa (ae 2) (aa (ae 6) (ai))))) (ax (bN XE rfl (br (av (ae 6) (le_int))) (cG 8 fq.nd) (ak (bN XE rfl (FO rfl T.kf (aY (mZ rfl) qk rfl T.zJ rfl (aa (ae 4) (aa (fE (av (ae 8) (le_int)) (le_int)) (ai)))) (av (ae 8) (le_int))) (cG 9 fq.nd) (ak (aC 10 fq.nd (Ew hu (ae 7) (aa (av (ae 8) (le_int)) (aa (ae 9) (ai))) (aK (aa (le_str) (ai))))) (ax (bH (GO (lC (ar (oo T) hr rfl (aa (ar (qe T) hr rfl (aa (ae 2) (aa (ae 6) (aa (av (ae 8) (le_int)) (aa (ae 9) (ai)))))) (aa (ae 10) (ai)))))) (ax (aE (Dt))) (a5))))) (ax (bN XE rfl (br (aK (aa (av (ae 8) (le_int)) (aa (aJ (av (ae 8) (le_int)) (le_int)) (aa (aJ (av (ae 8) (le_int)) (le_pow (le_int) (le_int))) (ai)))))) (cG 9 fq.nd) (ax (bH (GO (lC (ar (oo T) hr rfl (aa (ar (qe T) hr rfl (aa (ae 2) (aa (ae 6) (aa (av (ae 8) (le_int)) (aa (ae 9) (ai)))))) (aa (aK (aa (le_str) (ai))) (ai)))))) (ax (aE (Dt))) (a5))))))))))) (ax (aE (Dt)))))))
end
theorem all_mk {l:zcp}{w:X2}{K:W7}{mg:Str->Option Xb}{fa:Addr}{t:Adr}(hfa:mg "law" = some (.ref fa))(T:Txt w.params K mg t):∃ fd:Xy,(∀ (s:Xe) (v:Xb),zdA s fd ⟨[v],[]⟩ [("_law_script", v)])/\∀ base:Heap,K.In base->base.Ns YE mg->jo l.prog w K mg base CX0 9 fa fd ["_law_script"] (lift K ip):=by
 have e:=hfa.symm.trans T.Tz
 injection e with e
 injection e with e
 subst e
 obtain ⟨oc,od,kV,dc,pm,an,cd,ct,sl,ed,_,_⟩:=T.C3.ex
 exact ⟨_,λs v=>.of_eq (by rw[ed];rfl),λbase _ _=>C3 T⟩
end Kk
namespace PySem.W.Fast
def tw17133731560482335406:=0
def tw4918920584853848384:=0
def tw17148705104652269920:=0
def tw1232941438137952672:=0
def tw450570716302921152:=0
def tw5060210545382665728:=0
def tw5511039987711010400:=0
def tw14083022367050775168:=0
def tw18417826799430230720:=0
def tw83215616351569632:=0
def tw748568474458739552:=0
def tw18034985503862765504:=0
def tw428436927607890977:=0
def tw2210674165315213377:=0
def tw12352319034236508353:=0
def tw375229747256943073:=0
def tw12050529499176705633:=0
def tw738898313251801410:=0
def tw9320644345412883810:=0
def tw8006636640489995746:=0
def tw6150861461491189250:=0
def tw12042310310625659842:=0
def tw2559065506700504451:=0
def tw3582956965292906115:=0
def tw5569689352447146627:=0
def tw12692938289118959587:=0
def tw7643188258424375332:=0
def tw344358228495864004:=0
def tw2770060572913445252:=0
def tw12054750851576242820:=0
def tw13988699175172907844:=0
def tw6128796563354622820:=0
def tw1344627804385972325:=0
def tw17481273822649096357:=0
def tw12680221566882981349:=0
def tw5777764314731806245:=0
def tw15812118040809024101:=0
def tw4722204385741678373:=0
def tw14144016942888744134:=0
def tw14583529471951824102:=0
def tw393173257547014:=0
def tw2103475875982504262:=0
def tw8987928929550949798:=0
def tw8758303420500924006:=0
def tw15989933131580248806:=0
def tw11535602755393241095:=0
def tw5800510340866679912:=0
def tw9329161922742030664:=0
def tw3500157518260640296:=0
def tw828404117281110888:=0
def tw14949542529782220105:=0
def tw6922661181636119562:=0
def tw8255086029317659690:=0
def tw16077091923303759146:=0
def tw11853775093933158890:=0
def tw17771983217947798282:=0
def tw7837386046030005162:=0
def tw17919127855471679563:=0
def tw12235767154427855019:=0
def tw6885220040075625003:=0
def tw8194529095531690763:=0
def tw15721169147755661420:=0
def tw598664954929672524:=0
def tw8108462236806117389:=0
def tw888492531076733229:=0
def tw12263699467547731789:=0
def tw2236174237238552782:=0
def tw18332440162585116110:=0
def tw3675747865458422350:=0
def tw740618956722800270:=0
def tw4841419969449907950:=0
def tw15004849975333712911:=0
def tw749180128445727887:=0
def tw5287731146962012879:=0
def tw16648615381891127087:=0
def tw10294854826881291247:=0
def tw14090368425605500304:=0
def tw8697191616956147280:=0
def tw16547300715464675441:=0
def tw3807713086627596785:=0
def tw10488154803214195217:=0
def tw11935121236967303697:=0
def tw172472576277881425:=0
def tw15293507914353439633:=0
def tw14544926096139149554:=0
def tw6071890971303055890:=0
def tw11847404175568268882:=0
def tw12322990718465589906:=0
def tw14694658304053516114:=0
def tw7773685489991890995:=0
def tw13796743496864637075:=0
def tw15799168893144742035:=0
def tw2940529865851857139:=0
def tw13520230024175010067:=0
def tw5031149316258944371:=0
def tw13082802725925727667:=0
def tw14484888613964161875:=0
def tw16153769113936266292:=0
def tw13429463854333939828:=0
def tw6134910927449311764:=0
def tw4665330388913726100:=0
def tw8389193426720814325:=0
def tw9117298529734367765:=0
def tw13664680501424994901:=0
def tw3772728179049159349:=0
def tw10071941990697131957:=0
def tw12508986759629179158:=0
def tw10844538313372349238:=0
def tw5997840106644876214:=0
def tw1615402910605937751:=0
def tw8069295818885312695:=0
def tw14147152062360284663:=0
def tw13052581500142334136:=0
def tw11080930272220295512:=0
def tw1046531151989428760:=0
def tw7741807691089367736:=0
def tw16933319549171577209:=0
def tw5863296878251230073:=0
def tw11044240190518085754:=0
def tw14960360239897817466:=0
def tw2923655237027866490:=0
def tw4847126437686818778:=0
def tw10783621795675668507:=0
def tw5243626773111575675:=0
def tw17347228976862893211:=0
def tw17302916511915423003:=0
def tw12910142341239864827:=0
def tw165895509080625851:=0
def tw18269321580917883292:=0
def tw3623897044021055196:=0
def tw18387314306250356572:=0
def tw1487937496307595100:=0
def tw2847779277593039804:=0
def tw6486284122442850493:=0
def tw1450298595067630077:=0
def tw10265061363240563453:=0
def tw13920450293598459805:=0
def tw1444458237384579997:=0
def tw6702632997435543870:=0
def tw13710767050435092862:=0
def tw10832654574738342366:=0
def tw1983764045024568830:=0
def tw11941807772997912094:=0
def tw7266538536740490814:=0
def tw12902955737090845919:=0
def tw8714806098621250943:=0
def tw9108276198645610047:=0
def tw9652020283217799743:=0
def tw15750210794041175679:=0
def tw13834052433080899295:=0
def tw9233052575752302335:=0
def tw8616551548492054271:=0
def tw7825291348559819647:=0
def tw301289584324703135:=0
def tw10044208382646764543:=0
end PySem.W.Fast
open PySem PySem.W PyProof.Rows L2 L3
set_option maxRecDepth 100000 in
set_option maxHeartbeats 0 in
theorem PySem.Challenge.cw_swellways_k38_places_of_letters_holds : PySem.Challenge.rw_swellways_k38_places_of_letters.Holds := by
 w_on;o_law;k_head;(case hw=>w_witness2)
 k_fill
 refine L3.U6 (l:=PySem.Challenge.rw_swellways_k38_places_of_letters) (k:=9) (sp:=Kk.ip) (x := "_law_script") rfl rfl ⟨rfl,by decide,by decide⟩ (λw h Y=>PySem.W.kIn_of Y) Kk.nq ?F
 case F=>
  intro w mg fa h KX G hmg
  refine' Kk.all_mk (t:=⟨_,_,_,_,_,_,_,_,_,_,_,_,_,_,_,_,_,_,_,_,_,_,_,_,_,_,_,_,_,_,_,_,_,_,_,_,_,_,_,_,_,_,_,_,_,_,_,_,_,_,_,_,_,_,_,_,_,_,_,_,_,_,_,_,_,_,_,_,_,_,_,_,_,_,_,_,_,_,_,_,_,_,_,_,_,_,_,_,_,_,_,_,_,_,_,_,_,_,_,_,_,_,_,_,_,_,_,_⟩) hmg ⟨Yi KX G ?_,aS ?_ ?_ ?_,Yi KX G ?_,aS ?_ ?_ ?_,Yi KX G ?_,aS ?_ ?_ ?_,Yi KX G ?_,aS ?_ ?_ ?_,Yi KX G ?_,aS ?_ ?_ ?_,Yi KX G ?_,aS ?_ ?_ ?_,Yi KX G ?_,aS ?_ ?_ ?_,Yi KX G ?_,aS ?_ ?_ ?_,Yi KX G ?_,aS ?_ ?_ ?_,Yi KX G ?_,aS ?_ ?_ ?_,Yi KX G ?_,aS ?_ ?_ ?_,Yi KX G ?_,aS ?_ ?_ ?_,Yi KX G ?_,aS ?_ ?_ ?_,Yi KX G ?_,aS ?_ ?_ ?_,Yi KX G ?_,aS ?_ ?_ ?_,Yi KX G ?_,aS ?_ ?_ ?_,Yi KX G ?_,aS ?_ ?_ ?_,Yi KX G ?_,aS ?_ ?_ ?_,Yi KX G ?_,aS ?_ ?_ ?_,Yi KX G ?_,aS ?_ ?_ ?_,Yi KX G ?_,aS ?_ ?_ ?_,Yi KX G ?_,aS ?_ ?_ ?_,Yi KX G ?_,aS ?_ ?_ ?_,Yi KX G ?_,aS ?_ ?_ ?_,Yi KX G ?_,aS ?_ ?_ ?_,Yi KX G ?_,aS ?_ ?_ ?_,Yi KX G ?_,aS ?_ ?_ ?_,Yi KX G ?_,aS ?_ ?_ ?_,Yi KX G ?_,aS ?_ ?_ ?_,Yi KX G ?_,aS ?_ ?_ ?_,Yi KX G ?_,aS ?_ ?_ ?_,Yi KX G ?_,aS ?_ ?_ ?_,Yi KX G ?_,aS ?_ ?_ ?_,Yi KX G ?_,aS ?_ ?_ ?_,Yi KX G ?_,aS ?_ ?_ ?_,Yi KX G ?_,aS ?_ ?_ ?_,Yi KX G ?_,aS ?_ ?_ ?_,Yi KX G ?_,aS ?_ ?_ ?_,Yi KX G ?_,aS ?_ ?_ ?_,Yi KX G ?_,aS ?_ ?_ ?_,Yi KX G ?_,aS ?_ ?_ ?_,Yi KX G ?_,aS ?_ ?_ ?_,Yi KX G ?_,aS ?_ ?_ ?_,Yi KX G ?_,aS ?_ ?_ ?_,Yi KX G ?_,aS ?_ ?_ ?_,Yi KX G ?_,aS ?_ ?_ ?_,Yi KX G ?_,aS ?_ ?_ ?_,Yi KX G ?_,aS ?_ ?_ ?_,Yi KX G ?_,aS ?_ ?_ ?_,Yi KX G ?_,aS ?_ ?_ ?_,Yi KX G ?_,aS ?_ ?_ ?_,Yi KX G ?_,aS ?_ ?_ ?_,Yi KX G ?_,aS ?_ ?_ ?_,Yi KX G ?_,aS ?_ ?_ ?_,Yx KX G ?_,Yx KX G ?_,Yx KX G ?_,Yx KX G ?_,Yx KX G ?_,Yx KX G ?_,Yx KX G ?_,Yx KX G ?_,Yx KX G ?_,Yx KX G ?_,Yx KX G ?_,Yx KX G ?_,Yx KX G ?_,Yx KX G ?_,Yx KX G ?_,Yx KX G ?_,Yx KX G ?_,bz KX G ?_,bz KX G ?_,bz KX G ?_,bz KX G ?_,bz KX G ?_,bz KX G ?_,bz KX G ?_,bz KX G ?_,Bt (its:=#[.int 1 _,.int 2 _]) (xs:=[V.int 1,V.int 2]) KX G ?_ ?_ ?_ ?_ ?_ (show 2<=sizeLine by decide) (.cons ⟨_,rfl⟩ (.cons ⟨_,rfl⟩ (.nil))) (λ_=>.cons (.int _) (.cons (.int _) (.nil))),bz KX G ?_,bz KX G ?_,bz KX G ?_,bz KX G ?_,bz KX G ?_,bz KX G ?_,bz KX G ?_,bz KX G ?_,bz KX G ?_,bz KX G ?_,Bt (its:=#[.int 0 _,.int 1 _]) (xs:=[V.int 0,V.int 1]) KX G ?_ ?_ ?_ ?_ ?_ (show 2<=sizeLine by decide) (.cons ⟨_,rfl⟩ (.cons ⟨_,rfl⟩ (.nil))) (λ_=>.cons (.int _) (.cons (.int _) (.nil))),bz KX G ?_,Bt (its:=#[.int 1 _,.int 1 _]) (xs:=[V.int 1,V.int 1]) KX G ?_ ?_ ?_ ?_ ?_ (show 2<=sizeLine by decide) (.cons ⟨_,rfl⟩ (.cons ⟨_,rfl⟩ (.nil))) (λ_=>.cons (.int _) (.cons (.int _) (.nil))),bz KX G ?_,bz KX G ?_,bz KX G ?_,bz KX G ?_,bz KX G ?_,bz KX G ?_,bz KX G ?_,bz KX G ?_,bz KX G ?_,bz KX G ?_,bz KX G ?_,bz KX G ?_,bz KX G ?_⟩
  all_goals try first | k_is | rfl
