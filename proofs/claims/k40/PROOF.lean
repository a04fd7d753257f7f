import PyProof.Rows.All
import Wide.All
import OpenK.AllK
import Wide.FinOn
import Lean
import PyProof.EqAt
import PyProof.EqKinds
import PyProof.TupleCall
import PyProof.P3Eq
import PyProof.NeKinds
import PyProof.NeData
import PyProof.ZipIter
import PyProof.EnumMake
import PyProof.EnumFor
import OpenK.KTop
import PyProof.IsRules
import PyProof.AttrMissHeap
import PyProof.DictUpdate
import KE.KDictOf
import PyProof.Rows.SortStr
import PyProof.FString5
import PyProof.StrOps
import PyProof.ListRange
import PyProof.TupleOfGen
import PyProof.Rows.SumAny
import PyProof.Rows.CallKwBuiltin
import PyProof.StrLoop
import PyProof.StrWalks
import PyProof.StrOps2
import PyProof.SliceStr2
import PyProof.StrBlockI
import PyProof.StrLaws
import PyProof.StrBlock
import PyProof.StrBlockL
import PyProof.StrCalls2
import KE.KStrOpen
import KE.KDictList
import PyProof.DictValues
import PyProof.DictTruth
import PySem.Challenge.RW_swellways_k40_whole_places_by_stories
set_option Elab.async false
set_option linter.all false
set_option maxRecDepth 100000
set_option maxHeartbeats 4000000
def zzS (t:String):Lean.MacroM (Lean.TSyntax `tactic):=do
 let a←(t.splitOn " ").toArray.mapM fun s=>if s.startsWith "↓" then `(Lean.Parser.Tactic.simpLemma| ↓ $(Lean.mkIdent (s.drop 1).toString.toName):term) else `(Lean.Parser.Tactic.simpLemma| $(Lean.mkIdent s.toName):term)
 `(tactic| try simp only [$a,*])
open PySem.Str renaming ofString → OF
open PySem.W renaming Frag → Wa, mg_of → Xq, mg_none_of → Ya, fnOf → Zd, keepIn → ZJ, methodObj → zaG, cellsFrom_some → zbi, OpenLaw → zbx, codeIn → zbO, plainGet → zc8, instObj → zds, WalkO → zdU, mg_of → zdW, nsIn → zd4
open PySem renaming wpAny_bind → Wb, Value → We, Shared → Wh, wpAny_pure → Wn, starEach → Ww, FuncData → WH, wpAny → WJ, model → WM, Expr → WR, Program → WX, World → Xb, foldedSetIterable → Xf, wpAny_field → Xg, wpAny_setField_rec → Xk, Around → Xn, wpAny_callSpecial?_slot → Xo, wpAny_newObj_type → Xp, wpAny_mono → Xu, eval → Xw, wpAny_seqItems → Xy, backTo → XA, mem_of_lookup → XD, mainGlobals → XT, wpAny_call_entry → XW, assignEach → XZ, IsPair → X1, bootBuiltins → Yi, wpAny_passesOwn → Yx, compareOp → Yy, wpAny_truthy_bool → YA, IsZip → YB, behindInMarks → YE, plainId_quiet → YH, swapsWith → YJ, binaryOp → YK, keywordEach → YN, wpAny_rule → YO, Keyword → YS, wpAny_holding → YV, attributeBase → YW, wpAny_pyIter_list → Y0, codeAny → Y1, sysModules → Y4, wpAny_updateSeq_pair → Y5, wpAny_letGo → Y6, wpAny_tryCatch → Y9, wpAny_updateSeq → Zq, pyNext → Zs, wpAny_Call_Name_kw → Zu, sliceBounds → ZA, Builtin → ZP, argBest → ZR, call_meets → Z0, backToKw → Z4, NameKind → Z5, intItems → zac, wpAny_execs_nil → zae, letOwnedTupleGo → zaf, wpAny_loadPart' → zam, getItem → zap, rawInt → zav, Paired → zaM, swapsWithSole → zaN, swappedStores → zaO, wpAny_standAt → zaP, intBits_le_64 → zaQ, wpAny_attempt → zaT, wpAny_onRaise → zaU, noFill_tuple_add → za0, holding → zbg, wpAny_pyNext_list_item → zbh, concat_meets → zbj, wpAny_Call_method_late → zbl, callerA → zbo, IsEnum → zbv, codeAny_builtin → zbD, wpAny_pyNext_list_end → zbG, wpAny_loadName_local → zbK, assign → zbL, Operator → zbM, sizeLine_eq → zbN, subscripted → zbP, field → zbR, tupleKind → zb6, seqIndex? → zb7, valueAt → zb8, seqItems? → zb9, wpAny_loadName_cell → zca, call → zcb, assignInOrder → zch, seq_tuple_add → zci, tupleKind_room_in1 → zcB, wpAny_pyIter_tuple → zcD, getattributeRaised → zcG, BindsTo → zcN, codeAny_mono → zcO, wpAny_sequenceKey → zcP, slot_list_getitem → zcQ, wpAny_pyIter_enum → zc5, wpAny_execs_cons → zc6, PassesOwn → zc7, Result → zc9, wpAny_pyIter_zip → zdd, atKey → zdk, wpAny_of_eq → zdm, numAt → zdo, builtinsNs → zdz, wpAny_Name → zdA, bindName → zdB, bindL → zdD, bindC → zdE, typeLookup → zdF, call → zdH, compEnvC → zdJ, compPost → zdK
open PySem.Heap renaming get?_push_of_some → Wc, lt_size → WC, get?_push_size → WE, get?_update_other → Xr, size_push → Y7, SameBut → Zb, get?_update_self → ZV, ExtBut → zdl
open List renaming length_map → Wf, mem_map → Wg, zip → Wl, of_mem_zip → Wo, map_map → Wq, map_cons → Wr, mem_cons_self → Wu, length_append → Wv, mem_cons → Wx, getElem?_eq_getElem → Wz, mem_cons_of_mem → WD, size_toArray → WG, getElem?_eq_some_iff → WL, mem_append_right → WN, range → WQ, append_nil → WS, map_congr_left → WT, length_cons → WU, mem_append → WZ, mem_filter → W0, map_append → W2, not_mem_nil → W7, sum_cons → W8, nodup_cons → W9, filter_cons → Xe, getElem?_map → Xh, mem_of_getElem? → Xi, zipWith → Xj, filterMap_append → Xm, find?_cons → Xs, count_pos_iff → Xz, getElem_mem → XB, getElem?_append_left → XC, length_zipWith → XF, flatMap_append → XG, count_append → XH, nil_append → XJ, foldl_cons → XQ, count_cons → XR, mem_singleton → XS, mem_append_left → XU, mem_flatMap → XY, replicate → X0, getElem_of_mem → X4, length → X5, drop_eq_getElem_cons → X6, lookup_cons → X7, zip_map_right → X8, count_eq_zero → X9, map_nil → Yb, length_filterMap_le → Yd, getLast?_append → Ye, filterMap_cons → Yh, take_of_length_le → Yj, drop_length → Yn, getElem?_append_right → Yp, getD_eq_getElem?_getD → Yr, filter_append → Ys, length_filter_le → Yt, findIdx?_eq_some_iff_getElem → Yu, getElem?_eq_none_iff → Yw, getElem?_set_ne → Yz, flatMap_cons → YC, mem_range → YI, filter_filter → YT, any_cons → YX, append_assoc → Y3, length_take → Zc, length_drop → Ze, all_eq_true → Zf, getElem_zip → Zg, mem_of_find?_eq_some → Zk, range_succ → Zr, mem_filterMap → Zt, pairwise_cons → Zx, getElem?_cons_zero → ZC, getElem?_cons_succ → ZD, getElem?_set_self → ZI, range_succ_eq_map → ZO, filter_eq_nil_iff → ZS, length_replicate → ZT, filterMap_eq_map → ZX, take_append_drop → ZY, range'_succ → Z3, mem_of_mem_take → zad, length_nil → zag, forIn_cons → zah, filter_map → zan, map_eq_nil_iff → zao, nodup_iff_pairwise_ne → zaB, getLast?_eq_getElem? → zaE, getLast?_eq_none_iff → zaF, pairwise_map → zaJ, length_range → zaK, sublist_append_left → zaV, filterMap_cons_none → zaW, filterMap_cons_some → zaX, getElem_inj → zaY, getElem?_replicate → zaZ, zipIdx_cons → za3, map → za5, cons_append → za6, any_eq_true → zba, map_zipWith → zbd, filter_cons_of_neg → zbe, getElem_map → zbf, foldr_cons → zbF, getElem?_zipWith → zbH, mem_iff_getElem → zbU, filter → zb2, getElem?_range → zce, map_drop → zcw, length_zipIdx → zcJ, findIdx?_cons → zcK, nodup_append → zcZ, zipWith_map → zdf, flatMap_map → zdg, map_flatMap → zdh, ext_getElem → zdi, append → zdp, not_lt → zdq, range' → zdr, zipIdx_nil → zdw, length_zip → zdy, forIn_nil → zdL, count → zdR, map_take → zd1, set → zef
open Iff renaming rfl → Wi
open PySem.PyData renaming strOk → Wj, eqv → YF, eqvAll → zaS, canLayAll0 → zcS, depthAll → zdv, canLay0 → zdI
open False renaming elim → Wm
open Nat renaming le_refl → WA, lt_of_lt_of_le → WK, ne_of_lt → WO, le_trans → Xa, zero_le → Xx, lt_irrefl → Ym, ne_of_gt → YR, le_of_lt → ZH, le_succ → Z6, succ_lt_succ_iff → Z7, succ_le_succ → za1, min_eq_right → za4, reduceLeDiff → za7, zero_lt_succ → za8, le_of_eq → zbp, min_le_left → zby, min_eq_left → zbz, zero_lt_one → zbA, lt_add_one → zbT, reduceSub → zcl, reduceAdd → zcm, mod_lt → zcI, lt_trans → zcR, sub_self → zcU, reduceLT → zcV, le_of_dvd → zd0, le_total → zd5
open Int renaming mul_le_mul_of_nonneg_right → WI, gcd → WV, le_refl → W6, mul_comm → XM, mul_ediv_mul_of_pos_left → XO, mul_pos → XX, le_ediv_iff_mul_le → X2, toNat_of_nonneg → X3, gcd_pos_of_ne_zero_right → Yg, ediv_eq_of_eq_mul_right → Yk, dvd_gcd_mul_iff_dvd_mul → Yl, mul_fdiv_cancel_left → YG, mul_nonneg → YM, ediv_le_of_le_mul → YY, mul_lt_mul_of_pos_right → Y2, eq_of_mul_eq_mul_right → Y8, le_of_mul_le_mul_right → Za, mul_neg_of_pos_of_neg → Zi, lt_of_mul_lt_mul_left → Zj, natCast_nonneg → Zw, eq_ofNat_of_zero_le → ZE, toNat_natCast → ZL, lt_trichotomy → ZQ, mul_le_mul_of_nonneg_left → zab, lt_of_mul_lt_mul_right → zaA, gcd_ediv_gcd_ediv_gcd → zaC, le_of_mul_le_mul_left → zaD, sub_mul → zaI, gcd_comm → zbr, le_of_lt → zbs, reduceToNat → zbB, ediv_mul_le → zbE, natAbs_dvd_natAbs → zbI, one_mul → zbX, add_mul → zbY, reducePow → zco, reduceNeg → zcp, reduceSub → zcq, reduceAdd → zcr, reduceMul → zcs, natAbs_natCast → zcE, gcd_zero_right → zcF, reduceEq → zcW, gcd_dvd_right → zcX, mul_left_comm → zcY, gcd_dvd_left → zde, neg_mul_neg → zdx, natAbs_mul → zdO, mul_le_mul → zdP, mul_assoc → zdX, add_zero → zd7
open PySem.Builtin.SmallTypes renaming nextOf → WW, ownedTupleIsFree → Xc, ownedTupleHandOut → XE
open Ne renaming symm → WY
open PySem.PassesOwn renaming never → W3
open Option.some renaming inj → W4
open PySem.Value renaming ref → W5, none → YD, isStrOf → YU, int → zas, str → zb5, bool → zcx, isInt → zea, type → zeh
open Bool renaming and_eq_true → Xd, false_ne_true → YQ, false_eq_true → Zv, beq_eq_decide_eq → ZU, not_false → zbS, and_false → zbV, not_true → zcn, and_self → zct, and_true → zcu, true_and → zcv, false_and → zdC, or_false → zdT, false_or → zdV, true_or → zd3
open PyProof.Rows renaming slot_tuple_getitem → Xl, callWith_type1 → Xv, IntsAre → Zo, kindOf → ZZ, seqObj → zak, assignInOrder_cons → zau, envOfC → zaw, AllBare → zaH, intBits_le → za2, subscriptTail_builtinR → zbk, entry_tuple_getitem → zcc, subscriptTail → zcj, args_tuple_getitem → zcA, assignInOrder_nil → zcL, callWith_builtin1 → zda, IsTup → zdj, Subscript_ → zdG, sortedHeap → zdQ, iadd_int → zd8
open PySem.Builtin.Tuple renaming tupleExact → Xt, tupleItemsOf → zay, tupleIsExact → zdM
open PySem.Builtin.List renaming listTooLong → XI
open PySem.NameKind renaming free → Yc, cell → zck
open ForInStep renaming yield → Yf
open PySem.F renaming plain_max_loop → Yo, slot_tuple_iterator_next → Yq, plainAttrs_list → YL, slot_enumerate_next → YZ, args_tuple_add_2 → Zm, slot_list_getattribute → Zn, entry_tuple_add → Zz, slot_tuple_add → ZK, args_tuple_iterator_next_1 → zai, slot_zip_next → zaj, entry_tuple_iterator_next → zaq, args_enumerate_next_1 → zbb, entry_max_loop → zbc, entry_enumerate_next → zbw, args_list_extend_2 → zbW, called_tuple → zb0, args_object_init_2 → zb1, entry_list_extend → zcf, slot_list_extend → zcH, args_zip_next_1 → zcT, plain_list_iadd → zc3, plain_tuple_new → zc4, entry_zip_next → zdc
open PySem.Builtin.Slice renaming slicePlaces → Yv, sliceAdjust → Zh, sliceApplied → zax, slicePartIndex → zdt, sliceFields → zdS
open Array renaming length_toList → Zl, mem_iff_getElem → ZW, toArray_toList → zbZ, append_assoc → zcy, size_append → zc0, toList → zd2
open PySem.Builtin.Range renaming rangeSize → Zy, small → zeg
open Classical renaming propDecidable → ZF
open Sum renaming inr → ZG, inl → zb4
open Or renaming inl → ZM, inr → ZN
open Option renaming getD_some → Z1, isSome_iff_exists → zaR, map_eq_some_iff → zbq, map_some → zbC, getD_none → zdb, none → zed
open PySem.AutoSeq1 renaming sub_tuple_tuple → Z2, sub_tuple_list → Z9, sub_list_tuple → zaa, sub_list_list → zal, idx_int → zbu
open PySem.Around renaming under_plainId → Z8
open PySem.Builtin.Builtins renaming bindParams → zar
open PySem.Calls renaming Name_function_global → zat, callWith_builtin → zbm, evalArgs_plain → zbQ, spliced_cons → zcz, spliced_nil → zcM
open True renaming intro → zaz
open List.Pairwise renaming map → zaL, nil → zel
open PySem.Builtin.Dict renaming updateFrom → za9, addKeywords → zdY, selfAndRest → zdZ, pairItems → zd6
open PySem.Obj renaming mapSeq → zbn, data_mapFields → zcC
open PySem.SeqAt renaming EqAt → zbt
open List.Perm renaming append_left → zbJ
open Std.Legacy.Range renaming forIn_eq_forIn_range' → zb3, size → zd9
open PySem.Heap.SameBut renaming update → zcd
open PySem.Paired renaming length → zcg, snoc → zee
open List.Sublist renaming refl → zc1, map → zem
open Function renaming comp_def → zc2
open PySem.Shared renaming heap → zdn
open PySem.Heap.DictOf renaming new → zdu
open Prod renaming fst → zdN
open Sum.inr renaming inj → zeb
open PySem.IsRange renaming new → zec
open PySem.Heap.IsSliceOf renaming new → zei
open PySem.W.WShape renaming has → zej
open PySem.Walks renaming list → zek
namespace L2
open PySem PySem.Spec PyProof.Rows
abbrev Key:=Sum Int Str
def vf:Key->We->Bool
 | .inl k,v=>zea k v
 | .inr x,v=>YU x v
def Vc (w:Xb):Key->Int
 | .inl k=>hashInt k
 | .inr x=>hashStr w x
theorem cj:∀ {k:Key} {v:We},vf k v=true->(∃ i t,k=zb4 i/\v=zas i t)∨(∃ x t,k=ZG x/\v=zb5 x t)
 | .inl i,v,h=>by
  obtain ⟨t,e⟩:=Value.isInt_shape (k:=i) (v:=v) h
  exact .inl ⟨i,t,rfl,e⟩
 | .inr x,v,h=>by
  obtain ⟨t,e⟩:=Value.isStrOf_shape (x:=x) (v:=v) h
  exact .inr ⟨x,t,rfl,e⟩
theorem EI (i:Int)(t:Tok):vf (.inl i) (.int i t)=true:=by simp[vf,zea]
theorem FA (x:Str)(t:Tok):vf (.inr x) (.str x t)=true:=by simp[vf,YU]
theorem RQ (a b:Int):decide ((zb4 a:Key)=zb4 b)=(a == b):=by
 by_cases e:a=b
 ·subst e;simp
 ·have h:¬ (zb4 a:Key)=zb4 b:=λq=>e (Sum.inl.inj q)
  rw[decide_eq_false h]
  exact (beq_eq_false_iff_ne.mpr e).symm
theorem Rb (a b:Str):decide ((ZG a:Key)=ZG b)=decide (a=b):=by
 by_cases e:a=b
 ·subst e;simp
 ·have h:¬ (ZG a:Key)=ZG b:=λq=>e (zeb q)
  rw[decide_eq_false h,decide_eq_false e]
theorem Sb (a:Int)(b:Str):decide ((zb4 a:Key)=ZG b)=false:=decide_eq_false (λq=>nomatch q)
theorem Si (a:Str)(b:Int):decide ((ZG a:Key)=zb4 b)=false:=decide_eq_false (λq=>nomatch q)
def cu (prog:WX)(w:Xb):PySem.KeyKind prog w Key where
 is:=vf
 hash:=Vc w
 inj:=λv a b ha hb=>by
  rcases cj ha with ⟨i,t,rfl,rfl⟩ | ⟨x,t,rfl,rfl⟩
  ·rcases cj hb with ⟨j,u,rfl,e⟩ | ⟨y,u,rfl,e⟩
   ·injection e with e1 _;rw[e1]
   ·exact nomatch e
  ·rcases cj hb with ⟨j,u,rfl,e⟩ | ⟨y,u,rfl,e⟩
   ·exact nomatch e
   ·injection e with e1 _;rw[e1]
 byValue:=λk v h=>by
  rcases cj h with ⟨i,t,rfl,rfl⟩ | ⟨x,t,rfl,rfl⟩ <;> rfl
 pyHash:=λhv h=>by
  rcases cj hv with ⟨i,t,rfl,rfl⟩ | ⟨x,t,rfl,rfl⟩
  ·exact wpAny_pyHash_int h
  ·exact wpAny_pyHash_str h
 eqBool:=λhu hv h=>by
  rcases cj hu with ⟨i,t,rfl,rfl⟩ | ⟨x,t,rfl,rfl⟩
  ·rcases cj hv with ⟨j,u,rfl,rfl⟩ | ⟨y,u,rfl,rfl⟩
   ·rw[RQ] at h;exact wpAny_eqBool_int h
   ·rw[Sb] at h;exact SeqAt.EqAt.int_str i t y u _ _ _ _ h
  ·rcases cj hv with ⟨j,u,rfl,rfl⟩ | ⟨y,u,rfl,rfl⟩
   ·rw[Si] at h;exact SeqAt.EqAt.str_int x t j u _ _ _ _ h
   ·rw[Rb] at h;exact wpAny_eqBool_str h
 «strs»:=λk x t v h=>by
  rcases cj h with ⟨i,u,rfl,e⟩ | ⟨y,u,rfl,e⟩
  ·exact nomatch e
  ·injection e with e1 _
   subst e1
   cases v<;>rfl
theorem xW (prog:WX)(w:Xb)(i:Int)(t:Tok):(cu prog w).is (.inl i) (.int i t)=true:=EI i t
theorem zP (prog:WX)(w:Xb)(x:Str)(t:Tok):(cu prog w).is (.inr x) (.str x t)=true:=FA x t
end L2
namespace L2
open PySem PySem.Spec PyProof.Rows
inductive V where
 | non | bl (b:Bool) | int (i:Int) | str (x:Str) | byt (b:Array UInt8) | flt (b:UInt64) | ref (a:Addr) | ty (n:String)
 deriving DecidableEq
def RelV:V->We->Prop
 | .non,u=>u=YD
 | .bl b,u=>u=zcx b
 | .int i,u=>∃ t,u=zas i t
 | .str x,u=>∃ t,u=zb5 x t
 | .byt b,u=>∃ t,u=Value.bytes b t
 | .flt b,u=>∃ t,u=Value.float b t
 | .ref a,u=>u=W5 a
 | .ty n,u=>u=zeh n
abbrev Vals:List V->List We->Prop:=zaM RelV
theorem Vals.length {xs:List V}{us:List We}(r:Vals xs us):xs.length=us.length:=zcg r
theorem Vals.get:∀ {xs:List V} {us:List We} {i:Nat} {x:V},Vals xs us->xs[i]? = some x->∃ u,us[i]? = some u/\RelV x u
 | _,_,_,_,.nil,e=>by simp at e
 | _,_,0,_,.cons r _,e=>by simp at e;subst e;exact ⟨_,rfl,r⟩
 | _,_,i+1,x,.cons _ t,e=>by
  obtain ⟨u,h1,h2⟩:=Vals.get (i:=i) (x:=x) t (by simpa using e)
  exact ⟨u,by simpa using h1,h2⟩
theorem Vals.set {x:V}{u:We}(r:RelV x u):∀ {xs:List V} {us:List We} (i:Nat),Vals xs us->Vals (xs.set i x) (us.set i u)
 | _,_,_,.nil=>.nil
 | _,_,0,.cons _ t=>.cons r t
 | _,_,i+1,.cons q t=>.cons q (Vals.set r i t)
theorem Vals.append:∀ {xs ys:List V} {us ws:List We},Vals xs us->Vals ys ws->Vals (xs++ys) (us++ws)
 | _,_,_,_,.nil,s=>s
 | _,_,_,_,.cons r t,s=>.cons r (Vals.append t s)
theorem Vals.take:∀ {xs:List V} {us:List We} (n:Nat),Vals xs us->Vals (xs.take n) (us.take n)
 | _,_,0,_=>.nil
 | _,_,_+1,.nil=>.nil
 | _,_,n+1,.cons r t=>.cons r (Vals.take n t)
theorem Vals.drop:∀ {xs:List V} {us:List We} (n:Nat),Vals xs us->Vals (xs.drop n) (us.drop n)
 | _,_,0,r=>r
 | _,_,_+1,.nil=>.nil
 | _,_,n+1,.cons _ t=>Vals.drop n t
def pK:Option V->Option We->Prop
 | some v,some u=>RelV v u
 | none,none=>True
 | _,_=>False
def KV {κ:Type}:List (κ×V)->List (κ×We)->Prop:=zaM λ(p:κ×V) (q:κ×We)=>p.1=q.1/\RelV p.2 q.2
def kV:Key->V
 | .inl i=>.int i
 | .inr x=>.str x
inductive HO where
  | lst (xs:List V)
  | tup (xs:List V)
  | dK (kvs:List (Key×V)) | dT (kvs:List (List Key×V))
  | set (S:Int->Bool) (n:Nat)
  | ins (C dx:Addr) (fs:List (Str×V))
  | own (x:Addr)
  | xd (fs:List (Str×V))
  | met (f x:Addr)
  | rng (lo hi:Int)
  | frz (o:Obj) (u:HO)
  | tbl (ps:Array We)
  | ext (φ:Heap->Prop)
abbrev Hp:=Addr->Option HO
def upd (H:Hp)(a:Addr)(o:HO):Hp:=λb=>if b=a then some o else H b
theorem aQ {H:Hp}{a:Addr}{o:HO}:upd H a o a=some o:=by unfold upd;rw[if_pos rfl]
theorem aP {H:Hp}{a b:Addr}{o:HO}(h:b≠a):upd H a o b=H b:=by unfold upd;rw[if_neg h]
theorem xf {H:Hp}{a:Addr}{o u:HO}:upd (upd H a o) a u=upd H a u:=by
 funext b;unfold upd;split<;>rfl
theorem Ur {H:Hp}{a b:Addr}{o u:HO}(h:H a=some o)(h':H b=some u)(d:o≠u):a≠b:=by
 intro e;subst e;rw[h] at h';exact d (W4 h')
theorem bo {H:Hp}{a b:Addr}{o:HO}(h:H a=some o)(h':H b=none):a≠b:=by
 intro e;subst e;rw[h] at h';cases h'
def xo (h:Heap)(a:Addr)(items:Array We):Prop:=∃ n,h.get? a=some { cls:=.type "tuple", data:=.seq items n }
theorem xo.tup {h:Heap}{a:Addr}{items:Array We}(p:xo h a items):zdj h a items:=by obtain ⟨n,e⟩:=p;exact ⟨_,e,rfl,n,rfl⟩
theorem xo.new (h:Heap)(items:Array We):xo (h.push { cls:=.type "tuple", data:=.seq items }) h.objs.size items:=⟨_,WE _ rfl⟩
section
variable (P:WX) (w:Xb)
def dG (H:Hp)(h:Heap)(a:Addr):HO->Prop
 | .lst xs=>xs.length<=sizeLine/\∃ (its:List We) (n:Nat),Vals xs its/\h.get? a=some { cls:=.type "list", data:=.seq its.toArray n }
 | .tup xs=>xs.length<=sizeLine/\∃ its:List We,Vals xs its/\xo h a its.toArray
 | .dK kvs=>kvs.length<=sizeLine/\(a == Y4)=false/\∃ vs,KV kvs vs/\h.DictOf (cu P w) a vs
 | .dT kvs=>kvs.length<=sizeLine/\(a == Y4)=false/\∃ xs:List (List Key×Addr×We),
   zaM (λ(p:List Key×V) (q:List Key×Addr×We)=>p.1=q.1/\H q.2.1=some (.tup (p.1.map kV))/\RelV p.2 q.2.2) kvs xs/\
   ∃ o es ep,h.get? a=some o/\o.ExactDict/\o.data=.dict es ep/\es.toList=xs.map (entryOfKey (zb6 (cu P w)))/\(xs.map (·.1)).Nodup
 | .set S n=>h.SetOf (intKind P w) a S n
 | .ins C dx fs=>H dx=some (.own a)/\fs.length<=1000/\dx≠a/\h.get? a=some (zds C dx)/\
   ∃ mA,h.Ns1 dx mA/\(∀ f,pK (fs.lookup f) (mA f))/\PySem.Within mA (fs.map (·.1))
 | .own _=>∃ o,h.get? a=some o
 | .xd fs=>∃ mA,h.Ns1 a mA/\∀ f,pK (fs.lookup f) (mA f)
 | .rng lo hi=>∃ t u v,h.get? a=some { cls:=.type "range", data:=.fields #[.int lo t,.int hi u,.int 1 v] }
 | .frz o u=>h.get? a=some o/\dG H h a u
 | .tbl ps=>h.get? a=some { cls:=.none,data:=.fields ps }
 | .met f x=>h.get? a=some (zaG (.ref f) (.ref x))
 | .ext φ=>φ h/\(∃ o,h.get? a=some o)/\∀ h1 h2:Heap,φ h1->(∀ o,h1.get? a=some o->h2.get? a=some o)->φ h2
def HOk (H:Hp)(h:Heap):Prop:=∀ a o,H a=some o->dG P w H h a o
end
section
variable {P:WX} {w:Xb} {H H':Hp} {h h':Heap} {a:Addr} {o:HO}
theorem dG.lt (x:dG P w H h a o):a < h.objs.size:=by
 cases o with
 | lst xs=>obtain ⟨_,_,_,_,e⟩:=x;exact WC e
 | tup xs=>obtain ⟨_,_,_,p⟩:=x;exact p.tup.lt
 | dK kvs=>obtain ⟨_,_,_,_,o,_,_,e,_⟩:=x;exact WC e
 | dT kvs=>obtain ⟨_,_,_,_,o,_,_,e,_⟩:=x;exact WC e
 | set S n=>obtain ⟨o,_,_,_,e,_⟩:=x;exact WC e
 | ins C dx fs=>obtain ⟨_,_,_,e,_⟩:=x;exact WC e
 | own y=>obtain ⟨_,e⟩:=x;exact WC e
 | xd fs=>obtain ⟨_,⟨_,_,_,e,_⟩,_⟩:=x;exact WC e
 | rng lo hi=>obtain ⟨_,_,_,e⟩:=x;exact WC e
 | frz ob u=>obtain ⟨e,_⟩:=x;exact WC e
 | tbl ps=>exact WC (show h.get? a=some _ from x)
 | met f y=>exact WC (show h.get? a=some _ from x)
 | ext φ=>obtain ⟨_,⟨_,e⟩,_⟩:=x;exact WC e
theorem zaM.RX {α β:Type}{F G:α->β->Prop}:∀ {l₁:List α} {l₂:List β},zaM F l₁ l₂->(∀ a b,F a b->G a b)->zaM G l₁ l₂
 | _,_,.nil,_=>.nil
 | _,_,.cons r t,f=>.cons (f _ _ r) (zaM.RX t f)
theorem dG.lD (x:dG P w H h a o)(k:∀ b u,(b=a∨H b=some (.own a))->h.get? b=some u->h'.get? b=some u)
  (ho:∀ b,H b=some (.own a)->H' b=some (.own a)) (ht:∀ b xs,H b=some (.tup xs)->H' b=some (.tup xs)):dG P w H' h' a o:=by
 induction o with
 | lst xs=>obtain ⟨z,its,n,r,e⟩:=x;exact ⟨z,its,n,r,k _ _ (.inl rfl) e⟩
 | tup xs=>obtain ⟨z,its,r,m,e⟩:=x;exact ⟨z,its,r,m,k _ _ (.inl rfl) e⟩
 | dK kvs=>obtain ⟨z,y,vs,r,ob,es,ep,e,c⟩:=x;exact ⟨z,y,vs,r,ob,es,ep,k _ _ (.inl rfl) e,c⟩
 | dT kvs=>
  obtain ⟨z,y,xs,r,ob,es,ep,e,c⟩:=x
  exact ⟨z,y,xs,zaM.RX r λp q z=>⟨z.1,ht _ _ z.2.1,z.2.2⟩,ob,es,ep,k _ _ (.inl rfl) e,c⟩
 | set S n=>obtain ⟨ob,es,ep,t,e,c⟩:=x;exact ⟨ob,es,ep,t,k _ _ (.inl rfl) e,c⟩
 | ins C dx fs=>
  obtain ⟨d,z,ne,e,mA,⟨od,es,ep,e2,c⟩,r⟩:=x
  exact ⟨ho _ d,z,ne,k _ _ (.inl rfl) e,mA,⟨od,es,ep,k _ _ (.inr d) e2,c⟩,r⟩
 | own y=>obtain ⟨ob,e⟩:=x;exact ⟨ob,k _ _ (.inl rfl) e⟩
 | xd fs=>obtain ⟨mA,⟨od,es,ep,e,c⟩,r⟩:=x;exact ⟨mA,⟨od,es,ep,k _ _ (.inl rfl) e,c⟩,r⟩
 | rng lo hi=>obtain ⟨t,u,v,e⟩:=x;exact ⟨t,u,v,k _ _ (.inl rfl) e⟩
 | frz ob u ih=>obtain ⟨e,q⟩:=x;exact ⟨k _ _ (.inl rfl) e,ih q⟩
 | tbl ps=>
  have e:h.get? a=some { cls:=.none,data:=.fields ps }:=x
  show h'.get? a=some { cls:=.none,data:=.fields ps }
  exact k a _ (.inl rfl) e
 | met f y=>
  have e:h.get? a=some (zaG (.ref f) (.ref y)):=x
  show h'.get? a=some (zaG (.ref f) (.ref y))
  exact k a _ (.inl rfl) e
 | ext φ=>obtain ⟨p,⟨o,e⟩,st⟩:=x;exact ⟨st _ _ p λo q=>k _ _ (.inl rfl) q,⟨o,k _ _ (.inl rfl) e⟩,st⟩
theorem HOk.lt (x:HOk P w H h)(e:H a=some o):a < h.objs.size:=(x a o e).lt
theorem HOk.fresh (x:HOk P w H h)(e:h.objs.size<=a):H a=none:=by
 cases q:H a with
 | none=>rfl
 | some u=>exact absurd (WK (x.lt q) e) (Ym _)
theorem HOk.kept (x:HOk P w H h)(k:∀ b u,h.get? b=some u->h'.get? b=some u):HOk P w H h':=λa o e=>
 (x a o e).lD (λb u _ q=>k b u q) (λ_ q=>q) λ_ _ q=>q
theorem HOk.laid (x:HOk P w H h)(k:∀ b u,h.get? b=some u->h'.get? b=some u)(hp:h.objs.size<=a)(new:dG P w (upd H a o) h' a o):HOk P w (upd H a o) h':=λb u e=>by
 have hn:=x.fresh hp
 by_cases hb:b=a
 ·subst hb;rw[aQ] at e;cases e;exact new
 ·rw[aP hb] at e
  exact (x b u e).lD (λc v _ q=>k c v q) (λc q=>by rw[aP (bo q hn)];exact q) λc xs q=>by rw[aP (bo q hn)];exact q
end
def Rd (H:Hp)(a:Addr)(u:HO):Prop:=H a=some u∨∃ o,H a=some (.frz o u)
theorem Rd.ok {P:WX}{w:Xb}{H:Hp}{h:Heap}{a:Addr}{u:HO}(r:Rd H a u)(x:HOk P w H h):dG P w H h a u:=by
 rcases r with r | ⟨o,r⟩
 ·exact x a u r
 ·obtain ⟨_,q⟩:=x a _ r
  exact q
def Mut:Option HO->Prop
 | some (.lst _)=>True
 | some (.dK _)=>True
 | some (.dT _)=>True
 | some (.set _ _)=>True
 | some (.ins _ _ _)=>True
 | some (.ext _)=>True
 | _=>False
section
variable {P:WX} {w:Xb} {H:Hp} {h h':Heap} {x e:Addr} {o':HO}
theorem HOk.write (ok:HOk P w H h)(mu:Mut (H x))(he:e=x∨H e=some (.own x))(k:∀ b u,b≠e->h.get? b=some u->h'.get? b=some u)(heo:∃ u,h'.get? e=some u)
  (new:dG P w (upd H x o') h' x o'):HOk P w (upd H x o') h':=λb u q=>by
 have Uy:∀ c y,H c=some (.own y)->c≠x:=λc y r z=>by subst z;rw[r] at mu;exact mu
 have UL:∀ c xs,H c=some (.tup xs)->c≠x:=λc xs r z=>by subst z;rw[r] at mu;exact mu
 by_cases hb:b=x
 ·subst hb;rw[aQ] at q;cases q;exact new
 ·rw[aP hb] at q
  by_cases hbe:b=e
  ·have q':H b=some (.own x):=by
    rcases he with z | z
    ·exact absurd (hbe.trans z) hb
    ·rw[hbe];exact z
   rw[q] at q';cases q'
   obtain ⟨v,hv⟩:=heo
   exact ⟨v,by rw[hbe];exact hv⟩
  ·refine (ok b u q).lD (λc v hc r=>k c v ?_ r) (λc r=>by rw[aP (Uy c b r)];exact r) λc xs r=>by rw[aP (UL c xs r)];exact r
   rcases hc with rfl | hc
   ·exact hbe
   ·rintro rfl
    rcases he with z | z
    ·exact Uy c b hc z
    ·rw[hc] at z;cases z;exact hb rfl
end
structure Un (fs ex:List Addr) (H H':Hp) (h h':Heap):Prop where
 keep:∀ b o,h.get? b=some o->H b=none->b ∉ fs->b ∉ ex->h'.get? b=some o
 slot:∀ b o,h.get? b=some o->H b=none->b∈fs->b ∉ ex->∃ sl,h'.get? b=some { o with slots:=sl }
 free:∀ b o,h.get? b=some o->H b=none->b ∉ ex->H' b=none
 there:∀ b o,h.get? b=some o->b ∉ ex->∃ o',h'.get? b=some o'
 pW:∀ b xs,H b=some (.tup xs)->H' b=some (.tup xs)
 nO:∀ b o u,H b=some (.frz o u)->H' b=some (.frz o u)
 p8:∀ b ps,H b=some (.tbl ps)->∃ more,H' b=some (.tbl (ps++more))
section
variable {fs fs' ex ex':List Addr} {H H1 H2:Hp} {h h1 h2 h':Heap} {a x e:Addr} {o:HO}
theorem Un.any (u:Un fs ex H H1 h h1){b:Addr}{ob:Obj}(q:h.get? b=some ob)(n:H b=none)(hx:b ∉ ex):∃ sl,h1.get? b=some { ob with slots:=sl }:=by
 by_cases hb:b∈fs
 ·exact u.slot b ob q n hb hx
 ·exact ⟨ob.slots,u.keep b ob q n hb hx⟩
theorem Un.trans (a:Un fs ex H H1 h h1)(b:Un fs ex H1 H2 h1 h2):Un fs ex H H2 h h2 where
 keep:=λc ob q n hc hx=>b.keep c ob (a.keep c ob q n hc hx) (a.free c ob q n hx) hc hx
 slot:=λc ob q n hc hx=>by
  obtain ⟨sl,e1⟩:=a.slot c ob q n hc hx
  obtain ⟨sl',e2⟩:=b.slot c _ e1 (a.free c ob q n hx) hc hx
  exact ⟨sl',e2⟩
 free:=λc ob q n hx=>by
  obtain ⟨o',e1⟩:=a.there c ob q hx
  exact b.free c o' e1 (a.free c ob q n hx) hx
 there:=λc ob q hx=>by
  obtain ⟨o',e1⟩:=a.there c ob q hx
  exact b.there c o' e1 hx
 pW:=λc xs q=>b.pW c xs (a.pW c xs q)
 nO:=λc ob xs q=>b.nO c ob xs (a.nO c ob xs q)
 p8:=λc ps q=>by
  obtain ⟨m1,e1⟩:=a.p8 c ps q
  obtain ⟨m2,e2⟩:=b.p8 c _ e1
  exact ⟨m1++m2,by rw[e2,zcy]⟩
theorem Un.kept (k:∀ b u,h.get? b=some u->h'.get? b=some u):Un fs ex H H h h':=
 ⟨λb ob q _ _ _=>k b ob q,λb ob q _ _ _=>⟨ob.slots,k b ob q⟩,λ_ _ _ n _=>n,λb ob q _=>⟨ob,k b ob q⟩,λ_ _ q=>q,λ_ _ _ q=>q,λ_ ps q=>⟨#[],by rw[q];simp⟩⟩
theorem Un.refl:Un fs ex H H h h:=Un.kept λ_ _ q=>q
theorem Un.laid (k:∀ b u,h.get? b=some u->h'.get? b=some u)(hp:h.objs.size<=a)(hn:H a=none):Un fs ex H (upd H a o) h h' where
 keep:=λb u q _ _ _=>k b u q
 slot:=λb u q _ _ _=>⟨u.slots,k b u q⟩
 free:=λb u q n _=>by rw[aP (WO (WK (WC q) hp))];exact n
 there:=λb u q _=>⟨u,k b u q⟩
 pW:=λb xs q=>by rw[aP (bo q hn)];exact q
 nO:=λb u xs q=>by rw[aP (bo q hn)];exact q
 p8:=λb ps q=>⟨#[],by rw[aP (bo q hn),q];simp⟩
theorem Un.write (mu:Mut (H x))(he:e=x∨H e=some (.own x))(k:∀ b u,b≠e->h.get? b=some u->h'.get? b=some u)(heo:∃ u,h'.get? e=some u):Un fs ex H (upd H x o) h h':=by
 have hx:∀ b,H b=none->b≠x:=λb n z=>by subst z;rw[n] at mu;exact mu
 have hb:∀ b,H b=none->b≠e:=λb n z=>by
  subst z
  rcases he with r | r
  ·exact hx b n r
  ·rw[n] at r;cases r
 have hm:∀ b u,H b=some u->¬ Mut (some u)->b≠x:=λb u q nm z=>by subst z;rw[q] at mu;exact nm mu
 refine ⟨λb u q n _ _=>k b u (hb b n) q,λb u q n _ _=>⟨u.slots,k b u (hb b n) q⟩,λb u q n _=>by rw[aP (hx b n)];exact n,λb u q _=>?_,
  λb xs q=>by rw[aP (hm b _ q λz=>z)];exact q,λb u xs q=>by rw[aP (hm b _ q λz=>z)];exact q,λb ps q=>⟨#[],by rw[aP (hm b _ q λz=>z),q];simp⟩⟩
 by_cases hbe:b=e
 ·subst hbe;exact heo
 ·exact ⟨u,k b u hbe q⟩
theorem Un.mono (u:Un fs ex H H1 h h1)(hs:∀ b∈fs,b∈fs')(hx:∀ b∈ex,b∈ex'):Un fs' ex' H H1 h h1:=
 ⟨λb ob q n hb he=>u.keep b ob q n (λz=>hb (hs b z)) λz=>he (hx b z),λ_ _ q n _ he=>u.any q n λz=>he (hx _ z),λb ob q n he=>u.free b ob q n λz=>he (hx b z),λb ob q he=>u.there b ob q λz=>he (hx b z),u.pW,u.nO,u.p8⟩
end
def trk (h:Heap)(H:Hp):List Addr:=(WQ h.objs.size).filter λa=>(H a).isSome
def xc (h:Heap)(H:Hp):Heap:=PySem.W.hideAll h (trk h H)
theorem E6 (h:Heap)(H:Hp):(xc h H).objs.size=h.objs.size:=PySem.W.hideAll_size _ _
theorem Je {h:Heap}{H:Hp}{b:Addr}{o:Obj}(e:h.get? b=some o)(n:H b=none):(xc h H).get? b=some o:=
 PySem.W.hideAll_get _ e λhm=>by
  have q:(H b).isSome=true:=(W0.mp hm).2
  rw[n] at q;simp at q
theorem M9 {h:Heap}{H:Hp}{b:Addr}{o:Obj}(e:(xc h H).get? b=some o):h.get? b=some o/\H b=none:=by
 have e':h.get? b=some o:=PySem.W.of_hideAll (trk h H) e
 refine ⟨e',?_⟩
 cases q:H b with
 | none=>rfl
 | some x=>
  have hm:b∈trk h H:=W0.mpr ⟨YI.mpr (WC e'),by simp[q]⟩
  have z:(xc h H).get? b=none:=PySem.W.hideAll_none (trk h H) hm
  rw[z] at e;cases e
def La (g h:Heap)(L:Addr):List (Addr×Obj):=(WQ h.objs.size).filterMap λa=>if a=L∨(g.get? a).isSome=true then none else (h.get? a).map λo=>(a,o)
def rest (g h:Heap)(L d:Addr):List (Addr×Obj):=(La g h L).filter λp=>decide (p.1≠d)
end L2
namespace L2
open PySem PySem.Spec PyProof.Rows
structure Mod (K:Wa) (mg:Str->Option We) (base:Heap):Prop where
 kin:K.In base
 glob:base.Ns XT mg
 blt:∃ mb,base.Ns zdz mb/\∀ x:Str,x ≠ "__name__" -> mb x=Yi x
 nolimit:base.NoLimit
structure Cx where
 prog:WX
 w:Xb
 K:Wa
 mg:Str->Option We
 base:Heap
 A:Xn
 N:List Str
 s₀:Wh
 H₀:Hp
 env:Env
 outer:List Env
 stack:List Env
 ex:List Addr
 fn:Str->Bool
 calm:Bool
 pn:List (Addr×Obj)
 xe:We->Wh->Prop
def frs (l:List Env):List Addr:=l.filterMap (·.frame)
abbrev Cx.fs (X:Cx):List Addr:=frs X.outer
def Vis (sc:Scope)(x:Str):Prop:=sc.names.lookup x=some .local∨sc.names.lookup x=some .cell∨sc.names.lookup x=some .free
def Loc (sc:Scope)(x:Str):Prop:=sc.names.lookup x=some .local∨sc.names.lookup x=some .cell
def Look (env:Env)(h:Heap)(m:Str->Option We)(x:Str)(u:We):Prop:=
 (env.kindOf x=some .local/\m x=some u)∨((env.kindOf x=some .cell∨env.kindOf x=some .free)/\∃ c,env.cells.lookup x=some c/\h.IsCell c (some u))
structure Cx.Ok (X:Cx):Prop where
 mod:Mod X.K X.mg X.base
 kind:X.env.scope.kind=.function
 glob:X.env.globals=XT
 blt:X.env.builtins=zdz
 above:X.s₀.heap.objs.size<=X.env.locals
 inj:∀ x y c,X.env.cells.lookup x=some c->X.env.cells.lookup y=some c->x=y
 has:∀ x,(X.env.kindOf x=some .cell∨X.env.kindOf x=some .free)->∃ c,X.env.cells.lookup x=some c
 cab:∀ x c,X.fn x=true->X.env.cells.lookup x=some c->X.s₀.heap.objs.size<=c
 hd:X.calm=true->X.A.handled=none
 frames:X.A.frames=some X.stack
 stk:X.stack=X.outer∨(X.stack=X.env::X.outer/\X.env.frame=some X.env.locals)
 exf:∀ b∈X.ex,b≠X.env.locals/\∀ x c,X.env.cells.lookup x=some c->c≠b
 bs:∀ b o,X.base.get? b=some o->X.s₀.heap.get? b=some o/\X.H₀ b=none
 bsz:X.base.objs.size<=X.s₀.heap.objs.size
 Jq:∀ b o,X.base.get? b=some o->b ∉ X.ex
 Gv:∀ b∈X.ex,b ∉ X.fs
 qL:X.s₀.heap.FunFrames X.base X.outer
 frf:∀ b∈X.fs,X.H₀ b=none
structure Inv (X:Cx) (pins:List (Addr×Obj)) (σ:List (Option V)) (H:Hp) (s:Wh):Prop where
 ok:X.Ok
 os:s.os=X.s₀.os
 bare:zaH s.gens
 base:Un X.fs X.ex X.H₀ H X.s₀.heap s.heap
 loc:∃ m,s.heap.Ns X.env.locals m/\∀ (i:Nat) (x:Str) (v:V),X.N[i]? = some x->σ[i]? = some (some v)->Vis X.env.scope x->∃ u,RelV v u/\Look X.env s.heap m x u
 cell:∀ x c,X.env.cells.lookup x=some c->∃ v,s.heap.IsCell c v
 free:H X.env.locals=none
 j9:∀ x c,X.env.cells.lookup x=some c->H c=none
 pin:∀ p∈X.pn++pins,s.heap.get? p.1=some p.2/\H p.1=none/\p.1≠X.env.locals/\p.1 ∉ X.fs/\∀ v,p.2.data≠.cell v
 hok:HOk X.prog X.w H s.heap
 len:σ.length=X.N.length
section
variable {X:Cx} {pins:List (Addr×Obj)} {σ:List (Option V)} {H H':Hp} {s:Wh} {h':Heap}
theorem Cx.Ok.U1 (ok:X.Ok){b:Addr}{o:Obj}(e:X.base.get? b=some o):b ∉ X.fs:=λhb=>by
 have:=(ok.qL.mem hb).1
 rw[e] at this;cases this
theorem Inv.bs (I:Inv X pins σ H s):∀ b o,X.base.get? b=some o->s.heap.get? b=some o/\H b=none:=λb o e=>
 ⟨I.base.keep b o (I.ok.bs b o e).1 (I.ok.bs b o e).2 (I.ok.U1 e) (I.ok.Jq b o e),I.base.free b o (I.ok.bs b o e).1 (I.ok.bs b o e).2 (I.ok.Jq b o e)⟩
theorem Inv.bk (I:Inv X pins σ H s):∀ b o,X.base.get? b=some o->s.heap.get? b=some o:=λb o e=>(I.bs b o e).1
theorem Inv.mod (I:Inv X pins σ H s):Mod X.K X.mg X.base:=I.ok.mod
theorem Inv.kIn (I:Inv X pins σ H s):X.K.In s.heap:=I.ok.mod.kin.keeps I.bk
theorem Inv.nolimit (I:Inv X pins σ H s):s.heap.NoLimit:=I.ok.mod.nolimit.keeps I.bk
theorem Inv.fr (I:Inv X pins σ H s):∃ m,Fr X.base X.env.locals s.heap m:=
 let ⟨m,hn,_⟩:=I.loc
 ⟨m,hn,I.bk,Xa I.ok.bsz I.ok.above⟩
theorem Inv.lt (I:Inv X pins σ H s):X.env.locals < s.heap.objs.size:=let ⟨_,hn,_⟩:=I.loc;hn.lt
theorem Inv.sz (I:Inv X pins σ H s):X.s₀.heap.objs.size<=s.heap.objs.size:=Xa I.ok.above (ZH I.lt)
theorem Inv.UK (I:Inv X pins σ H s){a:Addr}(h:s.heap.objs.size<=a):a ∉ X.fs:=λhb=>by
 obtain ⟨_,o,ho,_⟩:=I.ok.qL.mem hb
 exact absurd (WK (WC ho) (Xa I.sz h)) (Ym _)
theorem Inv.cne (I:Inv X pins σ H s):∀ x c,X.env.cells.lookup x=some c->c≠X.env.locals:=λx c e z=>by
 obtain ⟨v,o,ho,hd⟩:=I.cell x c e
 obtain ⟨m,⟨o',es,ep,ho',hd',_⟩,_⟩:=I.loc
 rw[z,ho'] at ho;cases ho;rw[hd'] at hd;cases hd
theorem Inv.qL (I:Inv X pins σ H s):s.heap.FunFrames X.base X.outer:=by
 have all:∀ (l:List Env),(∀ b∈frs l,b∈X.fs)->X.s₀.heap.FunFrames X.base l->s.heap.FunFrames X.base l:=by
  intro l
  induction l with
  | nil=>intro _ _;trivial
  | cons env r ih=>
   intro hs hl
   obtain ⟨hk,⟨L,o,hf,hn,ho,hd⟩,hr⟩:=hl
   have hL:L∈X.fs:=hs L (by unfold frs;rw[Yh,hf];exact Wu)
   obtain ⟨sl,e⟩:=I.base.slot L o ho (I.ok.frf L hL) hL λz=>I.ok.Gv L z hL
   exact ⟨hk,⟨L,_,hf,hn,e,hd⟩,ih (λb hb=>hs b (by unfold frs;rw[Yh,hf];exact WD _ hb)) hr⟩
 exact all X.outer (λ_ hb=>hb) I.ok.qL
theorem Inv.stack (I:Inv X pins σ H s):s.heap.FunFrames X.base X.stack:=by
 rcases I.ok.stk with e | ⟨e,hf⟩
 ·rw[e];exact I.qL
 ·rw[e]
  obtain ⟨m,hn,_⟩:=I.loc
  refine .cons (by rw[I.ok.kind];decide) hf hn ?_ I.qL
  exact Heap.get?_none_of_le (Xa I.ok.bsz I.ok.above)
theorem Inv.AE (I:Inv X pins σ H s):∀ b∈frs X.stack,b∈X.env.locals::X.fs:=λb hb=>by
 rcases I.ok.stk with e | ⟨e,hf⟩
 ·rw[e] at hb;exact WD _ hb
 ·rw[e] at hb
  unfold frs at hb
  rw[Yh,hf] at hb
  exact hb
theorem Inv.D8 (I:Inv X pins σ H s):∀ b∈frs X.stack,H b=none:=λb hb=>by
 rcases Wx.mp (I.AE b hb) with e | hb
 ·rw[e];exact I.free
 ·obtain ⟨_,o,ho,_⟩:=I.ok.qL.mem hb
  exact I.base.free b o ho (I.ok.frf b hb) λz=>I.ok.Gv b z hb
theorem Inv.step {g':Array GenState}{t':Nat}{d':Drawn}{ch:List Addr}(I:Inv X pins σ H s)
  (hch:∀ b∈ch,(b∈X.ex∨X.s₀.heap.objs.size<=b)/\b≠X.env.locals/\(∀ x c,X.env.cells.lookup x=some c->c≠b)/\∀ p∈X.pn++pins,p.1≠b)
  (keep:∀ b o,b≠X.env.locals->b ∉ X.fs->b ∉ ch->s.heap.get? b=some o->H b=none->h'.get? b=some o)
  (slot:∀ b o,b≠X.env.locals->b∈X.fs->b ∉ ch->s.heap.get? b=some o->H b=none->∃ sl,h'.get? b=some { o with slots:=sl }) (free:∀ b o,b ∉ ch->s.heap.get? b=some o->H b=none->H' b=none)
  (there:∀ b o,b ∉ ch->s.heap.get? b=some o->∃ o',h'.get? b=some o')
  (pW:∀ b xs,H b=some (.tup xs)->H' b=some (.tup xs)) (nO:∀ b o u,H b=some (.frz o u)->H' b=some (.frz o u)) (p8:∀ b ps,H b=some (.tbl ps)->∃ more,H' b=some (.tbl (ps++more)))
  (ns:∀ m,s.heap.Ns X.env.locals m->h'.Ns X.env.locals m) (hok:HOk X.prog X.w H' h') (hg:zaH g') :
  Inv X pins σ H' { s with heap:=h',gens:=g',drawn:=d',toks:=t' }:=by
 have neL:∀ b o,X.s₀.heap.get? b=some o->b≠X.env.locals:=λb o e=>WO (WK (WC e) I.ok.above)
 have neC:∀ b o,X.s₀.heap.get? b=some o->b ∉ X.ex->b ∉ ch:=λb o e hx hb=>by
  rcases (hch b hb).1 with z | z
  ·exact hx z
  ·exact absurd (WK (WC e) z) (Ym _)
 have cellK:∀ x c,X.env.cells.lookup x=some c->∀ v,s.heap.IsCell c v->h'.IsCell c v:=λx c e v ⟨o,ho,hd⟩=>by
  have nch:c ∉ ch:=λz=>(hch c z).2.2.1 x c e rfl
  by_cases hc:c∈X.fs
  ·obtain ⟨sl,q⟩:=slot c o (I.cne x c e) hc nch ho (I.j9 x c e)
   exact ⟨_,q,hd⟩
  ·exact ⟨o,keep c o (I.cne x c e) hc nch ho (I.j9 x c e),hd⟩
 refine ⟨I.ok,I.os,hg,⟨λb o e n hb hx=>?_,λb o e n hb hx=>?_,λb o e n hx=>?_,λb o e hx=>?_,λb xs e=>pW b xs (I.base.pW b xs e),λb o xs e=>nO b o xs (I.base.nO b o xs e),λb ps e=>?_⟩,?_,λx c e=>?_,?_,λx c e=>?_,λp hp=>?_,hok,I.len⟩
 ·exact keep b o (neL b o e) hb (neC b o e hx) (I.base.keep b o e n hb hx) (I.base.free b o e n hx)
 ·obtain ⟨sl,e1⟩:=I.base.slot b o e n hb hx
  obtain ⟨sl',e2⟩:=slot b _ (neL b o e) hb (neC b o e hx) e1 (I.base.free b o e n hx)
  exact ⟨sl',e2⟩
 ·obtain ⟨o',e1⟩:=I.base.there b o e hx
  exact free b o' (neC b o e hx) e1 (I.base.free b o e n hx)
 ·obtain ⟨o',e1⟩:=I.base.there b o e hx
  exact there b o' (neC b o e hx) e1
 ·obtain ⟨m1,e1⟩:=I.base.p8 b ps e
  obtain ⟨m2,e2⟩:=p8 b _ e1
  exact ⟨m1++m2,by rw[e2,zcy]⟩
 ·obtain ⟨m,hn,hl⟩:=I.loc
  refine ⟨m,ns m hn,λi x v e1 e2 e3=>?_⟩
  obtain ⟨u,r,l⟩:=hl i x v e1 e2 e3
  refine ⟨u,r,?_⟩
  rcases l with l | ⟨k,c,e,z⟩
  ·exact .inl l
  ·exact .inr ⟨k,c,e,cellK x c e _ z⟩
 ·obtain ⟨v,z⟩:=I.cell x c e
  exact ⟨v,cellK x c e v z⟩
 ·obtain ⟨m,⟨o,_,_,ho,_⟩,_⟩:=I.loc
  exact free _ o (λz=>(hch _ z).2.1 rfl) ho I.free
 ·obtain ⟨v,o,ho,hd⟩:=I.cell x c e
  exact free c o (λz=>(hch c z).2.2.1 x c e rfl) ho (I.j9 x c e)
 ·obtain ⟨e,n,ne,nf,d⟩:=I.pin p hp
  have nch:p.1 ∉ ch:=λz=>(hch p.1 z).2.2.2 p hp rfl
  exact ⟨keep p.1 p.2 ne nf nch e n,free p.1 p.2 nch e n,ne,nf,d⟩
theorem Inv.un {t':Nat}(I:Inv X pins σ H s)(u:Un X.fs [] H H' s.heap h')(hok:HOk X.prog X.w H' h'):Inv X pins σ H' { s with heap:=h',toks:=t' }:=by
 obtain ⟨m,⟨o,es,ep,ho,r⟩,_⟩:=id I.loc
 obtain ⟨sl,hL⟩:=u.any ho I.free (by simp)
 exact I.step (g':=s.gens) (d':=s.drawn) (ch:=[]) (λ_ z=>nomatch z) (λb o _ hb _ e n=>u.keep b o e n hb (by simp)) (λb o _ hb _ e n=>u.slot b o e n hb (by simp)) (λb o _ e n=>u.free b o e n (by simp)) (λb o _ e=>u.there b o e (by simp)) u.pW u.nO u.p8 (λm' hm=>by
  obtain ⟨o',es',ep',ho',r'⟩:=hm
  rw[ho] at ho';cases ho'
  exact ⟨_,es',ep',hL,r'⟩) hok I.bare
theorem Inv.call {g':Array GenState}{t':Nat}{d':Drawn}{ch:List Addr}(I:Inv X pins σ H s)(u:Un (frs X.stack) ch H H' s.heap h')(hok:HOk X.prog X.w H' h')(hg:zaH g')
  (hch:∀ b∈ch,(b∈X.ex∨X.s₀.heap.objs.size<=b)/\b≠X.env.locals/\(∀ x c,X.env.cells.lookup x=some c->c≠b)/\∀ p∈X.pn++pins,p.1≠b) :
  Inv X pins σ H' { s with heap:=h',gens:=g',drawn:=d',toks:=t' }:=by
 obtain ⟨m,⟨o,es,ep,ho,r⟩,_⟩:=id I.loc
 obtain ⟨sl,hL⟩:=u.any ho I.free λz=>(hch _ z).2.1 rfl
 exact I.step (ch:=ch) hch (λb o hL hb hc e n=>u.keep b o e n (λz=>(Wx.mp (I.AE b z)).elim hL hb) hc) (λb o _ _ hc e n=>u.any e n hc) (λb o hc e n=>u.free b o e n hc) (λb o hc e=>u.there b o e hc) u.pW u.nO u.p8 (λm' hm=>by
  obtain ⟨o',es',ep',ho',r'⟩:=hm
  rw[ho] at ho';cases ho'
  exact ⟨_,es',ep',hL,r'⟩) hok hg
theorem Inv.turned {t':Nat}{it:Addr}(I:Inv X pins σ H s)(k:∀ b o,b≠it->s.heap.get? b=some o->h'.get? b=some o)(hn:H it=none)(hL:it≠X.env.locals)
  (h1:it∈X.ex∨X.s₀.heap.objs.size<=it) (h2:∀ x c,X.env.cells.lookup x=some c->c≠it) (h3:∀ p∈X.pn++pins,p.1≠it):Inv X pins σ H { s with heap:=h',toks:=t' }:=by
 have nit:∀ b u,H b=some u->b≠it:=λb u e z=>by rw[z,hn] at e;cases e
 refine I.step (g':=s.gens) (d':=s.drawn) (ch:=[it]) (λb hb=>?_) (λb o _ _ hc e _=>k b o (λz=>hc (by simp[z])) e) (λb o _ _ hc e _=>⟨o.slots,k b o (λz=>hc (by simp[z])) e⟩) (λ_ _ _ _ n=>n)
  (λb o hc e=>⟨o,k b o (λz=>hc (by simp[z])) e⟩) (λ_ _ e=>e) (λ_ _ _ e=>e) (λb ps e=>⟨#[],by rw[e];simp⟩) (λm hm=>?_) (λb u e=>?_) I.bare
 ·have e:b=it:=by simpa using hb
  subst e
  exact ⟨h1,hL,h2,h3⟩
 ·obtain ⟨o,es,ep,ho,r⟩:=hm
  exact ⟨o,es,ep,k _ o (WY hL) ho,r⟩
 ·refine (I.hok b u e).lD (λc v hc q=>k c v ?_ q) (λ_ q=>q) λ_ _ q=>q
  rcases hc with z | z
  ·rw[z];exact nit b u e
  ·exact nit c _ z
theorem Inv.tok (I:Inv X pins σ H s)(t:Nat):Inv X pins σ H { s with toks:=t }:=I.un (h':=s.heap) (t':=t) Un.refl I.hok
theorem Inv.kept {t':Nat}(I:Inv X pins σ H s)(k:∀ b u,s.heap.get? b=some u->h'.get? b=some u):Inv X pins σ H { s with heap:=h',toks:=t' }:=I.un (Un.kept k) (I.hok.kept k)
theorem Inv.laid {a:Addr}{o:HO}{t':Nat}(I:Inv X pins σ H s)(k:∀ b u,s.heap.get? b=some u->h'.get? b=some u)(hp:s.heap.objs.size<=a)(new:dG X.prog X.w (upd H a o) h' a o) :
  Inv X pins σ (upd H a o) { s with heap:=h',toks:=t' }:=I.un (Un.laid k hp (I.hok.fresh hp)) (I.hok.laid k hp new)
theorem Inv.write {x e:Addr}{o:HO}{t':Nat}(I:Inv X pins σ H s)(mu:Mut (H x))(he:e=x∨H e=some (.own x))(k:∀ b u,b≠e->s.heap.get? b=some u->h'.get? b=some u)(heo:∃ u,h'.get? e=some u)
  (new:dG X.prog X.w (upd H x o) h' x o):Inv X pins σ (upd H x o) { s with heap:=h',toks:=t' }:=I.un (Un.write mu he k heo) (I.hok.write mu he k heo new)
theorem Inv.weak {σ':List (Option V)}(I:Inv X pins σ H s)(hl:σ'.length=σ.length)(w:∀ (i:Nat) v,σ'[i]? = some (some v)->σ[i]? = some (some v)):Inv X pins σ' H s:=
 ⟨I.ok,I.os,I.bare,I.base,let ⟨m,hn,hl'⟩:=I.loc;⟨m,hn,λi x v e1 e2 e3=>hl' i x v e1 (w i v e2) e3⟩,I.cell,I.free,I.j9,I.pin,I.hok,hl.trans I.len⟩
theorem Inv.DI {pins':List (Addr×Obj)}(I:Inv X pins σ H s)(h:∀ p∈pins',s.heap.get? p.1=some p.2/\H p.1=none/\p.1≠X.env.locals/\p.1 ∉ X.fs/\∀ v,p.2.data≠.cell v):Inv X pins' σ H s:=
 ⟨I.ok,I.os,I.bare,I.base,I.loc,I.cell,I.free,I.j9,λp hp=>(WZ.mp hp).elim (λz=>I.pin p (XU _ z)) (h p),I.hok,I.len⟩
theorem yW {N:List Str}(hN:N.Nodup){i j:Nat}{x:Str}(a:N[i]? = some x)(b:N[j]? = some x):i=j:=by
 obtain ⟨h1,e1⟩:=WL.mp a
 obtain ⟨h2,e2⟩:=WL.mp b
 exact (zaY hN).mp (e1.trans e2.symm)
theorem E5 {M:Model}{A:Xn}{E:We->Wh->Prop}{i:Nat}{x:Str}{v:V}{u:We}{Q:Unit->Wh->Prop}(I:Inv X pins σ H s)(hN:X.N.Nodup)(hi:X.N[i]? = some x)(hx:Loc X.env.scope x)(r:RelV v u)
  (h:∀ s',Inv X pins (σ.set i (some v)) H s'->(∃ a,Zb a s.heap s'.heap/\(a=X.env.locals∨X.env.cells.lookup x=some a))->Q () s') (hf:X.fn x=true∨X.env.scope.names.lookup x=some .local:=by first | exact .inl rfl | exact .inr rfl | assumption):WJ M A (storeName X.env x u) Q E s:=by
 obtain ⟨m,hn,hl⟩:=id I.loc
 have Vv:(X.env.scope.kind == .class || (X.env.scope.kind == .module&&X.env.locals != X.env.globals))=false:=by rw[I.ok.kind];rfl
 have hiσ:i < σ.length:=by rw[I.len];exact (WL.mp hi).1
 have cne:=I.cne
 have tracked:∀ {a:Addr} {h':Heap},(∃ o,s.heap.get? a=some o/\H a=none)->Zb a s.heap h'->HOk X.prog X.w H h':=λ{a h'} ha hs b ob e=>by
  obtain ⟨_,_,hfree⟩:=ha
  refine (I.hok b ob e).lD (λc w' hc q=>(hs.2 c ?_).trans q) (λ_ q=>q) λ_ _ q=>q
  rintro rfl
  rcases hc with rfl | hc
  ·rw[hfree] at e;cases e
  ·rw[hfree] at hc;cases hc
 rcases hx with hk | hk
 ·refine wpAny_storeName_local hk hn (λh' hn' hs=>?_) Vv
  obtain ⟨oL,_,_,hoL,_⟩:=id hn
  refine h _ ⟨I.ok,I.os,I.bare,⟨λb o e n hb hx=>?_,λb o e n hb hx=>?_,I.base.free,λb o e hx=>?_,I.base.pW,I.base.nO,I.base.p8⟩,⟨_,hn',λj y v' e1 e2 e3=>?_⟩,λy c e=>?_,I.free,I.j9,λp hp=>?_,tracked ⟨oL,hoL,I.free⟩ hs,by simpa using I.len⟩ ⟨_,hs,.inl rfl⟩
  ·exact (hs.2 b (WO (WK (WC e) I.ok.above))).trans (I.base.keep b o e n hb hx)
  ·obtain ⟨sl,e1⟩:=I.base.slot b o e n hb hx
   exact ⟨sl,(hs.2 b (WO (WK (WC e) I.ok.above))).trans e1⟩
  ·obtain ⟨o',e1⟩:=I.base.there b o e hx
   exact ⟨o',(hs.2 b (WO (WK (WC e) I.ok.above))).trans e1⟩
  ·by_cases hj:j=i
   ·subst hj
    rw[hi] at e1;cases e1
    rw[ZI hiσ] at e2
    cases e2
    exact ⟨u,r,.inl ⟨hk,by simp⟩⟩
   ·rw[Yz (WY hj)] at e2
    obtain ⟨u',r',q⟩:=hl j y v' e1 e2 e3
    refine ⟨u',r',?_⟩
    rcases q with ⟨k,e⟩ | ⟨k,c,e,z⟩
    ·refine .inl ⟨k,?_⟩
     have:y≠x:=λe=>hj (yW hN e1 (e ▸ hi))
     simp[this,e]
    ·exact .inr ⟨k,c,e,z.sameBut hs (cne y c e)⟩
  ·obtain ⟨w',z⟩:=I.cell y c e
   exact ⟨w',z.sameBut hs (cne y c e)⟩
  ·obtain ⟨e,n,ne,nf,d⟩:=I.pin p hp
   exact ⟨(hs.2 p.1 ne).trans e,n,ne,nf,d⟩
 ·have hfn:X.fn x=true:=by
   rcases hf with z | z
   ·exact z
   ·rw[z] at hk;cases hk
  obtain ⟨c,hc⟩:=I.ok.has x (.inl hk)
  obtain ⟨w',z⟩:=I.cell x c hc
  refine wpAny_storeName_cell I.ok.kind hk hc z (λh' hc' hs=>?_)
  obtain ⟨oc,hoc,hocd⟩:=id z
  refine h { s with heap:=h' } ⟨I.ok,I.os,I.bare,⟨λb o e n hb hx=>?_,λb o e n hb hx=>?_,I.base.free,λb o e hx=>?_,I.base.pW,I.base.nO,I.base.p8⟩,⟨m,hn.sameBut hs (WY (cne x c hc)),λj y v' e1 e2 e3=>?_⟩,λy c' e=>?_,I.free,I.j9,λp hp=>?_,tracked ⟨oc,hoc,I.j9 x c hc⟩ hs,by simpa using I.len⟩ ⟨c,hs,.inr hc⟩
  ·exact (hs.2 b (WO (WK (WC e) (I.ok.cab x c hfn hc)))).trans (I.base.keep b o e n hb hx)
  ·obtain ⟨sl,e1⟩:=I.base.slot b o e n hb hx
   exact ⟨sl,(hs.2 b (WO (WK (WC e) (I.ok.cab x c hfn hc)))).trans e1⟩
  ·obtain ⟨o',e1⟩:=I.base.there b o e hx
   exact ⟨o',(hs.2 b (WO (WK (WC e) (I.ok.cab x c hfn hc)))).trans e1⟩
  ·by_cases hj:j=i
   ·subst hj
    rw[hi] at e1;cases e1
    rw[ZI hiσ] at e2
    cases e2
    exact ⟨u,r,.inr ⟨.inl hk,c,hc,hc'⟩⟩
   ·rw[Yz (WY hj)] at e2
    obtain ⟨u',r',q⟩:=hl j y v' e1 e2 e3
    refine ⟨u',r',?_⟩
    rcases q with q | ⟨k,c',e,z'⟩
    ·exact .inl q
    ·refine .inr ⟨k,c',e,z'.sameBut hs ?_⟩
     rintro rfl
     exact hj (yW hN e1 (I.ok.inj _ _ _ e hc ▸ hi))
  ·by_cases hcc:c'=c
   ·subst hcc;exact ⟨_,hc'⟩
   ·obtain ⟨w2,z2⟩:=I.cell y c' e
    exact ⟨w2,z2.sameBut hs hcc⟩
  ·obtain ⟨e,n,ne,nf,d⟩:=I.pin p hp
   refine ⟨(hs.2 p.1 ?_).trans e,n,ne,nf,d⟩
   intro q
   rw[q,hoc] at e
   have q':oc=p.2:=W4 e
   exact d w' (by rw[← q'];exact hocd)
theorem kE {M:Model}{A:Xn}{E:We->Wh->Prop}{i:Nat}{x:Str}{v:V}{u:We}{Q:Unit->Wh->Prop}(I:Inv X pins σ H s)(hN:X.N.Nodup)(hi:X.N[i]? = some x)(hx:Loc X.env.scope x)(r:RelV v u)
  (h:∀ s',Inv X pins (σ.set i (some v)) H s'->Q () s') (hf:X.fn x=true∨X.env.scope.names.lookup x=some .local:=by first | exact .inl rfl | exact .inr rfl | assumption):WJ M A (storeName X.env x u) Q E s:=
 E5 I hN hi hx r (λs' I' _=>h s' I') hf
theorem Inv.OQ {s':Wh}{ch:List Addr}(I:Inv X pins σ H s)(ho:s'.os=s.os)(u:Un (frs X.stack) ch H H' s.heap s'.heap)(hok:HOk X.prog X.w H' s'.heap)(hg:zaH s'.gens)
  (hch:∀ b∈ch,(b∈X.ex∨X.s₀.heap.objs.size<=b)/\b≠X.env.locals/\(∀ x c,X.env.cells.lookup x=some c->c≠b)/\∀ p∈X.pn++pins,p.1≠b):Inv X pins σ H' s':=by
 obtain ⟨h',g',d',t',o'⟩:=s'
 have e:o'=s.os:=ho
 subst e
 exact I.call (g':=g') (t':=t') (d':=d') u hok hg hch
end
abbrev XK:=We->Option Addr->Hp->Prop
abbrev St:=List (Option V)
abbrev VK:=V->Hp->Prop
abbrev TE:=St->Hp->VK->Prop
abbrev TT:=St->Hp->(Bool->Hp->Prop)->Prop
abbrev TA:=St->Hp->(List V->Hp->Prop)->Prop
structure Ends where
 nx:St->Hp->Prop
 rt:VK
 bk:St->Hp->Prop:=λ_ _=>False
 ct:St->Hp->Prop:=λ_ _=>False
abbrev TS:=Ends->St->Hp->Prop
def EP (X:Cx)(pins:List (Addr×Obj))(σ:St)(Q:VK)(u:We)(s':Wh):Prop:=∃ v H',Inv X pins σ H' s'/\RelV v u/\Q v H'
def TP (X:Cx)(pins:List (Addr×Obj))(σ:St)(Q:Bool->Hp->Prop)(b:Bool)(s':Wh):Prop:=∃ H',Inv X pins σ H' s'/\Q b H'
def AP (X:Cx)(pins:List (Addr×Obj))(σ:St)(Q:List V->Hp->Prop)(us:List We)(s':Wh):Prop:=∃ vs H',Inv X pins σ H' s'/\Vals vs us/\Q vs H'
def SP (X:Cx)(pins:List (Addr×Obj))(D:Ends)(f:Flow)(s':Wh):Prop:=
 match f with
 | .next=>∃ σ' H',Inv X pins σ' H' s'/\D.nx σ' H'
 | .brk=>∃ σ' H',Inv X pins σ' H' s'/\D.bk σ' H'
 | .cont=>∃ σ' H',Inv X pins σ' H' s'/\D.ct σ' H'
 | .ret u=>∃ v σ' H',Inv X pins σ' H' s'/\RelV v u/\D.rt v H'
def PE (X:Cx)(e:WR)(t:TE):Prop:=
 ∀ (pins:List (Addr×Obj)) (s:Wh) (σ:St) (H:Hp) (Q:VK),Inv X pins σ H s->t σ H Q->WJ (WM X.prog X.w) X.A (Xw e X.env) (EP X pins σ Q) X.xe s
def PT (X:Cx)(e:WR)(t:TT):Prop:=
 ∀ (pins:List (Addr×Obj)) (s:Wh) (σ:St) (H:Hp) (Q:Bool->Hp->Prop),Inv X pins σ H s->t σ H Q->WJ (WM X.prog X.w) X.A (isTrue e X.env (Xw e X.env)) (TP X pins σ Q) X.xe s
def PW (X:Cx)(e:WR)(t:TT):Prop:=
 ∀ (whole:Sem We) (pins:List (Addr×Obj)) (s:Wh) (σ:St) (H:Hp) (Q:Bool->Hp->Prop),Inv X pins σ H s->t σ H Q->WJ (WM X.prog X.w) X.A (isTrue e X.env whole) (TP X pins σ Q) X.xe s
theorem PW.pt {X:Cx}{e:WR}{t:TT}(h:PW X e t):PT X e t:=h _
def PA (X:Cx)(es:List WR)(t:TA):Prop:=
 ∀ (pos:Pos) (pins:List (Addr×Obj)) (s:Wh) (σ:St) (H:Hp) (Q:List V->Hp->Prop),Inv X pins σ H s->t σ H Q->WJ (WM X.prog X.w) X.A (spliced (XA pos (Ww es X.env))) (AP X pins σ Q) X.xe s
def PS (X:Cx)(st:Stmt)(t:TS):Prop:=
 ∀ (pins:List (Addr×Obj)) (s:Wh) (σ:St) (H:Hp) (D:Ends),Inv X pins σ H s->t D σ H->WJ (WM X.prog X.w) X.A (exec st X.env) (SP X pins D) X.xe s
def PSs (X:Cx)(st:List Stmt)(t:TS):Prop:=
 ∀ (pins:List (Addr×Obj)) (s:Wh) (σ:St) (H:Hp) (D:Ends),Inv X pins σ H s->t D σ H->WJ (WM X.prog X.w) X.A (execs st X.env) (SP X pins D) X.xe s
theorem thn {α:Type}{t:Sem α}{Q Q':α->Wh->Prop}{M:Model}{A:Xn}{E:We->Wh->Prop}{s:Wh}(h:WJ M A t Q E s)(hQ:∀ a s,Q a s->Q' a s):WJ M A t Q' E s:=Xu h hQ λ_ _ x=>x
end L2
namespace L2
open PySem PySem.Spec PyProof.Rows
section
variable {X:Cx}
def SV (i:Nat):TE:=λσ H Q=>∃ v,σ[i]? = some (some v)/\Q v H
def tC (v:V):TE:=λ_ H Q=>Q v H
theorem Iw {i:Nat}{x:Str}{pos:Pos}(hN:X.N[i]? = some x)(hv:Vis X.env.scope x)(hd:(x == ("__debug__" : Str))=false:=by decide)(hcd:(x == ("__classdict__" : Str))=false:=by decide):PE X (.Name x pos) (SV i):=by
 intro pins s σ H Q I h
 obtain ⟨v,e,h⟩:=h
 obtain ⟨m,hn,hl⟩:=I.loc
 obtain ⟨u,r,l⟩:=hl i x v hN e hv
 have fin:EP X pins σ Q u s:=⟨v,H,I,r,h⟩
 rcases l with ⟨hk,hm⟩ | ⟨hk,c,hc,hcell⟩
 ·exact zdA (zbK I.ok.kind hk hn hm fin) hd
 ·rcases hk with hk | hk
  ·exact zdA (zca I.ok.kind hk hc hcell fin) hd
  ·exact zdA (wpAny_loadName_free I.ok.kind hk hc hcell fin hcd) hd
theorem Sk {i j pos}:PE X (.Constant (.int i) j pos) (tC (.int i)):=λ_ _ _ H _ I h=>wpAny_Constant_int ⟨.int i,H,I.tok _,⟨_,rfl⟩,h⟩
theorem Tp {b j pos}:PE X (.Constant (.bool b) j pos) (tC (.bl b)):=λ_ _ _ H _ I h=>Constant_bool ⟨.bl b,H,I,rfl,h⟩
theorem Pp {j pos}:PE X (.Constant .none j pos) (tC .non):=λ_ _ _ H _ I h=>Constant_none ⟨.non,H,I,rfl,h⟩
theorem JQ {x j pos}:PE X (.Constant (.str x) j pos) (tC (.str x)):=λ_ _ _ H _ I h=>Calls.Constant_str ⟨.str x,H,I.tok _,⟨_,rfl⟩,h⟩
def Gl (X:Cx)(x:Str):Prop:=X.env.kindOf x=some .globalImplicit
theorem Du {E:We->Wh->Prop}{pins:List (Addr×Obj)}{s:Wh}{σ:St}{H:Hp}{x:Str}{u:We}{pos:Pos}{Q:We->Wh->Prop}(I:Inv X pins σ H s)(hg:Gl X x)(hm:X.mg x=some u)(h:Q u s)
  (hd:(x == ("__debug__" : Str))=false:=by decide):WJ (WM X.prog X.w) X.A (Xw (.Name x pos) X.env) Q E s:=
 zat I.ok.kind hg (Calls.loadGlobal_global (by rw[I.ok.glob];exact I.mod.glob.keeps I.bk) hm h) hd
theorem kn {E:We->Wh->Prop}{pins:List (Addr×Obj)}{s:Wh}{σ:St}{H:Hp}{x:Str}{u:We}{pos:Pos}{Q:We->Wh->Prop}(I:Inv X pins σ H s)(hg:Gl X x)(hm:X.mg x=none)(hv:Yi x=some u)(h:Q u s)
  (hn:x ≠ "__name__" := by decide) (hd:(x == ("__debug__" : Str))=false:=by decide):WJ (WM X.prog X.w) X.A (Xw (.Name x pos) X.env) Q E s:=by
 obtain ⟨mb,h1,h2⟩:=I.mod.blt
 exact zat I.ok.kind hg (Calls.loadGlobal_builtin (by rw[I.ok.glob];exact I.mod.glob.keeps I.bk) hm (by rw[I.ok.blt];exact h1.keeps I.bk) ((h2 x hn).trans hv) h) hd
theorem Nh {x:Str}{v:V}{u:We}{pos:Pos}(hg:Gl X x)(hm:X.mg x=some u)(r:RelV v u)(hd:(x == ("__debug__" : Str))=false:=by decide):PE X (.Name x pos) (tC v):=
 λ_ _ _ H _ I h=>Du I hg hm ⟨v,H,I,r,h⟩ hd
variable {a b:WR} {ta tb:TE} {pos:Pos}
def tB (t:TE):TT:=λσ H Q=>t σ H λx H1=>∃ c,x=.bl c/\Q c H1
theorem Qn {e:WR}{t:TE}(h:PE X e t)(he:∀ whole,isTrue e X.env whole=(do let v ← whole;standAt e.pos;zbg [v] (truthy v)):=by intro _;rfl):PT X e (tB t):=by
 intro pins s σ H Q I hw
 refine isTrue_plain (thn (h pins s σ H _ I hw) λv s1 ⟨x,H1,I1,r1,q1⟩=>?_) (he _)
 obtain ⟨d,rfl,q⟩:=q1
 cases r1
 exact YA ⟨H1,I1,q⟩
variable {tA tB':TT} {rest:List WR}
def VM (t u:TT):TT:=λσ H Q=>t σ H λc H1=>if c=true then u σ H1 Q else Q false H1
def tOr (t u:TT):TT:=λσ H Q=>t σ H λc H1=>if c=true then Q true H1 else u σ H1 Q
def Vp (t:TT):TT:=λσ H Q=>t σ H λc H1=>Q (!c) H1
theorem pw_and1 (ha:PT X a tA):PW X (.BoolOp .And [a] pos) tA:=by
 intro wh pins s σ H Q I h
 refine isTrue_and (thn (ha pins s σ H Q I h) λc s1 e=>?_)
 cases c with
 | true=>exact isTrue_and_nil e
 | false=>exact e
theorem pw_or1 (ha:PT X a tA):PW X (.BoolOp .Or [a] pos) tA:=by
 intro wh pins s σ H Q I h
 refine isTrue_or (thn (ha pins s σ H Q I h) λc s1 e=>?_)
 cases c with
 | false=>exact isTrue_or_nil e
 | true=>exact e
theorem pw_and (ha:PT X a tA)(hb:PW X (.BoolOp .And (b::rest) pos) tB'):PW X (.BoolOp .And (a::b::rest) pos) (VM tA tB'):=by
 intro wh pins s σ H Q I h
 refine isTrue_and (thn (ha pins s σ H _ I h) λc s1 ⟨H1,I1,q1⟩=>?_)
 cases c with
 | true=>exact hb wh pins s1 σ H1 Q I1 q1
 | false=>exact ⟨H1,I1,q1⟩
theorem pw_or (ha:PT X a tA)(hb:PW X (.BoolOp .Or (b::rest) pos) tB'):PW X (.BoolOp .Or (a::b::rest) pos) (tOr tA tB'):=by
 intro wh pins s σ H Q I h
 refine isTrue_or (thn (ha pins s σ H _ I h) λc s1 ⟨H1,I1,q1⟩=>?_)
 cases c with
 | true=>exact ⟨H1,I1,q1⟩
 | false=>exact hb wh pins s1 σ H1 Q I1 q1
theorem R9 (ha:PT X a tA):PT X (.UnaryOp .Not a pos) (Vp tA):=by
 intro pins s σ H Q I h
 exact isTrue_not (ha pins s σ H (λc H1=>Q (!c) H1) I h)
def Sw (ta tb:TE):TE:=λσ H Q=>ta σ H λx H1=>∃ c,x=.bl c/\if c=true then tb σ H1 Q else Q (.bl false) H1
def Vb (ta tb:TE):TE:=λσ H Q=>ta σ H λx H1=>∃ c,x=.bl c/\if c=true then Q (.bl true) H1 else tb σ H1 Q
theorem Rk {op}{t:TE}(h:PE X a t):PE X (.BoolOp op [a] pos) t:=λpins s σ H Q I hw=>BoolOp_one (h pins s σ H Q I hw)
theorem PU (ha:PE X a ta)(hb:PE X (.BoolOp .And (b::rest) pos) tb):PE X (.BoolOp .And (a::b::rest) pos) (Sw ta tb):=by
 intro pins s σ H Q I h
 refine BoolOp_and (thn (ha pins s σ H _ I h) λv s1 ⟨x,H1,I1,r1,q1⟩=>?_)
 obtain ⟨c,rfl,q1⟩:=q1
 cases r1
 refine YA ?_
 cases c with
 | true=>exact hb pins s1 σ H1 Q I1 q1
 | false=>exact ⟨.bl false,H1,I1,rfl,q1⟩
theorem Us (ha:PE X a ta)(hb:PE X (.BoolOp .Or (b::rest) pos) tb):PE X (.BoolOp .Or (a::b::rest) pos) (Vb ta tb):=by
 intro pins s σ H Q I h
 refine BoolOp_or (thn (ha pins s σ H _ I h) λv s1 ⟨x,H1,I1,r1,q1⟩=>?_)
 obtain ⟨c,rfl,q1⟩:=q1
 cases r1
 refine YA ?_
 cases c with
 | false=>exact hb pins s1 σ H1 Q I1 q1
 | true=>exact ⟨.bl true,H1,I1,rfl,q1⟩
def tIf (t:TT)(ta tb:TE):TE:=λσ H Q=>t σ H λc H1=>if c=true then ta σ H1 Q else tb σ H1 Q
theorem F4 {c:WR}(hc:PT X c tA)(ha:PE X a ta)(hb:PE X b tb):PE X (.IfExp c a b pos) (tIf tA ta tb):=by
 intro pins s σ H Q I h
 refine wpAny_IfExp (thn (hc pins s σ H _ I h) λd s1 ⟨H1,I1,q1⟩=>?_)
 cases d with
 | true=>exact ha pins s1 σ H1 Q I1 q1
 | false=>exact hb pins s1 σ H1 Q I1 q1
end
end L2
namespace L2
open PySem PySem.Spec PyProof.Rows
def SqL (K:Wa)(H:Hp)(a:Addr)(xs:List V):Prop:=
 Rd H a (.lst xs)∨
  ∃ (o:Obj) (its:Array We) (n:Nat),K.lookup a=some o/\o.cls=.type "list" /\ o.dict=none/\o.data=.seq its n/\its.size<=sizeLine/\Vals xs its.toList
def SqT (K:Wa)(H:Hp)(a:Addr)(xs:List V):Prop:=
 Rd H a (.tup xs)∨
  ∃ (o:Obj) (its:Array We) (n:Nat),K.lookup a=some o/\o.cls=.type "tuple" /\ o.dict=none/\o.data=.seq its n/\its.size<=sizeLine/\Vals xs its.toList
def Vs:We->Option V
 | .none=>some .non
 | .bool b=>some (.bl b)
 | .int i _=>some (.int i)
 | .str x _=>some (.str x)
 | .bytes b _=>some (.byt b)
 | .float b _=>some (.flt b)
 | .ref a=>some (.ref a)
 | .type n=>some (.ty n)
 | _=>none
theorem RelV.abs {x:V}{u:We}(r:RelV x u):Vs u=some x:=by
 cases x with
 | non=>cases r;rfl
 | bl _=>cases r;rfl
 | int _=>obtain ⟨t,rfl⟩:=r;rfl
 | str _=>obtain ⟨t,rfl⟩:=r;rfl
 | byt _=>obtain ⟨t,rfl⟩:=r;rfl
 | flt _=>obtain ⟨t,rfl⟩:=r;rfl
 | ref _=>cases r;rfl
 | ty _=>cases r;rfl
theorem RelV.inj {x y:V}{u:We}(r:RelV x u)(q:RelV y u):x=y:=W4 (r.abs.symm.trans q.abs)
theorem Vals.inj:∀ {xs ys:List V} {us:List We},Vals xs us->Vals ys us->xs=ys
 | _,_,_,.nil,.nil=>rfl
 | _,_,_,.cons r t,.cons r' t'=>by rw[r.inj r',Vals.inj t t']
section
variable {X:Cx} {pins:List (Addr×Obj)} {σ:St} {H:Hp} {s:Wh} {a:Addr} {xs ys:List V}
theorem SqL.of {K:Wa}(h:H a=some (.lst xs)):SqL K H a xs:=.inl (.inl h)
theorem SqT.of {K:Wa}(h:H a=some (.tup xs)):SqT K H a xs:=.inl (.inl h)
theorem Inv.list (I:Inv X pins σ H s)(h:SqL X.K H a xs):∃ its:List We,Vals xs its/\PlainL s.heap a its.toArray/\xs.length<=sizeLine:=by
 rcases h with h | ⟨o,its,n,hk,hc,hd,hs,hz,r⟩
 ·obtain ⟨z,its,n,r,e⟩:=h.ok I.hok
  exact ⟨its,r,⟨_,n,e,rfl,rfl,rfl⟩,z⟩
 ·refine ⟨its.toList,r,⟨o,n,I.kIn a o hk,hc,hd,by simpa using hs⟩,?_⟩
  have e:=r.length
  simp only[Zl] at e
  omega
theorem Inv.tuple (I:Inv X pins σ H s)(h:SqT X.K H a xs):∃ its:List We,Vals xs its/\zdj s.heap a its.toArray/\xs.length<=sizeLine:=by
 rcases h with h | ⟨o,its,n,hk,hc,hdn,hs,hz,r⟩
 ·obtain ⟨z,its,r,p⟩:=h.ok I.hok
  exact ⟨its,r,p.tup,z⟩
 ·refine ⟨its.toList,r,⟨o,I.kIn a o hk,hc,n,by simpa using hs⟩,?_⟩
  have e:=r.length
  simp only[Zl] at e
  omega
theorem Inv.RO (I:Inv X pins σ H s)(h:SqT X.K H a xs):∃ o,s.heap.get? a=some o/\o.cls=.type "tuple" /\ o.dict=none:=by
 rcases h with h | ⟨o,its,n,hk,hc,hdn,hs,hz,r⟩
 ·obtain ⟨z,its,r,n,e⟩:=h.ok I.hok
  exact ⟨_,e,rfl,rfl⟩
 ·exact ⟨o,I.kIn a o hk,hc,hdn⟩
theorem Inv.yo (I:Inv X pins σ H s)(h:SqL X.K H a xs)(h':SqL X.K H a ys):xs=ys:=by
 obtain ⟨its,r,⟨o,n,e,_,_,d⟩,_⟩:=I.list h
 obtain ⟨its',r',⟨o',n',e',_,_,d'⟩,_⟩:=I.list h'
 rw[e] at e';cases e'
 rw[d] at d'
 injection d' with d1 _
 have:its=its':=by simpa using congrArg zd2 d1
 subst this
 exact r.inj r'
theorem Inv.u7 (I:Inv X pins σ H s)(h:SqT X.K H a xs)(h':SqT X.K H a ys):xs=ys:=by
 obtain ⟨its,r,⟨o,e,_,n,d⟩,_⟩:=I.tuple h
 obtain ⟨its',r',⟨o',e',_,n',d'⟩,_⟩:=I.tuple h'
 rw[e] at e';cases e'
 rw[d] at d'
 injection d' with d1 _
 have:its=its':=by simpa using congrArg zd2 d1
 subst this
 exact r.inj r'
end
abbrev Cx.pR (X:Cx)(E:We->Wh->Prop):Cx:={ X with xe:=E }
abbrev Cx.nox (X:Cx):Cx:=X.pR λ_ _=>False
theorem Cx.Ok.pR {X:Cx}(ok:X.Ok)(E:We->Wh->Prop):(X.pR E).Ok:=
 ⟨ok.mod,ok.kind,ok.glob,ok.blt,ok.above,ok.inj,ok.has,ok.cab,ok.hd,ok.frames,ok.stk,ok.exf,ok.bs,ok.bsz,ok.Jq,ok.Gv,ok.qL,ok.frf⟩
theorem Cx.Ok.iz {X:Cx}{E:We->Wh->Prop}(ok:(X.pR E).Ok):X.Ok:=
 ⟨ok.mod,ok.kind,ok.glob,ok.blt,ok.above,ok.inj,ok.has,ok.cab,ok.hd,ok.frames,ok.stk,ok.exf,ok.bs,ok.bsz,ok.Jq,ok.Gv,ok.qL,ok.frf⟩
section
variable {X:Cx} {pins:List (Addr×Obj)} {σ:St} {H:Hp} {s:Wh} {E:We->Wh->Prop}
theorem Inv.pR (I:Inv X pins σ H s)(E:We->Wh->Prop):Inv (X.pR E) pins σ H s:=⟨I.ok.pR E,I.os,I.bare,I.base,I.loc,I.cell,I.free,I.j9,I.pin,I.hok,I.len⟩
theorem Inv.iz (I:Inv (X.pR E) pins σ H s):Inv X pins σ H s:=⟨I.ok.iz,I.os,I.bare,I.base,I.loc,I.cell,I.free,I.j9,I.pin,I.hok,I.len⟩
theorem SP.iz {D:Ends}{f:Flow}{s':Wh}(h:SP (X.pR E) pins D f s'):SP X pins D f s':=by
 cases f with
 | next=>obtain ⟨σ',H',I,q⟩:=h;exact ⟨σ',H',I.iz,q⟩
 | brk=>obtain ⟨σ',H',I,q⟩:=h;exact ⟨σ',H',I.iz,q⟩
 | cont=>obtain ⟨σ',H',I,q⟩:=h;exact ⟨σ',H',I.iz,q⟩
 | ret u=>obtain ⟨v,σ',H',I,r,q⟩:=h;exact ⟨v,σ',H',I.iz,r,q⟩
theorem PE.nox {e:WR}{t:TE}(h:PE X.nox e t):PE X e t:=λpins s σ H Q I hw=>
 Xu (h pins s σ H Q (I.pR _) hw) (λ_ _ ⟨v,H',I',r,q⟩=>⟨v,H',I'.iz,r,q⟩) λ_ _ z=>Wm z
theorem PT.nox {e:WR}{t:TT}(h:PT X.nox e t):PT X e t:=λpins s σ H Q I hw=>
 Xu (h pins s σ H Q (I.pR _) hw) (λ_ _ ⟨H',I',q⟩=>⟨H',I'.iz,q⟩) λ_ _ z=>Wm z
theorem PSs.nox {st:List Stmt}{t:TS}(h:PSs X.nox st t):PSs X st t:=λpins s σ H D I hw=>
 Xu (h pins s σ H D (I.pR _) hw) (λ_ _ q=>q.iz) λ_ _ z=>Wm z
end
section
variable {X:Cx} {st:Stmt} {rest:List Stmt} {t u:TS} {e:WR} {te:TE} {pos:Pos}
def Ul:TS:=λD σ H=>D.nx σ H
def VN (t u:TS):TS:=λD σ H=>t { D with nx:=u D } σ H
theorem MT:PSs X [] Ul:=λ_ _ σ H _ I h=>zae ⟨σ,H,I,h⟩
theorem HF (h1:PS X st t)(h2:PSs X rest u):PSs X (st::rest) (VN t u):=by
 intro pins s σ H D I h
 refine zc6 (thn (h1 pins s σ H { D with nx:=u D } I h) λf s1 q=>?_)
 cases f with
 | next=>
  obtain ⟨σ',H',I',q⟩:=q
  exact h2 pins s1 σ' H' D I' q
 | ret v=>exact q
 | brk=>exact q
 | cont=>exact q
theorem Ld (h1:PS X st t):PSs X [st] t:=by
 intro pins s σ H D I h
 refine zc6 (thn (h1 pins s σ H D I h) λf s1 q=>?_)
 cases f with
 | next=>exact zae q
 | ret v=>exact q
 | brk=>exact q
 | cont=>exact q
theorem Inv.quiet {pins:List (Addr×Obj)}{σ:St}{H:Hp}{s:Wh}(I:Inv X pins σ H s):interactive X.env=false:=by simp[interactive,I.ok.kind]
def Tn (te:TE):TS:=λD σ H=>te σ H λ_ H1=>D.nx σ H1
theorem NM (he:PE X e te)(hs:YJ e none pos.line X.env=pure false:=by rfl):PS X (.Expr e pos) (Tn te):=by
 intro pins s σ H D I h
 exact wpAny_Expr_any (thn (he pins s σ H _ I h) λv s1 ⟨x,H1,I1,r1,q1⟩=>⟨σ,H1,I1,q1⟩) I.quiet hs
def U0 (te:TE):TS:=λD σ H=>te σ H D.rt
theorem Q6 (he:PE X e te):PS X (.Return (some e) pos) (U0 te):=by
 intro pins s σ H D I h
 exact wpAny_Return_some (thn (he pins s σ H _ I h) λv s1 ⟨x,H1,I1,r1,q1⟩=>⟨x,σ,H1,I1,r1,q1⟩)
def Vm (c:TT)(t u:TS):TS:=λD σ H=>c σ H λb H1=>if b=true then t D σ H1 else u D σ H1
theorem Ud {c:WR}{a b:List Stmt}{tc:TT}(hc:PT X c tc)(ha:PSs X a t)(hb:PSs X b u):PS X (.If c a b pos) (Vm tc t u):=by
 intro pins s σ H D I h
 refine wpAny_If (thn (hc pins s σ H _ I h) λd s1 ⟨H1,I1,q1⟩=>?_)
 cases d with
 | true=>exact ha pins s1 σ H1 D I1 q1
 | false=>exact hb pins s1 σ H1 D I1 q1
end
abbrev TG:=V->St->Hp->(St->Hp->Prop)->Prop
abbrev TGs:=List V->St->Hp->(St->Hp->Prop)->Prop
def PG (X:Cx)(target:WR)(t:TG):Prop:=
 ∀ (pins:List (Addr×Obj)) (s:Wh) (σ:St) (H:Hp) (v:V) (u:We) (Q:St->Hp->Prop),Inv X pins σ H s->RelV v u->t v σ H Q->
  WJ (WM X.prog X.w) X.A (zbL target X.env u) (λ_ s'=>∃ σ' H',Inv X pins σ' H' s'/\Q σ' H') X.xe s
def PGs (X:Cx)(ts:List WR)(t:TGs):Prop:=
 ∀ (pins:List (Addr×Obj)) (s:Wh) (σ:St) (H:Hp) (vs:List V) (us:List We) (Q:St->Hp->Prop),Inv X pins σ H s->Vals vs us->t vs σ H Q->
  WJ (WM X.prog X.w) X.A (zch ((XZ ts X.env).map (·.2)) us) (λ_ s'=>∃ σ' H',Inv X pins σ' H' s'/\Q σ' H') X.xe s
abbrev TIp:=V->V->Hp->VK->Prop
def PIp (X:Cx)(op:zbM)(t:TIp):Prop:=
 ∀ (pins:List (Addr×Obj)) (s:Wh) (σ:St) (H:Hp) (x y:V) (v u:We) (Q:VK),Inv X pins σ H s->RelV x v->RelV y u->t x y H Q->
  WJ (WM X.prog X.w) X.A (inplaceOp op v u) (EP X pins σ Q) X.xe s
section
variable {X:Cx} {pos:Pos}
def nj (i:Nat):TG:=λv σ H Q=>Q (σ.set i (some v)) H
theorem ji {i:Nat}{x:Str}(hN:X.N.Nodup)(hi:X.N[i]? = some x)(hx:Loc X.env.scope x)(hf:X.fn x=true∨X.env.scope.names.lookup x=some .local:=by first | exact .inl rfl | exact .inr rfl | assumption):PG X (.Name x pos) (nj i):=by
 intro pins s σ H v u Q I r h
 exact wpAny_assign_Name (kE I hN hi hx r (λs' I'=>⟨_,H,I',h⟩) hf)
def VB:TGs:=λvs σ H Q=>vs=[]/\Q σ H
def S9 (t:TG)(u:TGs):TGs:=λvs σ H Q=>∃ v r,vs=v::r/\t v σ H λσ' H'=>u r σ' H' Q
theorem C9:PGs X [] VB:=by
 intro pins s σ H vs us Q I r h
 obtain ⟨e,h⟩:=h
 subst e
 cases r
 exact zcL ⟨σ,H,I,h⟩
theorem zN {e:WR}{es:List WR}{t:TG}{u:TGs}(h1:PG X e t)(h2:PGs X es u)
  (hs:(XZ (e::es) X.env).map (·.2)=zbL e X.env::(XZ es X.env).map (·.2):=by rfl):PGs X (e::es) (S9 t u):=by
 intro pins s σ H vs us Q I r h
 obtain ⟨v,vr,e1,h⟩:=h
 subst e1
 cases r with
 | cons r rr=>
  rw[hs]
  refine zau (thn (h1 pins s σ H _ _ _ I r h) λ_ s1 ⟨σ1,H1,I1,q1⟩=>?_)
  exact h2 pins s1 σ1 H1 _ _ Q I1 rr q1
def VC (K:Wa)(n:Nat)(t:TGs):TG:=λv σ H Q=>∃ a xs,v=.ref a/\SqT K H a xs/\xs.length=n/\t xs σ H Q
theorem He {es:List WR}{k:Nat}{t:TGs}{n:Nat}(hc:X.calm=true)(h:PGs X es t)
  (hn:(XZ es X.env).length=n:=by rfl) (hst:(XZ es X.env).findIdx? (·.1)=none:=by rfl):PG X (.Tuple es k pos) (VC X.K n t):=by
 intro pins s σ H v u Q I r hw
 obtain ⟨a,xs,e1,hq,hl,hw⟩:=hw
 subst e1
 cases r
 obtain ⟨its,rv,ht,hz⟩:=I.tuple hq
 refine assign_Tuple_tuple (I.ok.hd hc) ht (by simp[hn,← hl,rv.length]) hst λh' hx=>?_
 have I1:Inv X pins σ H { s with heap:=h' }:=I.kept (t':=s.toks) λb o e=>hx b o (WO (WC e)) e
 exact h pins _ σ H xs _ Q I1 (by simpa using rv) hw
def GX (te:TE)(g:TG):TS:=λD σ H=>te σ H λx H1=>g x σ H1 D.nx
theorem Ql {tg e:WR}{te:TE}{g:TG}(he:PE X e te)(hg:PG X tg g)(hs:zaN [tg] e pos.line X.env=pure false:=by rfl)(hw:zaO [tg] e X.env=pure none:=by rfl)
  (h1:(XZ [tg] X.env).map (·.2)=[zbL tg X.env]:=by rfl):PS X (.Assign [tg] e pos) (GX te g):=by
 intro pins s σ H D I h
 refine wpAny_Assign_stores (thn (he pins s σ H _ I h) λv s1 ⟨x,H1,I1,r1,q1⟩=>?_) hs hw
 rw[h1]
 exact thn (hg pins s1 σ H1 x v _ I1 r1 q1) λ_ s2 q=>q
theorem PZ {i:Nat}{x:Str}{e:WR}{te:TE}{pos':Pos}(hN:X.N.Nodup)(hi:X.N[i]? = some x)(hx:Loc X.env.scope x)(he:PE X e te)(hs:YJ e (some (.Name x pos')) pos.line X.env=pure false:=by rfl)(hf:X.fn x=true∨X.env.scope.names.lookup x=some .local:=by first | exact .inl rfl | exact .inr rfl | assumption) :
  PS X (.Assign [.Name x pos'] e pos) (GX te (nj i)):=by
 intro pins s σ H D I h
 refine wpAny_Assign_Name (thn (he pins s σ H _ I h) λv s1 ⟨y,H1,I1,r1,q1⟩=>?_) hs
 exact kE I1 hN hi hx r1 (λs2 I2=>⟨_,H1,I2,q1⟩) hf
def Vy (i j:Nat)(ta:TA):TS:=λD σ H=>ta σ H λvs H1=>∃ v w,vs=[v,w]/\D.nx ((σ.set i (some v)).set j (some w)) H1
theorem Q9 {i j:Nat}{x y:Str}{a b:WR}{ta:TA}{px py pt:Pos}{kt k2 pt2}(hc:X.calm=true)(hN:X.N.Nodup)(hi:X.N[i]? = some x)(hj:X.N[j]? = some y)(hij:i≠j)
  (hx:X.env.scope.names.lookup x=some .local) (hy:X.env.scope.names.lookup y=some .local) (ha:PA X [a,b] ta)
  (hw:zaO [.Tuple [.Name x px,.Name y py] kt pt] (.Tuple [a,b] k2 pt2) X.env=pure (some [x,y]))
  (hs:zaN [.Tuple [.Name x px,.Name y py] kt pt] (.Tuple [a,b] k2 pt2) pos.line X.env=pure false:=by rfl) :
  PS X (.Assign [.Tuple [.Name x px,.Name y py] kt pt] (.Tuple [a,b] k2 pt2) pos) (Vy i j ta):=by
 intro pins s σ H D I h
 rw[exec_Assign_arm]
 refine Wb (zaP ?_)
 rw[hs]
 refine Wb (Wn ?_)
 rw[if_neg (by decide)]
 refine Wb (Tuple_ (thn (ha _ pins s σ H _ I h) λus s1 ⟨vs,H1,I1,r1,q1⟩=>?_))
 obtain ⟨v,w,e1,q1⟩:=q1
 subst e1
 obtain ⟨u1,u2,rfl,rv,rw'⟩:∃ u1 u2,us=[u1,u2]/\RelV v u1/\RelV w u2:=by
  cases r1 with
  | cons p q=>
   cases q with
   | cons p' q'=>
    cases q'
    exact ⟨_,_,rfl,p,p'⟩
 refine Xp ?_ (by show 2<=sizeLine;decide)
 have I2:Inv X pins σ H1 { s1 with heap:=s1.heap.push { cls:=.type "tuple", data:=.seq [u1,u2].toArray } }:=I1.kept (t':=s1.toks) λb o e=>Wc _ e
 rw[hw]
 refine Wb (Wn ?_)
 show WJ (WM X.prog X.w) X.A (do rule "assign.swapped-stores";let items ← unpackItems (.ref s1.heap.objs.size) 2 none;zch [λv=>zdB X.env y v,λv=>zdB X.env x v] items.reverse;pure Flow.next) _ _ _
 refine Wb (YO (Wb (unpackItems_tuple (items:=#[u1,u2]) (I.ok.hd hc) (IsTup.new s1.heap _) λh' hx'=>?_)))
 have I3:=I2.kept (h':=h') (t':=s1.toks) λb o e=>hx' b o (WO (WC e)) e
 show WJ _ _ (zch [λv=>zdB X.env y v,λv=>zdB X.env x v] [u2,u1] >>= λ_=>pure Flow.next) _ _ _
 refine Wb (zau (wpAny_bindName (kE I3 hN hj (.inl hy) rw' (λs2 I4=>?_) (.inr hy))))
 refine zau (wpAny_bindName (kE I4 hN hi (.inl hx) rv (λs3 I5=>zcL (Wn ?_)) (.inr hx)))
 rw[List.set_comm _ _ (WY hij)] at I5
 exact ⟨_,H1,I5,q1⟩
def Ts (i:Nat)(te:TE)(ti:TIp):TS:=λD σ H=>∃ x,σ[i]? = some (some x)/\te σ H λy H1=>ti x y H1 λz H2=>D.nx (σ.set i (some z)) H2
theorem Qy {i:Nat}{x:Str}{e:WR}{te:TE}{op:zbM}{ti:TIp}{pos':Pos}(hN:X.N.Nodup)(hi:X.N[i]? = some x)(hx:Loc X.env.scope x)(he:PE X e te)(ho:PIp X op ti)(hf:X.fn x=true∨X.env.scope.names.lookup x=some .local:=by first | exact .inl rfl | exact .inr rfl | assumption) :
  PS X (.AugAssign (.Name x pos') op e pos) (Ts i te ti):=by
 intro pins s σ H D I h
 obtain ⟨v,e1,h⟩:=h
 obtain ⟨m,hn,hl⟩:=I.loc
 have vis:Vis X.env.scope x:=by rcases hx with k | k;exact .inl k;exact .inr (.inl k)
 obtain ⟨u,r,l⟩:=hl i x v hi e1 vis
 refine wpAny_AugAssign_Name ?_
 have go:WJ (WM X.prog X.w) X.A (Xw e X.env) (λw s₂=>WJ (WM X.prog X.w) X.A (inplaceOp op u w) (λr s₃=>WJ (WM X.prog X.w) X.A (storeName X.env x r) (λ_=>SP X pins D .next) X.xe s₃) X.xe s₂) X.xe s:=by
  refine thn (he pins s σ H _ I h) λw s1 ⟨y,H1,I1,r1,q1⟩=>?_
  refine thn (ho pins s1 σ H1 v y u w _ I1 r r1 q1) λz s2 ⟨zv,H2,I2,r2,q2⟩=>?_
  exact kE I2 hN hi hx r2 (λs3 I3=>⟨_,H2,I3,q2⟩) hf
 rcases l with ⟨hk,hm⟩ | ⟨hk,c,hc,hcell⟩
 ·exact zbK I.ok.kind hk hn hm go
 ·rcases hk with hk | hk
  ·exact zca I.ok.kind hk hc hcell go
  ·rcases hx with k | k
   ·have:X.env.scope.names.lookup x=some .free:=hk
    rw[k] at this;cases this
   ·have:X.env.scope.names.lookup x=some .free:=hk
    rw[k] at this;cases this
def ipI (f:Int->Int->Int):TIp:=λx y H Q=>∃ i j,x=.int i/\y=.int j/\Q (.int (f i j)) H
theorem QD:PIp X .Add (ipI λi j=>i+j):=by
 intro pins s σ H x y v u Q I r1 r2 h
 obtain ⟨i,j,e1,e2,q⟩:=h
 subst e1;subst e2
 obtain ⟨t,rfl⟩:=r1
 obtain ⟨t',rfl⟩:=r2
 exact iadd_int ⟨.int _,H,I.tok _,⟨_,rfl⟩,q⟩
end
section
variable {X:Cx} {pos:Pos}
def Qg (c:TT)(tb:TS):TS:=λD σ H=>∃ W:Nat->St->Hp->Prop,(∃ m,W m σ H)/\∀ m σ H,W m σ H->
 c σ H λb H1=>if b=true then ∃ N:St->Hp->Prop,(∀ σ' H',N σ' H'->∃ m',m' < m/\W m' σ' H')/\tb { D with nx:=N,ct:=N,bk:=D.nx } σ H1 else D.nx σ H1
theorem GF {c:WR}{body:List Stmt}{tc:TT}{tb:TS}(hp:zc7 (WM X.prog X.w) X.A X.env X.xe)(hc:PT X c tc)(hb:PSs X body tb):PS X (.While c body [] pos) (Qg tc tb):=by
 intro pins s σ H D I h
 obtain ⟨W,⟨m0,w0⟩,turn⟩:=h
 refine wpAny_While (codeAny_whileLoop (λn s'=>∃ σ' H',Inv X pins σ' H' s'/\W n σ' H') ?_ m0 ⟨σ,H,I,w0⟩)
 rintro n s1 ⟨σ1,H1,I1,w1⟩
 refine Yx hp (thn (hc pins s1 σ1 H1 _ I1 (turn n σ1 H1 w1)) λb s2 ⟨H2,I2,q2⟩=>?_)
 cases b with
 | true=>
  obtain ⟨N,hN,q2⟩:=q2
  rw[if_pos rfl]
  refine Yx hp (thn (hb pins s2 σ1 H2 _ I2 q2) λf s3 q3=>?_)
  cases f with
  | next=>
   obtain ⟨σ3,H3,I3,n3⟩:=q3
   obtain ⟨m',hm,w3⟩:=hN σ3 H3 n3
   exact ⟨m',hm,σ3,H3,I3,w3⟩
  | cont=>
   obtain ⟨σ3,H3,I3,n3⟩:=q3
   obtain ⟨m',hm,w3⟩:=hN σ3 H3 n3
   exact ⟨m',hm,σ3,H3,I3,w3⟩
  | brk=>exact q3
  | ret v=>exact q3
 | false=>
  rw[if_neg YQ]
  exact zae ⟨σ1,H2,I2,q2⟩
end
structure It where
 go:Nat->Hp->Prop
 yld:Nat->Hp->V->Hp->Prop
 stop:Nat->Hp->Prop
def rW (X:Cx)(pins:List (Addr×Obj))(H:Hp)(b:Addr):Prop:=
 H b=none/\b≠X.env.locals/\b ∉ X.fs/\(b∈X.ex∨X.s₀.heap.objs.size<=b)/\(∀ x c,X.env.cells.lookup x=some c->c≠b)/\∀ p∈X.pn++pins,p.1≠b
theorem Inv.FJ {X:Cx}{pins:List (Addr×Obj)}{σ:St}{H H':Hp}{s:Wh}{b:Addr}(I:Inv X pins σ H s)(hb:s.heap.objs.size<=b)(hn:H' b=none):rW X pins H' b:=by
 refine ⟨hn,YR (WK I.lt hb),I.UK hb,.inr (Xa I.sz hb),λx c e z=>?_,λp hp z=>?_⟩
 ·obtain ⟨v,q⟩:=I.cell x c e
  exact absurd (WK q.lt (by rw[z];exact hb)) (Ym _)
 ·exact absurd (WK (WC (I.pin p hp).1) (by rw[z];exact hb)) (Ym _)
structure Turn (P:WX) (w:Xb) (K:Wa) (tg:WR) (J:It) (fp:List Addr) (it:Addr) (tn:Nat->Heap->Prop):Prop where
 mem:it∈fp
 obj:∀ i h,tn i h->∀ b∈fp,∃ o,h.get? b=some o/\∀ v,o.data≠.cell v
 keep:∀ i h h',tn i h->(∀ b∈fp,∀ o,h.get? b=some o->h'.get? b=some o)->tn i h'
 item:∀ (X:Cx),X.prog=P->X.w=w->X.K=K->X.calm=true->∀ (i:Nat) (pins:List (Addr×Obj)) (s:Wh) (σ:St) (H:Hp) (E:We->Wh->Prop),Inv X pins σ H s->(∀ b∈fp,rW X pins H b)->tn i s.heap->J.go i H->
  WJ (WM P w) X.A (Zs (.ref it)) (λr s1=>∃ u,r=some u/\
   WJ (WM P w) X.A (zaf tg (.ref it) u) (λ_ s2=>∃ x H',Inv X pins σ H' s2/\RelV x u/\J.yld i H x H'/\tn (i+1) s2.heap/\∀ b∈fp,H' b=none) E s1) E s
 done:∀ (X:Cx),X.prog=P->X.w=w->X.K=K->X.calm=true->∀ (i:Nat) (pins:List (Addr×Obj)) (s:Wh) (σ:St) (H:Hp) (E:We->Wh->Prop),Inv X pins σ H s->(∀ b∈fp,rW X pins H b)->tn i s.heap->J.stop i H->
  WJ (WM P w) X.A (Zs (.ref it)) (λr s1=>r=none/\Inv X pins σ H s1) E s
 self:∀ (A:Xn) (i:Nat) (s:Wh) (Q:We->Wh->Prop) (E:We->Wh->Prop),tn i s.heap->Q (.ref it) s->WJ (WM P w) A (pyIter (.ref it)) Q E s
abbrev TI:=St->Hp->(It->Hp->Prop)->Prop
def PIE (X:Cx)(pins:List (Addr×Obj))(σ:St)(tg:WR)(R:It->Hp->Prop)(itv:We)(s2:Wh):Prop:=
 ∃ (it:Addr) (fp:List Addr) (tn:Nat->Heap->Prop) (J:It) (H':Hp),itv=.ref it/\Inv X pins σ H' s2/\Turn X.prog X.w X.K tg J fp it tn/\tn 0 s2.heap/\(∀ b∈fp,rW X pins H' b)/\R J H'
def PI (X:Cx)(tg iter:WR)(wi:TI):Prop:=
 ∀ (pins:List (Addr×Obj)) (s:Wh) (σ:St) (H:Hp) (R:It->Hp->Prop),Inv X pins σ H s->wi σ H R->
  WJ (WM X.prog X.w) X.A (Xw iter X.env) (λv s1=>WJ (WM X.prog X.w) X.A (pyIter v) (PIE X pins σ tg R) X.xe s1) X.xe s
theorem Jh {M:Model}{A:Xn}{E:We->Wh->Prop}{s:Wh}{tg:WR}{it:Addr}{u:We}{o:Obj}{n:String}{vs:Array We}{Q:Unit->Wh->Prop}(ho:s.heap.get? it=some o)(hc:o.cls=.type n)(hd:o.data=.fields vs)
  (hn:["enumerate", "zip", "dict_itemiterator", "dict_reverseitemiterator", "odict_iterator", "itertools.zip_longest", "itertools.pairwise"].contains n=false) (hQ:Q () s):WJ M A (zaf tg (.ref it) u) Q E s:=by
 unfold zaf
 cases tg<;>first
  | exact Wn hQ
  | (cases u<;>first
    | exact Wn hQ
    | (refine Wb (wpAny_load ho ?_)
       rw[hc,hd]
       show WJ M A (if (["enumerate", "zip", "dict_itemiterator", "dict_reverseitemiterator", "odict_iterator", "itertools.zip_longest", "itertools.pairwise"].contains n&&vs[0]? == some (zav _))=true then _ else _) Q E s
       rw[if_neg (by intro h;rw[hn,zdC] at h;cases h)]
       exact Wn hQ))
def Itl (K:Wa)(a:Addr):It:=
 ⟨λi H=>∃ xs x,SqL K H a xs/\xs[i]? = some x,λi H x H'=>H'=H/\∀ xs,SqL K H a xs->xs[i]? = some x,λi H=>∃ xs,SqL K H a xs/\xs.length<=i⟩
def Itt (K:Wa)(a:Addr):It:=
 ⟨λi H=>∃ xs x,SqT K H a xs/\xs[i]? = some x,λi H x H'=>H'=H/\∀ xs,SqT K H a xs->xs[i]? = some x,λi H=>∃ xs,SqT K H a xs/\xs.length<=i⟩
def Itr (lo:Int)(n:Nat):It:=⟨λi _=>i < n,λi H x H'=>H'=H/\x=.int (lo+i),λi _=>n<=i⟩
theorem uV {P:WX}{w:Xb}{K:Wa}{tg:WR}(a it:Addr):Turn P w K tg (Itl K a) [it] it (λi h=>h.IsListIter it a i) where
 mem:=by simp
 obj:=λi h st b hb=>by
  have e:b=it:=by simpa using hb
  subst e
  obtain ⟨o,e,c,d⟩:=st
  exact ⟨o,e,λv z=>by rw[d] at z;cases z⟩
 keep:=λi h h' st k=>st.at λo e=>k it (by simp) o e
 item:=by
  intro X hP hw hK hc i pins s σ H E I hf st hg
  subst hP hw hK
  obtain ⟨xs,x,hq,hx⟩:=hg
  obtain ⟨its,rv,p,hz⟩:=I.list hq
  obtain ⟨u,hu,ru⟩:=rv.get hx
  obtain ⟨f0,f1,f2,f3,f4,f5⟩:=hf it (by simp)
  refine zbh st p.isList (x:=u) (by simpa using hu) λh' st' sb=>?_
  have I1:Inv X pins σ H { s with heap:=h' }:=I.turned (t':=s.toks) (λb o hb e=>(sb.2 b hb).trans e) f0 f1 f3 f4 f5
  obtain ⟨o,e,c,d⟩:=id st'
  exact ⟨u,rfl,Jh (s:={ s with heap:=h' }) e c d (by decide) ⟨x,H,I1,ru,⟨rfl,λys hy=>by rw[I.yo hy hq];exact hx⟩,st',λb hb=>(hf b hb).1⟩⟩
 done:=by
  intro X hP hw hK hc i pins s σ H E I hf st hg
  subst hP hw hK
  obtain ⟨xs,hq,hx⟩:=hg
  obtain ⟨its,rv,p,hz⟩:=I.list hq
  obtain ⟨f0,f1,f2,f3,f4,f5⟩:=hf it (by simp)
  have hl:=rv.length
  exact zbG (I.ok.hd hc) st p.isList (by simp;omega) λh' eb=>⟨rfl,I.turned (t':=s.toks) (λb o hb e=>eb b o hb e) f0 f1 f3 f4 f5⟩
 self:=λ_ _ _ _ _ st h=>wpAny_pyIter_listiter st h
theorem Cm {P:WX}{w:Xb}{K:Wa}{tg:WR}(a it:Addr):Turn P w K tg (Itt K a) [it] it (λi h=>h.IsTupleIter it a i) where
 mem:=by simp
 obj:=λi h st b hb=>by
  have e:b=it:=by simpa using hb
  subst e
  obtain ⟨o,e,c,d⟩:=st
  exact ⟨o,e,λv z=>by rw[d] at z;cases z⟩
 keep:=λi h h' st k=>st.at λo e=>k it (by simp) o e
 item:=by
  intro X hP hw hK hc i pins s σ H E I hf st hg
  subst hP hw hK
  obtain ⟨xs,x,hq,hx⟩:=hg
  obtain ⟨its,rv,p,hz⟩:=I.tuple hq
  obtain ⟨u,hu,ru⟩:=rv.get hx
  obtain ⟨f0,f1,f2,f3,f4,f5⟩:=hf it (by simp)
  refine wpAny_pyNext_tuple_item st (show s.heap.IsTuple a its.toArray from p) (x:=u) (by simpa using hu) λh' st' sb=>?_
  have I1:Inv X pins σ H { s with heap:=h' }:=I.turned (t':=s.toks) (λb o hb e=>(sb.2 b hb).trans e) f0 f1 f3 f4 f5
  obtain ⟨o,e,c,d⟩:=id st'
  exact ⟨u,rfl,Jh (s:={ s with heap:=h' }) e c d (by decide) ⟨x,H,I1,ru,⟨rfl,λys hy=>by rw[I.u7 hy hq];exact hx⟩,st',λb hb=>(hf b hb).1⟩⟩
 done:=by
  intro X hP hw hK hc i pins s σ H E I hf st hg
  subst hP hw hK
  obtain ⟨xs,hq,hx⟩:=hg
  obtain ⟨its,rv,p,hz⟩:=I.tuple hq
  obtain ⟨f0,f1,f2,f3,f4,f5⟩:=hf it (by simp)
  have hl:=rv.length
  exact wpAny_pyNext_tuple_end (I.ok.hd hc) st (show s.heap.IsTuple a its.toArray from p) (by simp;omega) λh' eb=>⟨rfl,I.turned (t':=s.toks) (λb o hb e=>eb b o hb e) f0 f1 f3 f4 f5⟩
 self:=λ_ _ _ _ _ st h=>wpAny_pyIter_tupleiter st h
theorem Bv {P:WX}{w:Xb}{K:Wa}{tg:WR}(it:Addr)(lo:Int)(n:Nat):Turn P w K tg (Itr lo n) [it] it (λi h=>IsRangeIter h it (lo+(i:Nat)*1) ((n:Int) - (i:Nat)) 1) where
 mem:=by simp
 obj:=λi h st b hb=>by
  have e:b=it:=by simpa using hb
  subst e
  exact ⟨_,st,λv z=>by
   have z':Data.fields _=Data.cell v:=z
   cases z'⟩
 keep:=λi h h' st k=>k it (by simp) _ st
 item:=by
  intro X hP hw hK hc i pins s σ H E I hf st hg
  subst hP hw hK
  obtain ⟨f0,f1,f2,f3,f4,f5⟩:=hf it (by simp)
  have W:=Walks.range (prog:=X.prog) (w:=X.w) (I.ok.hd hc) it lo 1 n
  refine W.item i s _ _ hg st λv h' tk hv st' kk=>?_
  obtain ⟨t,rfl⟩:=hv
  have I1:Inv X pins σ H { s with heap:=h',toks:=tk }:=I.turned (λb o hb e=>kk b o (by simpa using hb) e) f0 f1 f3 f4 f5
  refine ⟨_,rfl,Jh (s:={ s with heap:=h',toks:=tk }) (n := "range_iterator") st' rfl rfl (by decide) ⟨.int (lo+i),H,I1,⟨t,?_⟩,⟨rfl,rfl⟩,st',λb hb=>(hf b hb).1⟩⟩
  rw[Int.mul_one]
 done:=by
  intro X hP hw hK hc i pins s σ H E I hf st hg
  subst hP hw hK
  obtain ⟨f0,f1,f2,f3,f4,f5⟩:=hf it (by simp)
  exact wpAny_pyNext_range_end (I.ok.hd hc) st (by have:n<=i:=hg;omega) λh' eb=>⟨rfl,I.turned (t':=s.toks) (λb o hb e=>eb b o hb e) f0 f1 f3 f4 f5⟩
 self:=λ_ _ _ _ _ st h=>wpAny_pyIter_rangeiter st h
end L2
namespace L2
open PySem PySem.Spec PyProof.Rows
section
variable {X:Cx} {tg:WR}
def Oy (K:Wa)(tl:TE):TI:=λσ H R=>tl σ H λx H1=>∃ a,x=.ref a/\(∃ xs,SqL K H1 a xs)/\R (Itl K a) H1
theorem C8 {l:WR}{tl:TE}(hl:PE X l tl):PI X tg l (Oy X.K tl):=by
 intro pins s σ H R I h
 refine thn (hl pins s σ H _ I h) λv s1 ⟨x,H1,I1,r1,q1⟩=>?_
 obtain ⟨a,e,⟨xs,hq⟩,q⟩:=q1
 subst e
 cases r1
 obtain ⟨its,rv,p,hz⟩:=I1.list hq
 refine Y0 p.isList ?_
 refine ⟨s1.heap.objs.size,[s1.heap.objs.size],_,_,H1,rfl,I1.kept (t':=s1.toks) λb o e=>Wc _ e,uV a _,⟨_,WE _ rfl,rfl,rfl⟩,λb hb=>?_,q⟩
 have e:b=s1.heap.objs.size:=by simpa using hb
 subst e
 exact I1.FJ (WA _) (I1.hok.fresh (WA _))
theorem IU {pins:List (Addr×Obj)}{σ:St}{H:Hp}{s:Wh}{R:It->Hp->Prop}{E:We->Wh->Prop}{lo hi:Int}{t u v:Tok}{tk:Nat}(I:Inv X pins σ H s)(h1:-(2 ^ 62)<=lo)(h2:lo < 2 ^ 62)(h3:-(2 ^ 62)<=hi)(h4:hi < 2 ^ 62)
  (q:R (Itr lo (hi - lo).toNat) H):WJ (WM X.prog X.w) X.A (pyIter (.ref s.heap.objs.size)) (PIE X pins σ tg R) E { s with heap:=s.heap.push { cls:=.type "range", data:=.fields #[.int lo t,.int hi u,.int 1 v] },toks:=tk }:=by
 refine wpAny_pyIter_range (zec ..) (small_one h1 h2 h3 h4) ?_
 have I1:Inv X pins σ H { s with heap:=s.heap.push { cls:=.type "range", data:=.fields #[.int lo t,.int hi u,.int 1 v] },toks:=tk }:=I.kept λb o e=>Wc _ e
 refine ⟨(s.heap.push { cls:=.type "range", data:=.fields #[.int lo t,.int hi u,.int 1 v] }).objs.size,[(s.heap.push { cls:=.type "range", data:=.fields #[.int lo t,.int hi u,.int 1 v] }).objs.size],_,_,H,rfl,
  I1.kept (t':=tk) λb o e=>Wc _ e,Bv _ lo (hi - lo).toNat,?_,λb hb=>?_,q⟩
 ·have e1:lo+((0:Nat):Int)*1=lo:=by simp
  have e2:(((hi - lo).toNat:Nat):Int) - ((0:Nat):Int)=Zy lo hi 1:=by rw[rangeSize_one];split<;>omega
  show IsRangeIter _ _ (lo+((0:Nat):Int)*1) ((((hi - lo).toNat:Nat):Int) - ((0:Nat):Int)) 1
  rw[e1,e2]
  exact WE _ rfl
 ·have e:b=(s.heap.push { cls:=.type "range", data:=.fields #[.int lo t,.int hi u,.int 1 v] }).objs.size:=by simpa using hb
  subst e
  exact I1.FJ (WA _) (I1.hok.fresh (WA _))
def SQ (ta:TA):TI:=λσ H R=>ta σ H λvs H1=>∃ j:Int,vs=[.int j]/\-(2 ^ 62)<=j/\j < 2 ^ 62/\R (Itr 0 j.toNat) H1
theorem Ek {a:WR}{ta:TA}{p pos:Pos}(hg:Gl X "range")(hm:X.mg "range" = none)(ha:PA X [a] ta)(hs:Ww [a] X.env=[(false,Xw a X.env)]:=by rfl):PI X tg (.Call (.Name "range" p) [a] [] pos) (SQ ta):=by
 intro pins s σ H R I h
 refine Call_ (kn I hg hm boot_range (Xv (thn (ha pos pins s σ H _ I h) λus s1 ⟨vs,H1,I1,r1,q1⟩=>?_) hs rfl))
 obtain ⟨j,e,q1,q2,q⟩:=q1
 subst e
 cases r1 with
 | cons r rr=>
  cases rr
  obtain ⟨t,rfl⟩:=r
  exact call_range_1 (IU I1 (by omega) (by omega) q1 q2 (by simpa using q))
def V7 (wi:TI)(g:TG)(tb:TS):TS:=λD σ H=>wi σ H λJ H1=>∃ W:Nat->Nat->St->Hp->Prop,(∃ m,W 0 m σ H1)/\∀ i m σ H,W i m σ H->
 (J.stop i H/\D.nx σ H)∨(J.go i H/\∃ N:St->Hp->Prop,(∀ σ' H',N σ' H'->∃ m',m' < m/\W (i+1) m' σ' H')/\∀ x H',J.yld i H x H'->g x σ H' λσ2 H2=>tb { D with nx:=N,ct:=N,bk:=D.nx } σ2 H2)
def tq (fp:List Addr)(h:Heap):List (Addr×Obj):=fp.filterMap λb=>(h.get? b).map λo=>(b,o)
theorem gF {fp:List Addr}{h:Heap}{b:Addr}{o:Obj}(hb:b∈fp)(e:h.get? b=some o):(b,o)∈tq fp h:=Zt.mpr ⟨b,hb,by rw[e];rfl⟩
theorem E4 {fp:List Addr}{h:Heap}{p:Addr×Obj}(hp:p∈tq fp h):p.1∈fp/\h.get? p.1=some p.2:=by
 obtain ⟨b,hb,e⟩:=Zt.mp hp
 cases q:h.get? b with
 | none=>rw[q] at e;cases e
 | some o=>
  rw[q] at e
  have e':(b,o)=p:=W4 e
  subst e'
  exact ⟨hb,q⟩
theorem Inv.pinned {pins:List (Addr×Obj)}{σ:St}{H:Hp}{s:Wh}{fp:List Addr}(I:Inv X pins σ H s)(hf:∀ b∈fp,rW X pins H b)(ho:∀ b∈fp,∃ o,s.heap.get? b=some o/\∀ v,o.data≠.cell v):Inv X (pins++tq fp s.heap) σ H s:=
 I.DI λp hp=>(WZ.mp hp).elim (λz=>I.pin p (WN _ z)) λz=>by
  obtain ⟨hb,e⟩:=E4 z
  obtain ⟨f0,f1,f2,_⟩:=hf p.1 hb
  obtain ⟨o,e',d⟩:=ho p.1 hb
  rw[e] at e';cases e'
  exact ⟨e,f0,f1,f2,d⟩
theorem Inv.ky {pins pl:List (Addr×Obj)}{σ:St}{H:Hp}{s:Wh}(I:Inv X (pins++pl) σ H s):Inv X pins σ H s:=I.DI λp hp=>I.pin p (WN _ (XU _ hp))
theorem Qo {iter:WR}{body:List Stmt}{wi:TI}{g:TG}{tb:TS}{pos:Pos}(hp:zc7 (WM X.prog X.w) X.A X.env X.xe)(hc:X.calm=true)(hi:PI X tg iter wi)(hg:PG X tg g)(hb:PSs X body tb)
  (hs:∀ x,Xf iter X.env x=pure x:=by intro _;rfl):PS X (.For tg iter body [] pos) (V7 wi g tb):=by
 intro pins s σ H D I h
 refine wpAny_For (thn (hi pins s σ H _ I h) λv s1 h1=>thn h1 λitv s2 h2=>?_) hs
 obtain ⟨it,fp,tn,J,H2,e,I2,T,st2,f2,W,⟨m0,w0⟩,turn⟩:=h2
 subst e
 -- what stays true of the iterator's objects through the loop
 have Ck:∀ {H':Hp},(∀ b∈fp,H' b=none)->∀ b∈fp,rW X pins H' b:=λhn b hb=>⟨hn b hb,(f2 b hb).2⟩
 refine codeAny_forLoop_any (λn s'=>∃ i σ' H',Inv X pins σ' H' s'/\tn i s'.heap/\(∀ b∈fp,H' b=none)/\W i n σ' H') ?_ m0 ⟨0,σ,H2,I2,st2,λb hb=>(f2 b hb).1,w0⟩
 rintro n s3 ⟨i,σ3,H3,I3,st3,fr3,w3⟩
 rcases turn i n σ3 H3 w3 with ⟨stop,qn⟩ | ⟨go,N,hN,step⟩
 ·refine Yx hp (thn (T.done X rfl rfl rfl hc i pins s3 σ3 H3 X.xe I3 (Ck fr3) st3 stop) λr s4 ⟨hr,I4⟩=>?_)
  subst hr
  exact zae ⟨σ3,H3,I4,qn⟩
 ·refine Yx hp (thn (T.item X rfl rfl rfl hc i pins s3 σ3 H3 X.xe I3 (Ck fr3) st3 go) λr s4 ⟨u,hr,h4⟩=>?_)
  subst hr
  refine Yx hp (thn h4 λ_ s5 ⟨x,H5,I5,r5,y5,st5,fr5⟩=>?_)
  have I5':=I5.pinned (Ck fr5) (T.obj _ _ st5)
  refine Yx hp (thn (hg _ s5 σ3 H5 x u _ I5' r5 (step x H5 y5)) λ_ s6 ⟨σ6,H6,I6,q6⟩=>?_)
  refine Yx hp (thn (hb _ s6 σ6 H6 _ I6 q6) λf s7 q7=>?_)
  have again:∀ {σ7:St} {H7:Hp},Inv X (pins++tq fp s5.heap) σ7 H7 s7->N σ7 H7->∃ m,m < n/\∃ i σ' H',Inv X pins σ' H' s7/\tn i s7.heap/\(∀ b∈fp,H' b=none)/\W i m σ' H':=λ{σ7 H7} I7 n7=>by
   obtain ⟨m',hm,w7⟩:=hN σ7 H7 n7
   refine ⟨m',hm,i+1,σ7,H7,I7.ky,T.keep _ _ _ st5 λb hb o e=>(I7.pin (b,o) (WN _ (WN _ (gF hb e)))).1,λb hb=>?_,w7⟩
   obtain ⟨o,e,d⟩:=T.obj _ _ st5 b hb
   exact (I7.pin (b,o) (WN _ (WN _ (gF hb e)))).2.1
  cases f with
  | next=>obtain ⟨σ7,H7,I7,n7⟩:=q7;exact again I7 n7
  | cont=>obtain ⟨σ7,H7,I7,n7⟩:=q7;exact again I7 n7
  | brk=>obtain ⟨σ7,H7,I7,q7⟩:=q7;exact ⟨σ7,H7,I7.ky,q7⟩
  | ret v=>obtain ⟨x7,σ7,H7,I7,r7,q7⟩:=q7;exact ⟨x7,σ7,H7,I7.ky,r7,q7⟩
end
end L2
namespace L2
open PySem PySem.Spec PyProof.Rows
abbrev R2:=V->V->Hp->VK->Prop
def OpR (X:Cx)(f:We->We->Sem We)(r:R2):Prop:=
 ∀ (pins:List (Addr×Obj)) (s:Wh) (σ:St) (H:Hp) (x y:V) (v u:We) (Q:VK),Inv X pins σ H s->RelV x v->RelV y u->r x y H Q->
  WJ (WM X.prog X.w) X.A (f v u) (EP X pins σ Q) X.xe s
def UnR (X:Cx)(f:We->Sem We)(r:V->Hp->VK->Prop):Prop:=
 ∀ (pins:List (Addr×Obj)) (s:Wh) (σ:St) (H:Hp) (x:V) (v:We) (Q:VK),Inv X pins σ H s->RelV x v->r x H Q->
  WJ (WM X.prog X.w) X.A (f v) (EP X pins σ Q) X.xe s
def cM (X:Cx)(f:We)(r:List V->Hp->VK->Prop):Prop:=
 ∀ (pins:List (Addr×Obj)) (s:Wh) (σ:St) (H:Hp) (xs:List V) (us:List We) (Q:VK),Inv X pins σ H s->Vals xs us->r xs H Q->
  WJ (WM X.prog X.w) X.A (zcb f us) (EP X pins σ Q) X.xe s
def tOp (r:R2)(ta tb:TE):TE:=λσ H Q=>ta σ H λx H1=>tb σ H1 λy H2=>r x y H2 Q
def tUn (r:V->Hp->VK->Prop)(ta:TE):TE:=λσ H Q=>ta σ H λx H1=>r x H1 Q
def rI (C:Int->Int->Prop)(g:Int->Int->V):R2:=λx y H Q=>∃ i j,x=.int i/\y=.int j/\C i j/\Q (g i j) H
def rI0 (g:Int->Int->V):R2:=λx y H Q=>∃ i j,x=.int i/\y=.int j/\Q (g i j) H
def rU (g:Int->V):V->Hp->VK->Prop:=λx H Q=>∃ i,x=.int i/\Q (g i) H
section
variable {X:Cx} {a b c:WR} {ta tb tc:TE} {pos:Pos}
theorem Pg (ha:PE X a ta)(hb:PE X b tb){pins:List (Addr×Obj)}{s:Wh}{σ:St}{H:Hp}{R:V->V->Hp->Prop}(I:Inv X pins σ H s)
  (h:ta σ H λx H1=>tb σ H1 λy H2=>R x y H2) {Q:We->Wh->Prop} {f:We->We->Sem We}
  (hf:∀ v u s2 x y H2,Inv X pins σ H2 s2->RelV x v->RelV y u->R x y H2->WJ (WM X.prog X.w) X.A (f v u) Q X.xe s2) :
  WJ (WM X.prog X.w) X.A (Xw a X.env) (λv s₁=>WJ (WM X.prog X.w) X.A (Xw b X.env) (λu s₂=>WJ (WM X.prog X.w) X.A (f v u) Q X.xe s₂) X.xe s₁) X.xe s:=by
 refine thn (ha pins s σ H _ I h) λv s1 ⟨x,H1,I1,r1,q1⟩=>?_
 refine thn (hb pins s1 σ H1 _ I1 q1) λu s2 ⟨y,H2,I2,r2,q2⟩=>?_
 exact hf v u s2 x y H2 I2 r1 r2 q2
theorem Ob {op:zbM}{r:R2}(ho:OpR X (YK op) r)(ha:PE X a ta)(hb:PE X b tb):PE X (.BinOp a op b pos) (tOp r ta tb):=by
 intro pins s σ H Q I h
 exact wpAny_BinOp (Pg ha hb I h λv u s2 x y H2 I2 rx ry q=>ho pins s2 σ H2 x y v u Q I2 rx ry q)
theorem Uh {op:UnaryOp}{r:V->Hp->VK->Prop}(ho:UnR X (unaryOp op) r)(ha:PE X a ta):PE X (.UnaryOp op a pos) (tUn r ta):=by
 intro pins s σ H Q I h
 exact UnaryOp_ (thn (ha pins s σ H _ I h) λv s1 ⟨x,H1,I1,r1,q1⟩=>ho pins s1 σ H1 x v Q I1 r1 q1)
theorem opI {f:We->We->Sem We}{C:Int->Int->Prop}{g:Int->Int->Int}
  (rule:∀ (i j:Int) (t u:Tok) (s:Wh) (Q:We->Wh->Prop) (E:We->Wh->Prop),C i j->Q (.int (g i j) s.toks) { s with toks:=s.toks+1 }->WJ (WM X.prog X.w) X.A (f (.int i t) (.int j u)) Q E s) :
  OpR X f (rI C λi j=>.int (g i j)):=by
 intro pins s σ H x y v u Q I rx ry h
 obtain ⟨i,j,rfl,rfl,hc,q⟩:=h
 obtain ⟨t,rfl⟩:=rx
 obtain ⟨t',rfl⟩:=ry
 exact rule i j t t' s _ _ hc ⟨.int (g i j),H,I.tok _,⟨_,rfl⟩,q⟩
theorem Sy {f:We->We->Sem We}{g:Int->Int->Int}
  (rule:∀ (i j:Int) (t u:Tok) (s:Wh) (Q:We->Wh->Prop) (E:We->Wh->Prop),Q (.int (g i j) s.toks) { s with toks:=s.toks+1 }->WJ (WM X.prog X.w) X.A (f (.int i t) (.int j u)) Q E s) :
  OpR X f (rI0 λi j=>.int (g i j)):=by
 intro pins s σ H x y v u Q I rx ry h
 obtain ⟨i,j,rfl,rfl,q⟩:=h
 obtain ⟨t,rfl⟩:=rx
 obtain ⟨t',rfl⟩:=ry
 exact rule i j t t' s _ _ ⟨.int (g i j),H,I.tok _,⟨_,rfl⟩,q⟩
theorem PV {f:We->We->Sem We}{g:Int->Int->Bool}
  (rule:∀ (i j:Int) (t u:Tok) (s:Wh) (Q:We->Wh->Prop) (E:We->Wh->Prop),Q (.bool (g i j)) s->WJ (WM X.prog X.w) X.A (f (.int i t) (.int j u)) Q E s) :
  OpR X f (rI0 λi j=>.bl (g i j)):=by
 intro pins s σ H x y v u Q I rx ry h
 obtain ⟨i,j,rfl,rfl,q⟩:=h
 obtain ⟨t,rfl⟩:=rx
 obtain ⟨t',rfl⟩:=ry
 exact rule i j t t' s _ _ ⟨.bl (g i j),H,I,rfl,q⟩
def VH (i j:Int):Prop:=0<=j/\j<=1000000/\i.natAbs < 2 ^ 64
def TK (i j:Int):Prop:=(-(2 ^ 64) < i/\i < 2 ^ 64)∨(-(2 ^ 64) < j/\j < 2 ^ 64)
theorem TK.ok {i j:Int}(h:TK i j):IntMulOk i j:=by
 rcases h with ⟨h1,h2⟩ | ⟨h1,h2⟩
 ·exact .of_left (zaQ h1 h2)
 ·exact .of_right (zaQ h1 h2)
theorem O0:OpR X (YK .Add) (rI0 λi j=>.int (i+j)):=Sy λ_ _ _ _ _ _ _ q=>add_int q
theorem QS:OpR X (YK .Sub) (rI0 λi j=>.int (i - j)):=Sy λ_ _ _ _ _ _ _ q=>sub_int q
theorem K1:OpR X (YK .Mod) (rI (λ_ j=>j≠0) λi j=>.int (i.fmod j)):=opI λ_ _ _ _ _ _ _ hc q=>mod_int' hc q
theorem Qb:OpR X (YK .Pow) (rI VH λi j=>.int (i ^ j.toNat)):=opI λ_ _ _ _ _ _ _ hc q=>pow_int_small hc.1 hc.2.1 hc.2.2 q
theorem unI {f:We->Sem We}{g:Int->Int}
  (rule:∀ (i:Int) (t:Tok) (s:Wh) (Q:We->Wh->Prop) (E:We->Wh->Prop),Q (.int (g i) s.toks) { s with toks:=s.toks+1 }->WJ (WM X.prog X.w) X.A (f (.int i t)) Q E s) :
  UnR X f (rU λi=>.int (g i)):=by
 intro pins s σ H x v Q I rx h
 obtain ⟨i,rfl,q⟩:=h
 obtain ⟨t,rfl⟩:=rx
 exact rule i t s _ _ ⟨.int (g i),H,I.tok _,⟨_,rfl⟩,q⟩
theorem RV:UnR X (unaryOp .USub) (rU λi=>.int (-i)):=unI λ_ _ _ _ _ q=>neg_int q
end
def Sz:V->V->Bool
 | .non,.non=>true | .non,.int _=>true | .int _,.non=>true | .non,.bl _=>true | .bl _,.non=>true | .non,.str _=>true | .str _,.non=>true
 | .int _,.int _=>true | .bl _,.bl _=>true | .str _,.str _=>true | .byt _,.byt _=>true
 | .int _,.str _=>true | .str _,.int _=>true | .bl _,.str _=>true | .str _,.bl _=>true
 | _,_=>false
def rEq:R2:=λx y H Q=>Sz x y=true/\Q (.bl (decide (x=y))) H
def rNe:R2:=λx y H Q=>Sz x y=true/\Q (.bl (!decide (x=y))) H
section
variable {X:Cx} {a b c:WR} {ta tb tc:TE} {pos:Pos}
theorem Jz {pins:List (Addr×Obj)}{σ:St}{H:Hp}{s:Wh}{Q:VK}{k k':Bool}(I:Inv X pins σ H s)(q:Q (.bl k) H)(e:k=k'):EP X pins σ Q (.bool k') s:=by
 subst e
 exact ⟨.bl k,H,I,rfl,q⟩
theorem Oj:OpR X (Yy .Lt) (rI0 λi j=>.bl (decide (i < j))):=PV λ_ _ _ _ _ _ _ q=>lt_int q
theorem Ow:OpR X (Yy .Gt) (rI0 λi j=>.bl (decide (j < i))):=PV λ_ _ _ _ _ _ _ q=>gt_int q
theorem N5:OpR X (Yy .GtE) (rI0 λi j=>.bl (decide (j<=i))):=PV λ_ _ _ _ _ _ _ q=>ge_int q
theorem Pk:OpR X (Yy .Is) (λx y H Q=>y=.non/\Q (.bl (decide (x=.non))) H):=by
 intro pins s σ H x y v u Q I rx ry h
 obtain ⟨rfl,q⟩:=h
 cases ry
 refine is_none_gen (Jz I q ?_)
 cases x<;>first
  | (cases rx;rfl)
  | (obtain ⟨t,rfl⟩:=rx;rfl)
theorem Np:OpR X (Yy .IsNot) (λx y H Q=>y=.non/\Q (.bl (!decide (x=.non))) H):=by
 intro pins s σ H x y v u Q I rx ry h
 obtain ⟨rfl,q⟩:=h
 cases ry
 refine isnot_none_gen (Jz I q ?_)
 cases x<;>first
  | (cases rx;rfl)
  | (obtain ⟨t,rfl⟩:=rx;rfl)
theorem fF (b:WR){op:CmpOp}(h:op≠.In:=by decide)(h2:op≠.NotIn:=by decide):YE op b=false:=by
 have e1:(op == CmpOp.In)=false:=by cases op<;>first | rfl | exact absurd rfl h
 have e2:(op == CmpOp.NotIn)=false:=by cases op<;>first | rfl | exact absurd rfl h2
 cases b<;>simp[YE,e1,e2]
theorem Mg {op:CmpOp}{r:R2}(ho:OpR X (Yy op) r)(ha:PE X a ta)(hb:PE X b tb)(hm:YE op b=false):PE X (.Compare a [op] [b] pos) (tOp r ta tb):=by
 intro pins s σ H Q I h
 exact wpAny_Compare1 (Pg ha hb I h λv u s2 x y H2 I2 rx ry q=>ho pins s2 σ H2 x y v u Q I2 rx ry q) hm
def Oq (t:TE):TT:=λσ H Q=>t σ H λx H'=>∃ k,x=.bl k/\Q k H'
theorem Lb {op:CmpOp}{r:R2}(ho:OpR X (Yy op) r)(ha:PE X a ta)(hb:PE X b tb)(hm:YE op b=false):PT X (.Compare a [op] [b] pos) (Oq (tOp r ta tb)):=by
 intro pins s σ H Q I h
 refine wpAny_isTrue_Compare1 (thn (ha pins s σ H _ I h) λv s1 ⟨x,H1,I1,r1,q1⟩=>thn (hb pins s1 σ H1 _ I1 q1) λu s2 ⟨y,H2,I2,r2,q2⟩=>
  thn (ho pins s2 σ H2 x y v u _ I2 r1 r2 q2) λc s3 ⟨z,H3,I3,r3,k,e,q3⟩=>?_) hm
 subst e
 cases r3
 exact YA ⟨H3,I3,q3⟩
theorem rH:(sizeLine:Nat) < 2 ^ 63:=by rw[zbN];decide
theorem Co:OpR X (YK .Add) (λx y H Q=>∃ i j,x=.str i/\y=.str j/\i.length+j.length<=sizeLine/\Q (.str (i++j)) H):=by
 intro pins s σ H x y v u Q I rx ry h
 obtain ⟨i,j,rfl,rfl,hz,q⟩:=h
 obtain ⟨t,rfl⟩:=rx
 obtain ⟨t',rfl⟩:=ry
 exact add_str (λt' tk=>⟨.str (i++j),H,I.tok _,⟨_,rfl⟩,q⟩) hz
theorem vals1 {x:V}{us:List We}(r:Vals [x] us):∃ u,us=[u]/\RelV x u:=by
 cases r with
 | cons r1 r2=>cases r2;exact ⟨_,rfl,r1⟩
theorem vals2 {x y:V}{us:List We}(r:Vals [x,y] us):∃ u w',us=[u,w']/\RelV x u/\RelV y w':=by
 cases r with
 | cons r1 r2=>
  cases r2 with
  | cons r3 r4=>cases r4;exact ⟨_,_,rfl,r1,r3⟩
theorem tN:cM X (.builtin "abs") (λxs H Q=>∃ i,xs=[.int i]/\Q (.int (if i < 0 then -i else i)) H):=by
 intro pins s σ H xs us Q I r h
 obtain ⟨i,rfl,q⟩:=h
 obtain ⟨u,rfl,t,rfl⟩:=vals1 r
 exact call_abs_int λu tk=>⟨.int (if i < 0 then -i else i),H,I.tok _,⟨_,rfl⟩,q⟩
theorem u4 (hc:X.calm=true):cM X (.builtin "max") (λxs H Q=>∃ i j,xs=[.int i,.int j]/\Q (.int (if j > i then j else i)) H):=by
 intro pins s σ H xs us Q I r h
 obtain ⟨i,j,rfl,q⟩:=h
 obtain ⟨u,w',rfl,⟨t,rfl⟩,⟨t',rfl⟩⟩:=vals2 r
 refine max_two_ints (I.ok.hd hc) λh' tk k=>⟨_,H,I.kept k,?_,q⟩
 by_cases hj:j > i
 ·rw[if_pos hj,if_pos hj];exact ⟨_,rfl⟩
 ·rw[if_neg hj,if_neg hj];exact ⟨_,rfl⟩
theorem E8 (hc:X.calm=true):cM X (.builtin "min") (λxs H Q=>∃ i j,xs=[.int i,.int j]/\Q (.int (if j < i then j else i)) H):=by
 intro pins s σ H xs us Q I r h
 obtain ⟨i,j,rfl,q⟩:=h
 obtain ⟨u,w',rfl,⟨t,rfl⟩,⟨t',rfl⟩⟩:=vals2 r
 refine min_two_ints (I.ok.hd hc) λh' tk k=>⟨_,H,I.kept k,?_,q⟩
 by_cases hj:j < i
 ·rw[if_pos hj,if_pos hj];exact ⟨_,rfl⟩
 ·rw[if_neg hj,if_neg hj];exact ⟨_,rfl⟩
theorem uF:cM X (.type "int") (λxs H Q=>(∃ i,xs=[.int i]/\Q (.int i) H)∨∃ k,xs=[.bl k]/\Q (.int (if k then 1 else 0)) H):=by
 intro pins s σ H xs us Q I r h
 rcases h with ⟨i,rfl,q⟩ | ⟨k,rfl,q⟩
 ·obtain ⟨u,rfl,t,rfl⟩:=vals1 r
  exact call_int_int ⟨.int i,H,I,⟨_,rfl⟩,q⟩
 ·obtain ⟨u,rfl,r1⟩:=vals1 r
  cases r1
  exact call_int_bool ⟨.int (if k then 1 else 0),H,I.tok _,⟨_,rfl⟩,q⟩
end
end L2
namespace L2
open PySem PySem.Spec PyProof.Rows
structure V9 (h:Heap) (x dx C:Addr) (mA:Str->Option We):Prop where
 obj:h.get? x=some (zds C dx)
 ns:h.Ns1 dx mA
 ne:dx≠x
section
variable {prog:WX} {w:Xb} {A:Xn} {E:We->Wh->Prop} {s:Wh} {K:Wa} {x dx C f:Addr} {mA:Str->Option We} {name:Str} {v:We}
end
theorem pK.some_of {v:V}{o:Option We}(r:pK (some v) o):∃ u,o=some u/\RelV v u:=by
 cases o with
 | none=>exact (show False from r).elim
 | some u=>exact ⟨u,rfl,r⟩
section
variable {P:WX} {w:Xb} {H H':Hp} {h h':Heap} {a C dx:Addr} {fs fs':List (Str×V)}
end
structure Cls (K:Wa) (C:Addr):Prop where
 pg:zc8 K C Str.empty=true
 hd:PySem.W.hasDictIn K C=true
 po:PySem.W.plainOver K C=true
 sa:PySem.W.findIn K (.ref C) "__setattr__" = some (some (.builtin "object.__setattr__"))
theorem Cls.get {K:Wa}{C:Addr}(c:Cls K C)(f:Str):zc8 K C f=true:=c.pg
section
variable {X:Cx} {pins:List (Addr×Obj)} {σ:St} {H:Hp} {s:Wh} {a C dx:Addr} {fs:List (Str×V)} {f:Str} {v:V} {A:Xn} {E:We->Wh->Prop}
end
def UG (X:Cx)(op:zbM)(rd:V->V->Hp->VK->Prop):Prop:=
 ∀ (pins:List (Addr×Obj)) (s:Wh) (σ:St) (H:Hp) (x y:V) (u v:We) (Q:VK),Inv X pins σ H s->RelV x u->RelV y v->rd x y H Q->WJ (WM X.prog X.w) X.A (inplaceOp op u v) (EP X pins σ Q) X.xe s
section
variable {X:Cx} {o e value:WR} {f:Str} {pos pos' tpos:Pos} {ta tv:TE}
def T5:V->V->Hp->VK->Prop:=λx y H Q=>∃ i j,x=.int i/\y=.int j/\Q (.int (i+j)) H
def kg:V->V->Hp->VK->Prop:=λx y H Q=>∃ i j,x=.int i/\y=.int j/\Q (.int (i - j)) H
theorem O2:UG X .Add T5:=by
 rintro pins s σ H x y u v Q I rx ry ⟨i,j,rfl,rfl,q⟩
 obtain ⟨t,rfl⟩:=(show ∃ t,u=zas i t from rx)
 obtain ⟨t',rfl⟩:=(show ∃ t',v=zas j t' from ry)
 exact zd8 ⟨.int (i+j),H,I.tok _,⟨_,rfl⟩,q⟩
end
section
variable {X:Cx} {pins:List (Addr×Obj)} {σ:St} {H:Hp} {s:Wh} {A:Xn} {E:We->Wh->Prop} {Q:We->Wh->Prop} {c:We} {b:Bool}
end
end L2
namespace L2
open PySem PySem.Spec PyProof.Rows
structure gG (k:Nat) (A:Xn):Prop where
 hd:A.handled=none
 dp:A.depth+3*k+5 < recursionLimit
 un:A.units+16*k+200 < cLine
theorem gG.mono {j k:Nat}{A:Xn}(r:gG k A)(h:j<=k):gG j A:=⟨r.hd,by have:=r.dp;omega,by have:=r.un;omega⟩
theorem gG.deeper {k:Nat}{A:Xn}(r:gG (k+1) A)(env:Env):gG k (A.deeper env):=
 ⟨r.hd,by have:=r.dp;show A.depth+1+3*k+5 < _;omega,by have:=r.un;show A.units+3+16*k+200 < _;omega⟩
theorem gG.depth {k:Nat}{A:Xn}(r:gG k A):A.depth < recursionLimit:=by have:=r.dp;omega
theorem gG.units {k:Nat}{A:Xn}(r:gG k A):A.units+64 < cLine:=by have:=r.un;omega
def T9:TA:=λ_ H Q=>Q [] H
def N0 (ta:TE)(tr:TA):TA:=λσ H Q=>ta σ H λx H1=>tr σ H1 λxs H2=>Q (x::xs) H2
section
variable {X:Cx} {e:WR} {es:List WR} {te:TE} {t:TA} {pos:Pos}
theorem i9:PA X [] T9:=λ_ _ _ _ H Q I h=>zcM ⟨[],H,I,.nil,h⟩
theorem ft (ha:PE X e te)(hr:PA X es t)(hs:Ww (e::es) X.env=(false,Xw e X.env)::Ww es X.env:=by rfl):PA X (e::es) (N0 te t):=by
 intro pos pins s σ H Q I h
 rw[hs]
 show WJ _ _ (spliced ((false,Xw e X.env)::XA pos (Ww es X.env))) _ _ s
 refine zcz (thn (ha pins s σ H _ I h) λu s1 ⟨x,H1,I1,r1,q1⟩=>?_)
 exact thn (hr pos pins s1 σ H1 _ I1 q1) λus s2 ⟨xs,H2,I2,r2,q2⟩=>⟨x::xs,H2,I2,.cons r1 r2,q2⟩
def Vo (t:TA):TE:=λσ H Q=>t σ H λxs H1=>xs.length<=sizeLine/\∀ p,H1 p=none->Q (.ref p) (upd H1 p (.tup xs))
def VI (t:TA):TE:=λσ H Q=>t σ H λxs H1=>xs.length<=sizeLine/\∀ p,H1 p=none->Q (.ref p) (upd H1 p (.lst xs))
theorem Rx {x1}(h:PA X es t):PE X (.Tuple es x1 pos) (Vo t):=by
 intro pins s σ H Q I hq
 refine wpAny_Tuple_spliced (thn (h pos pins s σ H _ I hq) λus s1 ⟨xs,H1,I1,r,z,q⟩=>⟨by rw[← r.length];exact z,?_⟩)
 have hf:H1 s1.heap.objs.size=none:=I1.hok.fresh (WA _)
 refine ⟨.ref s1.heap.objs.size,upd H1 s1.heap.objs.size (.tup xs),I1.laid (t':=s1.toks) (λb u e=>Wc _ e) (WA _) ?_,rfl,q _ hf⟩
 exact ⟨z,us,r,⟨_,WE _ rfl⟩⟩
theorem Jo (h:PA X es t):PE X (.List es pos) (VI t):=by
 intro pins s σ H Q I hq
 refine wpAny_List_spliced (thn (h pos pins s σ H _ I hq) λus s1 ⟨xs,H1,I1,r,z,q⟩=>⟨by rw[← r.length];exact z,?_⟩)
 have hf:H1 s1.heap.objs.size=none:=I1.hok.fresh (WA _)
 refine ⟨.ref s1.heap.objs.size,upd H1 s1.heap.objs.size (.lst xs),I1.laid (t':=s1.toks) (λb u e=>Wc _ e) (WA _) ?_,rfl,q _ hf⟩
 exact ⟨z,us,0,r,WE _ rfl⟩
end
abbrev Sp:=List V->Hp->VK->XK->Prop
abbrev CXT:=List Env->Hp->Wh->XK->We->Wh->Prop
structure Ls (P:WX) (w:Xb) (K:Wa) (mg:Str->Option We) (base:Heap) (A:Xn) (outer:List Env) (s:Wh) (H:Hp):Prop where
 frames:A.frames=some outer
 mod:Mod K mg base
 bs:∀ b o,base.get? b=some o->s.heap.get? b=some o/\H b=none
 bsz:base.objs.size<=s.heap.objs.size
 qL:s.heap.FunFrames base outer
 frf:∀ b∈frs outer,H b=none
 hok:HOk P w H s.heap
 bare:zaH s.gens
def CE (outer:List Env)(P:WX)(w:Xb)(H:Hp)(s:Wh)(Q:VK)(u:We)(s':Wh):Prop:=
 ∃ v H',s'.os=s.os/\zaH s'.gens/\Un (frs outer) [] H H' s.heap s'.heap/\HOk P w H' s'.heap/\RelV v u/\Q v H'
def CR (CX:CXT)(outer:List Env)(P:WX)(w:Xb)(H:Hp)(s:Wh)(Q:VK)(E:XK)(r:zc9)(s':Wh):Prop:=
 match r with
 | .ok (.ret u)=>CE outer P w H s Q u s'
 | .ok _=>False
 | .error e=>CX outer H s E e s'
structure l5 (P:WX) (w:Xb) (K:Wa) (mg:Str->Option We) (base:Heap) (CX:CXT) (k:Nat) (f:Addr) (fd:WH) (ps:List Str) (sp:Sp):Prop where
 len:∀ vs H Q E,sp vs H Q E->vs.length=ps.length
 run:∀ (A:Xn) (outer:List Env) (s:Wh) (H:Hp) (args:Args) (us:List We) (vs:List V) (Q:VK) (E:XK),gG k A->Ls P w K mg base A outer s H->zcN s fd args (ps.zip us)->Vals vs us->sp vs H Q E->
  Y1 (WM P w) A (.call (.ref f) args) (CR CX outer P w H s Q E) s
theorem l5.mono {P:WX}{w:Xb}{K:Wa}{mg:Str->Option We}{base:Heap}{CX:CXT}{j k:Nat}{f:Addr}{fd:WH}{ps:List Str}{sp:Sp}(F:l5 P w K mg base CX j f fd ps sp)(h:j<=k) :
  l5 P w K mg base CX k f fd ps sp:=⟨F.len,λA outer s H args us vs Q E hr=>F.run A outer s H args us vs Q E (hr.mono h)⟩
section
variable {X:Cx} {pins:List (Addr×Obj)} {σ:St} {H:Hp} {s s':Wh}
theorem Inv.VY (I:Inv X pins σ H s):Ls X.prog X.w X.K X.mg X.base X.A X.stack s H:=
 ⟨I.ok.frames,I.ok.mod,I.bs,Xa I.ok.bsz I.sz,I.stack,I.D8,I.hok,I.bare⟩
theorem Inv.after {Q:VK}{u:We}(I:Inv X pins σ H s)(h:CE X.stack X.prog X.w H s Q u s'):EP X pins σ Q u s':=by
 obtain ⟨v,H',os,bare,un,hok,r,q⟩:=h
 obtain ⟨hh,g,d,t,os'⟩:=s'
 obtain rfl:os'=s.os:=os
 exact ⟨v,H',I.call (h':=hh) (g':=g) (d':=d) (t':=t) (ch:=[]) un hok bare (λb z=>absurd z (by simp)),r,q⟩
end
def T3 (sp:Sp)(dvs:List V)(E:XK)(t:TA):TE:=λσ H Q=>t σ H λvs H1=>sp (vs++dvs) H1 Q E
def Binds (K:Wa)(fd:WH)(ps:List Str)(ds:List We):Prop:=
 ∀ (s:Wh) (us:List We),K.In s.heap->(us++ds).length=ps.length->zcN s fd ⟨us,[]⟩ (ps.zip (us++ds))
theorem Binds.all {K:Wa}{fd:WH}{ps:List Str}(h:∀ us:List We,us.length=ps.length->bindArgs fd ⟨us,[]⟩=pure (ps.zip us)):Binds K fd ps []:=λs us _ hl=>by
 rw[WS] at hl ⊢
 exact .of_eq (h us hl)
def Passes (CX:CXT)(X:Cx)(E:XK):Prop:=∀ (pins:List (Addr×Obj)) (σ:St) (H:Hp) (s:Wh) (e:We) (s':Wh),Inv X pins σ H s->CX X.stack H s E e s'->X.xe e s'
section
variable {X:Cx} {CX:CXT} {k:Nat} {f C:Addr} {fd:WH} {ps:List Str} {sp:Sp} {dvs:List V} {ds:List We} {E:XK} {x m:Str} {p pos apos:Pos} {e o:WR} {es:List WR} {ta:TE} {t:TA}
theorem Q1 {pins:List (Addr×Obj)}{σ:St}{H:Hp}{s:Wh}{Q:VK}{us:List We}{vs:List V}(F:l5 X.prog X.w X.K X.mg X.base CX k f fd ps sp)(hr:gG k X.A)(hb:Binds X.K fd ps ds)(hd:Vals dvs ds)(hx:Passes CX X E)
  (I:Inv X pins σ H s) (r:Vals vs us) (h:sp (vs++dvs) H Q E):WJ (WM X.prog X.w) X.A (zcb (.ref f) us) (EP X pins σ Q) X.xe s:=by
 have r2:Vals (vs++dvs) (us++ds):=r.append hd
 have hl:(us++ds).length=ps.length:=by rw[← r2.length];exact F.len _ _ _ _ h
 refine wpAny_call (zcO (F.run X.A X.stack s H ⟨us,[]⟩ (us++ds) (vs++dvs) Q E hr I.VY (hb s us I.kIn hl) r2 h) λr s' hq=>?_)
 cases r with
 | error e=>exact hx pins σ H s e s' I hq
 | ok fl=>
  cases fl with
  | ret u=>exact I.after hq
  | next=>exact Wm hq
  | brk=>exact Wm hq
  | cont=>exact Wm hq
theorem K0 (F:l5 X.prog X.w X.K X.mg X.base CX k f fd ps sp)(hr:gG k X.A)(hg:Gl X x)(hm:X.mg x=some (.ref f))(hk:ZJ X.K (.ref f)=true)(hb:Binds X.K fd ps ds)(hd:Vals dvs ds)(hx:Passes CX X E)
  (ha:PA X (e::es) t) (hdb:(x == ("__debug__" : Str))=false:=by decide) (he:Ww (e::es) X.env=(false,Xw e X.env)::Ww es X.env:=by rfl) (hpl:(XA pos (Ww es X.env)).any (·.1)=false:=by rfl) :
  PE X (.Call (.Name x p) (e::es) [] pos) (T3 sp dvs E t):=by
 intro pins s σ H Q I h
 refine Zu (Du I hg hm ?_ hdb)
 refine PySem.W.callWith_K (h₀:=X.base) I.ok.mod.kin hk (thn (ha pos pins s σ H _ I h) λus s1 ⟨vs,H1,I1,r,q⟩=>⟨I1.kIn,?_⟩) he hpl
 exact Q1 F hr hb hd hx I1 r q
end
def PK (X:Cx)(kws:List YS)(t:TA):Prop:=
 ∀ (pos:Pos) (pins:List (Addr×Obj)) (s:Wh) (σ:St) (H:Hp) (Q:List V->Hp->Prop),Inv X pins σ H s->t σ H Q->WJ (WM X.prog X.w) X.A (evalAll ((Z4 pos (YN kws X.env)).map (·.2))) (AP X pins σ Q) X.xe s
section
variable {X:Cx} {CX:CXT} {k:Nat} {f C:Addr} {fd:WH} {ps ks:List Str} {sp:Sp} {E:XK} {x m:Str} {p pos apos kpos:Pos} {e o:WR} {es:List WR} {kws:List YS} {te ta:TE} {t tk:TA} {nm:Option Str}
theorem Sg:PK X [] T9:=λ_ _ _ _ H Q I h=>wpAny_evalAll_nil ⟨[],H,I,.nil,h⟩
theorem LF (ha:PE X e te)(hr:PK X kws t):PK X (⟨nm,e,kpos⟩::kws) (N0 te t):=by
 intro pos pins s σ H Q I h
 show WJ _ _ (evalAll ((do let v ← Xw e X.env;standAt pos;pure v)::(Z4 pos (YN kws X.env)).map (·.2))) _ _ s
 refine wpAny_evalAll_cons (Wb (thn (ha pins s σ H _ I h) λu s1 ⟨x,H1,I1,r1,q1⟩=>Wb (zaP (Wn ?_))))
 exact thn (hr pos pins s1 σ H1 _ I1 q1) λus s2 ⟨xs,H2,I2,r2,q2⟩=>⟨x::xs,H2,I2,.cons r1 r2,q2⟩
variable {g:List We->List We->List We} {gV:List V->List V->List V}
end
structure aI (N P:List Str) (sc:Scope):Prop where
 kind:sc.kind=.function
 co:sc.isCoroutine=false
 gen:sc.isGenerator=false
 nd:N.Nodup
 pre:N.take P.length=P
 par:∀ x∈P,sc.names.lookup x=some .local∨sc.names.lookup x=some .cell
 RR:∀ y∈sc.names,y.2≠.free
theorem vv {ZZ:Str->Option Z5}{x:Str}:∀ {binds:List (Str×We)} {m:Str->Option We},(∀ v,(x,v) ∉ binds)->zdD ZZ binds m x=m x
 | [],_,_=>rfl
 | (n,v)::r,m,h=>by
  unfold zdD
  rw[vv λw hw=>h w (WD _ hw)]
  split
  ·have:x≠n:=by rintro rfl;exact h v Wu
   simp[this]
  ·rfl
theorem vz {ZZ:Str->Option Z5}{x:Str}:∀ {binds:List (Str×We)} {m:Str->Option We},(∀ v,(x,v) ∉ binds)->zdE ZZ binds m x=m x
 | [],_,_=>rfl
 | (n,v)::r,m,h=>by
  unfold zdE
  rw[vz λw hw=>h w (WD _ hw)]
  split
  ·rfl
  ·have:x≠n:=by rintro rfl;exact h v Wu
   simp[this]
theorem uZ {ZZ:Str->Option Z5}{x:Str}{v:We}:∀ {P:List Str} {vs:List We} {i:Nat} {m:Str->Option We},P.Nodup->P[i]? = some x->vs[i]? = some v->ZZ x=some .local->
  zdD ZZ (P.zip vs) m x=some v
 | [],_,_,_,_,h,_,_=>by simp at h
 | _::_,[],_,_,_,_,h,_=>by simp at h
 | p::P,w::vs,0,m,nd,h1,h2,hk=>by
  simp at h1 h2;subst h1;subst h2
  show zdD ZZ ((p,w)::P.zip vs) m p=_
  unfold zdD
  rw[vv λv hv=>(W9.mp nd).1 (Wo hv).1,if_pos hk]
  simp
 | p::P,w::vs,i+1,m,nd,h1,h2,hk=>by
  show zdD ZZ ((p,w)::P.zip vs) m x=_
  unfold zdD
  exact uZ (i:=i) (W9.mp nd).2 (by simpa using h1) (by simpa using h2) hk
theorem uO {ZZ:Str->Option Z5}{x:Str}{v:We}:∀ {P:List Str} {vs:List We} {i:Nat} {m:Str->Option We},P.Nodup->P[i]? = some x->vs[i]? = some v->ZZ x≠some .local->
  zdE ZZ (P.zip vs) m x=some v
 | [],_,_,_,_,h,_,_=>by simp at h
 | _::_,[],_,_,_,_,h,_=>by simp at h
 | p::P,w::vs,0,m,nd,h1,h2,hk=>by
  simp at h1 h2;subst h1;subst h2
  show zdE ZZ ((p,w)::P.zip vs) m p=_
  unfold zdE
  rw[vz λv hv=>(W9.mp nd).1 (Wo hv).1,if_neg hk]
  simp
 | p::P,w::vs,i+1,m,nd,h1,h2,hk=>by
  show zdE ZZ ((p,w)::P.zip vs) m x=_
  unfold zdE
  exact uO (i:=i) (W9.mp nd).2 (by simpa using h1) (by simpa using h2) hk
def start (N:List Str)(vs:List V):St:=vs.map some++X0 (N.length - vs.length) none
def Ar (CX:CXT)(P:WX)(w:Xb)(K:Wa)(mg:Str->Option We)(base:Heap)(N:List Str)(qual:Str)(scope:Scope)(f:Addr)(cd:We)(A:Xn)(outer:List Env)(s:Wh)(H:Hp)(E:XK):Cx where
 prog:=P
 w:=w
 K:=K
 mg:=mg
 base:=base
 A:=A.deeper (zaw qual scope s.heap.objs.size f cd)
 N:=N
 s₀:=s
 H₀:=H
 env:=zaw qual scope s.heap.objs.size f cd
 outer:=outer
 stack:=zaw qual scope s.heap.objs.size f cd::outer
 ex:=[]
 calm:=true
 fn:=λ_=>true
 pn:=[]
 xe:=λe s'=>WJ (WM P w) (A.deeper (zaw qual scope s.heap.objs.size f cd)) (leaving (zaw qual scope s.heap.objs.size f cd) e) (λ_ s''=>CX outer H s E e s'') (λe' s''=>CX outer H s E e' s'') s'
theorem xy {sc:Scope}{n:Nat}{x:Str}(h:sc.names.lookup x=some .cell):∃ c,(cellsFrom n sc.names []).lookup x=some c:=by
 have q:=zbi sc.names n [] (.inl h)
 exact zaR.mp q
theorem EE {CX:CXT}{P:WX}{w:Xb}{K:Wa}{mg:Str->Option We}{base:Heap}{N ps:List Str}{qual:Str}{scope:Scope}{f:Addr}{cd:We}{A:Xn}{outer:List Env}{s s1:Wh}{H:Hp}{E:XK}{us:List We}{vs:List V}
  (S:aI N ps scope) (hd:A.handled=none) (e0:Ls P w K mg base A outer s H) (hl:vs.length=ps.length) (r:Vals vs us)
  (x:InCallC s s.heap.objs.size (zdD (zaw qual scope s.heap.objs.size f cd).kindOf (ps.zip us) λ_=>none) (cellsFrom (s.heap.objs.size+1) scope.names []) (zdE (zaw qual scope s.heap.objs.size f cd).kindOf (ps.zip us) λ_=>none) s1) :
  Inv (Ar CX P w K mg base N qual scope f cd A outer s H E) [] (start N vs) H s1:=by
 have hpl:ps.length<=N.length:=by have:=congrArg X5 S.pre;rw[Zc] at this;omega
 obtain ⟨h1,tk,rfl,hk⟩:=x.done
 have noA:∀ b:Addr,b ∉ (Ar CX P w K mg base N qual scope f cd A outer s H E).ex:=λb z=>absurd (show b∈([]:List Addr) from z) (by simp)
 refine ⟨⟨e0.mod,S.kind,rfl,rfl,WA _,λy z c h1 h2=>?_,λy hy=>?_,λy c _ h=>?_,λ_=>hd,Around.frames_deeper e0.frames,.inr ⟨rfl,rfl⟩,λb z=>absurd z (noA b),e0.bs,e0.bsz,λb _ _=>noA b,λb z=>absurd z (noA b),e0.qL,e0.frf⟩,
  rfl,e0.bare,Un.kept hk,⟨_,x.toInCall.ns,λi y v h1 h2 h3=>?_⟩,λy c h=>⟨_,x.cell y c h⟩,e0.hok.fresh (WA _),λy c h=>?_,λp hp=>absurd (show p∈([]:List (Addr×Obj)) from hp) (by simp),e0.hok.kept hk,?_⟩
 ·exact name_of_addr x.apart (XD h1) (XD h2)
 ·have hy:scope.names.lookup y=some .cell∨scope.names.lookup y=some .free:=hy
  rcases hy with hy | hy
  ·exact xy hy
  ·exact absurd rfl (S.RR _ (XD hy))
 ·exact ZH (x.above y c (XD h))
 ·have hi:i < vs.length:=by
   unfold start at h2
   by_cases hi:i < vs.length
   ·exact hi
   ·rw[Yp (by simpa using hi)] at h2
    rw[zaZ] at h2
    split at h2<;>cases h2
  have ha:vs[i]? = some v:=by
   unfold start at h2
   rw[XC (by simpa using hi),Xh] at h2
   cases e:vs[i]? with
   | none=>rw[e] at h2;cases h2
   | some a=>rw[e] at h2;cases h2;rfl
  obtain ⟨u,hu,rv⟩:=r.get ha
  have hp:ps[i]? = some y:=by
   rw[← S.pre,List.getElem?_take_of_lt (by omega)];exact h1
  have ndP:ps.Nodup:=by rw[← S.pre];exact S.nd.sublist (List.take_sublist _ _)
  refine ⟨u,rv,?_⟩
  rcases S.par y (Xi hp) with k | k
  ·exact .inl ⟨k,uZ ndP hp hu k⟩
  ·obtain ⟨c,e⟩:=xy (n:=s.heap.objs.size+1) k
   refine .inr ⟨.inl k,c,e,?_⟩
   have q:=x.cell y c e
   rw[uO ndP hp hu (by show scope.names.lookup y≠_;rw[k];decide)] at q
   exact q
 ·exact e0.hok.fresh (ZH (x.above y c (XD h)))
 ·unfold start
  show _=N.length
  rw[Wv,Wf,ZT]
  omega
theorem Ue {CX:CXT}{P:WX}{w:Xb}{K:Wa}{mg:Str->Option We}{base:Heap}{k:Nat}{f:Addr}{name qual:Str}{params:Arguments}{body:List Stmt}{scope:Scope}{dV kV doc pm cdv ct oc:We}{an od:Option Addr}
  {osl:Array (Option We)} {N ps:List Str} {sp:Sp} (lk:K.lookup f=some ⟨oc,od,.func (Zd name qual params body scope dV kV doc pm an cdv ct),osl⟩) (hcd:zbO K cdv qual=true) (S:aI N ps scope)
  (len:∀ vs H Q E,sp vs H Q E->vs.length=ps.length)
  (hbody:∀ (A:Xn) (outer:List Env) (s:Wh) (H:Hp) (vs:List V) (Q:VK) (E:XK),gG k (A.deeper (zaw qual scope s.heap.objs.size f cdv))->sp vs H Q E->
   ∃ t,PSs (Ar CX P w K mg base N qual scope f cdv A outer s H E) body t/\t { nx:=λ_ H'=>Q .non H',rt:=Q } (start N vs) H) :
  l5 P w K mg base CX (k+1) f (Zd name qual params body scope dV kV doc pm an cdv ct) ps sp:=by
 refine ⟨len,λA outer s H args us vs Q E hr e0 hb r hsp=>?_⟩
 have hl:=len _ _ _ _ hsp
 have KX:K.In s.heap:=e0.mod.kin.keeps λb o e=>(e0.bs b o e).1
 have lim:s.heap.NoLimit:=e0.mod.nolimit.keeps λb o e=>(e0.bs b o e).1
 have gu:∀ y∈ps.zip us,scope.names.lookup y.1=some .local∨(scope.names.lookup y.1=some .cell/\((cellsFrom (s.heap.objs.size+1) scope.names []).lookup y.1).isSome=true):=λ⟨n,v⟩ hy=>by
  rcases S.par n (Wo hy).1 with q | q
  ·exact .inl q
  ·exact .inr ⟨q,zbi _ _ _ (.inl q)⟩
 refine codeAny_call_function hr.depth (KX _ _ lk) rfl S.co S.gen rfl (PySem.W.codeRec_of KX hcd) (hb _ _ _ _ ?_)
 refine wpAny_newFunctionEnv_cells S.kind gu λenv he s1 x=>?_
 subst he
 refine ⟨lim.keeps x.toInCall.keep,codeAny_func ?_⟩
 obtain ⟨t,ht,hq⟩:=hbody A outer s H vs Q E (hr.deeper _) hsp
 have I:Inv (Ar CX P w K mg base N qual scope f cdv A outer s H E) [] (start N vs) H s1:=EE S hr.hd e0 hl r x
 refine Xu (ht [] s1 (start N vs) H _ I hq) (λfl s' hs=>?_) λe s' hs=>hs
 have fin:∀ {σ':St} {H':Hp} {v:V} {u:We},Inv (Ar CX P w K mg base N qual scope f cdv A outer s H E) [] σ' H' s'->RelV v u->Q v H'->CE outer P w H s Q u s':=
  λ{σ' H' v u} J rv q=>⟨v,H',J.os,J.bare,J.base,J.hok,rv,q⟩
 cases fl with
 | ret u=>
  obtain ⟨v,σ',H',J,rv,q⟩:=hs
  exact fin J rv q
 | next=>
  obtain ⟨σ',H',J,q⟩:=hs
  exact fin (v:=V.non) (u:=YD) J rfl q
 | brk=>
  obtain ⟨_,_,_,q⟩:=hs
  exact Wm q
 | cont=>
  obtain ⟨_,_,_,q⟩:=hs
  exact Wm q
end L2
namespace L2
open PySem PySem.Spec PyProof.Rows
section
variable {X:Cx} {x:Str} {p pos:Pos} {e:WR} {es:List WR} {t:TA} {id T:String} {r:List V->Hp->VK->Prop}
def tCB (r:List V->Hp->VK->Prop)(t:TA):TE:=λσ H Q=>t σ H λvs H1=>r vs H1 Q
theorem qE (hc:cM X (.builtin id) r)(hg:Gl X x)(hm:X.mg x=none)(hv:Yi x=some (.builtin id))(ha:PA X (e::es) t)(hn:x ≠ "__name__" := by decide)(hdb:(x == ("__debug__" : Str))=false:=by decide)
  (he:Ww (e::es) X.env=(false,Xw e X.env)::Ww es X.env:=by rfl) (hpl:(XA pos (Ww es X.env)).any (·.1)=false:=by rfl):PE X (.Call (.Name x p) (e::es) [] pos) (tCB r t):=by
 intro pins s σ H Q I h
 refine Zu (kn I hg hm hv ?_ hn hdb)
 exact zda (thn (ha pos pins s σ H _ I h) λus s1 ⟨vs,H1,I1,r1,q1⟩=>hc pins s1 σ H1 vs us Q I1 r1 q1) he hpl
theorem vx (hc:cM X (.type T) r)(hg:Gl X x)(hm:X.mg x=none)(hv:Yi x=some (.type T))(ha:PA X (e::es) t)(hn:x ≠ "__name__" := by decide)(hdb:(x == ("__debug__" : Str))=false:=by decide)
  (he:Ww (e::es) X.env=(false,Xw e X.env)::Ww es X.env:=by rfl) (hpl:(XA pos (Ww es X.env)).any (·.1)=false:=by rfl):PE X (.Call (.Name x p) (e::es) [] pos) (tCB r t):=by
 intro pins s σ H Q I h
 refine Zu (kn I hg hm hv ?_ hn hdb)
 exact Xv (thn (ha pos pins s σ H _ I h) λus s1 ⟨vs,H1,I1,r1,q1⟩=>hc pins s1 σ H1 vs us Q I1 r1 q1) he hpl
end
end L2
namespace HT
open PySem PyProof.Rows
section
open PySem.SeqAt
open PySem.AutoSeq1 (wpAny_loadPart')
open PySem.MeetsSeq PySem.MeetsSeq2 PySem.MeetsSeq3
end
section
variable {prog:WX} {w:Xb} {A:Xn} {E:We->Wh->Prop} {s:Wh}
theorem Lr {t b:Addr}{vs ws:List We}{Q:We->Wh->Prop}(ht:zdj s.heap t vs.toArray)(hb:zdj s.heap b ws.toArray)(hv:vs≠[])
  (h1:ws=[]->Q (.ref t) s) (h2:ws≠[]->Q (.ref s.heap.objs.size) { s with heap:=s.heap.push { cls:=.type "tuple", data:=.seq (vs++ws).toArray } })
  (hsz:vs.length+ws.length<=sizeLine):WJ (WM prog w) A (YK .Add (.ref t) (.ref b)) Q E s:=by
 obtain ⟨⟨cls,dd,data,sl⟩,ho,hc,n,hd⟩:=id ht
 obtain ⟨⟨cls2,dd2,data2,sl2⟩,ho2,hc2,n2,hd2⟩:=id hb
 simp only at hc hd hc2 hd2
 subst hc hd hc2 hd2
 have e:vs.toArray++ws.toArray=(vs++ws).toArray:=by simp
 by_cases hw:ws=[]
 ·exact zbj ⟨_,ho,rfl⟩ ⟨_,ho2,rfl⟩ za0 zci ZK Zz (Zm _ _)
   (tuple_addW1 t b vs.toArray ws.toArray n n2 dd dd2 sl sl2 (by simpa using hv) (by simp[hw])) ⟨ho,ho2,h1 hw⟩
 ·refine zbj ⟨_,ho,rfl⟩ ⟨_,ho2,rfl⟩ za0 zci ZK Zz (Zm _ _)
   (tuple_addW2 t b vs.toArray ws.toArray n n2 dd dd2 sl sl2 (by simpa using hv) (by simpa using hw) (by rw[WG,WG];exact hsz)) ⟨ho,ho2,?_⟩
  rw[e]
  exact h2 hw
def sIx (n d:Nat):Option Int->Nat
 | none=>d
 | some v=>if v < 0 then (v+(n:Int)).toNat else min v.toNat n
theorem Aq (n d:Nat):sIx n d none=d:=rfl
theorem Dy (n d k:Nat):sIx n d (some (k:Int))=min k n:=by
 show (if (k:Int) < 0 then ((k:Int)+(n:Int)).toNat else min (k:Int).toNat n)=min k n
 rw[if_neg (by omega),ZL]
theorem QU (n d:Nat)(hd:d<=n)(o:Option Int):sIx n d o<=n:=by
 cases o with
 | none=>exact hd
 | some v=>
  show (if v < 0 then (v+(n:Int)).toNat else min v.toNat n)<=n
  by_cases hv:v < 0
  ·rw[if_pos hv];omega
  ·rw[if_neg hv];exact Nat.min_le_right _ _
theorem DB (v:Int)(n d:Nat):(if v < 0 then max (v+(n:Int)) 0 else min v (n:Int))=((sIx n d (some v):Nat):Int):=by
 show (if v < 0 then max (v+(n:Int)) 0 else min v (n:Int))=(((if v < 0 then (v+(n:Int)).toNat else min v.toNat n):Nat):Int)
 by_cases hv:v < 0
 ·simp only[if_pos hv];omega
 ·simp only[if_neg hv];omega
theorem BK (lo hi:Option Int)(n:Nat):Zh lo hi 1 (n:Int)=(((sIx n 0 lo:Nat):Int),((sIx n n hi:Nat):Int)):=by
 have h1:¬ ((1:Int) < 0):=by omega
 unfold Zh
 simp only[h1,if_false]
 refine Prod.ext ?_ ?_
 ·cases lo with
  | none=>rfl
  | some v=>exact DB v n 0
 ·cases hi with
  | none=>rfl
  | some v=>exact DB v n n
theorem BP (i j:Nat):Yv (i:Int) (j:Int) 1=j - i:=by
 unfold Yv
 have h1:(1:Int) > 0:=by omega
 simp only[h1,if_true,Int.ediv_one]
 split<;>omega
theorem rZ {v:We}{o:Option Int}{Q:Option Int->Wh->Prop}(p:IsPart v o)(h:Q o s):WJ (WM prog w) A (zdt v) Q E s:=by
 cases p with
 | none=>exact slicePart_none h
 | int i t=>exact slicePart_int h
theorem iF {sl:Addr}{vl vu:We}{lo hi:Option Int}{n:Nat}{Q:Int×Int×Nat->Wh->Prop}(hs:s.heap.IsSliceOf sl vl vu .none)(pl:IsPart vl lo)(pu:IsPart vu hi)
  (h:Q (((sIx n 0 lo:Nat):Int),1,sIx n n hi - sIx n 0 lo) s):WJ (WM prog w) A (zax (.ref sl) (pure (n:Int))) Q E s:=by
 obtain ⟨os,hos,hcs,hds⟩:=id hs
 unfold zax zdS
 refine Wb (Wb (Xg hos hds (x:=vl) rfl (Wb (Xg hos hds (x:=vu) rfl (Wb (Xg hos hds (x:=.none) rfl (Wn ?_)))))))
 refine Wb (slicePart_none ?_)
 show WJ _ _ (if ((1:Int) == 0)=true then _ else _) _ _ s
 rw[if_neg (by decide)]
 refine Wb (rZ pl (Wb (rZ pu (Wb (Wn ?_)))))
 show WJ _ _ (match Zh lo hi 1 (n:Int) with | (lo,hi)=>pure (lo,(1:Int),Yv lo hi 1)) _ _ s
 rw[BK lo hi n]
 show WJ _ _ (pure (((sIx n 0 lo:Nat):Int),(1:Int),Yv ((sIx n 0 lo:Nat):Int) ((sIx n n hi:Nat):Int) 1)) _ _ s
 rw[BP]
 exact Wn h
theorem IC (xs:Array We)(i k:Nat):((WQ k).filterMap λ(m:Nat)=>xs[((i:Int)+(m:Int)*1).toNat]?).toArray=((xs.toList.drop i).take k).toArray:=by
 have e:(λ(m:Nat)=>xs[((i:Int)+(m:Int)*1).toNat]?)=λm=>xs[i+m]?:=by
  funext m
  have:((i:Int)+(m:Int)*1).toNat=i+m:=by omega
  rw[this]
 rw[e]
 have:=pick_run xs i k
 rw[List.filterMap_map] at this
 have e2:((λx=>xs[x]?) ∘ λx=>i+x)=λm=>xs[i+m]?:=rfl
 rw[e2] at this
 rw[this]
theorem mS {t sl:Addr}{items:Array We}{vl vu:We}{lo hi:Option Int}{Q:We->Wh->Prop}(ht:zdj s.heap t items)(hs:s.heap.IsSliceOf sl vl vu .none)(pl:IsPart vl lo)(pu:IsPart vu hi)
  (hw:¬ (sIx items.size 0 lo=0/\sIx items.size items.size hi=items.size))
  (h:Q (.ref s.heap.objs.size) { s with heap:=s.heap.push { cls:=.type "tuple", data:=.seq ((items.toList.drop (sIx items.size 0 lo)).take (sIx items.size items.size hi - sIx items.size 0 lo)).toArray } })
  (hsz:items.size<=sizeLine):WJ (WM prog w) A (zap (.ref t) (.ref sl)) Q E s:=by
 have Dt:sizeOk (.seq ((items.toList.drop (sIx items.size 0 lo)).take (sIx items.size items.size hi - sIx items.size 0 lo)).toArray):=by
  show ((items.toList.drop (sIx items.size 0 lo)).take (sIx items.size items.size hi - sIx items.size 0 lo)).toArray.size<=sizeLine
  rw[WG,Zc,Ze,Zl]
  omega
 have hj:sIx items.size items.size hi<=items.size:=QU _ _ (WA _) hi
 obtain ⟨os,hos,hcs,hds⟩:=id hs
 have hTs:s.TypeIs (.ref sl) "slice" := ⟨os,hos,hcs⟩
 unfold zap
 try with_reducible refine YV ?_
 first | refine Wb (Wn ?_) | skip
 refine Wb (zcP ht.typeIs (by decide) ?_)
 refine Wb (Xo (name:=OF "__getitem__") ht.typeIs Xl
  (XW Xl ht.typeIs zcc ?_ (zcA _ _)))
 show WJ _ _ (zay (.ref t) >>= _) _ _ s
 refine Wb (tupleItemsOf_ ht ?_)
 refine Wb (wpAny_typeOf hTs ?_)
 rw[if_pos (by decide)]
 refine Wb (iF hs pl pu ?_)
 have hno:¬ ((((sIx items.size 0 lo:Nat):Int) == 0&&(1:Int) == 1&&(sIx items.size items.size hi - sIx items.size 0 lo) == items.size)=true):=by
  intro q
  rw[Xd,Xd] at q
  have q1:((sIx items.size 0 lo:Nat):Int)=0:=eq_of_beq q.1.1
  have q2:sIx items.size items.size hi - sIx items.size 0 lo=items.size:=eq_of_beq q.2
  exact hw ⟨by omega,by omega⟩
 show WJ _ _ (if (((sIx items.size 0 lo:Nat):Int) == 0&&(1:Int) == 1&&(sIx items.size items.size hi - sIx items.size 0 lo) == items.size)=true then _ else _) _ _ s
 rw[if_neg hno,IC]
 first
  | exact Wb (m:=Xt _) (Xp (Wn ⟨_,rfl,Wn h⟩) Dt)
  | exact Wb (m:=Xt _) (Xp (Wb (Wn (Wn ⟨_,rfl,Wn h⟩))) Dt)
  | exact Wb (Wb (m:=Xt _) (Xp (Wn (Wn ⟨_,rfl,Wn h⟩)) Dt))
  | exact Wb (Wb (m:=Xt _) (Xp (Wn ⟨_,rfl,Wn h⟩) Dt))
end
end HT
namespace L2
open PySem PySem.Spec PyProof.Rows
abbrev TO:=St->Hp->(Option Int->Hp->Prop)->Prop
def PO (X:Cx)(e:Option WR)(t:TO):Prop:=
 ∀ (pins:List (Addr×Obj)) (s:Wh) (σ:St) (H:Hp) (Q:Option Int->Hp->Prop),Inv X pins σ H s->t σ H Q->
  WJ (WM X.prog X.w) X.A (evalPart e X.env) (λu s'=>∃ o H',Inv X pins σ H' s'/\IsPart u o/\Q o H') X.xe s
def LY:TO:=λ_ H Q=>Q none H
def SU (t:TE):TO:=λσ H Q=>t σ H λx H1=>∃ i,x=.int i/\Q (some i) H1
theorem intsAre_of {ns:List Int}:∀ {us:List We},Vals (ns.map V.int) us->Zo us ns:=by
 induction ns with
 | nil=>intro us r;rw[Yb] at r;cases r;exact .nil
 | cons n ns ih=>
  intro us r
  rw[Wr] at r
  cases r with
  | cons r1 r2=>
   obtain ⟨t,e⟩:=r1
   subst e
   exact .cons n t (ih r2)
section
variable {X:Cx} {e:WR} {te:TE} {lo hi:Option WR} {tl th:TO} {pos p2:Pos}
theorem Mr:PO X none LY:=by
 intro pins s σ H Q I h
 rw[evalPart_none]
 exact Wn ⟨none,H,I,.none,h⟩
theorem KL (h:PE X e te):PO X (some e) (SU te):=by
 intro pins s σ H Q I hw
 rw[evalPart_some]
 refine thn (h pins s σ H _ I hw) λu s1 ⟨x,H1,I1,r1,q1⟩=>?_
 obtain ⟨i,rfl,q⟩:=q1
 obtain ⟨t,rfl⟩:=r1
 exact ⟨some i,H1,I1,.int i t,q⟩
def SlR (X:Cx)(r:V->Option Int->Option Int->Hp->VK->Prop):Prop:=
 ∀ (pins:List (Addr×Obj)) (s:Wh) (σ:St) (H:Hp) (x:V) (v vl vu:We) (lo hi:Option Int) (sl:Addr) (Q:VK),Inv X pins σ H s->RelV x v->s.heap.IsSliceOf sl vl vu .none->IsPart vl lo->IsPart vu hi->r x lo hi H Q->
  ∃ T id,zdF (.type T) "__getitem__" = pure (some (.builtin id))/\s.TypeIs v T/\WJ (WM X.prog X.w) X.A (zap v (.ref sl)) (EP X pins σ Q) X.xe s
theorem SlR.or {r r':V->Option Int->Option Int->Hp->VK->Prop}(h:SlR X r)(h':SlR X r'):SlR X (λx lo hi H Q=>r x lo hi H Q∨r' x lo hi H Q):=by
 intro pins s σ H x v vl vu lo hi sl Q I rx hs pl pu q
 rcases q with q | q
 ·exact h pins s σ H x v vl vu lo hi sl Q I rx hs pl pu q
 ·exact h' pins s σ H x v vl vu lo hi sl Q I rx hs pl pu q
def tSl (r:V->Option Int->Option Int->Hp->VK->Prop)(te:TE)(tl th:TO):TE:=λσ H Q=>te σ H λx H1=>tl σ H1 λl H2=>th σ H2 λu H3=>r x l u H3 Q
theorem GI {r:V->Option Int->Option Int->Hp->VK->Prop}(hr:SlR X r)(he:PE X e te)(hl:PO X lo tl)(hu:PO X hi th):PE X (.Subscript e (.Slice lo hi none p2) pos) (tSl r te tl th):=by
 intro pins s σ H Q I h
 refine zdG (thn (he pins s σ H _ I h) λv s1 ⟨x,H1,I1,r1,q1⟩=>?_)
 refine wpAny_Slice (thn (hl pins s1 σ H1 _ I1 q1) λvl s2 ⟨l,H2,I2,pl,q2⟩=>thn (hu pins s2 σ H2 _ I2 q2) λvu s3 ⟨u,H3,I3,pu,q3⟩=>?_)
 rw[evalPart_none]
 refine Wn ?_
 have I4:Inv X pins σ H3 { s3 with heap:=s3.heap.push { cls:=.type "slice", data:=.fields #[vl,vu,.none] } }:=I3.kept (t':=s3.toks) λb ob q=>Wc _ q
 obtain ⟨T,id,hT,ht,hg⟩:=hr pins { s3 with heap:=s3.heap.push { cls:=.type "slice", data:=.fields #[vl,vu,.none] } } σ H3 x v vl vu l u s3.heap.objs.size Q I4 r1 (zei ..) pl pu q3
 show WJ (WM X.prog X.w) X.A (zcj e (.Slice lo hi none p2) v (.ref s3.heap.objs.size)) (EP X pins σ Q) X.xe { s3 with heap:=s3.heap.push { cls:=.type "slice", data:=.fields #[vl,vu,.none] } }
 exact tail_any (ops:=[.ref s3.heap.objs.size,v]) ht hT hg (by with_unfolding_all rfl)
def zc (xs:List V)(lo hi:Option Int):List V:=(xs.drop (HT.sIx xs.length 0 lo)).take (HT.sIx xs.length xs.length hi - HT.sIx xs.length 0 lo)
theorem pI (xs:List V)(lo hi:Option Int):(zc xs lo hi).length<=xs.length:=by
 unfold zc
 rw[Zc,Ze]
 omega
def U2 (K:Wa):V->Option Int->Option Int->Hp->VK->Prop:=λx lo hi H Q=>∃ a xs,x=.ref a/\SqT K H a xs/\
 ¬ (HT.sIx xs.length 0 lo=0/\HT.sIx xs.length xs.length hi=xs.length)/\∀ p,H p=none->Q (.ref p) (upd H p (.tup (zc xs lo hi)))
theorem QB:SlR X (U2 X.K):=by
 intro pins s σ H x v vl vu lo hi sl Q I rx hs pl pu h
 obtain ⟨a,xs,rfl,hx,hw,q⟩:=h
 cases rx
 obtain ⟨its,r,ht,hz⟩:=I.tuple hx
 have hlen:its.toArray.size=xs.length:=by rw[WG];exact r.length.symm
 refine ⟨"tuple", _,Xl.lookup,ht.typeIs,?_⟩
 refine HT.mS ht hs pl pu (by rw[hlen];exact hw) ?_ (by rw[hlen];exact hz)
 rw[hlen]
 refine ⟨.ref s.heap.objs.size,_,I.laid (t':=s.toks) (o:=.tup (zc xs lo hi)) (λb ob q=>Wc _ q) (WA _) ?_,rfl,q _ (I.hok.fresh (WA _))⟩
 exact ⟨Xa (pI xs lo hi) hz,_,(r.drop (HT.sIx xs.length 0 lo)).take (HT.sIx xs.length xs.length hi - HT.sIx xs.length 0 lo),xo.new _ _⟩
def OO (K:Wa):R2:=λx y H Q=>∃ a b xs ys,x=.ref a/\y=.ref b/\SqT K H a xs/\SqT K H b ys/\xs≠[]/\xs.length+ys.length<=sizeLine/\
 (ys=[]->Q (.ref a) H)/\(ys≠[]->∀ p,H p=none->Q (.ref p) (upd H p (.tup (xs++ys))))
theorem Vals.wK {xs:List V}{us:List We}(r:Vals xs us):us=[]↔xs=[]:=by
 cases r with
 | nil=>simp
 | cons _ _=>simp
theorem Mo:OpR X (YK .Add) (OO X.K):=by
 intro pins s σ H x y v u Q I rx ry h
 obtain ⟨a,b,xs,ys,rfl,rfl,ha,hb,hx,hz,q1,q2⟩:=h
 cases rx
 cases ry
 obtain ⟨its,r1,p1,_⟩:=I.tuple ha
 obtain ⟨its2,r2,p2,_⟩:=I.tuple hb
 refine HT.Lr p1 p2 (λz=>hx (r1.wK.mp z)) (λz=>⟨.ref a,H,I,rfl,q1 (r2.wK.mp z)⟩) (λz=>?_) (by rw[← r1.length,← r2.length];exact hz)
 refine ⟨.ref s.heap.objs.size,_,I.laid (t':=s.toks) (o:=.tup (xs++ys)) (λb ob q=>Wc _ q) (WA _) ?_,rfl,q2 (λw=>z (r2.wK.mpr w)) _ (I.hok.fresh (WA _))⟩
 exact ⟨by rw[Wv];exact hz,_,r1.append r2,xo.new _ _⟩
end
end L2
namespace L2
open PySem PySem.Spec PyProof.Rows
def ixN (n:Nat)(i:Int):Option Nat:=if 0<=i then (if i < n then some i.toNat else none) else if -(n:Int)<=i then some (i+n).toNat else none
def atI {α:Type}(xs:List α)(i:Int):Option α:=(ixN xs.length i).bind λj=>xs[j]?
theorem K2 {n:Nat}{i:Int}{j:Nat}(h:ixN n i=some j):zb7 i n=some j/\j < n/\-(n:Int)<=i/\i < n:=by
 unfold ixN at h
 by_cases h0:0<=i
 ·rw[if_pos h0] at h
  by_cases h1:i < n
  ·rw[if_pos h1] at h
   have e:i.toNat=j:=W4 h
   exact ⟨by rw[seqIndex_of h0 h1,e],by omega,by omega,h1⟩
  ·rw[if_neg h1] at h;cases h
 ·rw[if_neg h0] at h
  by_cases h1:-(n:Int)<=i
  ·rw[if_pos h1] at h
   have e:(i+n).toNat=j:=W4 h
   exact ⟨by rw[seqIndex_neg (by omega) h1,e],by omega,h1,by omega⟩
  ·rw[if_neg h1] at h;cases h
theorem wF {α:Type}{xs:List α}{i:Int}{v:α}(h:atI xs i=some v):∃ j,zb7 i xs.length=some j/\xs[j]? = some v/\j < xs.length/\-(xs.length:Int)<=i/\i < xs.length:=by
 unfold atI at h
 cases e:ixN xs.length i with
 | none=>rw[e] at h;cases h
 | some j=>
  rw[e] at h
  obtain ⟨h1,h2,h3,h4⟩:=K2 e
  exact ⟨j,h1,h,h2,h3,h4⟩
def DN (b:WR):Prop:=∀ o i,zbP b false o i=operate [o,i] (zap o i)
def IxR (X:Cx)(r:R2):Prop:=
 ∀ (value slice:WR) (pins:List (Addr×Obj)) (s:Wh) (σ:St) (H:Hp) (x y:V) (v u:We) (Q:VK),Inv X pins σ H s->RelV x v->RelV y u->r x y H Q->
  zbP slice false v u=operate [v,u] (zap v u)->WJ (WM X.prog X.w) X.A (zcj value slice v u) (EP X pins σ Q) X.xe s
def MtR (X:Cx)(id:String)(r:V->List V->Hp->VK->Prop):Prop:=
 ∀ (pins:List (Addr×Obj)) (s:Wh) (σ:St) (H:Hp) (x:V) (xs:List V) (v:We) (us:List We) (Q:VK),Inv X pins σ H s->RelV x v->Vals xs us->r x xs H Q->
  WJ (WM X.prog X.w) X.A (zcb (.builtin id) (v::us)) (EP X pins σ Q) X.xe s
section
variable {X:Cx} {a b:WR} {ta tb:TE} {pos:Pos}
theorem IxR.or {r r':R2}(h:IxR X r)(h':IxR X r'):IxR X (λx y H Q=>r x y H Q∨r' x y H Q):=by
 intro value slice pins s σ H x y v u Q I rx ry q hs
 rcases q with q | q
 ·exact h value slice pins s σ H x y v u Q I rx ry q hs
 ·exact h' value slice pins s σ H x y v u Q I rx ry q hs
theorem Tx {r:R2}(hr:IxR X r)(ha:PE X a ta)(hb:PE X b tb)(hs:DN b):PE X (.Subscript a b pos) (tOp r ta tb):=by
 intro pins s σ H Q I h
 exact zdG (Pg ha hb I h λv u s2 x y H2 I2 rx ry q=>hr a b pins s2 σ H2 x y v u Q I2 rx ry q (hs _ _))
def Um (K:Wa):R2:=λx y H Q=>∃ p xs i v,x=.ref p/\y=.int i/\SqL K H p xs/\atI xs i=some v/\Q v H
def Up (K:Wa):R2:=λx y H Q=>∃ p xs i v,x=.ref p/\y=.int i/\SqT K H p xs/\atI xs i=some v/\Q v H
def SS:R2:=λx y H Q=>∃ z i c,x=.str z/\y=.int i/\z.length<=sizeLine/\atI z.cps.toList i=some c/\Q (.str ⟨#[c]⟩) H
theorem NW:IxR X (Um X.K):=by
 intro value slice pins s σ H x y v u Q I rx ry h hs
 obtain ⟨p,xs,i,z,rfl,rfl,hq,he,q⟩:=h
 cases rx
 obtain ⟨t,rfl⟩:=ry
 obtain ⟨its,r,pl,hz⟩:=I.list hq
 obtain ⟨j,h1,h2,h3,h4,h5⟩:=wF he
 obtain ⟨w,ew,rw'⟩:=r.get h2
 have hl:=r.length
 have hn:=rH
 have fin:EP X pins σ Q w s:=⟨z,H,I,rw',q⟩
 by_cases h0:0<=i
 ·have hj:i.toNat=j:=by
   rw[seqIndex_of h0 h5] at h1
   exact W4 h1
  exact item_listR pl.isList h0 (by omega) (by rw[hj];simpa using ew) fin hs
 ·have hj:(i+(its.toArray.size:Int)).toNat=j:=by
   rw[seqIndex_neg (by omega) h4] at h1
   rw[WG,← hl]
   exact W4 h1
  exact zbk (x:=w) pl.isList.typeIs zcQ.lookup
   (wpAny_getItem_list_neg (Q:=λr s'=>r=w/\EP X pins σ Q r s') pl.isList (by omega) (by rw[WG]<;>omega) (by omega) (by rw[hj];simpa using ew) ⟨rfl,fin⟩) hs
theorem RL:IxR X (Up X.K):=by
 intro value slice pins s σ H x y v u Q I rx ry h hs
 obtain ⟨p,xs,i,z,rfl,rfl,hq,he,q⟩:=h
 cases rx
 obtain ⟨t,rfl⟩:=ry
 obtain ⟨its,r,pl,hz⟩:=I.tuple hq
 obtain ⟨j,h1,h2,h3,h4,h5⟩:=wF he
 obtain ⟨w,ew,rw'⟩:=r.get h2
 have hl:=r.length
 have hn:=rH
 have fin:EP X pins σ Q w s:=⟨z,H,I,rw',q⟩
 exact zbk (x:=w) pl.typeIs slot_tuple_getitem.lookup
  (getItem_tuple (j:=j) (Q:=λr s'=>r=w/\EP X pins σ Q r s') pl (by omega) (by omega) (by rw[WG,← hl];exact h1) (by simpa using ew) ⟨rfl,fin⟩) hs
theorem O6:IxR X SS:=by
 intro value slice pins s σ H x y v u Q I rx ry h hs
 obtain ⟨z,i,c,rfl,rfl,hz,he,q⟩:=h
 obtain ⟨t,rfl⟩:=rx
 obtain ⟨t',rfl⟩:=ry
 obtain ⟨j,h1,h2,h3,h4,h5⟩:=wF he
 have hl:z.cps.toList.length=z.length:=by simp[Str.length]
 rw[hl] at h1 h4 h5
 have hn:=rH
 exact tail_any (typeIs_str s z t) slot_str_getitem.lookup (getItem_str (c:=c) (by
  have e1:decide (i < -(2 ^ 63:Int))=false:=decide_eq_false (by omega)
  have e2:decide (i ≥ 2 ^ 63)=false:=decide_eq_false (by omega)
  rw[e1,e2,zdT]) (by rw[h1];simpa using h2) ⟨.str ⟨#[c]⟩,H,I.tok _,⟨_,rfl⟩,q⟩) hs
def rIx (K:Wa):R2:=λx y H Q=>Um K x y H Q∨Up K x y H Q∨SS x y H Q
theorem Rn:IxR X (rIx X.K):=NW.or (RL.or O6)
theorem Inv.lst {pins:List (Addr×Obj)}{σ:St}{H:Hp}{s:Wh}{p:Addr}{xs:List V}(I:Inv X pins σ H s)(h:H p=some (.lst xs)) :
  ∃ (its:List We) (n:Nat),Vals xs its/\s.heap.get? p=some { cls:=.type "list", data:=.seq its.toArray n }/\xs.length<=sizeLine:=by
 obtain ⟨z,its,n,r,e⟩:=I.hok p _ h
 exact ⟨its,n,r,e,z⟩
theorem vR (lo hi:Option Int)(n:Nat):(ZA lo hi none n).1=((HT.sIx n 0 lo:Nat):Int)/\(ZA lo hi none n).2.1=((HT.sIx n n hi:Nat):Int)/\(ZA lo hi none n).2.2=1:=by
 refine ⟨?_,?_,rfl⟩
 ·cases lo with
  | none=>simp[ZA,HT.sIx]
  | some i=>
   simp only[ZA,HT.sIx,zdb,show (1:Int) > 0 by decide,if_true]
   by_cases h:i < 0
   ·simp only[h,if_true]<;>omega
   ·simp only[h,if_false]<;>omega
 ·cases hi with
  | none=>simp[ZA,HT.sIx]
  | some i=>
   simp only[ZA,HT.sIx,zdb,show (1:Int) > 0 by decide,if_true]
   by_cases h:i < 0
   ·simp only[h,if_true]<;>omega
   ·simp only[h,if_false]<;>omega
theorem t9 (its:List We)(lo hi:Option Int):slicePick its.toArray lo hi none=((its.drop (HT.sIx its.length 0 lo)).take (HT.sIx its.length its.length hi - HT.sIx its.length 0 lo)).toArray:=by
 obtain ⟨h1,h2,h3⟩:=vR lo hi its.toArray.size
 unfold slicePick
 rw[h1,h2,h3]
 simp only[sliceRange_one,pick_run,WG]<;>rfl
def Vf (K:Wa):V->Option Int->Option Int->Hp->VK->Prop:=λx lo hi H Q=>∃ a xs,x=.ref a/\SqL K H a xs/\∀ p,H p=none->Q (.ref p) (upd H p (.lst (zc xs lo hi)))
theorem Ng:SlR X (Vf X.K):=by
 intro pins s σ H x v vl vu lo hi sl Q I rx hs pl pu h
 obtain ⟨a,xs,rfl,hx,q⟩:=h
 cases rx
 obtain ⟨its,r,ht,hz⟩:=I.list hx
 have hlen:=r.length
 refine ⟨"list", _,zcQ.lookup,ht.isList.typeIs,?_⟩
 refine wpAny_getItem_list_slice ht.isList hs pl pu .none (by simp) ?_ (by rw[WG]<;>omega)
 rw[t9,← hlen]
 refine ⟨.ref s.heap.objs.size,_,I.laid (t':=s.toks) (o:=.lst (zc xs lo hi)) (λb ob q=>Wc _ q) (WA _) ?_,rfl,q _ (I.hok.fresh (WA _))⟩
 exact ⟨Xa (pI xs lo hi) hz,_,0,(r.drop (HT.sIx xs.length 0 lo)).take (HT.sIx xs.length xs.length hi - HT.sIx xs.length 0 lo),WE _ rfl⟩
def N8:V->Bool
 | .non=>true
 | .bl _=>true
 | .int _=>true
 | .str _=>true
 | _=>false
def eqV:V->V->Bool
 | .non,.non=>true
 | .bl a,.bl b=>a == b
 | .bl a,.int b=>(if a then 1 else 0) == b
 | .int a,.bl b=>a == (if b then 1 else 0)
 | .int a,.int b=>a == b
 | .str a,.str b=>a == b
 | _,_=>false
def inV (x:V)(xs:List V):Bool:=xs.any λy=>eqV y x
def rIn (K:Wa)(neg:Bool):R2:=λx y H Q=>∃ p xs,y=.ref p/\(SqL K H p xs∨SqT K H p xs)/\N8 x=true/\xs.all N8=true/\Q (.bl (if neg then !inV x xs else inV x xs)) H
theorem vL:cM X (.builtin "len") (λxs H Q=>∃ p ys,xs=[.ref p]/\(SqL X.K H p ys∨SqT X.K H p ys)/\Q (.int ys.length) H):=by
 intro pins s σ H xs us Q I r h
 obtain ⟨p,ys,rfl,hq,q⟩:=h
 obtain ⟨u,rfl,rx⟩:=vals1 r
 cases rx
 have hn:=rH
 rcases hq with hq | hq
 ·obtain ⟨its,r',pl,hz⟩:=I.list hq
  have hlen:=r'.length
  exact Calls.call_len_list pl.isList (by simp only[WG]<;>omega) ⟨.int ys.length,H,I.tok _,⟨s.toks+1,by rw[WG,hlen]⟩,q⟩
 ·obtain ⟨its,r',pl,hz⟩:=I.tuple hq
  have hlen:=r'.length
  exact len_tuple pl (by simp only[WG]<;>omega) ⟨.int ys.length,H,I.tok _,⟨s.toks+1,by rw[WG,hlen]⟩,q⟩
theorem wD:cM X (.builtin "len") (λxs H Q=>∃ z,xs=[.str z]/\z.length<=sizeLine/\Q (.int z.length) H):=by
 intro pins s σ H xs us Q I r h
 obtain ⟨z,rfl,hz,q⟩:=h
 obtain ⟨u,rfl,t,rfl⟩:=vals1 r
 have hn:=rH
 exact len_str (by omega) ⟨.int z.length,H,I.tok _,⟨_,rfl⟩,q⟩
theorem cM.or {f:We}{r r':List V->Hp->VK->Prop}(h:cM X f r)(h':cM X f r'):cM X f (λxs H Q=>r xs H Q∨r' xs H Q):=by
 intro pins s σ H xs us Q I rs q
 rcases q with q | q
 ·exact h pins s σ H xs us Q I rs q
 ·exact h' pins s σ H xs us Q I rs q
theorem i5:cM X (.type "list") (λxs H Q=>∃ p ys,xs=[.ref p]/\(SqL X.K H p ys∨SqT X.K H p ys)/\∀ l,H l=none->Q (.ref l) (upd H l (.lst ys))):=by
 intro pins s σ H xs us Q I r h
 obtain ⟨p,ys,rfl,hq,q⟩:=h
 obtain ⟨u,rfl,rx⟩:=vals1 r
 cases rx
 have fin:∀ (its:List We),Vals ys its->ys.length<=sizeLine->∀ (h':Heap) (c':Nat),(∀ b o',s.heap.get? b=some o'->h'.get? b=some o')->
   h'.get? s.heap.objs.size=some { cls:=.type "list", dict:=none,data:=.seq its.toArray c',slots:=#[] }->EP X pins σ Q (.ref s.heap.objs.size) { s with heap:=h' }:=λits r' hz h' c' kp e=>
  ⟨.ref s.heap.objs.size,_,I.laid (t':=s.toks) kp (WA _) (show dG X.prog X.w _ h' _ (.lst ys) from ⟨hz,its,c',r',e⟩),rfl,q _ (I.hok.fresh (WA _))⟩
 rcases hq with hq | hq
 ·obtain ⟨its,r',pl,hz⟩:=I.list hq
  have hlen:=r'.length
  obtain ⟨o,ho,hc,n,hd⟩:=pl.isList
  exact call_list_seq p (.inl rfl) ho hc hd (λh' c' kp e=>fin its r' hz h' c' kp e) (by simp only[WG]<;>omega)
 ·obtain ⟨its,r',pl,hz⟩:=I.tuple hq
  have hlen:=r'.length
  obtain ⟨o,ho,hc,n,hd⟩:=pl
  exact call_list_seq p (.inr rfl) ho hc hd (λh' c' kp e=>fin its r' hz h' c' kp e) (by simp only[WG]<;>omega)
theorem aR:cM X (.type "tuple") (λxs H Q=>∃ p ys,xs=[.ref p]/\((SqL X.K H p ys/\∀ l,H l=none->Q (.ref l) (upd H l (.tup ys)))∨(SqT X.K H p ys/\Q (.ref p) H))):=by
 intro pins s σ H xs us Q I r h
 obtain ⟨p,ys,rfl,h⟩:=h
 obtain ⟨u,rfl,rx⟩:=vals1 r
 cases rx
 rcases h with ⟨hq,q⟩ | ⟨hq,q⟩
 ·obtain ⟨its,r',pl,hz⟩:=I.list hq
  have hlen:=r'.length
  refine call_tuple_list pl.isList (λh' kp=>?_) (by simp only[WG]<;>omega)
  have I1:Inv X pins σ H { s with heap:=h' }:=I.kept (t':=s.toks) kp
  have I2:Inv X pins σ (upd H h'.objs.size (.tup ys)) { s with heap:=h'.push { cls:=.type "tuple", data:=.seq its.toArray } }:=
   I1.laid (t':=s.toks) (λb o e=>Wc _ e) (WA _) (show dG X.prog X.w _ _ _ (.tup ys) from ⟨hz,its,r',xo.new _ _⟩)
  exact ⟨.ref h'.objs.size,_,I2,rfl,q _ (I1.hok.fresh (WA _))⟩
 ·obtain ⟨its,r',pl,hz⟩:=I.tuple hq
  exact call_tuple_same pl ⟨.ref p,H,I,rfl,q⟩
def tyV (K:Wa)(T:String)(x:V)(H:Hp):Prop:=match x with
 | .str _=>T = "str"
 | .int _=>T = "int"
 | .ref p=>(T = "list" /\ ∃ xs,SqL K H p xs)∨(T = "tuple" /\ ∃ o,K.lookup p=some o/\o.cls=.type "tuple" /\ o.dict=none)∨
   (T = "dict" /\ ((∃ kvs,H p=some (.dK kvs))∨∃ kvs,H p=some (.dT kvs)))∨(T = "set" /\ ∃ S n,H p=some (.set S n))
 | _=>False
theorem R6 {pins:List (Addr×Obj)}{σ:St}{H:Hp}{s:Wh}{T:String}{x:V}{v:We}(I:Inv X pins σ H s)(r:RelV x v)(ty:tyV X.K T x H) :
  s.TypeIs v T/\∀ a,v=.ref a->∃ ob,s.heap.get? a=some ob/\ob.dict=none:=by
 cases x with
 | str z=>
  obtain ⟨t,rfl⟩:=r
  cases (show T = "str" from ty)
  exact ⟨typeIs_str s z t,λ_ e=>nomatch e⟩
 | int i=>
  obtain ⟨t,rfl⟩:=r
  cases (show T = "int" from ty)
  exact ⟨typeIs_int s i t,λ_ e=>nomatch e⟩
 | ref p=>
  cases r
  rcases ty with ⟨rfl,xs,hq⟩ | ⟨rfl,o,hk,hc,hd⟩ | ⟨rfl,hk⟩ | ⟨rfl,S,n,hk⟩
  ·obtain ⟨its,_,pl,_⟩:=I.list hq
   refine ⟨pl.isList.typeIs,λa e=>?_⟩
   cases e
   obtain ⟨o,n,e,c,hd,_⟩:=pl
   exact ⟨o,e,hd⟩
  ·refine ⟨⟨o,I.kIn p o hk,hc⟩,λa e=>?_⟩
   cases e
   exact ⟨o,I.kIn _ o hk,hd⟩
  ·have z:∃ o,s.heap.get? p=some o/\o.ExactDict:=by
    rcases hk with ⟨kvs,hk⟩ | ⟨kvs,hk⟩
    ·obtain ⟨_,_,_,_,o,_,_,e,ex,_⟩:=I.hok p _ hk
     exact ⟨o,e,ex⟩
    ·obtain ⟨_,_,_,_,o,_,_,e,ex,_⟩:=I.hok p _ hk
     exact ⟨o,e,ex⟩
   obtain ⟨o,e,ex⟩:=z
   refine ⟨⟨o,e,ex.1⟩,λa e2=>?_⟩
   cases e2
   exact ⟨o,e,ex.2.1⟩
  ·obtain ⟨o,_,_,_,e,ex,_⟩:=I.hok p _ hk
   refine ⟨⟨o,e,ex.1⟩,λa e2=>?_⟩
   cases e2
   exact ⟨o,e,ex.2.1⟩
 | _=>exact Wm ty
def tBM (K:Wa)(T:String)(r:V->List V->Hp->VK->Prop)(to:TE)(t:TA):TE:=λσ H Q=>to σ H λx H1=>tyV K T x H1/\t σ H1 λxs H2=>r x xs H2 Q
variable {o e:WR} {es:List WR} {to:TE} {t:TA} {name:Str} {apos cpos:Pos} {T id:String} {r:V->List V->Hp->VK->Prop}
theorem D9 (pa:PlainAttrs T)(slot:Slot T name id)(hty:typeOf (.builtin id)=pure (.type "method_descriptor"))(hm:MtR X id r)(ho:PE X o to)(ha:PA X (e::es) t)
  (hbase:YW o name X.env (Xw o X.env)=Xw o X.env:=by rfl)
  (hfew:((XA cpos (Ww (e::es) X.env)).all (λx=>!x.1)&&(Z4 cpos (YN [] X.env)).all (λx=>x.1.isSome)
   && decide ((e::es).length+([]:List YS).length+(if ([]:List YS).isEmpty then 0 else 1) < 30))=true:=by rfl)
  (hline:(apos.endLine == cpos.line)=true:=by rfl) (hs:Ww (e::es) X.env=(false,Xw e X.env)::Ww es X.env:=by rfl) (hplain:(XA cpos (Ww es X.env)).any (·.1)=false:=by rfl) :
  PE X (.Call (.Attribute o name apos) (e::es) [] cpos) (tBM X.K T r to t):=by
 intro pins s σ H Q I h
 refine zbl hbase hfew hline rfl (thn (ho pins s σ H _ I h) λv s1 ⟨x,H1,I1,r1,ty,q1⟩=>?_)
 obtain ⟨h1,h2⟩:=R6 I1 r1 ty
 refine ⟨T,id,pa,slot,hty,h1,h2,?_⟩
 have hA:=ha cpos pins s1 σ H1 _ I1 q1
 rw[hs] at hA ⊢
 refine zbm (by show (false || (XA cpos (Ww es X.env)).any (·.1))=false;rw[hplain]<;>rfl) (zbQ ?_)
 exact thn hA λus s2 ⟨vs,H2,I2,r2,q2⟩=>hm pins s2 σ H2 x vs v us Q I2 r1 r2 q2
end
end L2
namespace L2
open PySem PySem.Spec PyProof.Rows
def MtM (X:Cx)(id:String)(r:V->List V->Hp->VK->Prop):Prop:=
 ∀ (pins:List (Addr×Obj)) (s:Wh) (σ:St) (H:Hp) (x:V) (xs:List V) (v:We) (us:List We) (Q:VK),Inv X pins σ H s->RelV x v->Vals xs us->r x xs H Q->
  WJ (WM X.prog X.w) X.A (zcb (.builtin id) (v::us)) (EP X pins σ Q) X.xe s
theorem Vals.one:∀ {x:V} {us:List We},Vals [x] us->∃ u,us=[u]/\RelV x u
 | _,_,.cons r .nil=>⟨_,rfl,r⟩
theorem Vals.zero:∀ {us:List We},Vals [] us->us=[]
 | _,.nil=>rfl
theorem Vals.eraseIdx:∀ {xs:List V} {us:List We} (i:Nat),Vals xs us->Vals (xs.eraseIdx i) (us.eraseIdx i)
 | _,_,_,.nil=>.nil
 | _,_,0,.cons _ t=>t
 | _,_,i+1,.cons r t=>.cons r (Vals.eraseIdx i t)
theorem vd {α:Type}:∀ (l:List α) (i:Nat),(l.eraseIdx i).length<=l.length
 | [],_=>WA _
 | _::_,0=>Z6 _
 | _::r,i+1=>za1 (vd r i)
section
variable {X:Cx} {pins:List (Addr×Obj)} {σ:St} {H:Hp} {s:Wh} {l b:Addr} {xs ys zs:List V}
theorem Inv.Mv {its its':List We}{n:Nat}{f:Array We->Array We}{t':Nat}(I:Inv X pins σ H s)(hH:H l=some (.lst xs))
  (e:s.heap.get? l=some { cls:=.type "list", data:=.seq its.toArray n }) (hf:f its.toArray=its'.toArray) (hv:Vals ys its') (hz:ys.length<=sizeLine) :
  Inv X pins σ (upd H l (.lst ys)) { s with heap:=s.heap.update l (zbn f),toks:=t' }:=by
 have q:=PySem.IsL.update e f
 rw[hf] at q
 refine I.write (x:=l) (e:=l) (by rw[hH];exact trivial) (.inl rfl) (λb' u hb hu=>(Xr s.heap (zbn f) (WY hb)).trans hu) ⟨_,q⟩ ?_
 exact ⟨hz,its',_,hv,q⟩
theorem Inv.Vt {its:List We}{t':Nat}(I:Inv X pins σ H s)(hv:Vals ys its)(hz:ys.length<=sizeLine) :
  Inv X pins σ (upd H s.heap.objs.size (.lst ys)) { s with heap:=s.heap.push { cls:=.type "list", data:=.seq its.toArray },toks:=t' }:=
 I.laid (λ_ _ q=>Wc _ q) (WA _) ⟨hz,its,0,hv,WE _ rfl⟩
theorem Inv.fresh (I:Inv X pins σ H s):H s.heap.objs.size=none:=I.hok.fresh (WA _)
theorem Inv.Mx (I:Inv X pins σ H s)(hH:H l=some (.lst xs)):xs.length<=sizeLine/\∃ (its:List We) (n:Nat),Vals xs its/\xs.length=its.length/\s.heap.get? l=some { cls:=.type "list", data:=.seq its.toArray n }:=by
 obtain ⟨z,its,n,r,e⟩:=I.hok l _ hH
 exact ⟨z,its,n,r,r.length,e⟩
theorem zG {n:Nat}(h:n<=sizeLine):XI n=false:=by
 unfold XI
 exact decide_eq_false (by omega)
end
section
variable {X:Cx}
def MF:V->List V->Hp->VK->Prop:=λx vs H Q=>∃ l xs y,x=.ref l/\vs=[y]/\H l=some (.lst xs)/\xs.length < sizeLine/\Q .non (upd H l (.lst (xs++[y])))
theorem vp:MtM X "list.append" MF:=by
 intro pins s σ H x vs v us Q I rx rv h
 obtain ⟨l,xs,y,rfl,rfl,hH,hz,q⟩:=h
 cases rx
 obtain ⟨u,rfl,ru⟩:=rv.one
 obtain ⟨z,its,n,r,hl,e⟩:=I.Mx hH
 refine Z0 F.slot_list_append ⟨_,e,rfl⟩ F.entry_list_append (F.args_list_append_2 _ _) (PySem.list_append l its.toArray n u (by rw[WG];omega)) ⟨e,?_⟩
 refine ⟨.non,_,I.Mv (its':=its++[u]) hH e (by simp) (r.append (.cons ru .nil)) ?_,rfl,q⟩
 rw[Wv,List.length_singleton]
 omega
def Pr:V->List V->Hp->VK->Prop:=λx vs H Q=>∃ l xs i k y,x=.ref l/\vs=[.int i]/\H l=some (.lst xs)/\-(2 ^ 63)<=i/\i < 2 ^ 63/\zb7 i xs.length=some k/\xs[k]? = some y/\Q y (upd H l (.lst (xs.eraseIdx k)))
theorem Hf:MtM X "list.pop" Pr:=by
 intro pins s σ H x vs v us Q I rx rv h
 obtain ⟨l,xs,i,k,y,rfl,rfl,hH,h1,h2,hk,hy,q⟩:=h
 cases rx
 obtain ⟨u,rfl,ru⟩:=rv.one
 obtain ⟨t,rfl⟩:=ru
 obtain ⟨z,its,n,r,hl,e⟩:=I.Mx hH
 obtain ⟨w,hw,rw'⟩:=r.get hy
 refine Z0 F.slot_list_pop ⟨_,e,rfl⟩ F.entry_list_pop (F.args_list_pop_2 _ _)
  (MeetsSeq.list_pop_at l its.toArray n i t k w (fitsIndex_both h1 h2) (by rw[WG,← hl];exact hk) (by rw[← Array.getElem?_toList];exact hw) (by rw[WG];omega)) ⟨e,?_⟩
 refine ⟨y,_,I.Mv (its':=its.eraseIdx k) hH e ?_ (r.eraseIdx k) ?_,rw',q⟩
 ·show its.toArray.eraseIdxIfInBounds k=(its.eraseIdx k).toArray
  rw[List.eraseIdxIfInBounds_toArray]
 ·have:=vd xs k
  omega
end
section
variable {prog:WX} {w:Xb} {A:Xn} {E:We->Wh->Prop} {s:Wh}
end
section
variable {X:Cx}
end
end L2
namespace Att
open PySem PySem.W PySem.Calls PyProof.Rows
theorem pQ {P:Params}{h:Heap}:∀ (ns:List Int) (vs:List We),WellAll P h vs (ns.map WData.int)->Zo vs ns:=by
 intro ns
 induction ns with
 | nil=>
  intro vs w
  rw[Yb] at w
  cases w
  exact .nil
 | cons n ns ih=>
  intro vs w
  rw[Wr] at w
  cases w with
  | cons a b=>
   cases a
   exact .cons _ _ (ih _ b)
theorem Ei {l:OpenLaw}{n:Nat}(hn:l.most=some n){P:Params}{h:Heap}{args:List WData}{vals:List We}
  (hpre:l.row.toRowW.claim.pre args=true) (hwl:WellAll P h vals args) :
  ∃ a vs ns,vals=[W5 a]/\args=[WData.list (ns.map WData.int)]/\h.get? a=some { cls:=.type "list", data:=.seq vs.toArray }/\Zo vs ns/\ns.length<=n:=by
 have hsh:WShape.hasAll [] args [.list .int]=true:=(pre_splitW hpre).1
 have hc:l.pre.holds [] { args:=args }=true:=(pre_splitW hpre).2
 obtain ⟨d,r,rfl,h1,h2⟩:=hasAllW_cons hsh
 obtain rfl:=hasAllW_nil h2
 obtain ⟨xs,rfl,h3⟩:=hasW_list h1
 obtain ⟨ns,rfl⟩:=items_int h3
 have hlen:ns.length<=n:=by
  unfold OpenLaw.pre at hc
  have h4:(WTm.not (.lt (.lit (.int (n:Int))) (.len (.arg 0)))).holds [] { args:=[.list (ns.map .int)] }=true:=by
   have h4:=(holds_andW hc).1
   rw[hn] at h4
   exact h4
  have h5:=condW_of h4 (w_not (w_lt w_lit (w_len_list (w_arg rfl))))
  rw[Wf] at h5
  refine Nat.le_of_not_lt λq=>?_
  have q':(n:Int) < ((ns.length:Nat):Int):=by omega
  first
   | (rw[decide_eq_true q'] at h5;exact absurd h5 (by decide))
   | (simp at h5;omega)
 cases hwl with
 | cons w1 w2=>
  cases w2
  cases w1 with
  | list ho hall=>exact ⟨_,_,ns,rfl,rfl,ho,pQ ns _ hall,hlen⟩
theorem EW (l:OpenLaw)(args:List WData):l.row.toRowW.claim.post args (.bool true) args=true:=
 postW_of (r:=l.row.toRowW) (X:=(true == true))
  (show zej [] (.bool true) .bool=true by first | rfl | decide | simp[zej,WShape.arms,WShape.armsAll])
  (show (WTm.eq .res (.lit (.bool true))).value [] { args:=args,res:=some (.bool true),after:=args }=some (.bool (true == true)) from w_eq_bool (w_res rfl) w_lit) rfl
theorem yt {l:OpenLaw}{n:Nat}{q:WX}{loose:List Str}{XP:(Str->Option We)->Heap->Prop}{YP:Xb->Heap->Prop}{d:DefRec}
  (hn:l.most=some n) (hdf:d.params.defaults=[])
  (zcb:∀ (w:Xb) (s₀ s₁:Wh) (mg mb:Str->Option We) (fa:Addr) (o:Obj) (pm cd doc:We) (a:Addr) (vs:List We) (ns:List Int),
   Ground q loose [] XP w s₀ mg mb s₁.heap->YP w s₁.heap->
   s₁.heap.get? fa=some o->o.data=.func (docDef d.name d.params d.body d.scope pm cd doc)->s₁.heap.CodeRec cd d.name->mg d.name=some (.ref fa)->
   s₁.heap.get? a=some { cls:=.type "list", data:=.seq vs.toArray }->Zo vs ns->ns.length<=n->s₁.gens = #[]->
   Y1 (WM l.prog w) zbo (.call (.ref fa) ⟨[.ref a],[]⟩) (λr s'=>r=.ok (.ret (.bool true))/\OldK s₁.heap s'.heap/\s'.os=s₁.os/\zaH s'.gens) s₁) :
  WalkO q loose XP YP l.row.toRowW d [] (λf vs=>zdH f vs):=by
 intro w s₀ s₁ mg mb G Y fa o pm cd doc dV kV ho hd hcd hD hmg hg args vals as hpre hlay hrd hwl hlo
 obtain rfl:dV=.none:=Dflts.none hD hdf
 obtain rfl:kV=.none:=Dflts.noKw hD
 obtain ⟨a,vs,ns,rfl,rfl,hobj,hints,hlen⟩:=Ei hn hpre hwl
 refine enter_call (zcO (zcb w s₀ s₁ mg mb fa o pm cd doc a vs ns G Y ho (fd_plain hd) hcd hmg hobj hints hlen hg) λr s' hq=>?_)
 obtain ⟨rfl,h2,h3,h4⟩:=hq
 exact ⟨.inl ⟨.bool true,.bool true,[],rfl,λ_=>rfl,.bool true,EW l _,λ_=>⟨zel,λ_ hm=>(nomatch hm)⟩⟩,h2,h3,h4⟩
section
variable {prog:WX} {w:Xb} {A:Xn} {E:We->Wh->Prop} {s:Wh} {K:Frag}
end
end Att
namespace L2
open PySem PySem.Spec PyProof.Rows
theorem vn:∀ {vs:List We} {ns:List Int},Zo vs ns->Vals (ns.map V.int) vs
 | _,_,.nil=>.nil
 | _,_,.cons n t h=>.cons ⟨t,rfl⟩ (vn h)
def LZ (H:Hp):Prop:=∀ b,H b=none∨∃ o xs,H b=some (.frz o (.lst xs))
theorem Kb {P:WX}{w:Xb}{K:Wa}{mg mb:Str->Option We}{CX:CXT}{k:Nat}{fa a:Addr}{fd:WH}{x:Str}{sp:Sp}{s₁:Wh}{vs:List We}{ns:List Int}
  (KX:K.In s₁.heap) (hns:s₁.heap.Ns XT mg) (hb:s₁.heap.Ns zdz mb) (hbb:∀ x:Str,x ≠ "__name__" -> mb x=Yi x) (hlim:s₁.heap.NoLimit) (hg:s₁.gens = #[])
  (ha:s₁.heap.get? a=some { cls:=.type "list", data:=.seq vs.toArray }) (hi:Zo vs ns) (hl:ns.length<=sizeLine) (hr:gG k zbo)
  (F:∀ base:Heap,K.In base->base.Ns XT mg->l5 P w K mg base CX k fa fd [x] sp) (hbind:∀ (s:Wh) (u:We),zcN s fd ⟨[u],[]⟩ [(x,u)])
  (hsp:∀ H:Hp,LZ H->SqL K H a (ns.map V.int)->sp [.ref a] H (λv _=>v=.bl true) λ_ _ _=>False)
  (hCX:∀ H e s',CX [] H s₁ (λ_ _ _=>False) e s'->False) :
  Y1 (WM P w) zbo (.call (.ref fa) ⟨[.ref a],[]⟩) (λr s'=>r=.ok (.ret (.bool true))/\OldK s₁.heap s'.heap/\s'.os=s₁.os/\zaH s'.gens) s₁:=by
 have rv:=vn hi
 have Vj:=hi.length
 -- from an abstract heap in which nothing but the script may be tracked
 have core:∀ H:Hp,LZ H->SqL K H a (ns.map V.int)->HOk P w H s₁.heap->(∀ b,H b≠none->b=a)->(H a≠none->K.lookup a=none)->
   Y1 (WM P w) zbo (.call (.ref fa) ⟨[.ref a],[]⟩) (λr s'=>r=.ok (.ret (.bool true))/\OldK s₁.heap s'.heap/\s'.os=s₁.os/\zaH s'.gens) s₁:=by
  intro H hO hS hok hA hK
  have base_of:∀ {b:Addr} {o:Obj},s₁.heap.get? b=some o->H b=none->(xc s₁.heap H).get? b=some o:=λe n=>Je e n
  have noA:∀ {b:Addr} {o:Obj} {es:Array DictEntry} {ep:Nat},s₁.heap.get? b=some o->o.data=.dict es ep->H b=none:=λ{b o es ep} e d=>by
   cases q:H b with
   | none=>rfl
   | some u=>
    have e':b=a:=hA b (by rw[q];simp)
    subst e'
    rw[ha] at e;cases e
    have d':Data.seq vs.toArray _=Data.dict es ep:=d
    cases d'
  have nsK:∀ {b:Addr} {m:Str->Option We},s₁.heap.Ns b m->(xc s₁.heap H).Ns b m:=λ{b m} ⟨o,es,ep,e,d,r⟩=>⟨o,es,ep,base_of e (noA e d),d,r⟩
  have hKb:K.In (xc s₁.heap H):=λb o e=>base_of (KX b o e) (by
   cases q:H b with
   | none=>rfl
   | some u=>
    have e':b=a:=hA b (by rw[q];simp)
    subst e'
    rw[hK (by rw[q];simp)] at e;cases e)
  have hM:Mod K mg (xc s₁.heap H):=⟨hKb,nsK hns,⟨mb,nsK hb,hbb⟩,let ⟨mc,h1,h2⟩:=hlim;⟨mc,nsK h1,h2⟩⟩
  have e0:Ls P w K mg (xc s₁.heap H) zbo [] s₁ H:=⟨rfl,hM,λb o e=>M9 e,zbp (E6 _ _),trivial,λb hb=>absurd (show b∈([]:List Addr) from hb) (by simp),hok,.of_eq hg⟩
  refine zcO ((F _ hKb (nsK hns)).run zbo [] s₁ H ⟨[.ref a],[]⟩ [.ref a] [.ref a] _ _ hr e0 (hbind s₁ (.ref a)) (.cons rfl .nil) (hsp H hO hS)) λr s' h=>?_
  cases r with
  | error e=>exact (hCX H e s' h).elim
  | ok fl=>
   cases fl with
   | next=>exact Wm h
   | brk=>exact Wm h
   | cont=>exact Wm h
   | ret u=>
    obtain ⟨v,H',os,bare,un,hok',r',q⟩:=h
    have q':v=.bl true:=q
    subst q'
    obtain rfl:u=zcx true:=r'
    refine ⟨rfl,OldK.of_keep λb o e=>?_,os,bare⟩
    cases q:H b with
    | none=>exact un.keep b o e q (by intro z;exact absurd (show b∈([]:List Addr) from z) (by simp)) (by simp)
    | some u=>
     rcases hO b with z | ⟨ob,xs,z⟩
     ·rw[q] at z;cases z
     ·have z2:=un.nO b ob _ z
      obtain ⟨e1,_⟩:=hok b _ z
      obtain ⟨e2,_⟩:=hok' b _ z2
      rw[e] at e1;cases e1
      exact e2
 cases hk:K.lookup a with
 | some o=>
  -- the script is one of the module's own objects
  have e:=KX a o hk
  rw[ha] at e
  cases e
  refine core (λ_=>none) (λ_=>.inl rfl) (.inr ⟨_,vs.toArray,_,hk,rfl,rfl,rfl,by rw[WG,Vj];exact hl,by simpa using rv⟩) (λb u z=>by have z':(none:Option HO)=some u:=z;cases z') (λb z=>absurd rfl z) λz=>absurd rfl z
 | none=>
  refine core (λb=>if b=a then some (.frz { cls:=.type "list", data:=.seq vs.toArray } (.lst (ns.map V.int))) else none) (λb=>?_) (.inl (.inr ⟨{ cls:=.type "list", data:=.seq vs.toArray },if_pos rfl⟩)) (λb u z=>?_) (λb z=>?_) λ_=>hk
  ·by_cases hb:b=a
   ·exact .inr ⟨_,_,if_pos hb⟩
   ·exact .inl (if_neg hb)
  ·by_cases hb:b=a
   ·have z':=(if_pos hb).symm.trans z
    cases z'
    subst hb
    exact ⟨ha,by rw[Wf];exact hl,vs,_,rv,ha⟩
   ·have z':=(if_neg hb).symm.trans z
    cases z'
  ·by_cases hb:b=a
   ·exact hb
   ·exact absurd (if_neg hb) z
end L2
namespace L2
open PySem PySem.Spec PyProof.Rows
theorem Ly {l:zbx}{n k:Nat}{q:WX}{loose:List Str}{XP:(Str->Option We)->Heap->Prop}{YP:Xb->Heap->Prop}{d:DefRec}{K:Params->Wa}{CX:Xb->CXT}{sp:Xb->Sp}{x:Str}
  (hn:l.most=some n) (hn2:n<=sizeLine) (hdf:d.params.defaults=[]) (hr:gG k zbo)
  (hY:∀ (w:Xb) (h:Heap),YP w h->(K w.params).In h)
  (F:∀ (w:Xb) (mg:Str->Option We) (fa:Addr) (h:Heap),(K w.params).In h->h.Ns XT mg->mg d.name=some (.ref fa)->
   ∃ fd:WH,(∀ (s:Wh) (u:We),zcN s fd ⟨[u],[]⟩ [(x,u)])/\
    ∀ base:Heap,(K w.params).In base->base.Ns XT mg->l5 l.prog w (K w.params) mg base (CX w) k fa fd [x] (sp w))
  (hsp:∀ (w:Xb) (H:Hp) (a:Addr) (ns:List Int),ns.length<=n->LZ H->SqL (K w.params) H a (ns.map V.int)->sp w [.ref a] H (λv _=>v=.bl true) λ_ _ _=>False)
  (hCX:∀ (w:Xb) (H:Hp) (s:Wh) (e:We) (s':Wh),CX w [] H s (λ_ _ _=>False) e s'->False) :
  zdU q loose XP YP l.row.toRowW d [] (λf vs=>zdH f vs):=by
 refine Att.yt hn hdf λw s₀ s₁ mg mb fa o pm cd doc a vs ns G Y ho hd hcd hmg hobj hints hlen hg=>?_
 have KX:=hY w _ Y
 obtain ⟨fd,hb,hF⟩:=F w mg fa _ KX G.T.g hmg
 exact Kb KX G.T.g G.T.b G.T.builtins G.T.nolimit hg hobj hints (Xa hlen hn2) hr hF hb (λH hO hS=>hsp w H a ns hlen hO hS) λH e s'=>hCX w H s₁ e s'
end L2
namespace L2
open PySem PySem.Spec PyProof.Rows
def ng (s:Stmt):Arguments:=match s with
 | .FunctionDef _ a _ _ _ _ _ _ _ _=>a
 | _=>{ posonlyargs:=[],args:=[],vararg:=none,kwonlyargs:=[],kw_defaults:=[],kwarg:=none,defaults:=[] }
def g9 (s:Stmt):List Stmt:=match s with
 | .FunctionDef _ _ b _ _ _ _ _ _ _=>b
 | _=>[]
def ax (s:Stmt):Scope:=match s with
 | .FunctionDef _ _ _ _ _ _ sc _ _ _=>sc
 | _=>{ kind:=.function,names:=[],isGenerator:=false,isCoroutine:=false }
abbrev CX0:CXT:=λ_ _ _ _ _ _=>False
abbrev E0:XK:=λ_ _ _=>False
theorem Su {X:Cx}:Passes CX0 X E0:=λ_ _ _ _ _ _ _ h=>h.elim
structure Fun (K:Wa) (x qual:Str) (st:Stmt) (f:Addr) (fd:WH):Prop where
 ex:∃ (oc:We) (od:Option Addr) (kV doc pm:We) (an:Option Addr) (cdv ct:We) (osl:Array (Option We)),
  fd=Zd x qual (ng st) (g9 st) (ax st) .none kV doc pm an cdv ct/\K.lookup f=some ⟨oc,od,.func fd,osl⟩/\zbO K cdv qual=true
 kp:ZJ K (.ref f)=true
section
variable {P:WX} {w:Xb} {K:Wa} {mg:Str->Option We} {base:Heap}
theorem Fun.ok {x qual:Str}{st:Stmt}{f:Addr}{fd:WH}{N ps:List Str}{k:Nat}{sp:Sp}(F:Fun K x qual st f fd)(S:aI N ps (ax st))(len:∀ vs H Q E,sp vs H Q E->vs.length=ps.length)
  (hbody:∀ (cdv:We) (A:Xn) (outer:List Env) (s:Wh) (H:Hp) (vs:List V) (Q:VK) (E:XK),gG k (A.deeper (zaw qual (ax st) s.heap.objs.size f cdv))->sp vs H Q E->
   ∃ t,PSs (Ar CX0 P w K mg base N qual (ax st) f cdv A outer s H E).nox (g9 st) t/\t { nx:=λ_ H'=>Q .non H',rt:=Q } (start N vs) H):l5 P w K mg base CX0 (k+1) f fd ps sp:=by
 obtain ⟨oc,od,kV,doc,pm,an,cdv,ct,osl,rfl,lk,hcd⟩:=F.ex
 refine Ue lk hcd S len λA outer s H vs Q E hr hsp=>?_
 obtain ⟨t,h,q⟩:=hbody cdv A outer s H vs Q E hr hsp
 exact ⟨t,h.nox,q⟩
theorem Fun.binds {x qual:Str}{st:Stmt}{f:Addr}{fd:WH}{ps:List Str}(F:Fun K x qual st f fd)
  (h:∀ (kV doc pm:We) (an:Option Addr) (cdv ct:We) (us:List We),us.length=ps.length->bindArgs (Zd x qual (ng st) (g9 st) (ax st) .none kV doc pm an cdv ct) ⟨us,[]⟩=pure (ps.zip us)):Binds K fd ps []:=by
 obtain ⟨oc,od,kV,doc,pm,an,cdv,ct,osl,rfl,lk,hcd⟩:=F.ex
 exact .all (h kV doc pm an cdv ct)
theorem aT {x qual:Str}{st:Stmt}{f:Addr}{oc:We}{od an:Option Addr}{osl:Array (Option We)}{kV doc pm cdv ct:We}(l:K.lookup f=some ⟨oc,od,.func (Zd x qual (ng st) (g9 st) (ax st) .none kV doc pm an cdv ct),osl⟩)
  (c:zbO K cdv qual=true) (k:ZJ K (.ref f)=true):Fun K x qual st f (Zd x qual (ng st) (g9 st) (ax st) .none kV doc pm an cdv ct):=⟨⟨oc,od,kV,doc,pm,an,cdv,ct,osl,rfl,l,c⟩,k⟩
end
section
variable {X:Cx}
theorem pv (i:Nat){x:Str}{pos:Pos}(hN:X.N[i]? = some x:=by rfl)(hv:Vis X.env.scope x:=by first | exact ZM rfl | exact ZN (ZM rfl) | exact ZN (ZN rfl))(hd:(x == ("__debug__" : Str))=false:=by decide)
  (hcd:(x == ("__classdict__" : Str))=false:=by decide):PE X (.Name x pos) (SV i):=Iw hN hv hd hcd
end
theorem rE {A B:Prop}(h:B):if false=true then A else B:=by
 rw[if_neg YQ]
 exact h
theorem qS {A B:Prop}(h:A):if true=true then A else B:=by
 rw[if_pos rfl]
 exact h
def zl (H H':Hp):Prop:=∀ b o,H b=some o->H' b=some o
theorem zl.trans {H H1 H2:Hp}(a:zl H H1)(b:zl H1 H2):zl H H2:=λc o h=>b c o (a c o h)
theorem zl.free {H H':Hp}(e:zl H H'){l:Addr}(h:H' l=zed):H l=zed:=by
 cases q:H l with
 | none=>rfl
 | some o=>
  rw[e l o q] at h
  cases h
theorem zl.seq {K:Wa}{H H':Hp}{a:Addr}{xs:List V}(e:zl H H')(h:SqL K H a xs):SqL K H' a xs:=by
 rcases h with (h | ⟨o,h⟩) | h
 ·exact .inl (.inl (e _ _ h))
 ·exact .inl (.inr ⟨o,e _ _ h⟩)
 ·exact .inr h
end L2
namespace L2
open PySem PySem.Spec PyProof.Rows
section
variable {κ:Type} [DecidableEq κ]
def ix (kvs:List (κ×V))(k:κ):Option V:=(kvs.find? λkv=>decide (kv.1=k)).map (·.2)
def putK (kvs:List (κ×V))(k:κ)(v:V):List (κ×V):=
 if (kvs.any λkv=>decide (kv.1=k))=true then kvs.map (λkv=>if kv.1=k then (kv.1,v) else kv) else kvs++[(k,v)]
def Oe (kvs:List (κ×V))(k:κ):List (κ×V):=kvs.filter λkv=>decide (kv.1≠k)
theorem mC {p:κ×V}{r:List (κ×V)}{k:κ}(e:p.1=k):ix (p::r) k=some p.2:=by simp[ix,Xs,e]
theorem mi {p:κ×V}{r:List (κ×V)}{k:κ}(e:¬ p.1=k):ix (p::r) k=ix r k:=by simp[ix,Xs,e]
theorem tJ (k:κ):∀ kvs:List (κ×V),(kvs.any λkv=>decide (kv.1=k))=(ix kvs k).isSome
 | []=>rfl
 | p::r=>by
  rw[YX]
  by_cases e:p.1=k
  ·simp only[mC e,decide_eq_true e,zd3,Option.isSome_some]
  ·rw[mi e,decide_eq_false e,zdV];exact tJ k r
theorem kx (kvs:List (κ×V))(k:κ)(v:V):(putK kvs k v).length<=kvs.length+1:=by
 unfold putK
 split
 ·rw[Wf];omega
 ·rw[Wv,WU,zag];omega
theorem Ik {kvs:List (κ×V)}{k:κ}(v:V)(h:ix kvs k=none):putK kvs k v=kvs++[(k,v)]:=by
 unfold putK
 rw[tJ,h]
 exact if_neg (by decide)
theorem pK.Eo {o:Option V}{u:Option We}(r:pK o u):o.isSome=u.isSome:=by
 cases o with
 | none=>cases u with
  | none=>rfl
  | some _=>exact (show False from r).elim
 | some _=>cases u with
  | none=>exact (show False from r).elim
  | some _=>rfl
theorem pK.getD {o:Option V}{u:Option We}{d:V}{d':We}(r:pK o u)(rd:RelV d d'):RelV (o.getD d) (u.getD d'):=by
 cases o with
 | none=>cases u with
  | none=>exact rd
  | some _=>exact (show False from r).elim
 | some _=>cases u with
  | none=>exact (show False from r).elim
  | some _=>exact r
theorem KV.val {kvs:List (κ×V)}{vs:List (κ×We)}(r:KV kvs vs)(k:κ):pK (ix kvs k) (zb8 vs k):=by
 unfold KV at r
 induction r with
 | nil=>exact zaz
 | @cons p q ps qs h t ih=>
  obtain ⟨h1,h2⟩:=h
  by_cases e:p.1=k
  ·have e':q.1=k:=h1.symm.trans e
   have b:zb8 (q::qs) k=some q.2:=by simp[zb8,Xs,e']
   rw[mC e,b];exact h2
  ·have e':¬ q.1=k:=λz=>e (h1.trans z)
   have b:zb8 (q::qs) k=zb8 qs k:=by simp[zb8,Xs,e']
   rw[mi e,b];exact ih
theorem KV.any {kvs:List (κ×V)}{vs:List (κ×We)}(r:KV kvs vs)(k:κ):(kvs.any λkv=>decide (kv.1=k))=vs.any λkv=>decide (kv.1=k):=by
 unfold KV at r
 induction r with
 | nil=>rfl
 | cons h t ih=>rw[YX,YX,ih,h.1]
theorem KV.OW {kvs:List (κ×V)}{vs:List (κ×We)}(r:KV kvs vs)(k:κ){y:V}{u:We}(ry:RelV y u) :
  KV (kvs.map λkv=>if kv.1=k then (kv.1,y) else kv) (vs.map λkv=>if kv.1=k then (kv.1,u) else kv):=by
 unfold KV at r ⊢
 induction r with
 | nil=>exact .nil
 | @cons p q ps qs h t ih=>
  rw[Wr,Wr]
  refine .cons ?_ ih
  obtain ⟨h1,h2⟩:=h
  by_cases e:p.1=k
  ·rw[if_pos e,if_pos (h1.symm.trans e)];exact ⟨h1,ry⟩
  ·rw[if_neg e,if_neg (λz=>e (h1.trans z))];exact ⟨h1,h2⟩
theorem KV.put {kvs:List (κ×V)}{vs:List (κ×We)}(r:KV kvs vs)(k:κ){y:V}{u:We}(ry:RelV y u):KV (putK kvs k y) (stored vs k u):=by
 unfold putK stored
 rw[r.any k]
 by_cases e:(vs.any λkv=>decide (kv.1=k))=true
 ·rw[if_pos e,if_pos e];exact r.OW k ry
 ·rw[if_neg e,if_neg e];exact zee r ⟨rfl,ry⟩
theorem KV.drop {kvs:List (κ×V)}{vs:List (κ×We)}(r:KV kvs vs)(k:κ):KV (Oe kvs k) (without vs k):=by
 unfold KV at r ⊢
 unfold Oe without
 induction r with
 | nil=>exact .nil
 | @cons p q ps qs h t ih=>
  obtain ⟨h1,h2⟩:=h
  rw[Xe,Xe]
  by_cases e:p.1=k
  ·have a:¬ decide (p.1≠k)=true:=by simp[e]
   have b:¬ decide (q.1≠k)=true:=by simp[h1.symm.trans e]
   rw[if_neg a,if_neg b];exact ih
  ·have e':¬ q.1=k:=λz=>e (h1.trans z)
   have a:decide (p.1≠k)=true:=by simp[e]
   have b:decide (q.1≠k)=true:=by simp[e']
   rw[if_pos a,if_pos b];exact .cons ⟨h1,h2⟩ ih
theorem KV.keys {kvs:List (κ×V)}{vs:List (κ×We)}(r:KV kvs vs):kvs.map (·.1)=vs.map (·.1):=by
 unfold KV at r
 induction r with
 | nil=>rfl
 | cons h t ih=>rw[Wr,Wr,ih,h.1]
theorem KV.length {kvs:List (κ×V)}{vs:List (κ×We)}(r:KV kvs vs):kvs.length=vs.length:=zcg r
end
theorem Ag {P:WX}{w:Xb}{k:Key}{u:We}(r:RelV (kV k) u):(cu P w).is k u=true:=by
 cases k with
 | inl i=>obtain ⟨t,e⟩:=(show ∃ t,u=zas i t from r);subst e;exact xW P w i t
 | inr x=>obtain ⟨t,e⟩:=(show ∃ t,u=zb5 x t from r);subst e;exact zP P w x t
theorem uG {P:WX}{w:Xb}:∀ {ks:List Key} {us:List We},Vals (ks.map kV) us->ItemsAre (cu P w) ks us
 | [],_,r=>by rw[Yb] at r;cases r;exact .nil
 | k::ks,_,r=>by
  rw[Wr] at r
  cases r with
  | cons h t=>exact .cons (Ag h) (uG t)
abbrev KT (H:Hp):List (List Key×V)->List (List Key×Addr×We)->Prop:=zaM λp q=>p.1=q.1/\H q.2.1=some (.tup (p.1.map kV))/\RelV p.2 q.2.2
theorem KT.val {H:Hp}{kvs:List (List Key×V)}{xs:List (List Key×Addr×We)}(r:KT H kvs xs)(k:List Key):pK (ix kvs k) ((zdk xs k).map (·.2)):=by
 induction r with
 | nil=>exact zaz
 | @cons p q ps qs h t ih=>
  obtain ⟨h1,_,h2⟩:=h
  by_cases e:p.1=k
  ·have e':q.1=k:=h1.symm.trans e
   have b:zdk (q::qs) k=some q.2:=by simp[zdk,Xs,e']
   rw[mC e,b];exact h2
  ·have e':¬ q.1=k:=λz=>e (h1.trans z)
   have b:zdk (q::qs) k=zdk qs k:=by simp[zdk,Xs,e']
   rw[mi e,b];exact ih
theorem KT.OW {H:Hp}{kvs:List (List Key×V)}{xs:List (List Key×Addr×We)}(r:KT H kvs xs)(k:List Key){y:V}{u:We}(ry:RelV y u) :
  KT H (kvs.map λkv=>if kv.1=k then (kv.1,y) else kv) (xs.map (putAt k u)):=by
 induction r with
 | nil=>exact .nil
 | @cons p q ps qs h t ih=>
  rw[Wr,Wr]
  refine .cons ?_ ih
  obtain ⟨h1,h2,h3⟩:=h
  unfold putAt
  by_cases e:p.1=k
  ·rw[if_pos e,if_pos (h1.symm.trans e)];exact ⟨h1,h2,ry⟩
  ·rw[if_neg e,if_neg (λz=>e (h1.trans z))];exact ⟨h1,h2,h3⟩
theorem KT.put {H:Hp}{kvs:List (List Key×V)}{xs:List (List Key×Addr×We)}(r:KT H kvs xs)(k:List Key){b:Addr}{y:V}{u:We}(hb:H b=some (.tup (k.map kV)))(ry:RelV y u) :
  KT H (putK kvs k y) (storedH xs k b u):=by
 have e:(kvs.any λkv=>decide (kv.1=k))=(zdk xs k).isSome:=by
  rw[tJ,(r.val k).Eo,Option.isSome_map]
 unfold putK storedH
 rw[e]
 by_cases q:(zdk xs k).isSome=true
 ·rw[if_pos q,if_pos q];exact r.OW k ry
 ·rw[if_neg q,if_neg q];exact zee r ⟨rfl,hb,ry⟩
theorem KT.keeps {H H':Hp}{kvs:List (List Key×V)}{xs:List (List Key×Addr×We)}(r:KT H kvs xs)(ht:∀ b ys,H b=some (.tup ys)->H' b=some (.tup ys)):KT H' kvs xs:=
 zaM.RX r λ_ _ z=>⟨z.1,ht _ _ z.2.1,z.2.2⟩
section
variable {P:WX} {w:Xb} {H:Hp} {h:Heap} {a:Addr}
theorem Oz {u:HO}(ok:HOk P w H h)(e:Rd H a u):dG P w H h a u:=e.ok ok
theorem JF {kvs:List (Key×V)}(ok:HOk P w H h)(e:Rd H a (.dK kvs)):kvs.length<=sizeLine/\(a == Y4)=false/\∃ vs,KV kvs vs/\h.DictOf (cu P w) a vs:=
 show dG P w H h a (.dK kvs) from Oz ok e
theorem ON {kvs:List (Key×V)}(ok:HOk P w H h)(e:H a=some (.dK kvs)):kvs.length<=sizeLine/\(a == Y4)=false/\∃ vs,KV kvs vs/\h.DictOf (cu P w) a vs:=JF ok (.inl e)
theorem AV {ks:List Key}(ok:HOk P w H h)(e:H a=some (.tup (ks.map kV))):(zb6 (cu P w)).is h ks a:=by
 obtain ⟨_,its,r,n,h1⟩:=(show dG P w H h a (.tup (ks.map kV)) from ok a _ e)
 exact ⟨_,its.toArray,n,h1,rfl,rfl,by simpa using uG r⟩
theorem Jr {kvs:List (List Key×V)}(ok:HOk P w H h)(e:Rd H a (.dT kvs)):kvs.length<=sizeLine/\(a == Y4)=false/\
  ∃ xs,KT H kvs xs/\h.DictOfH (zb6 (cu P w)) a xs:=by
 obtain ⟨z,y,xs,r,o,es,ep,h1,h2,h3,h4,h5⟩:=(show dG P w H h a (.dT kvs) from Oz ok e)
 refine ⟨z,y,xs,r,o,es,ep,h1,h2,h3,h4,λx hx=>?_,h5⟩
 have all:∀ {l:List (List Key×V)} {m:List (List Key×Addr×We)},KT H l m->∀ x∈m,(zb6 (cu P w)).is h x.1 x.2.1:=by
  intro l m q
  induction q with
  | nil=>intro x hx;exact nomatch hx
  | @cons p q ps qs hq t ih=>
   intro x hx
   rcases Wx.mp hx with e | hx
   ·subst e
    exact AV ok (by rw[← hq.1];exact hq.2.1)
   ·exact ih x hx
 exact all r x hx
theorem TL {kvs:List (List Key×V)}(ok:HOk P w H h)(e:H a=some (.dT kvs)):kvs.length<=sizeLine/\(a == Y4)=false/\
  ∃ xs,KT H kvs xs/\h.DictOfH (zb6 (cu P w)) a xs:=Jr ok (.inl e)
end
def tX (H:Hp)(a:Addr)(y:V)(r:Option V):Prop:=
 (∃ kvs k,Rd H a (.dK kvs)/\y=kV k/\r=ix kvs k)∨∃ kvs k b,Rd H a (.dT kvs)/\y=.ref b/\H b=some (.tup (k.map kV))/\r=ix kvs k
def vH (H:Hp)(a:Addr)(y v:V)(H':Hp):Prop:=
 (∃ kvs k,H a=some (.dK kvs)/\y=kV k/\kvs.length < sizeLine/\H'=upd H a (.dK (putK kvs k v)))∨
 ∃ kvs k b,H a=some (.dT kvs)/\y=.ref b/\H b=some (.tup (k.map kV))/\kvs.length < sizeLine/\H'=upd H a (.dT (putK kvs k v))
theorem tX.k {H:Hp}{a:Addr}{kvs:List (Key×V)}{k:Key}(e:H a=some (.dK kvs)):tX H a (kV k) (ix kvs k):=.inl ⟨kvs,k,.inl e,rfl,rfl⟩
theorem tX.t {H:Hp}{a b:Addr}{kvs:List (List Key×V)}{k:List Key}(e:H a=some (.dT kvs))(eb:H b=some (.tup (k.map kV))):tX H a (.ref b) (ix kvs k):=.inr ⟨kvs,k,b,.inl e,rfl,eb,rfl⟩
theorem vH.k {H:Hp}{a:Addr}{kvs:List (Key×V)}{k:Key}{v:V}(e:H a=some (.dK kvs))(hl:kvs.length < sizeLine):vH H a (kV k) v (upd H a (.dK (putK kvs k v))):=.inl ⟨kvs,k,e,rfl,hl,rfl⟩
theorem vH.t {H:Hp}{a b:Addr}{kvs:List (List Key×V)}{k:List Key}{v:V}(e:H a=some (.dT kvs))(eb:H b=some (.tup (k.map kV)))(hl:kvs.length < sizeLine) :
  vH H a (.ref b) v (upd H a (.dT (putK kvs k v))):=.inr ⟨kvs,k,b,e,rfl,eb,hl,rfl⟩
section
variable {X:Cx} {pins:List (Addr×Obj)} {σ:St} {H:Hp} {s:Wh} {a:Addr} {y v:V} {u r:We} {o:Option V} {A:Xn} {E:We->Wh->Prop}
theorem Inv.big (I:Inv X pins σ H s):Y4 < s.heap.objs.size:=by
 have h:XT < s.heap.objs.size:=(I.mod.glob.keeps I.bk).lt
 exact zcR (by decide) h
theorem vj {Q:We->Wh->Prop}(hu:A.units+1 < cLine)(I:Inv X pins σ H s)(g:tX H a y (some v))(ry:RelV y u)(h:∀ w' s',Inv X pins σ H s'->RelV v w'->Q w' s') :
  WJ (WM X.prog X.w) A (zap (.ref a) u) Q E s:=by
 rcases g with ⟨kvs,k,e,ey,l⟩ | ⟨kvs,k,b,e,ey,eb,l⟩
 ·subst ey
  obtain ⟨z,hd,vs,rel,dd⟩:=JF I.hok e
  obtain ⟨w',hw,rw'⟩:=pK.some_of (v:=v) (o:=zb8 vs k) (by rw[l];exact rel.val k)
  exact wpAny_getItem_of (Ag ry) dd.mapOf hw (h w' _ (I.tok _) rw')
 ·subst ey
  cases (show u=W5 b from ry)
  obtain ⟨z,hd,xs,rel,dd⟩:=Jr I.hok e
  obtain ⟨w',hw,rw'⟩:=pK.some_of (v:=v) (o:=(zdk xs k).map (·.2)) (by rw[l];exact rel.val k)
  obtain ⟨p,hp,hp2⟩:=zbq.mp hw
  refine wpAny_getItem_heap (zcB hu) (AV I.hok eb) dd hp ?_
  rw[hp2]
  exact h w' _ (I.tok _) rw'
theorem xh {h':Heap}{t':Nat}{ob:HO}(I:Inv X pins σ H s)(mu:Mut (H a))(hs:Zb a s.heap h')(he:∃ q,h'.get? a=some q)(new:dG X.prog X.w (upd H a ob) h' a ob) :
  Inv X pins σ (upd H a ob) { s with heap:=h',toks:=t' }:=
 I.write (x:=a) (e:=a) mu (.inl rfl) (λb q hb z=>(hs.2 b hb).trans z) he new
theorem Bu {P:WX}{w:Xb}{H':Hp}{h':Heap}{kvs:List (Key×V)}{vs:List (Key×We)}(z:kvs.length<=sizeLine)(hd:(a == Y4)=false)(rel:KV kvs vs)(dd:h'.DictOf (cu P w) a vs) :
  dG P w H' h' a (.dK kvs):=⟨z,hd,vs,rel,dd⟩
theorem vg {H':Hp}{Q:Unit->Wh->Prop}(hu:A.units+1 < cLine)(I:Inv X pins σ H s)(g:vH H a y v H')(ry:RelV y u)(rv:RelV v r)(h:∀ s',Inv X pins σ H' s'->Q () s') :
  WJ (WM X.prog X.w) A (setItem (.ref a) u r) Q E s:=by
 rcases g with ⟨kvs,k,e,ey,l,eH⟩ | ⟨kvs,k,b,e,ey,eb,l,eH⟩
 ·subst ey eH
  obtain ⟨z,hd,vs,rel,dd⟩:=ON I.hok e
  have hz:vs.length<=sizeLine:=by rw[← rel.length];exact z
  have hl:(putK kvs k v).length<=sizeLine:=by have:=kx kvs k v;omega
  refine wpAny_setItem_pairs (hsz:=hz) (Ag ry) dd λh' dd' hs=>h _ ?_
  have he:∃ q,h'.get? a=some q:=let ⟨q,_,_,hq,_⟩:=dd';⟨q,hq⟩
  exact xh I (by rw[e];exact zaz) hs he (Bu hl hd (rel.put k rv) dd')
 ·subst ey eH
  cases (show u=W5 b from ry)
  obtain ⟨z,hd,xs,rel,dd⟩:=TL I.hok e
  have hz:xs.length<=sizeLine:=by rw[← zcg rel];exact z
  have hl:(putK kvs k v).length<=sizeLine:=by have:=kx kvs k v;omega
  refine wpAny_setItem_heap (hsz:=hz) (zcB hu) (AV I.hok eb) dd λh' dd' hs=>h _ ?_
  obtain ⟨q,es,ep,hq,h2,h3,h4,_,h5⟩:=dd'
  refine xh I (by rw[e];exact zaz) hs ⟨q,hq⟩ ⟨hl,hd,_,(rel.put k eb rv).keeps λc ys ec=>?_,q,es,ep,hq,h2,h3,h4,h5⟩
  rw[aP (Ur ec e (λz=>nomatch z))]
  exact ec
end
section
variable {X:Cx} {pins:List (Addr×Obj)} {σ:St} {H:Hp} {s:Wh} {a:Addr} {kvs:List (Key×V)} {k:Key} {u:We} {A:Xn} {E:We->Wh->Prop}
end
def PX (i:WR):Prop:=∀ ov iv,zbP i false ov iv=operate [ov,iv] (zap ov iv)
theorem Nm {prog:WX}{w:Xb}{A:Xn}{E:We->Wh->Prop}{s:Wh}{env:Env}{value slice:WR}{pos:Pos}{T id:String}{Q:We->Wh->Prop}
  (hl:zdF (.type T) "__getitem__" = pure (some (.builtin id))) (hs:PX slice)
  (h:WJ (WM prog w) A (Xw value env) (λo s₁=>WJ (WM prog w) A (Xw slice env) (λi s₂=>s₂.TypeIs o T/\WJ (WM prog w) A (zap o i) Q E s₂) E s₁) E s) :
  WJ (WM prog w) A (Xw (.Subscript value slice pos) env) Q E s:=by
 refine zdG (Xu h (λo s₁ h₁=>Xu h₁ (λi s₂ h₂=>?_) λ_ _ x=>x) λ_ _ x=>x)
 obtain ⟨hT,h₂⟩:=h₂
 unfold zcj
 refine Wb ?_
 rw[getitemInPython_of_ne hT.not_modules]
 refine Wb (wpAny_specialOf hT hl ?_)
 have fin:WJ (WM prog w) A (zbP slice false o i) (λr s₃=>WJ (WM prog w) A (letTemporaryGo value o r >>= λ_=>pure r) Q E s₃) E s₂:=by
  rw[hs o i]
  exact wpAny_operating (Xu h₂ (λr s₃ h₃=>Wb (wpAny_letTemporaryGo (Wn h₃))) λ_ _ x=>x)
 first
  | exact Wn (Wb fin)
  | exact Wb (Wn (Wb fin))
  | exact Wb fin
theorem yT {X:Cx}{pins:List (Addr×Obj)}{σ:St}{H:Hp}{s:Wh}{a:Addr}{y:V}{o:Option V}(I:Inv X pins σ H s)(g:tX H a y o):s.TypeIs (.ref a) "dict" := by
 rcases g with ⟨kvs,k,e,_,_⟩ | ⟨kvs,k,b,e,_,_,_⟩
 ·obtain ⟨_,_,vs,_,dd⟩:=JF I.hok e
  exact dd.typeIs
 ·obtain ⟨_,_,xs,_,dd⟩:=Jr I.hok e
  exact dd.typeIs
def SD (td ty:TE):TE:=λσ H Q=>td σ H λx H1=>ty σ H1 λy H2=>∃ a v,x=.ref a/\tX H2 a y (some v)/\Q v H2
def SA (td ty tv:TE):TS:=λD σ H=>tv σ H λv H1=>td σ H1 λx H2=>ty σ H2 λy H3=>∃ a H4,x=.ref a/\vH H3 a y v H4/\D.nx σ H4
def OM (td ty tv:TE)(rd:V->V->Hp->VK->Prop):TS:=λD σ H=>td σ H λx H1=>ty σ H1 λy H2=>∃ a v,x=.ref a/\tX H2 a y (some v)/\
 tv σ H2 λy2 H3=>rd v y2 H3 λz H4=>∃ H5,vH H4 a y z H5/\D.nx σ H5
section
variable {X:Cx} {o i e value:WR} {pos pos' tpos:Pos} {td ty tv:TE}
theorem Kv (hu:X.A.units+1 < cLine)(ho:PE X o td)(hi:PE X i ty)(hs:PX i):PE X (.Subscript o i pos) (SD td ty):=by
 intro pins s σ H Q I h
 refine Nm PySem.F.slot_dict_getitem.lookup hs (thn (ho pins s σ H _ I h) λu s1 ⟨x,H1,I1,rx,q1⟩=>thn (hi pins s1 σ H1 _ I1 q1) λiv s2 ⟨y,H2,I2,ry,a,v,ex,g,q2⟩=>?_)
 subst ex
 obtain rfl:u=W5 a:=rx
 exact ⟨yT I2 g,vj hu I2 g ry λw' s3 I3 rw'=>⟨v,H2,I3,rw',q2⟩⟩
theorem Lp (hu:X.A.units+1 < cLine)(ho:PE X o td)(hi:PE X i ty)(hv:PE X value tv)(hs:YJ value (some (.Subscript o i pos')) pos.line X.env=pure false) :
  PS X (.Assign [.Subscript o i pos'] value pos) (SA td ty tv):=by
 intro pins s σ H D I h
 refine wpAny_Assign_Subscript (thn (hv pins s σ H _ I h) λr s1 ⟨v,H1,I1,rv,q1⟩=>thn (ho pins s1 σ H1 _ I1 q1) λu s2 ⟨x,H2,I2,rx,q2⟩=>thn (hi pins s2 σ H2 _ I2 q2) λiv s3 ⟨y,H3,I3,ry,a,H4,ex,g,q3⟩=>?_) hs
 subst ex
 obtain rfl:u=W5 a:=rx
 exact vg hu I3 g ry rv λs4 I4=>⟨σ,H4,I4,q3⟩
theorem Ma {op:zbM}{rd:V->V->Hp->VK->Prop}(hu:X.A.units+1 < cLine)(ho:PE X o td)(hi:PE X i ty)(hv:PE X value tv)(hop:UG X op rd)
  (ha:∀ ov iv new,augStore i ov iv new=(do zbg [new,ov,iv] (setItem ov iv new);release [new,ov,iv] [];pure .next)):PS X (.AugAssign (.Subscript o i tpos) op value pos) (OM td ty tv rd):=by
 intro pins s σ H D I h
 refine wpAny_AugAssign_SubscriptAny (thn (ho pins s σ H _ I h) λu s1 ⟨x,H1,I1,rx,q1⟩=>thn (hi pins s1 σ H1 _ I1 q1) λiv s2 ⟨y,H2,I2,ry,a,v,ex,g,q2⟩=>?_) ha
 subst ex
 obtain rfl:u=W5 a:=rx
 refine vj hu I2 g ry λw' s3 I3 rw'=>thn (hv pins s3 σ H2 _ I3 q2) λw2 s4 ⟨y2,H3,I4,ry2,q3⟩=>thn (hop pins s4 σ H3 v y2 w' w2 _ I4 rw' ry2 q3) λw3 s5 ⟨z,H4,I5,rz,H5,g5,q4⟩=>?_
 exact vg hu I5 g5 ry rz λs6 I6=>⟨σ,H5,I6,q4⟩
end
theorem IH {P:WX}{w:Xb}{H:Hp}(h:Heap)(hb:Y4 < h.objs.size):dG P w H (h.push { cls:=.type "dict", data:=.dict #[] }) h.objs.size (.dK []):=
 ⟨Xx _,beq_eq_false_iff_ne.mpr (WY (WO hb)),[],.nil,zdu h⟩
section
variable {X:Cx} {pos:Pos}
end
def wJ:List (TE×TE)->St->Hp->(List (V×V)->Hp->Prop)->Prop
 | [],_,H,Q=>Q [] H
 | (tk,tv)::r,σ,H,Q=>tk σ H λx H1=>tv σ H1 λy H2=>wJ r σ H2 λps H3=>Q ((x,y)::ps) H3
abbrev VV:List (V×V)->List (We×We)->Prop:=zaM λp q=>RelV p.1 q.1/\RelV p.2 q.2
def PPs (X:Cx)(pos:Pos)(keys:List (Option WR))(values:List WR)(trs:List (TE×TE)):Prop:=
 ∀ (pins:List (Addr×Obj)) (s:Wh) (σ:St) (H:Hp) (Q:List (V×V)->Hp->Prop),Inv X pins σ H s->wJ trs σ H Q->
  WJ (WM X.prog X.w) X.A (evalPairs (pairTrees keys values X.env pos)) (λvs s'=>∃ ps H',Inv X pins σ H' s'/\VV ps vs/\Q ps H') X.xe s
theorem NC {X:Cx}{pos:Pos}:PPs X pos [] [] []:=λpins s σ H Q I h=>pairTrees_nil_walk ⟨[],H,I,.nil,h⟩
theorem Hw {X:Cx}{pos:Pos}{k v:WR}{ks:List (Option WR)}{vs:List WR}{tk tv:TE}{trs:List (TE×TE)}(hk:PE X k tk)(hv:PE X v tv)(hr:PPs X pos ks vs trs) :
  PPs X pos (some k::ks) (v::vs) ((tk,tv)::trs):=λpins s σ H Q I h=>
 pairTrees_cons_walk (thn (hk pins s σ H _ I h) λu s1 ⟨x,H1,I1,rx,q1⟩=>thn (hv pins s1 σ H1 _ I1 q1) λw2 s2 ⟨y,H2,I2,ry,q2⟩=>
  thn (hr pins s2 σ H2 _ I2 q2) λws s3 ⟨ps,H3,I3,rel,q3⟩=>⟨(x,y)::ps,H3,I3,.cons ⟨rx,ry⟩ rel,q3⟩)
def eF (kvs more:List (Key×V)):List (Key×V):=more.foldl (λacc kv=>putK acc kv.1 kv.2) kvs
theorem KV.merge:∀ {more:List (Key×V)} {rs:List (Key×We)} {kvs:List (Key×V)} {vs:List (Key×We)},KV more rs->KV kvs vs->KV (eF kvs more) (merged vs rs):=by
 intro more rs kvs vs r
 unfold KV at r
 induction r generalizing kvs vs with
 | nil=>intro q;exact q
 | @cons p q ps qs h t ih=>
  intro r0
  have e:KV (putK kvs p.1 p.2) (stored vs q.1 q.2):=by
   have:=r0.put p.1 h.2
   rw[← h.1];exact this
  exact ih e
theorem iw:∀ (more kvs:List (Key×V)),(eF kvs more).length<=kvs.length+more.length
 | [],kvs=>by show kvs.length<=kvs.length+0;omega
 | p::r,kvs=>by
  have h1:=iw r (putK kvs p.1 p.2)
  have h2:=kx kvs p.1 p.2
  show (eF (putK kvs p.1 p.2) r).length<=_
  rw[WU];omega
theorem tE {P:WX}{w:Xb}:∀ {kvs:List (Key×V)} {ws:List (We×We)},VV (kvs.map λkv=>(kV kv.1,kv.2)) ws->∃ rs,Carries (cu P w) ws rs/\KV kvs rs
 | [],_,r=>by rw[Yb] at r;cases r;exact ⟨[],zaz,.nil⟩
 | p::kvs,_,r=>by
  rw[Wr] at r
  cases r with
  | @cons a b as bs h t=>
   obtain ⟨rs,c,q⟩:=tE (P:=P) (w:=w) t
   obtain ⟨b1,b2⟩:=b
   exact ⟨(p.1,b2)::rs,⟨Ag h.1,rfl,c⟩,.cons ⟨rfl,h.2⟩ q⟩
def TV (trs:List (TE×TE)):TE:=λσ H Q=>∀ p,H p=none->wJ trs σ (upd H p (.dK [])) λps H2=>H2 p=some (.dK [])/\∃ kvs:List (Key×V),ps=kvs.map (λkv=>(kV kv.1,kv.2))/\kvs.length<=15/\Q (.ref p) (upd H2 p (.dK (eF [] kvs)))
theorem Mq {X:Cx}{pos:Pos}{keys:List (Option WR)}{values:List WR}{trs:List (TE×TE)}(h:PPs X pos keys values trs)(hall:keys.all (·.isSome)=true)(hl:keys.length=values.length)(h0:keys≠[])
  (h15:keys.length<=15):PE X (.Dict keys values pos) (TV trs):=by
 intro pins s σ H Q I q
 have hn:=I.hok.fresh (WA s.heap.objs.size)
 have I1:=I.laid (a:=s.heap.objs.size) (o:=.dK []) (h':=s.heap.push { cls:=.type "dict", data:=.dict #[] }) (t':=s.toks) (λ_ _ q=>Wc _ q) (WA _) (IH s.heap I.big)
 refine wpAny_Dict_walk (knd:=cu X.prog X.w) hall hl h0 h15 (thn (h pins _ σ _ _ I1 (q _ hn)) λws s2 ⟨ps,H2,I2,rel,e,kvs,ep,lk,q2⟩=>?_)
 subst ep
 obtain ⟨rs,c,rk⟩:=tE (P:=X.prog) (w:=X.w) rel
 obtain ⟨z,hd,vs0,r0,dd⟩:=ON I2.hok e
 cases r0
 refine ⟨rs,c,dd,λh' dd' hs=>⟨.ref s.heap.objs.size,_,?_,rfl,q2⟩⟩
 have hz:(eF [] kvs).length<=sizeLine:=by
  have h1:=iw kvs []
  rw[zag] at h1
  rw[zbN];omega
 have he:∃ q,h'.get? s.heap.objs.size=some q:=let ⟨q,_,_,hq,_⟩:=dd';⟨q,hq⟩
 exact xh I2 (by rw[e];exact zaz) hs he (Bu hz hd (rk.merge .nil) dd')
section
variable {X:Cx} {pins:List (Addr×Obj)} {σ:St} {H:Hp} {s:Wh} {a:Addr} {y d:V} {u r:We} {o:Option V} {A:Xn} {E:We->Wh->Prop}
end
section
variable {X:Cx} {o e f:WR} {apos cpos:Pos} {td ty tx:TE}
end
section
variable {X:Cx} {pins:List (Addr×Obj)} {σ:St} {H:Hp} {s:Wh} {a:Addr} {kvs:List (Key×V)} {A:Xn} {E:We->Wh->Prop}
end
section
variable {X:Cx} {pins:List (Addr×Obj)} {σ:St} {H:Hp} {s:Wh} {a:Addr} {y:V} {u:We} {A:Xn} {E:We->Wh->Prop}
end
end L2
namespace L3
open PySem
local macro_rules | `(tactic| walk_at "ln")=>`(tactic| (intro ds μ Q h;split at h;rfl;exact h.elim))
theorem Jn {p q:Prop}(a:p)(b:q):p/\q:=⟨a,b⟩
inductive D where
 | non | bl (b:Bool) | int (i:Int) | str (x:Str) | ty (n:String) | tup (ds:List D) | ls (ds:List D) | obj (a:Addr)
inductive MO where
 | lst (ds:List D)
 | dct (kvs:List (L2.Key×D))
 | dcT (kvs:List (List L2.Key×D))
abbrev Mu:=Addr->Option MO
def up (μ:Mu)(a:Addr)(o:MO):Mu:=λb=>if b=a then some o else μ b
theorem aK {μ:Mu}{a:Addr}{o:MO}:up μ a o a=some o:=by unfold up;rw[if_pos rfl]
theorem aY {μ:Mu}{a b:Addr}{o:MO}(h:b≠a):up μ a o b=μ b:=by unfold up;rw[if_neg h]
theorem iC {μ:Mu}{a:Addr}{o u:MO}:up (up μ a o) a u=up μ a u:=by
 funext b;unfold up;split<;>rfl
abbrev ST:=List (Option D)
abbrev DK:=D->Mu->Prop
abbrev ETr:=ST->Mu->DK->Prop
abbrev TTr:=ST->Mu->(Bool->Mu->Prop)->Prop
abbrev ATr:=ST->Mu->(List D->Mu->Prop)->Prop
abbrev DR:=D->Mu->DK->Prop
abbrev DR2:=D->D->Mu->DK->Prop
abbrev FSp:=List D->Mu->DK->Prop
def kcI (ds:List D)(f:Int->List D->Prop):Prop:=match ds with
 | .int i::r=>f i r
 | _=>False
theorem ecI {ds:List D}{f:Int->List D->Prop}(h:kcI ds f):∃ i r,ds=.int i::r/\f i r:=by
 cases ds with
 | nil=>exact Wm h
 | cons d r=>cases d<;>first | exact ⟨_,_,rfl,h⟩ | exact Wm h
theorem lcI {ds:List D}{f:Int->List D->Prop}{n:Nat}(h:kcI ds f)(k:∀ i r,f i r->r.length=n):ds.length=n+1:=by
 obtain ⟨i,r,e,h⟩:=ecI h
 rw[e,WU,k i r h]
def kcS (ds:List D)(f:Str->List D->Prop):Prop:=match ds with
 | .str i::r=>f i r
 | _=>False
theorem ecS {ds:List D}{f:Str->List D->Prop}(h:kcS ds f):∃ i r,ds=.str i::r/\f i r:=by
 cases ds with
 | nil=>exact Wm h
 | cons d r=>cases d<;>first | exact ⟨_,_,rfl,h⟩ | exact Wm h
theorem lcS {ds:List D}{f:Str->List D->Prop}{n:Nat}(h:kcS ds f)(k:∀ i r,f i r->r.length=n):ds.length=n+1:=by
 obtain ⟨i,r,e,h⟩:=ecS h
 rw[e,WU,k i r h]
def kcT (ds:List D)(f:List D->List D->Prop):Prop:=match ds with
 | .tup i::r=>f i r
 | _=>False
theorem ecT {ds:List D}{f:List D->List D->Prop}(h:kcT ds f):∃ i r,ds=.tup i::r/\f i r:=by
 cases ds with
 | nil=>exact Wm h
 | cons d r=>cases d<;>first | exact ⟨_,_,rfl,h⟩ | exact Wm h
theorem lcT {ds:List D}{f:List D->List D->Prop}{n:Nat}(h:kcT ds f)(k:∀ i r,f i r->r.length=n):ds.length=n+1:=by
 obtain ⟨i,r,e,h⟩:=ecT h
 rw[e,WU,k i r h]
def kcL (ds:List D)(f:List D->List D->Prop):Prop:=match ds with
 | .ls i::r=>f i r
 | _=>False
theorem ecL {ds:List D}{f:List D->List D->Prop}(h:kcL ds f):∃ i r,ds=.ls i::r/\f i r:=by
 cases ds with
 | nil=>exact Wm h
 | cons d r=>cases d<;>first | exact ⟨_,_,rfl,h⟩ | exact Wm h
theorem lcL {ds:List D}{f:List D->List D->Prop}{n:Nat}(h:kcL ds f)(k:∀ i r,f i r->r.length=n):ds.length=n+1:=by
 obtain ⟨i,r,e,h⟩:=ecL h
 rw[e,WU,k i r h]
def kcO (ds:List D)(f:Addr->List D->Prop):Prop:=match ds with
 | .obj i::r=>f i r
 | _=>False
theorem ecO {ds:List D}{f:Addr->List D->Prop}(h:kcO ds f):∃ i r,ds=.obj i::r/\f i r:=by
 cases ds with
 | nil=>exact Wm h
 | cons d r=>cases d<;>first | exact ⟨_,_,rfl,h⟩ | exact Wm h
theorem lcO {ds:List D}{f:Addr->List D->Prop}{n:Nat}(h:kcO ds f)(k:∀ i r,f i r->r.length=n):ds.length=n+1:=by
 obtain ⟨i,r,e,h⟩:=ecO h
 rw[e,WU,k i r h]
def kcA (ds:List D)(f:D->List D->Prop):Prop:=match ds with
 | i::r=>f i r
 | _=>False
theorem ecA {ds:List D}{f:D->List D->Prop}(h:kcA ds f):∃ i r,ds=i::r/\f i r:=by
 cases ds with
 | nil=>exact Wm h
 | cons d r=>exact ⟨_,_,rfl,h⟩
theorem lcA {ds:List D}{f:D->List D->Prop}{n:Nat}(h:kcA ds f)(k:∀ i r,f i r->r.length=n):ds.length=n+1:=by
 obtain ⟨i,r,e,h⟩:=ecA h
 rw[e,WU,k i r h]
def kcN (ds:List D)(P:Prop):Prop:=match ds with
 | []=>P
 | _=>False
theorem ecN {ds:List D}{P:Prop}(h:kcN ds P):ds=[]/\P:=by
 cases ds with
 | nil=>exact ⟨rfl,h⟩
 | cons d r=>exact Wm h
structure En where
 nx:ST->Mu->Prop
 rt:DK
 bk:ST->Mu->Prop:=λ_ _=>False
 ct:ST->Mu->Prop:=λ_ _=>False
abbrev STr:=En->ST->Mu->Prop
abbrev GTr:=D->ST->Mu->(ST->Mu->Prop)->Prop
def kIf (c:Bool)(A B:Prop):Prop:=match c with
 | true=>A
 | false=>B
def kB (x:D)(f:Bool->Prop):Prop:=match x with
 | .bl c=>f c
 | _=>False
def kI (x:D)(f:Int->Prop):Prop:=match x with
 | .int c=>f c
 | _=>False
def kO (x:Option D)(f:D->Prop):Prop:=match x with
 | some d=>f d
 | none=>False
def kS (x:D)(f:List D->Prop):Prop:=match x with
 | .tup ds=>f ds
 | .ls ds=>f ds
 | _=>False
def k2 (ds:List D)(f:D->D->Prop):Prop:=match ds with
 | [v,w]=>f v w
 | _=>False
def kL (μ:Mu)(a:Addr)(f:List D->Prop):Prop:=match μ a with
 | some (.lst ds)=>f ds
 | _=>False
def kD (μ:Mu)(a:Addr)(f:List (L2.Key×D)->Prop):Prop:=match μ a with
 | some (.dct ds)=>f ds
 | _=>False
def kN (x:Option Nat)(f:Nat->Prop):Prop:=match x with
 | some d=>f d
 | none=>False
def lk:ST->Nat->Option D
 | [],_=>none
 | o::_,0=>o
 | _::r,n+1=>lk r n
def ah (i:Nat):ETr:=λρ μ Q=>kO (lk ρ i) λd=>Q d μ
def TC (d:D):ETr:=λ_ μ Q=>Q d μ
def aj (r:DR2)(a b:ETr):ETr:=λρ μ Q=>a ρ μ λx μ1=>b ρ μ1 λy μ2=>r x y μ2 Q
def TUn (r:DR)(a:ETr):ETr:=λρ μ Q=>a ρ μ λx μ1=>r x μ1 Q
def S64 (i:Int):Prop:=-18446744073709551616 < i/\i < 18446744073709551616
def gw (i:Int):Prop:=-115792089237316195423570985008687907853269984665640564039457584007913129639936 < i/\i < 115792089237316195423570985008687907853269984665640564039457584007913129639936
def MulOk (i j:Int):Prop:=(S64 i∨S64 j)∨(gw i/\gw j)
def kC (j:Int):Prop:=j≠0/\gw j
def sj (i j:Int):Prop:=0<=j/\j<=1000000/\i.natAbs < 18446744073709551616
def T5:DR2:=λx y μ Q=>match x,y with
 | .int i,.int j=>Q (.int (i+j)) μ
 | .tup a,.tup b=>(a≠[]/\a.length+b.length<=1000000)/\Q (.tup (a++b)) μ
 | _,_=>False
def kg:DR2:=λx y μ Q=>match x,y with
 | .int i,.int j=>Q (.int (i - j)) μ
 | _,_=>False
def eP:DR2:=λx y μ Q=>match x,y with
 | .int i,.int j=>MulOk i j/\Q (.int (i*j)) μ
 | _,_=>False
def oa:DR2:=λx y μ Q=>match x,y with
 | .int i,.int j=>kC j/\Q (.int (i.fdiv j)) μ
 | _,_=>False
def mN:DR2:=λx y μ Q=>match x,y with
 | .int i,.int j=>j≠0/\Q (.int (i.fmod j)) μ
 | _,_=>False
def Gu:DR2:=λx y μ Q=>match x,y with
 | .int i,.int j=>sj i j/\Q (.int (i ^ j.toNat)) μ
 | _,_=>False
def Nw:DR:=λx μ Q=>match x with
 | .int i=>Q (.int (-i)) μ
 | _=>False
def GP (p:Int->Int->Bool):DR2:=λx y μ Q=>match x,y with
 | .int i,.int j=>Q (.bl (p i j)) μ
 | _,_=>False
def rLt:DR2:=GP λi j=>decide (i < j)
def rLe:DR2:=GP λi j=>decide (i<=j)
def rGt:DR2:=GP λi j=>decide (j < i)
def rGe:DR2:=GP λi j=>decide (j<=i)
mutual
def eqD:D->D->Bool
 | .non,.non=>true
 | .bl a,.bl b=>a == b
 | .int a,.int b=>decide (a=b)
 | .bl a,.int b=>decide ((if a then 1 else 0:Int)=b)
 | .int a,.bl b=>decide (a=(if b then 1 else 0:Int))
 | .str a,.str b=>decide (a=b)
 | .tup a,.tup b=>jK a b
 | .ls a,.ls b=>jK a b
 | _,_=>false
def jK:List D->List D->Bool
 | [],[]=>true
 | a::r,b::s=>eqD a b&&jK r s
 | _,_=>false
end
mutual
def okD:Nat->D->Bool
 | _,.non=>true
 | _,.bl _=>true
 | _,.int _=>true
 | _,.str x=>Wj x
 | n+1,.tup ds=>ck n ds
 | n+1,.ls ds=>ck n ds
 | _,_=>false
def ck:Nat->List D->Bool
 | _,[]=>true
 | n,d::ds=>okD n d&&ck n ds
end
def rEq:DR2:=λx y μ Q=>(okD 40 x=true/\okD 40 y=true)/\Q (.bl (eqD x y)) μ
def rNe:DR2:=λx y μ Q=>(okD 40 x=true/\okD 40 y=true)/\Q (.bl (!eqD x y)) μ
def rIs:DR2:=λx y μ Q=>match y with
 | .non=>(match x with
  | .non=>Q (.bl true) μ
  | _=>Q (.bl false) μ)
 | _=>False
def ik:DR2:=λx y μ Q=>match y with
 | .non=>(match x with
  | .non=>Q (.bl false) μ
  | _=>Q (.bl true) μ)
 | _=>False
def fJ (a b:ETr):ETr:=λρ μ Q=>a ρ μ λx μ1=>kB x λc=>kIf c (b ρ μ1 Q) (Q (.bl false) μ1)
def Bo (a b:ETr):ETr:=λρ μ Q=>a ρ μ λx μ1=>kB x λc=>kIf c (Q (.bl true) μ1) (b ρ μ1 Q)
def Kd (a:ETr):ETr:=λρ μ Q=>a ρ μ λx μ1=>kB x λc=>Q (.bl (!c)) μ1
def TB (t:ETr):TTr:=λρ μ Q=>t ρ μ λx μ1=>kB x λc=>Q c μ1
def mG (t u:TTr):TTr:=λρ μ Q=>t ρ μ λc μ1=>kIf c (u ρ μ1 Q) (Q false μ1)
def TOr (t u:TTr):TTr:=λρ μ Q=>t ρ μ λc μ1=>kIf c (Q true μ1) (u ρ μ1 Q)
def CQ (t:TTr):TTr:=λρ μ Q=>t ρ μ λc μ1=>Q (!c) μ1
def lZ (c:TTr)(a b:ETr):ETr:=λρ μ Q=>c ρ μ λk μ1=>kIf k (a ρ μ1 Q) (b ρ μ1 Q)
def BY (r r':DR2)(a b c:ETr):ETr:=λρ μ Q=>a ρ μ λx μ1=>b ρ μ1 λy μ2=>r x y μ2 λz μ3=>kB z λk=>kIf k (c ρ μ3 λy' μ4=>r' y y' μ4 Q) (Q (.bl false) μ3)
def aq:ATr:=λ_ μ Q=>Q [] μ
def af (a:ETr)(r:ATr):ATr:=λρ μ Q=>a ρ μ λx μ1=>r ρ μ1 λxs μ2=>Q (x::xs) μ2
def bf (t:ATr):ETr:=λρ μ Q=>t ρ μ λds μ1=>ds.length<=1000000/\Q (.tup ds) μ1
def fc (t:ATr):ETr:=λρ μ Q=>t ρ μ λds μ1=>ds.length<=1000000/\Q (.ls ds) μ1
def mT (t:ATr):ETr:=λρ μ Q=>t ρ μ λds μ1=>ds.length<=1000000/\∀ p,μ1 p=none->Q (.obj p) (up μ1 p (.lst ds))
def au (sp:FSp)(t:ATr):ETr:=λρ μ Q=>t ρ μ λds μ1=>sp ds μ1 Q
def atD (ds:List D)(i:Int):Option D:=L2.atI ds i
def rIx:DR2:=λx y μ Q=>match x,y with
 | .tup ds,.int i=>kO (atD ds i) λd=>Q d μ
 | .ls ds,.int i=>kO (atD ds i) λd=>Q d μ
 | .obj a,.int i=>kL μ a λds=>kO (atD ds i) λd=>Q d μ
 | _,_=>False
def xr:FSp:=λds μ Q=>match ds with
 | [.int i]=>Q (.int (if i < 0 then -i else i)) μ
 | _=>False
def vA:FSp:=λds μ Q=>match ds with
 | [.int i,.int j]=>Q (.int (if j > i then j else i)) μ
 | _=>False
def vm:FSp:=λds μ Q=>match ds with
 | [.int i,.int j]=>Q (.int (if j < i then j else i)) μ
 | _=>False
def yJ:FSp:=λds μ Q=>match ds with
 | [.int i]=>Q (.int i) μ
 | [.bl k]=>Q (.int (if k then 1 else 0)) μ
 | _=>False
def dB:FSp:=λds μ Q=>match ds with
 | [.tup xs]=>Q (.int xs.length) μ
 | [.ls xs]=>Q (.int xs.length) μ
 | [.str x]=>x.length<=1000000/\Q (.int x.length) μ
 | [.obj a]=>kL μ a λxs=>Q (.int xs.length) μ
 | _=>False
def tyD:D->Option String
 | .non=>some "NoneType"
 | .bl _=>some "bool"
 | .int _=>some "int"
 | .str _=>some "str"
 | .tup _=>some "tuple"
 | .ls _=>some "list"
 | _=>none
def mL (t c:String):Bool:=t == c || (t == "bool" && c == "int")
def Fo (c:String):DR:=λx μ Q=>match tyD x with
 | some t=>Q (.bl (mL t c)) μ
 | none=>False
def a8:STr:=λE ρ μ=>E.nx ρ μ
def aB (t u:STr):STr:=λE ρ μ=>t { E with nx:=u E } ρ μ
def CK:STr:=λE ρ μ=>E.bk ρ μ
def HD:STr:=λE ρ μ=>E.ct ρ μ
def fv (e:ETr):STr:=λE ρ μ=>e ρ μ λ_ μ1=>E.nx ρ μ1
def aW (e:ETr):STr:=λE ρ μ=>e ρ μ E.rt
def G8:STr:=λE _ μ=>E.rt .non μ
def bI (c:TTr)(t u:STr):STr:=λE ρ μ=>c ρ μ λb μ1=>kIf b (t E ρ μ1) (u E ρ μ1)
def aA (i:Nat):GTr:=λd ρ μ k=>k (ρ.set i (some d)) μ
def aO (e:ETr)(g:GTr):STr:=λE ρ μ=>e ρ μ λd μ1=>g d ρ μ1 E.nx
def qB (i j:Nat)(a:ATr):STr:=λE ρ μ=>a ρ μ λds μ1=>k2 ds λv w=>E.nx ((ρ.set i (some v)).set j (some w)) μ1
def SN (x z y:D)(μ:Mu)(f:Mu->Prop):Prop:=match x,z with
 | .obj a,.int n=>kL μ a λds=>kN (L2.ixN ds.length n) λj=>f (up μ a (.lst (ds.set j y)))
 | _,_=>False
def Cn (o k e:ETr):STr:=λE ρ μ=>e ρ μ λy μ1=>o ρ μ1 λx μ2=>k ρ μ2 λz μ3=>SN x z y μ3 λμ4=>E.nx ρ μ4
def wU (c:TTr)(b:STr):STr:=λE ρ μ=>∃ (P:ST->Mu->Prop) (m:ST->Mu->Nat),P ρ μ/\∀ ρ μ,P ρ μ->
 c ρ μ λk μ1=>kIf k (b { E with nx:=λρ' μ'=>P ρ' μ'/\m ρ' μ' < m ρ μ,ct:=λρ' μ'=>P ρ' μ'/\m ρ' μ' < m ρ μ,bk:=E.nx } ρ μ1) (E.nx ρ μ1)
def forR (g:GTr)(b:STr)(E:En):List D->ST->Mu->Prop
 | [],ρ,μ=>E.nx ρ μ
 | d::r,ρ,μ=>g d ρ μ λρ1 μ1=>b { E with nx:=forR g b E r,ct:=forR g b E r,bk:=E.nx } ρ1 μ1
def iq (it:ATr)(g:GTr)(b:STr):STr:=λE ρ μ=>it ρ μ λds μ1=>forR g b E ds ρ μ1
def cG (lo:Int)(n:Nat):List D:=(WQ n).map λi=>.int (lo+(i:Nat))
def fW (a:ETr):ATr:=λρ μ Q=>a ρ μ λx μ1=>kI x λj=>(-4611686018427387904<=j/\j < 4611686018427387904)/\Q (cG 0 j.toNat) μ1
def eL (a:ETr):ATr:=λρ μ Q=>a ρ μ λx μ1=>kS x λds=>Q ds μ1
def dn (μ:Mu)(a:Addr):Mu:=λb=>if b=a then none else μ b
theorem oP {μ:Mu}{a:Addr}{o:MO}(h:μ a=none):dn (up μ a o) a=μ:=by
 funext b
 unfold dn up
 by_cases hb:b=a
 ·subst hb;simp[h]
 ·simp[hb]
def fk (ρ:ST)(n:Nat)(caps:List Nat):ST:=X0 n none++caps.map (lk ρ)
def fK (p:Addr)(G:GTr)(tt:TTr)(te:ETr)(ρc:ST)(K:Mu->Prop):List D->Mu->Prop
 | [],μ=>K μ
 | d::r,μ=>G d ρc μ λρ1 μ1=>tt ρ1 μ1 λb μ2=>kIf b (te ρ1 μ2 λy μ3=>kL μ3 p λzs=>zs.length < 1000000/\fK p G tt te ρc K r (up μ3 p (.lst (zs++[y])))) (fK p G tt te ρc K r μ2)
def bZ (it:ATr)(G:GTr)(tt:TTr)(te:ETr)(n:Nat)(caps:List Nat):ETr:=λρ μ Q=>it ρ μ λds μ1=>∀ p,μ1 p=none->
 fK p G tt te (fk ρ n caps) (λμ'=>kL μ' p λzs=>Q (.ls zs) (dn μ' p)) ds (up μ1 p (.lst []))
def fe:TTr:=λ_ μ Q=>Q true μ
def Lm:FSp:=λds μ Q=>match ds with
 | [.ls xs]=>∃ bs:List Bool,xs=bs.map .bl/\Q (.bl (bs.all id)) μ
 | _=>False
theorem bR {g:GTr}{b:STr}{E:En}(P:List D->ST->Mu->Prop)(hnil:∀ ρ μ,P [] ρ μ->E.nx ρ μ)
  (hcons:∀ d r ρ μ (N:ST->Mu->Prop),P (d::r) ρ μ->(∀ ρ' μ',P r ρ' μ'->N ρ' μ')->g d ρ μ λρ1 μ1=>b { E with nx:=N,ct:=N,bk:=E.nx } ρ1 μ1) :
  ∀ (ds:List D) (ρ:ST) (μ:Mu),P ds ρ μ->forR g b E ds ρ μ
 | [],ρ,μ,h=>hnil ρ μ h
 | d::r,ρ,μ,h=>hcons d r ρ μ _ h λρ' μ' q=>bR P hnil hcons r ρ' μ' q
section
open PySem PySem.Spec PyProof.Rows L2
def SqF (K:Wa)(H:Hp)(a:Addr)(xs:List V):Prop:=
 (∃ o,H a=some (.frz o (.lst xs)))∨
  ∃ (o:Obj) (its:Array We) (n:Nat),K.lookup a=some o/\o.cls=.type "list" /\ o.dict=none/\o.data=.seq its n/\its.size<=sizeLine/\Vals xs its.toList
theorem SqF.sq {K:Wa}{H:Hp}{a:Addr}{xs:List V}(h:SqF K H a xs):SqL K H a xs:=by
 rcases h with h | h
 ·exact .inl (.inr h)
 ·exact .inr h
mutual
inductive Dp (K:Wa) (H:Hp):V->D->Prop
 | non:Dp K H .non .non
 | bl (b:Bool):Dp K H (.bl b) (.bl b)
 | int (n:Int):Dp K H (.int n) (.int n)
 | str (z:Str):Dp K H (.str z) (.str z)
 | ty (n:String):Dp K H (.ty n) (.ty n)
 | tup {a:Addr} {xs:List V} {ds:List D}:SqT K H a xs->DpL K H xs ds->Dp K H (.ref a) (.tup ds)
 | ls {a:Addr} {xs:List V} {ds:List D}:SqF K H a xs->DpL K H xs ds->Dp K H (.ref a) (.ls ds)
 | obj (a:Addr):Dp K H (.ref a) (.obj a)
inductive DpL (K:Wa) (H:Hp):List V->List D->Prop
 | nil:DpL K H [] []
 | cons {v:V} {d:D} {vs:List V} {ds:List D}:Dp K H v d->DpL K H vs ds->DpL K H (v::vs) (d::ds)
end
structure Tk (H H':Hp):Prop where
 tup:∀ a xs,H a=some (.tup xs)->H' a=some (.tup xs)
 frz:∀ a o u,H a=some (.frz o u)->H' a=some (.frz o u)
theorem Tk.refl (H:Hp):Tk H H:=⟨λ_ _ h=>h,λ_ _ _ h=>h⟩
theorem Tk.trans {H H1 H2:Hp}(a:Tk H H1)(b:Tk H1 H2):Tk H H2:=⟨λc xs h=>b.tup c xs (a.tup c xs h),λc o u h=>b.frz c o u (a.frz c o u h)⟩
theorem Tk.upd {H:Hp}{a:Addr}{o:HO}(h1:∀ xs,H a≠some (.tup xs))(h2:∀ o u,H a≠some (.frz o u)):Tk H (L2.upd H a o):=
 ⟨λb xs h=>by rw[aP (λz=>by subst z;exact h1 _ h)];exact h,λb o u h=>by rw[aP (λz=>by subst z;exact h2 _ _ h)];exact h⟩
theorem Tk.new {H:Hp}{a:Addr}{o:HO}(h:H a=none):Tk H (L2.upd H a o):=.upd (λ_ e=>by rw[h] at e;cases e) λ_ _ e=>by rw[h] at e;cases e
theorem Tk.sqT {K:Wa}{H H':Hp}{a:Addr}{xs:List V}(t:Tk H H')(h:SqT K H a xs):SqT K H' a xs:=by
 rcases h with (h | ⟨o,h⟩) | h
 ·exact .inl (.inl (t.tup _ _ h))
 ·exact .inl (.inr ⟨o,t.frz _ _ _ h⟩)
 ·exact .inr h
theorem Tk.sqF {K:Wa}{H H':Hp}{a:Addr}{xs:List V}(t:Tk H H')(h:SqF K H a xs):SqF K H' a xs:=by
 rcases h with ⟨o,h⟩ | h
 ·exact .inl ⟨o,t.frz _ _ _ h⟩
 ·exact .inr h
mutual
theorem Dp.mono {K:Wa}{H H':Hp}(t:Tk H H'):∀ {v:V} {d:D},Dp K H v d->Dp K H' v d
 | _,_,.non=>.non
 | _,_,.bl b=>.bl b
 | _,_,.int i=>.int i
 | _,_,.str x=>.str x
 | _,_,.ty n=>.ty n
 | _,_,.tup h l=>.tup (t.sqT h) (DpL.mono t l)
 | _,_,.ls h l=>.ls (t.sqF h) (DpL.mono t l)
 | _,_,.obj a=>.obj a
theorem DpL.mono {K:Wa}{H H':Hp}(t:Tk H H'):∀ {vs:List V} {ds:List D},DpL K H vs ds->DpL K H' vs ds
 | _,_,.nil=>.nil
 | _,_,.cons h l=>.cons (Dp.mono t h) (DpL.mono t l)
end
theorem DpL.length {K:Wa}{H:Hp}:∀ {vs:List V} {ds:List D},DpL K H vs ds->vs.length=ds.length
 | _,_,.nil=>rfl
 | _,_,.cons _ l=>by rw[WU,WU,DpL.length l]
theorem DpL.get {K:Wa}{H:Hp}:∀ {vs:List V} {ds:List D} {i:Nat} {d:D},DpL K H vs ds->ds[i]? = some d->∃ v,vs[i]? = some v/\Dp K H v d
 | _,_,_,_,.nil,e=>by simp at e
 | _,_,0,_,.cons h _,e=>by simp at e;subst e;exact ⟨_,rfl,h⟩
 | _,_,i+1,d,.cons _ l,e=>by
  obtain ⟨v,e1,h⟩:=DpL.get (i:=i) (d:=d) l (by simpa using e)
  exact ⟨v,by simpa using e1,h⟩
theorem DpL.get' {K:Wa}{H:Hp}:∀ {vs:List V} {ds:List D} {i:Nat} {v:V},DpL K H vs ds->vs[i]? = some v->∃ d,ds[i]? = some d/\Dp K H v d
 | _,_,_,_,.nil,e=>by simp at e
 | _,_,0,_,.cons h _,e=>by simp at e;subst e;exact ⟨_,rfl,h⟩
 | _,_,i+1,d,.cons _ l,e=>by
  obtain ⟨v,e1,h⟩:=DpL.get' (i:=i) (v:=d) l (by simpa using e)
  exact ⟨v,by simpa using e1,h⟩
theorem DpL.set {K:Wa}{H:Hp}{v:V}{d:D}(h:Dp K H v d):∀ {vs:List V} {ds:List D} (i:Nat),DpL K H vs ds->DpL K H (vs.set i v) (ds.set i d)
 | _,_,_,.nil=>.nil
 | _,_,0,.cons _ l=>.cons h l
 | _,_,i+1,.cons q l=>.cons q (DpL.set h i l)
theorem DpL.append {K:Wa}{H:Hp}:∀ {vs ws:List V} {ds es:List D},DpL K H vs ds->DpL K H ws es->DpL K H (vs++ws) (ds++es)
 | _,_,_,_,.nil,s=>s
 | _,_,_,_,.cons h l,s=>.cons h (DpL.append l s)
theorem DpL.at {K:Wa}{H:Hp}{vs:List V}{ds:List D}{i:Int}{d:D}(l:DpL K H vs ds)(e:atD ds i=some d):∃ v,atI vs i=some v/\Dp K H v d:=by
 unfold atD atI at e
 unfold atI
 rw[l.length]
 cases q:ixN ds.length i with
 | none=>rw[q] at e;cases e
 | some j=>
  rw[q] at e
  exact l.get e
def DpK {κ:Type}(K:Wa)(H:Hp)(xs:List (κ×V))(kvs:List (κ×D)):Prop:=xs.map (·.1)=kvs.map (·.1)/\DpL K H (xs.map (·.2)) (kvs.map (·.2))
theorem DpK.mono {κ:Type}{K:Wa}{H H':Hp}(t:Tk H H'){xs:List (κ×V)}{kvs:List (κ×D)}(h:DpK K H xs kvs):DpK K H' xs kvs:=⟨h.1,h.2.mono t⟩
def CL (K:Wa)(H:Hp)(a:Addr):MO->Prop
 | .lst ds=>∃ xs,H a=some (.lst xs)/\DpL K H xs ds
 | .dct kvs=>∃ xs,H a=some (.dK xs)/\DpK K H xs kvs
 | .dcT kvs=>∃ xs,H a=some (.dT xs)/\DpK K H xs kvs
theorem CL.go {K:Wa}{H H':Hp}{a:Addr}{o:MO}(h:CL K H a o)(t:Tk H H')(k:∀ u,H a=some u->H' a=some u):CL K H' a o:=by
 cases o<;>(obtain ⟨xs,z,l⟩:=h;exact ⟨xs,k _ z,l.mono t⟩)
theorem CL.ne {K:Wa}{H:Hp}{a q:Addr}{o:MO}{u:HO}(h:CL K H a o)(t:Tk H (L2.upd H q u))(k:a≠q):CL K (L2.upd H q u) a o:=h.go t λ_ e=>by rw[aP k];exact e
def bQ (K:Wa)(H:Hp)(μ:Mu):Prop:=∀ a o,μ a=some o->CL K H a o
theorem bQ.free {K:Wa}{H:Hp}{μ:Mu}(h:bQ K H μ){a:Addr}(e:H a=none):μ a=none:=by
 cases q:μ a with
 | none=>rfl
 | some o=>
  cases o<;>(obtain ⟨xs,z,_⟩:=h a _ q;rw[e] at z;cases z)
theorem bQ.keep {K:Wa}{H H':Hp}{μ:Mu}(h:bQ K H μ)(t:Tk H H')(k:∀ a u,μ a≠none->H a=some u->H' a=some u):bQ K H' μ:=λa o e=>by
 exact (h a _ e).go t λu z=>k a u (by rw[e];simp) z
def Sub (μ μ':Mu):Prop:=∀ a o,μ a=some o->μ' a=some o
theorem Sub.refl (μ:Mu):Sub μ μ:=λ_ _ h=>h
theorem Sub.new {μ:Mu}{p:Addr}{o:MO}(h:μ p=none):Sub μ (up μ p o):=λa u e=>by
 rw[aY (λz=>by subst z;rw[h] at e;cases e)];exact e
theorem Sub.trans {μ μ1 μ2:Mu}(a:Sub μ μ1)(b:Sub μ1 μ2):Sub μ μ2:=λc o h=>b c o (a c o h)
theorem bQ.sub {K:Wa}{H:Hp}{μ μ':Mu}(h:bQ K H μ')(s:Sub μ μ'):bQ K H μ:=λa o e=>h a o (s a o e)
structure Rl (K:Wa) (σ:L2.St) (H:Hp) (ρ:ST) (μ:Mu):Prop where
 len:ρ.length=σ.length
 loc:∀ i d,lk ρ i=some d->∃ v,σ[i]? = some (some v)/\Dp K H v d
 mu:bQ K H μ
theorem Rl.go {K:Wa}{σ:L2.St}{H H':Hp}{ρ:ST}{μ μ':Mu}(r:Rl K σ H ρ μ)(t:Tk H H')(m:bQ K H' μ'):Rl K σ H' ρ μ':=
 ⟨r.len,λi d e=>let ⟨v,h1,h2⟩:=r.loc i d e;⟨v,h1,h2.mono t⟩,m⟩
theorem Gj:∀ (ρ:ST) (i j:Nat) (d:D),lk (ρ.set i (some d)) j=if i=j/\i < ρ.length then some d else lk ρ j
 | [],i,j,d=>by simp[lk]
 | o::r,0,0,d=>by simp[lk]
 | o::r,0,j+1,d=>by simp[lk]
 | o::r,i+1,0,d=>by simp[lk]
 | o::r,i+1,j+1,d=>by
  show lk (r.set i (some d)) j=_
  rw[Gj r i j d]
  simp[lk]
theorem Rl.set {K:Wa}{σ:L2.St}{H:Hp}{ρ:ST}{μ:Mu}(r:Rl K σ H ρ μ){v:V}{d:D}(h:Dp K H v d)(i:Nat):Rl K (σ.set i (some v)) H (ρ.set i (some d)) μ:=by
 refine ⟨by simp[r.len],λj e q=>?_,r.mu⟩
 rw[Gj] at q
 split at q
 ·rename_i hc
  obtain ⟨rfl,hlt⟩:=hc
  cases q
  exact ⟨v,by rw[ZI (by rw[← r.len];exact hlt)],h⟩
 ·rename_i hc
  obtain ⟨u,h1,h2⟩:=r.loc j e q
  by_cases hij:i=j
  ·subst hij
   have:¬ i < ρ.length:=λz=>hc ⟨rfl,z⟩
   have hn:σ[i]? = none:=Yw.mpr (by rw[← r.len];omega)
   rw[hn] at h1;cases h1
  ·exact ⟨u,by rw[Yz hij];exact h1,h2⟩
abbrev jL (K:Wa)(H:Hp)(Q:DK)(Q':VK):Prop:=∀ v H' d μ',Tk H H'->bQ K H' μ'->Dp K H' v d->Q d μ'->Q' v H'
def Sim (K:Wa)(t:TE)(T:ETr):Prop:=∀ σ H ρ μ (Q:DK) (Q':VK),Rl K σ H ρ μ->T ρ μ Q->jL K H Q Q'->t σ H Q'
def Mh (K:Wa)(t:TT)(T:TTr):Prop:=∀ σ H ρ μ (Q:Bool->Mu->Prop) (Q':Bool->Hp->Prop),Rl K σ H ρ μ->T ρ μ Q->(∀ b H' μ',Tk H H'->bQ K H' μ'->Q b μ'->Q' b H')->t σ H Q'
def TM (K:Wa)(t:TA)(T:ATr):Prop:=∀ σ H ρ μ (Q:List D->Mu->Prop) (Q':List V->Hp->Prop),Rl K σ H ρ μ->T ρ μ Q->(∀ vs H' ds μ',Tk H H'->bQ K H' μ'->DpL K H' vs ds->Q ds μ'->Q' vs H')->t σ H Q'
abbrev Af (K:Wa)(H:Hp)(N:ST->Mu->Prop)(N':L2.St->Hp->Prop):Prop:=∀ σ' H' ρ' μ',Tk H H'->Rl K σ' H' ρ' μ'->N ρ' μ'->N' σ' H'
structure HJ (K:Wa) (H:Hp) (E:En) (E':Ends):Prop where
 nx:Af K H E.nx E'.nx
 rt:jL K H E.rt E'.rt
 bk:Af K H E.bk E'.bk
 ct:Af K H E.ct E'.ct
theorem HJ.go {K:Wa}{H H1:Hp}{E:En}{E':Ends}(e:HJ K H E E')(t:Tk H H1):HJ K H1 E E':=
 ⟨λ_ _ _ _ t'=>e.nx _ _ _ _ (t.trans t'),λ_ _ _ _ t'=>e.rt _ _ _ _ (t.trans t'),λ_ _ _ _ t'=>e.bk _ _ _ _ (t.trans t'),λ_ _ _ _ t'=>e.ct _ _ _ _ (t.trans t')⟩
def HN (K:Wa)(t:TS)(T:STr):Prop:=∀ σ H ρ μ (E:En) (E':Ends),Rl K σ H ρ μ->T E ρ μ->HJ K H E E'->t E' σ H
def OY (K:Wa)(g:TG)(G:GTr):Prop:=∀ σ H ρ μ v d (k:ST->Mu->Prop) (k':L2.St->Hp->Prop),Rl K σ H ρ μ->Dp K H v d->G d ρ μ k->Af K H k k'->g v σ H k'
structure LE (X:Cx) (e:WR) (T:ETr):Prop where
 ex:∃ t,PE X e t/\Sim X.K t T
structure LT (X:Cx) (e:WR) (T:TTr):Prop where
 ex:∃ t,PT X e t/\Mh X.K t T
structure LW (X:Cx) (e:WR) (T:TTr):Prop where
 ex:∃ t,PW X e t/\Mh X.K t T
structure LA (X:Cx) (es:List WR) (T:ATr):Prop where
 ex:∃ t,PA X es t/\TM X.K t T
structure LS (X:Cx) (st:Stmt) (T:STr):Prop where
 ex:∃ t,PS X st t/\HN X.K t T
structure LSs (X:Cx) (sts:List Stmt) (T:STr):Prop where
 ex:∃ t,PSs X sts t/\HN X.K t T
structure LG (X:Cx) (tg:WR) (G:GTr):Prop where
 ex:∃ g,PG X tg g/\OY X.K g G
section
variable {X:Cx} {a b c e:WR} {Ta Tb Tc:ETr} {pos:Pos}
theorem ae (i:Nat){x:Str}(hN:X.N[i]? = some x:=by rfl)(hv:Vis X.env.scope x:=by first | exact ZM rfl | exact ZN (ZM rfl) | exact ZN (ZN rfl))(hd:(x == ("__debug__" : Str))=false:=by decide)
  (hcd:(x == ("__classdict__" : Str))=false:=by decide):LE X (.Name x pos) (ah i):=
 ⟨_,Iw hN hv hd hcd,λσ H ρ μ Q Q' r h k=>by
  have h:kO (lk ρ i) λd=>Q d μ:=h
  cases q:lk ρ i with
  | none=>rw[q] at h;exact Wm h
  | some d=>
   rw[q] at h
   have h:Q d μ:=h
   obtain ⟨v,e1,p⟩:=r.loc i d q
   exact ⟨v,e1,k v H d μ (.refl H) r.mu p h⟩⟩
theorem le_int {i:Int}{j}:LE X (.Constant (.int i) j pos) (TC (.int i)):=⟨_,Sk,λσ H ρ μ Q Q' r h k=>k _ H _ μ (.refl H) r.mu (.int i) h⟩
theorem zW {b:Bool}{j}:LE X (.Constant (.bool b) j pos) (TC (.bl b)):=⟨_,Tp,λσ H ρ μ Q Q' r h k=>k _ H _ μ (.refl H) r.mu (.bl b) h⟩
theorem cV {j}:LE X (.Constant .none j pos) (TC .non):=⟨_,Pp,λσ H ρ μ Q Q' r h k=>k _ H _ μ (.refl H) r.mu .non h⟩
theorem le_str {x:Str}{j}:LE X (.Constant (.str x) j pos) (TC (.str x)):=⟨_,JQ,λσ H ρ μ Q Q' r h k=>k _ H _ μ (.refl H) r.mu (.str x) h⟩
def gI (K:Wa)(r:R2)(R:DR2):Prop:=∀ H μ x y dx dy (Q:DK) (Q':VK),bQ K H μ->Dp K H x dx->Dp K H y dy->R dx dy μ Q->jL K H Q Q'->r x y H Q'
def Ut (K:Wa)(r:V->Hp->VK->Prop)(R:DR):Prop:=∀ H μ x dx (Q:DK) (Q':VK),bQ K H μ->Dp K H x dx->R dx μ Q->jL K H Q Q'->r x H Q'
theorem jL.go {K:Wa}{H H1:Hp}{Q:DK}{Q':VK}(k:jL K H Q Q')(t:Tk H H1):jL K H1 Q Q':=λv H' d μ' t'=>k v H' d μ' (t.trans t')
theorem qu {K:Wa}{r:R2}{R:DR2}{ta tb:TE}(hr:gI K r R)(ha:Sim K ta Ta)(hb:Sim K tb Tb):Sim K (tOp r ta tb) (aj R Ta Tb):=λσ H ρ μ Q Q' rl h k=>
 ha σ H ρ μ _ _ rl h λx H1 dx μ1 t1 m1 p1 h1=>hb σ H1 ρ μ1 _ _ (rl.go t1 m1) h1 λy H2 dy μ2 t2 m2 p2 h2=>hr H2 μ2 x y dx dy Q Q' m2 (p1.mono t2) p2 h2 (k.go (t1.trans t2))
theorem tw {op:zbM}{r:R2}{R:DR2}(ho:OpR X (YK op) r)(hr:gI X.K r R)(ha:LE X a Ta)(hb:LE X b Tb):LE X (.BinOp a op b pos) (aj R Ta Tb):=by
 obtain ⟨ta,pa,sa⟩:=ha.ex
 obtain ⟨tb,pb,sb⟩:=hb.ex
 exact ⟨_,Ob ho pa pb,qu hr sa sb⟩
theorem mw {op:CmpOp}{r:R2}{R:DR2}(ho:OpR X (Yy op) r)(hr:gI X.K r R)(ha:LE X a Ta)(hb:LE X b Tb)(hm:YE op b=false):LE X (.Compare a [op] [b] pos) (aj R Ta Tb):=by
 obtain ⟨ta,pa,sa⟩:=ha.ex
 obtain ⟨tb,pb,sb⟩:=hb.ex
 exact ⟨_,Mg ho pa pb hm,qu hr sa sb⟩
theorem RU {K:Wa}{t:TE}{T:ETr}(h:Sim K t T):Mh K (Oq t) (TB T):=λσ H ρ μ Q Q' rl hh k=>
 h σ H ρ μ _ _ rl hh λv H' d μ' t' m' p' h'=>by
  cases p' with
  | bl c=>exact ⟨c,rfl,k c H' μ' t' m' h'⟩
  | _=>exact Wm h'
theorem O3 {K:Wa}{t:TE}{T:ETr}(h:Sim K t T):Mh K (tB t) (TB T):=λσ H ρ μ Q Q' rl hh k=>
 h σ H ρ μ _ _ rl hh λv H' d μ' t' m' p' h'=>by
  cases p' with
  | bl c=>exact ⟨c,rfl,k c H' μ' t' m' h'⟩
  | _=>exact Wm h'
theorem fR {op:CmpOp}{r:R2}{R:DR2}(ho:OpR X (Yy op) r)(hr:gI X.K r R)(ha:LE X a Ta)(hb:LE X b Tb)(hm:YE op b=false):LT X (.Compare a [op] [b] pos) (TB (aj R Ta Tb)):=by
 obtain ⟨ta,pa,sa⟩:=ha.ex
 obtain ⟨tb,pb,sb⟩:=hb.ex
 exact ⟨_,Lb ho pa pb hm,RU (qu hr sa sb)⟩
theorem we {K:Wa}{C:Int->Int->Prop}{g:Int->Int->V}{R:DR2}(f:Int->Int->D)(hg:∀ H i j,Dp K H (g i j) (f i j))(hR:∀ i j μ Q,R (.int i) (.int j) μ Q->C i j/\Q (f i j) μ)
  (hn:∀ dx dy μ Q,R dx dy μ Q->(∃ i,dx=.int i)/\∃ j,dy=.int j):gI K (rI C g) R:=λH μ x y dx dy Q Q' m px py h k=>by
 obtain ⟨⟨i,rfl⟩,j,rfl⟩:=hn _ _ _ _ h
 cases px;cases py
 obtain ⟨h1,h2⟩:=hR _ _ _ _ h
 exact ⟨i,j,rfl,rfl,h1,k _ H _ μ (.refl H) m (hg H i j) h2⟩
theorem Dr {K:Wa}{g:Int->Int->V}{R:DR2}(f:Int->Int->D)(hg:∀ H i j,Dp K H (g i j) (f i j))(hR:∀ i j μ Q,R (.int i) (.int j) μ Q->Q (f i j) μ)
  (hn:∀ dx dy μ Q,R dx dy μ Q->(∃ i,dx=.int i)/\∃ j,dy=.int j):gI K (rI0 g) R:=λH μ x y dx dy Q Q' m px py h k=>by
 obtain ⟨⟨i,rfl⟩,j,rfl⟩:=hn _ _ _ _ h
 cases px;cases py
 exact ⟨i,j,rfl,rfl,k _ H _ μ (.refl H) m (hg H i j) (hR _ _ _ _ h)⟩
theorem fh (ha:LE X a Ta)(hb:LE X b Tb):LE X (.BinOp a .Sub b pos) (aj kg Ta Tb):=tw QS (Dr (λi j=>.int (i - j)) (λ_ _ _=>.int _) (λ_ _ _ _ h=>h) (λdx dy μ Q h=>by cases dx<;>cases dy<;>first | exact ⟨⟨_,rfl⟩,_,rfl⟩ | exact Wm h)) ha hb
theorem gw.abs {j:Int}(h:gw j):j.natAbs < 2 ^ 256:=by
 have e:(2:Nat) ^ 256=115792089237316195423570985008687907853269984665640564039457584007913129639936:=by decide +kernel
 rw[e]
 obtain ⟨h1,h2⟩:=h
 omega
theorem MulOk.ok {i j:Int}(h:MulOk i j):IntMulOk i j:=by
 rcases h with (⟨h1,h2⟩ | ⟨h1,h2⟩) | ⟨h1,h2⟩
 ·exact .of_left (zaQ h1 h2)
 ·exact .of_right (zaQ h1 h2)
 ·exact .of_le (za2 h1.abs) (za2 h2.abs) (by decide)
theorem KC:OpR X (YK .Mult) (rI MulOk λi j=>.int (i*j)):=opI λ_ _ _ _ _ _ _ hc q=>mul_int q hc.ok
theorem kC.np {i j:Int}(h:kC j):Builtin.divisionGoesByPylong i j=false:=by
 refine PyProof.noPylong_of_log2 ?_
 have h0:j.natAbs≠0:=by have:=h.1;omega
 have:=(Nat.log2_lt h0).mpr h.2.abs
 omega
theorem Ku:OpR X (YK .FloorDiv) (rI (λ_ j=>kC j) λi j=>.int (i.fdiv j)):=opI λ_ _ _ _ _ _ _ hc q=>floordiv_int hc.1 q (.inl hc.np)
theorem ko (ha:LE X a Ta)(hb:LE X b Tb):LE X (.BinOp a .FloorDiv b pos) (aj oa Ta Tb):=tw Ku (we (λi j=>.int (i.fdiv j)) (λ_ _ _=>.int _) (λ_ _ _ _ h=>⟨h.1,h.2⟩) (λdx dy μ Q h=>by cases dx<;>cases dy<;>first | exact ⟨⟨_,rfl⟩,_,rfl⟩ | exact Wm h)) ha hb
theorem le_mul (ha:LE X a Ta)(hb:LE X b Tb):LE X (.BinOp a .Mult b pos) (aj eP Ta Tb):=tw KC (we (λi j=>.int (i*j)) (λ_ _ _=>.int _) (λ_ _ _ _ h=>⟨h.1,h.2⟩) (λdx dy μ Q h=>by cases dx<;>cases dy<;>first | exact ⟨⟨_,rfl⟩,_,rfl⟩ | exact Wm h)) ha hb
theorem js (ha:LE X a Ta)(hb:LE X b Tb):LE X (.BinOp a .Mod b pos) (aj mN Ta Tb):=tw K1 (we (λi j=>.int (i.fmod j)) (λ_ _ _=>.int _) (λ_ _ _ _ h=>⟨h.1,h.2⟩) (λdx dy μ Q h=>by cases dx<;>cases dy<;>first | exact ⟨⟨_,rfl⟩,_,rfl⟩ | exact Wm h)) ha hb
theorem le_pow (ha:LE X a Ta)(hb:LE X b Tb):LE X (.BinOp a .Pow b pos) (aj Gu Ta Tb):=tw Qb (we (λi j=>.int (i ^ j.toNat)) (λ_ _ _=>.int _) (λ_ _ _ _ h=>⟨h.1,h.2⟩) (λdx dy μ Q h=>by cases dx<;>cases dy<;>first | exact ⟨⟨_,rfl⟩,_,rfl⟩ | exact Wm h)) ha hb
theorem kY {K:Wa}(p:Int->Int->Bool):gI K (rI0 λi j=>.bl (p i j)) (GP p):=Dr (λi j=>.bl (p i j)) (λ_ _ _=>.bl _) (λ_ _ _ _ h=>h) (λdx dy μ Q h=>by cases dx<;>cases dy<;>first | exact ⟨⟨_,rfl⟩,_,rfl⟩ | exact Wm h)
theorem OE (ha:LE X a Ta)(hb:LE X b Tb):LE X (.Compare a [.Lt] [b] pos) (aj rLt Ta Tb):=mw Oj (kY _) ha hb (fF _)
theorem SY (ha:LE X a Ta)(hb:LE X b Tb):LE X (.Compare a [.Gt] [b] pos) (aj rGt Ta Tb):=mw Ow (kY _) ha hb (fF _)
theorem Hz (ha:LE X a Ta)(hb:LE X b Tb):LE X (.Compare a [.GtE] [b] pos) (aj rGe Ta Tb):=mw N5 (kY _) ha hb (fF _)
theorem mf (ha:LE X a Ta)(hb:LE X b Tb):LT X (.Compare a [.Lt] [b] pos) (TB (aj rLt Ta Tb)):=fR Oj (kY _) ha hb (fF _)
theorem oU (ha:LE X a Ta)(hb:LE X b Tb):LT X (.Compare a [.Gt] [b] pos) (TB (aj rGt Ta Tb)):=fR Ow (kY _) ha hb (fF _)
theorem OK (ha:LE X a Ta)(hb:LE X b Tb):LT X (.Compare a [.GtE] [b] pos) (TB (aj rGe Ta Tb)):=fR N5 (kY _) ha hb (fF _)
theorem Tq {op:UnaryOp}{r:V->Hp->VK->Prop}{R:DR}(ho:UnR X (unaryOp op) r)(hr:Ut X.K r R)(ha:LE X a Ta):LE X (.UnaryOp op a pos) (TUn R Ta):=by
 obtain ⟨ta,pa,sa⟩:=ha.ex
 exact ⟨_,Uh ho pa,λσ H ρ μ Q Q' rl h k=>sa σ H ρ μ _ _ rl h λx H1 dx μ1 t1 m1 p1 h1=>hr H1 μ1 x dx Q Q' m1 p1 h1 (k.go t1)⟩
theorem qU (ha:LE X a Ta)(he:∀ whole,isTrue a X.env whole=(do let v ← whole;standAt a.pos;zbg [v] (truthy v)):=by intro _;rfl):LT X a (TB Ta):=by
 obtain ⟨ta,pa,sa⟩:=ha.ex
 exact ⟨_,Qn pa he,O3 sa⟩
variable {tA tB' tC':TTr} {rest:List WR}
theorem Ht (ha:LT X a tA):LT X (.UnaryOp .Not a pos) (CQ tA):=by
 obtain ⟨ta,pa,sa⟩:=ha.ex
 exact ⟨_,R9 pa,λσ H ρ μ Q Q' rl h k=>sa σ H ρ μ _ _ rl h λc H1 μ1 t1 m1 h1=>k (!c) H1 μ1 t1 m1 h1⟩
theorem LW.lt (h:LW X a tA):LT X a tA:=by
 obtain ⟨ta,pa,sa⟩:=h.ex
 exact ⟨_,pa.pt,sa⟩
theorem iZ (ha:LT X a tA):LW X (.BoolOp .And [a] pos) tA:=by
 obtain ⟨ta,pa,sa⟩:=ha.ex
 exact ⟨_,pw_and1 pa,sa⟩
theorem wq (ha:LT X a tA):LW X (.BoolOp .Or [a] pos) tA:=by
 obtain ⟨ta,pa,sa⟩:=ha.ex
 exact ⟨_,pw_or1 pa,sa⟩
theorem l9 (ha:LT X a tA)(hb:LW X (.BoolOp .And (b::rest) pos) tB'):LW X (.BoolOp .And (a::b::rest) pos) (mG tA tB'):=by
 obtain ⟨ta,pa,sa⟩:=ha.ex
 obtain ⟨tb,pb,sb⟩:=hb.ex
 refine ⟨_,pw_and pa pb,λσ H ρ μ Q Q' rl h k=>sa σ H ρ μ _ _ rl h λc H1 μ1 t1 m1 h1=>?_⟩
 cases c with
 | true=>exact qS (sb σ H1 ρ μ1 Q Q' (rl.go t1 m1) h1 λb H2 μ2 t2=>k b H2 μ2 (t1.trans t2))
 | false=>exact rE (k false H1 μ1 t1 m1 h1)
theorem Ed (ha:LT X a tA)(hb:LW X (.BoolOp .Or (b::rest) pos) tB'):LW X (.BoolOp .Or (a::b::rest) pos) (TOr tA tB'):=by
 obtain ⟨ta,pa,sa⟩:=ha.ex
 obtain ⟨tb,pb,sb⟩:=hb.ex
 refine ⟨_,pw_or pa pb,λσ H ρ μ Q Q' rl h k=>sa σ H ρ μ _ _ rl h λc H1 μ1 t1 m1 h1=>?_⟩
 cases c with
 | true=>exact qS (k true H1 μ1 t1 m1 h1)
 | false=>exact rE (sb σ H1 ρ μ1 Q Q' (rl.go t1 m1) h1 λb H2 μ2 t2=>k b H2 μ2 (t1.trans t2))
theorem ki {op}(h:LE X a Ta):LE X (.BoolOp op [a] pos) Ta:=by
 obtain ⟨ta,pa,sa⟩:=h.ex
 exact ⟨_,Rk pa,sa⟩
theorem gB (ha:LE X a Ta)(hb:LE X (.BoolOp .And (b::rest) pos) Tb):LE X (.BoolOp .And (a::b::rest) pos) (fJ Ta Tb):=by
 obtain ⟨ta,pa,sa⟩:=ha.ex
 obtain ⟨tb,pb,sb⟩:=hb.ex
 refine ⟨_,PU pa pb,λσ H ρ μ Q Q' rl h k=>sa σ H ρ μ _ _ rl h λx H1 dx μ1 t1 m1 p1 h1=>?_⟩
 cases p1 with
 | bl c=>
  refine ⟨c,rfl,?_⟩
  cases c with
  | true=>exact qS (sb σ H1 ρ μ1 Q Q' (rl.go t1 m1) h1 (k.go t1))
  | false=>exact rE (k _ H1 _ μ1 t1 m1 (.bl _) h1)
 | _=>exact Wm h1
theorem N9 (ha:LE X a Ta)(hb:LE X (.BoolOp .Or (b::rest) pos) Tb):LE X (.BoolOp .Or (a::b::rest) pos) (Bo Ta Tb):=by
 obtain ⟨ta,pa,sa⟩:=ha.ex
 obtain ⟨tb,pb,sb⟩:=hb.ex
 refine ⟨_,Us pa pb,λσ H ρ μ Q Q' rl h k=>sa σ H ρ μ _ _ rl h λx H1 dx μ1 t1 m1 p1 h1=>?_⟩
 cases p1 with
 | bl c=>
  refine ⟨c,rfl,?_⟩
  cases c with
  | true=>exact qS (k _ H1 _ μ1 t1 m1 (.bl _) h1)
  | false=>exact rE (sb σ H1 ρ μ1 Q Q' (rl.go t1 m1) h1 (k.go t1))
 | _=>exact Wm h1
theorem iu (hc:LT X c tC')(ha:LE X a Ta)(hb:LE X b Tb):LE X (.IfExp c a b pos) (lZ tC' Ta Tb):=by
 obtain ⟨tc,pc,sc⟩:=hc.ex
 obtain ⟨ta,pa,sa⟩:=ha.ex
 obtain ⟨tb,pb,sb⟩:=hb.ex
 refine ⟨_,F4 pc pa pb,λσ H ρ μ Q Q' rl h k=>sc σ H ρ μ _ _ rl h λq H1 μ1 t1 m1 h1=>?_⟩
 cases q with
 | true=>exact qS (sa σ H1 ρ μ1 Q Q' (rl.go t1 m1) h1 (k.go t1))
 | false=>exact rE (sb σ H1 ρ μ1 Q Q' (rl.go t1 m1) h1 (k.go t1))
variable {es:List WR} {At:ATr}
theorem ai:LA X [] aq:=⟨_,i9,λσ H ρ μ Q Q' rl h k=>k [] H [] μ (.refl H) rl.mu .nil h⟩
theorem aa (ha:LE X e Ta)(hr:LA X es At)(hs:Ww (e::es) X.env=(false,Xw e X.env)::Ww es X.env:=by rfl):LA X (e::es) (af Ta At):=by
 obtain ⟨ta,pa,sa⟩:=ha.ex
 obtain ⟨tr,pr,sr⟩:=hr.ex
 exact ⟨_,ft pa pr hs,λσ H ρ μ Q Q' rl h k=>sa σ H ρ μ _ _ rl h λx H1 dx μ1 t1 m1 p1 h1=>sr σ H1 ρ μ1 _ _ (rl.go t1 m1) h1 λxs H2 ds μ2 t2 m2 p2 h2=>k _ H2 _ μ2 (t1.trans t2) m2 (.cons (p1.mono t2) p2) h2⟩
theorem dh {K:Wa}{H:Hp}{μ:Mu}{p:Addr}{o:HO}(m:bQ K H μ)(hp:H p=none):bQ K (L2.upd H p o) μ:=m.keep (.new hp) λa' xs' _ e=>by rw[aP (bo e hp)];exact e
theorem big {n:Nat}(h:n<=1000000):n<=sizeLine:=Xa h (by decide)
theorem aM {x1}(h:LA X es At):LE X (.Tuple es x1 pos) (bf At):=by
 obtain ⟨ta,pa,sa⟩:=h.ex
 refine ⟨_,Rx pa,λσ H ρ μ Q Q' rl h k=>sa σ H ρ μ _ _ rl h λxs H1 ds μ1 t1 m1 p1 h1=>⟨by rw[p1.length];exact big h1.1,λp hp=>?_⟩⟩
 exact k _ _ _ μ1 (t1.trans (.new hp)) (dh m1 hp) (.tup (SqT.of aQ) (p1.mono (.new hp))) h1.2
theorem i7 (h:LA X es At):LE X (.List es pos) (mT At):=by
 obtain ⟨ta,pa,sa⟩:=h.ex
 refine ⟨_,Jo pa,λσ H ρ μ Q Q' rl h k=>sa σ H ρ μ _ _ rl h λxs H1 ds μ1 t1 m1 p1 h1=>⟨by rw[p1.length];exact big h1.1,λp hp=>?_⟩⟩
 refine k _ _ _ (up μ1 p (.lst ds)) (t1.trans (.new hp)) (λa o e=>?_) (.obj p) (h1.2 p (m1.free hp))
 by_cases ha:a=p
 ·subst ha
  rw[aK] at e;cases e
  exact ⟨xs,aQ,p1.mono (.new hp)⟩
 ·rw[aY ha] at e
  exact dh m1 hp a o e
def FH (t:TE):TE:=λσ H Q=>t σ H λv H1=>∃ a xs,v=.ref a/\H1 a=some (.lst xs)/\∀ o,Q v (L2.upd H1 a (.frz o (.lst xs)))
theorem jY {t:TE}(h:PE X e t):PE X e (FH t):=by
 intro pins s σ H Q I hh
 refine thn (h pins s σ H _ I hh) λu s1 ⟨v,H1,I1,r,a,xs,ev,ea,q⟩=>?_
 obtain ⟨z,its,n,rv,hg⟩:=(show dG X.prog X.w H1 s1.heap a (.lst xs) from I1.hok a _ ea)
 have nl:∀ b o,H1 b=some o->(∀ ys,o≠.lst ys)->b≠a:=λb o e1 e2 z=>by subst z;rw[ea] at e1;cases e1;exact e2 _ rfl
 refine ⟨v,_,I1.un (h':=s1.heap) (t':=s1.toks) (H':=L2.upd H1 a (.frz { cls:=.type "list", data:=.seq its.toArray n } (.lst xs))) ⟨λb o e _ _ _=>e,λb o e _ _ _=>⟨o.slots,e⟩,λb o e n _=>?_,λb o e _=>⟨o,e⟩,λb ys e=>?_,λb o u e=>?_,λb ps e=>⟨#[],?_⟩⟩ (λb u e=>?_),r,q _⟩
 ·rw[aP (λz=>by subst z;rw[ea] at n;cases n)];exact n
 ·rw[aP (nl b _ e (λ_=>nofun))];exact e
 ·rw[aP (nl b _ e (λ_=>nofun))];exact e
 ·rw[aP (nl b _ e (λ_=>nofun)),e];simp
 ·by_cases hb:b=a
  ·subst hb
   rw[aQ] at e;cases e
   exact ⟨hg,z,its,n,rv,hg⟩
  ·rw[aP hb] at e
   refine (I1.hok b u e).lD (λc w _ q=>q) (λc q=>?_) λc ys q=>?_
   ·rw[aP (nl c _ q (λ_=>nofun))];exact q
   ·rw[aP (nl c _ q (λ_=>nofun))];exact q
theorem c6 (h:LA X es At):LE X (.List es pos) (fc At):=by
 obtain ⟨ta,pa,sa⟩:=h.ex
 refine ⟨_,jY (Jo pa),λσ H ρ μ Q Q' rl h k=>sa σ H ρ μ _ _ rl h λxs H1 ds μ1 t1 m1 p1 h1=>⟨by rw[p1.length];exact big h1.1,λp hp=>⟨p,xs,rfl,aQ,λo=>?_⟩⟩⟩
 have e:L2.upd (L2.upd H1 p (.lst xs)) p (.frz o (.lst xs))=L2.upd H1 p (.frz o (.lst xs)):=xf
 rw[e]
 exact k _ _ _ μ1 (t1.trans (.new hp)) (dh m1 hp) (.ls (.inl ⟨o,aQ⟩) (p1.mono (.new hp))) h1.2
end
end
section
open PySem PySem.Spec PyProof.Rows L2
mutual
def toP:D->PyData
 | .non=>.none
 | .bl b=>.bool b
 | .int i=>.int i
 | .str x=>.str x
 | .tup ds=>.tuple (mY ds)
 | .ls ds=>.list (mY ds)
 | .ty _=>.none
 | .obj _=>.none
def mY:List D->List PyData
 | []=>[]
 | d::r=>toP d::mY r
end
mutual
theorem jl:∀ (n:Nat) (d:D),okD n d=true->(toP d).canLay0=true/\(toP d).depth<=n
 | n,.non,_=>⟨rfl,Xx _⟩
 | n,.bl b,_=>⟨rfl,Xx _⟩
 | n,.int i,_=>⟨rfl,Xx _⟩
 | n,.str x,h=>⟨by cases n<;>exact h,Xx _⟩
 | n+1,.tup ds,h=>by
  obtain ⟨h1,h2⟩:=rL n ds h
  exact ⟨h1,za1 h2⟩
 | n+1,.ls ds,h=>by
  obtain ⟨h1,h2⟩:=rL n ds h
  exact ⟨h1,za1 h2⟩
 | 0,.tup ds,h=>by cases h
 | 0,.ls ds,h=>by cases h
 | n,.ty _,h=>by cases n<;>cases h
 | n,.obj _,h=>by cases n<;>cases h
theorem rL:∀ (n:Nat) (ds:List D),ck n ds=true->zcS (mY ds)=true/\zdv (mY ds)<=n
 | n,[],_=>⟨rfl,Xx _⟩
 | n,d::r,h=>by
  have h':okD n d=true/\ck n r=true:=by simpa[ck] using h
  obtain ⟨a1,a2⟩:=jl n d h'.1
  obtain ⟨b1,b2⟩:=rL n r h'.2
  refine ⟨?_,?_⟩
  ·show (zdI (toP d)&&zcS (mY r))=true
   rw[a1,b1];rfl
  ·show max (PyData.depth (toP d)) (zdv (mY r))<=n
   exact Nat.max_le.mpr ⟨a2,b2⟩
end
theorem str_beq (a b:Str):(a == b)=decide (a=b):=by
 by_cases h:a=b
 ·subst h;simp
 ·rw[decide_eq_false h];exact beq_eq_false_iff_ne.mpr h
mutual
theorem qv:∀ (n m:Nat) (a b:D),okD n a=true->okD m b=true->YF (toP a) (toP b)=eqD a b
 | n,m,.non,b,_,hb=>by cases b<;>first | rfl | (cases m<;>cases hb)
 | n,m,.bl x,b,_,hb=>by
  cases b with
  | int y=>simp only[toP,YF,eqD];rw[ZU]
  | ty _=>cases m<;>cases hb
  | obj _=>cases m<;>cases hb
  | _=>rfl
 | n,m,.int x,b,_,hb=>by
  cases b with
  | int y=>simp only[toP,YF,eqD];rw[ZU]
  | bl y=>simp only[toP,YF,eqD];rw[ZU]
  | ty _=>cases m<;>cases hb
  | obj _=>cases m<;>cases hb
  | _=>rfl
 | n,m,.str x,b,_,hb=>by
  cases b with
  | str y=>simp only[toP,YF,eqD];exact str_beq x y
  | ty _=>cases m<;>cases hb
  | obj _=>cases m<;>cases hb
  | _=>rfl
 | n+1,m,.tup xs,b,ha,hb=>by
  cases b with
  | tup ys=>
   cases m with
   | zero=>cases hb
   | succ m=>simp only[toP,YF,eqD];exact rN n m xs ys ha hb
  | ty _=>cases m<;>cases hb
  | obj _=>cases m<;>cases hb
  | _=>rfl
 | n+1,m,.ls xs,b,ha,hb=>by
  cases b with
  | ls ys=>
   cases m with
   | zero=>cases hb
   | succ m=>simp only[toP,YF,eqD];exact rN n m xs ys ha hb
  | ty _=>cases m<;>cases hb
  | obj _=>cases m<;>cases hb
  | _=>rfl
 | 0,_,.tup ds,_,h,_=>by cases h
 | 0,_,.ls ds,_,h,_=>by cases h
 | n,_,.ty _,_,h,_=>by cases n<;>cases h
 | n,_,.obj _,_,h,_=>by cases n<;>cases h
theorem rN:∀ (n m:Nat) (a b:List D),ck n a=true->ck m b=true->zaS (mY a) (mY b)=jK a b
 | _,_,[],[],_,_=>rfl
 | _,_,[],_::_,_,_=>by simp[mY,zaS,jK]
 | _,_,_::_,[],_,_=>by simp[mY,zaS,jK]
 | n,m,a::r,b::s,ha,hb=>by
  have ha':okD n a=true/\ck n r=true:=by simpa[ck] using ha
  have hb':okD m b=true/\ck m s=true:=by simpa[ck] using hb
  show (YF (toP a) (toP b)&&zaS (mY r) (mY s))=(eqD a b&&jK r s)
  rw[qv n m a b ha'.1 hb'.1,rN n m r s ha'.2 hb'.2]
end
section
variable {X:Cx} {pins:List (Addr×Obj)} {σ:L2.St} {H:Hp} {s:Wh}
mutual
theorem eU (I:Inv X pins σ H s):∀ {n:Nat} {v:V} {d:D} {u:We},Dp X.K H v d->okD n d=true->RelV v u->∃ as,Reads s.heap u (toP d) as
 | n,_,_,u,.non,_,r=>by cases (show u=YD from r);exact ⟨_,.none⟩
 | n,_,_,u,.bl b,_,r=>by cases (show u=zcx b from r);exact ⟨_,.bool b⟩
 | n,_,_,u,.int i,_,r=>by obtain ⟨t,e⟩:=(show ∃ t,u=zas i t from r);subst e;exact ⟨_,.int i t⟩
 | n,_,_,u,.str x,_,r=>by obtain ⟨t,e⟩:=(show ∃ t,u=zb5 x t from r);subst e;exact ⟨_,.str x t⟩
 | n,_,_,u,.ty _,h,_=>by cases n<;>cases h
 | n+1,_,_,u,@Dp.tup _ _ a xs ds q l,h,r=>by
  cases (show u=W5 a from r)
  obtain ⟨its,rv,⟨o,e1,e2,k,e3⟩,_⟩:=I.tuple q
  obtain ⟨as,ra⟩:=kq I (n:=n) l h rv
  exact ⟨_,.tuple e1 e2 e3 (by simpa using ra)⟩
 | n+1,_,_,u,@Dp.ls _ _ a xs ds q l,h,r=>by
  cases (show u=W5 a from r)
  obtain ⟨its,rv,⟨o,k,e1,e2,_,e3⟩,_⟩:=I.list q.sq
  obtain ⟨as,ra⟩:=kq I (n:=n) l h rv
  exact ⟨_,.list e1 e2 e3 (by simpa using ra)⟩
 | 0,_,_,u,@Dp.tup _ _ a xs ds q l,h,r=>by cases h
 | 0,_,_,u,@Dp.ls _ _ a xs ds q l,h,r=>by cases h
 | n,_,_,u,.obj _,h,_=>by cases n<;>cases h
theorem kq (I:Inv X pins σ H s):∀ {n:Nat} {vs:List V} {ds:List D} {us:List We},DpL X.K H vs ds->ck n ds=true->Vals vs us->∃ as,ReadsAll s.heap us (mY ds) as
 | n,_,_,_,.nil,_,.nil=>⟨_,.nil⟩
 | n,_,_,_,@DpL.cons _ _ v d vs ds h l,ho,.cons r rs=>by
  have ho':okD n d=true/\ck n ds=true:=by simpa[ck] using ho
  obtain ⟨as,ra⟩:=eU I h ho'.1 r
  obtain ⟨bs,rb⟩:=kq I l ho'.2 rs
  exact ⟨_,.cons ra rb⟩
end
end
def Ml (K:Wa)(f:Bool->Bool):R2:=λx y H Q=>∃ dx dy,Dp K H x dx/\Dp K H y dy/\okD 40 dx=true/\okD 40 dy=true/\Q (.bl (f (eqD dx dy))) H
section
variable {X:Cx} {a b c e:WR} {Ta Tb Tc:ETr} {pos:Pos}
theorem HB (hu:X.A.units+64 < cLine):OpR X (Yy .Eq) (Ml X.K id):=λpins s σ H x y v u Q I rx ry ⟨dx,dy,px,py,ox,oy,q⟩=>by
 obtain ⟨as,ra⟩:=eU I px ox rx
 obtain ⟨bs,rb⟩:=eU I py oy ry
 obtain ⟨l1,d1⟩:=jl 40 dx ox
 obtain ⟨l2,d2⟩:=jl 40 dy oy
 exact SeqAt.compareEq_reads ra rb l1 l2 (by have:=zby (toP dx).depth (toP dy).depth;omega) ⟨.bl _,H,I,rfl,by rw[qv 40 40 dx dy ox oy];exact q⟩
theorem Rj (hu:X.A.units+64 < cLine):OpR X (Yy .NotEq) (Ml X.K not):=λpins s σ H x y v u Q I rx ry ⟨dx,dy,px,py,ox,oy,q⟩=>by
 obtain ⟨as,ra⟩:=eU I px ox rx
 obtain ⟨bs,rb⟩:=eU I py oy ry
 obtain ⟨l1,d1⟩:=jl 40 dx ox
 obtain ⟨l2,d2⟩:=jl 40 dy oy
 exact SeqAt.compareNe_reads ra rb l1 l2 (by have:=zby (toP dx).depth (toP dy).depth;omega) ⟨.bl _,H,I,rfl,by rw[qv 40 40 dx dy ox oy];exact q⟩
theorem Ha {K:Wa}:gI K (Ml K id) rEq:=λH μ x y dx dy Q Q' m px py h k=>⟨dx,dy,px,py,h.1.1,h.1.2,k _ H _ μ (.refl H) m (.bl _) h.2⟩
theorem QW {K:Wa}:gI K (Ml K not) rNe:=λH μ x y dx dy Q Q' m px py h k=>⟨dx,dy,px,py,h.1.1,h.1.2,k _ H _ μ (.refl H) m (.bl _) h.2⟩
theorem le_eq (hu:X.A.units+64 < cLine)(ha:LE X a Ta)(hb:LE X b Tb):LE X (.Compare a [.Eq] [b] pos) (aj rEq Ta Tb):=mw (HB hu) Ha ha hb (fF _)
theorem lt_eq (hu:X.A.units+64 < cLine)(ha:LE X a Ta)(hb:LE X b Tb):LT X (.Compare a [.Eq] [b] pos) (TB (aj rEq Ta Tb)):=fR (HB hu) Ha ha hb (fF _)
theorem vC (hu:X.A.units+64 < cLine)(ha:LE X a Ta)(hb:LE X b Tb):LT X (.Compare a [.NotEq] [b] pos) (TB (aj rNe Ta Tb)):=fR (Rj hu) QW ha hb (fF _)
theorem Qp {K:Wa}:gI K (λx y H Q=>y=.non/\Q (.bl (decide (x=.non))) H) rIs:=λH μ x y dx dy Q Q' m px py h k=>by
 cases py with
 | non=>
  refine ⟨rfl,?_⟩
  cases px with
  | non=>exact k _ H _ μ (.refl H) m (.bl _) h
  | _=>exact k _ H _ μ (.refl H) m (.bl _) h
 | _=>exact Wm h
theorem EC {K:Wa}:gI K (λx y H Q=>y=.non/\Q (.bl (!decide (x=.non))) H) ik:=λH μ x y dx dy Q Q' m px py h k=>by
 cases py with
 | non=>
  refine ⟨rfl,?_⟩
  cases px with
  | non=>exact k _ H _ μ (.refl H) m (.bl _) h
  | _=>exact k _ H _ μ (.refl H) m (.bl _) h
 | _=>exact Wm h
theorem tK (ha:LE X a Ta)(hb:LE X b Tb):LT X (.Compare a [.Is] [b] pos) (TB (aj rIs Ta Tb)):=fR Pk Qp ha hb (fF _)
theorem Ah (ha:LE X a Ta)(hb:LE X b Tb):LT X (.Compare a [.IsNot] [b] pos) (TB (aj ik Ta Tb)):=fR Np EC ha hb (fF _)
theorem KA {K:Wa}:Ut K (rU λi=>.int (-i)) Nw:=λH μ x dx Q Q' m px h k=>by
 cases px with
 | int i=>exact ⟨i,rfl,k _ H _ μ (.refl H) m (.int _) h⟩
 | _=>exact Wm h
theorem le_neg (ha:LE X a Ta):LE X (.UnaryOp .USub a pos) (TUn Nw Ta):=Tq RV KA ha
theorem lX {o:Option D}{f:D->Prop}(h:kO o f):∃ d,o=some d/\f d:=by
 cases o with
 | none=>exact Wm h
 | some d=>exact ⟨d,rfl,h⟩
theorem bT {μ:Mu}{a:Addr}{f:List D->Prop}(h:kL μ a f):∃ ds,μ a=some (.lst ds)/\f ds:=by
 unfold kL at h
 cases e:μ a with
 | none=>rw[e] at h;exact Wm h
 | some o=>cases o with
  | lst ds=>rw[e] at h;exact ⟨ds,rfl,h⟩
  | _=>rw[e] at h;exact Wm h
theorem sM {μ:Mu}{a:Addr}{f:List (Key×D)->Prop}(h:kD μ a f):∃ ds,μ a=some (.dct ds)/\f ds:=by
 unfold kD at h
 cases e:μ a with
 | none=>rw[e] at h;exact Wm h
 | some o=>cases o with
  | dct ds=>rw[e] at h;exact ⟨ds,rfl,h⟩
  | _=>rw[e] at h;exact Wm h
theorem CH {o:Option Nat}{f:Nat->Prop}(h:kN o f):∃ d,o=some d/\f d:=by
 cases o with
 | none=>exact Wm h
 | some d=>exact ⟨d,rfl,h⟩
theorem Qs {K:Wa}:gI K (L2.rIx K) L3.rIx:=λH μ x y dx dy Q Q' m px py h k=>by
 cases px with
 | @tup a xs ds q l=>
  cases py with
  | int i=>
   obtain ⟨d,e,h'⟩:=lX h
   obtain ⟨v,e1,p⟩:=l.at e
   exact .inr (.inl ⟨a,xs,i,v,rfl,rfl,q,e1,k _ H _ μ (.refl H) m p h'⟩)
  | _=>exact Wm h
 | @ls a xs ds q l=>
  cases py with
  | int i=>
   obtain ⟨d,e,h'⟩:=lX h
   obtain ⟨v,e1,p⟩:=l.at e
   exact .inl ⟨a,xs,i,v,rfl,rfl,q.sq,e1,k _ H _ μ (.refl H) m p h'⟩
  | _=>exact Wm h
 | obj a=>
  cases py with
  | int i=>
   obtain ⟨ds,e0,h1⟩:=bT h
   obtain ⟨d,e,h'⟩:=lX h1
   obtain ⟨xs,ex,l⟩:=m a _ e0
   obtain ⟨v,e1,p⟩:=l.at e
   exact .inl ⟨a,xs,i,v,rfl,rfl,SqL.of ex,e1,k _ H _ μ (.refl H) m p h'⟩
  | _=>exact Wm h
 | _=>cases py<;>exact Wm h
theorem ar (ha:LE X a Ta)(hb:LE X b Tb)(hs:DN b:=by intro _ _;rfl):LE X (.Subscript a b pos) (aj L3.rIx Ta Tb):=by
 obtain ⟨ta,pa,sa⟩:=ha.ex
 obtain ⟨tb,pb,sb⟩:=hb.ex
 exact ⟨_,Tx Rn pa pb hs,qu Qs sa sb⟩
variable {es:List WR} {At:ATr} {x:Str} {p:Pos} {id T:String}
def mh (K:Wa)(r:List V->Hp->VK->Prop)(R:FSp):Prop:=∀ H μ xs ds (Q:DK) (Q':VK),bQ K H μ->DpL K H xs ds->R ds μ Q->jL K H Q Q'->r xs H Q'
theorem uP {K:Wa}{r:List V->Hp->VK->Prop}{R:FSp}{ta:TA}(hr:mh K r R)(ha:TM K ta At):Sim K (tCB r ta) (au R At):=λσ H ρ μ Q Q' rl h k=>
 ha σ H ρ μ _ _ rl h λxs H1 ds μ1 t1 m1 p1 h1=>hr H1 μ1 xs ds Q Q' m1 p1 h1 (k.go t1)
theorem a6 {r:List V->Hp->VK->Prop}{R:FSp}(hc:cM X (.builtin id) r)(hr:mh X.K r R)(hg:Gl X x)(hm:X.mg x=none)(hv:Yi x=some (.builtin id))(ha:LA X (e::es) At)(hn:x ≠ "__name__" := by decide)(hdb:(x == ("__debug__" : Str))=false:=by decide)
  (h1:Ww (e::es) X.env=(false,Xw e X.env)::Ww es X.env:=by rfl) (h2:(XA pos (Ww es X.env)).any (·.1)=false:=by rfl):LE X (.Call (.Name x p) (e::es) [] pos) (au R At):=by
 obtain ⟨ta,pa,sa⟩:=ha.ex
 exact ⟨_,qE hc hg hm hv pa hn hdb h1 h2,uP hr sa⟩
theorem a7 {r:List V->Hp->VK->Prop}{R:FSp}(hc:cM X (.type T) r)(hr:mh X.K r R)(hg:Gl X x)(hm:X.mg x=none)(hv:Yi x=some (.type T))(ha:LA X (e::es) At)(hn:x ≠ "__name__" := by decide)(hdb:(x == ("__debug__" : Str))=false:=by decide)
  (h1:Ww (e::es) X.env=(false,Xw e X.env)::Ww es X.env:=by rfl) (h2:(XA pos (Ww es X.env)).any (·.1)=false:=by rfl):LE X (.Call (.Name x p) (e::es) [] pos) (au R At):=by
 obtain ⟨ta,pa,sa⟩:=ha.ex
 exact ⟨_,vx hc hg hm hv pa hn hdb h1 h2,uP hr sa⟩
theorem vY {K:Wa}:mh K (λxs H Q=>∃ i,xs=[.int i]/\Q (.int (if i < 0 then -i else i)) H) xr:=λH μ xs ds Q Q' m p h k=>by
 unfold xr at h
 split at h
 ·cases p with | cons p1 p2=>cases p2;cases p1;exact ⟨_,rfl,k _ H _ μ (.refl H) m (.int _) h⟩
 ·exact Wm h
theorem yF {K:Wa}:mh K (λxs H Q=>∃ i j,xs=[.int i,.int j]/\Q (.int (if j > i then j else i)) H) vA:=λH μ xs ds Q Q' m p h k=>by
 unfold vA at h
 split at h
 ·cases p with | cons p1 p2=>cases p2 with | cons p2 p3=>cases p3;cases p1;cases p2;exact ⟨_,_,rfl,k _ H _ μ (.refl H) m (.int _) h⟩
 ·exact Wm h
theorem F8 {K:Wa}:mh K (λxs H Q=>∃ i j,xs=[.int i,.int j]/\Q (.int (if j < i then j else i)) H) vm:=λH μ xs ds Q Q' m p h k=>by
 unfold vm at h
 split at h
 ·cases p with | cons p1 p2=>cases p2 with | cons p2 p3=>cases p3;cases p1;cases p2;exact ⟨_,_,rfl,k _ H _ μ (.refl H) m (.int _) h⟩
 ·exact Wm h
theorem Df {K:Wa}:mh K (λxs H Q=>(∃ i,xs=[.int i]/\Q (.int i) H)∨∃ k,xs=[.bl k]/\Q (.int (if k then 1 else 0)) H) yJ:=λH μ xs ds Q Q' m p h k=>by
 unfold yJ at h
 split at h
 ·cases p with | cons p1 p2=>cases p2;cases p1;exact .inl ⟨_,rfl,k _ H _ μ (.refl H) m (.int _) h⟩
 ·cases p with | cons p1 p2=>cases p2;cases p1;exact .inr ⟨_,rfl,k _ H _ μ (.refl H) m (.int _) h⟩
 ·exact Wm h
theorem cM.or {f:We}{r r':List V->Hp->VK->Prop}(h:cM X f r)(h':cM X f r'):cM X f (λxs H Q=>r xs H Q∨r' xs H Q):=λpins s σ H xs us Q I rx q=>by
 rcases q with q | q
 ·exact h pins s σ H xs us Q I rx q
 ·exact h' pins s σ H xs us Q I rx q
theorem bH {K:Wa}:mh K (λxs H Q=>(∃ p ys,xs=[.ref p]/\(SqL K H p ys∨SqT K H p ys)/\Q (.int ys.length) H)∨∃ z,xs=[.str z]/\z.length<=sizeLine/\Q (.int z.length) H) dB:=λH μ xs ds Q Q' m p h k=>by
 unfold dB at h
 split at h
 ·cases p with | cons p1 p2=>cases p2;cases p1 with | tup q l=>exact .inl ⟨_,_,rfl,.inr q,k _ H _ μ (.refl H) m (by rw[l.length];exact .int _) h⟩
 ·cases p with | cons p1 p2=>cases p2;cases p1 with | ls q l=>exact .inl ⟨_,_,rfl,.inl q.sq,k _ H _ μ (.refl H) m (by rw[l.length];exact .int _) h⟩
 ·cases p with | cons p1 p2=>cases p2;cases p1;exact .inr ⟨_,rfl,big h.1,k _ H _ μ (.refl H) m (.int _) h.2⟩
 ·rename_i a
  cases p with | cons p1 p2=>
  cases p2;cases p1
  obtain ⟨ys,e0,h⟩:=bT h
  obtain ⟨xs,ex,l⟩:=m a _ e0
  exact .inl ⟨_,_,rfl,.inl (SqL.of ex),k _ H _ μ (.refl H) m (by rw[l.length];exact .int _) h⟩
 ·exact Wm h
theorem ba:cM X (.builtin "len") (λxs H Q=>(∃ p ys,xs=[.ref p]/\(SqL X.K H p ys∨SqT X.K H p ys)/\Q (.int ys.length) H)∨∃ z,xs=[.str z]/\z.length<=sizeLine/\Q (.int z.length) H):=cM.or vL wD
end
end
section
open PySem PySem.Spec PyProof.Rows L2
section
variable {X:Cx} {a b c e tg o:WR} {Ta Tb Tc:ETr} {pos:Pos} {es:List WR} {At:ATr} {x:Str} {p:Pos} {id T:String} {st:Stmt} {rest:List Stmt} {T1 T2:STr} {tA:TTr}
theorem aU:LSs X [] a8:=⟨_,MT,λσ H ρ μ E E' rl h k=>k.nx _ _ _ _ (.refl H) rl h⟩
theorem ak (h1:LS X st T1)(h2:LSs X rest T2):LSs X (st::rest) (aB T1 T2):=by
 obtain ⟨t1,p1,s1⟩:=h1.ex
 obtain ⟨t2,p2,s2⟩:=h2.ex
 exact ⟨_,HF p1 p2,λσ H ρ μ E E' rl h k=>s1 σ H ρ μ _ _ rl h ⟨λσ' H' ρ' μ' t' r' q=>s2 σ' H' ρ' μ' E E' r' q (k.go t'),k.rt,k.bk,k.ct⟩⟩
theorem av (h1:LS X st T1):LSs X [st] T1:=by
 obtain ⟨t1,p1,s1⟩:=h1.ex
 exact ⟨_,Ld p1,s1⟩
theorem eB (he:LE X e Ta)(hs:YJ e none pos.line X.env=pure false:=by rfl):LS X (.Expr e pos) (fv Ta):=by
 obtain ⟨ta,pa,sa⟩:=he.ex
 exact ⟨_,NM pa hs,λσ H ρ μ E E' rl h k=>sa σ H ρ μ _ _ rl h λv H' d μ' t' m' p' h'=>k.nx _ _ _ _ t' (rl.go t' m') h'⟩
theorem aD (he:LE X e Ta):LS X (.Return (some e) pos) (aW Ta):=by
 obtain ⟨ta,pa,sa⟩:=he.ex
 exact ⟨_,Q6 pa,λσ H ρ μ E E' rl h k=>sa σ H ρ μ _ _ rl h k.rt⟩
theorem bu {sa sb:List Stmt}(hc:LT X c tA)(ha:LSs X sa T1)(hb:LSs X sb T2):LS X (.If c sa sb pos) (bI tA T1 T2):=by
 obtain ⟨tc,pc,sc⟩:=hc.ex
 obtain ⟨t1,p1,s1⟩:=ha.ex
 obtain ⟨t2,p2,s2⟩:=hb.ex
 refine ⟨_,Ud pc p1 p2,λσ H ρ μ E E' rl h k=>sc σ H ρ μ _ _ rl h λq H1 μ1 t1' m1 h1=>?_⟩
 cases q with
 | true=>exact qS (s1 σ H1 ρ μ1 E E' (rl.go t1' m1) h1 (k.go t1'))
 | false=>exact rE (s2 σ H1 ρ μ1 E E' (rl.go t1' m1) h1 (k.go t1'))
theorem iI {K:Wa}(i:Nat):OY K (nj i) (aA i):=λσ H ρ μ v d k k' rl p h q=>q _ _ _ _ (.refl H) (rl.set p i) h
theorem i8 (i:Nat)(hN:X.N.Nodup)(hi:X.N[i]? = some x:=by rfl)(hx:Loc X.env.scope x:=by first | exact ZM rfl | exact ZN rfl)(hf:X.fn x=true∨X.env.scope.names.lookup x=some .local:=by first | exact .inl rfl | exact .inr rfl | assumption):LG X (.Name x pos) (aA i):=
 ⟨_,ji hN hi hx hf,iI i⟩
theorem aF (i:Nat){pos':Pos}(hN:X.N.Nodup)(he:LE X e Ta)(hi:X.N[i]? = some x:=by rfl)(hx:Loc X.env.scope x:=by first | exact ZM rfl | exact ZN rfl)(hs:YJ e (some (.Name x pos')) pos.line X.env=pure false:=by rfl)
  (hf:X.fn x=true∨X.env.scope.names.lookup x=some .local:=by first | exact .inl rfl | exact .inr rfl | assumption):LS X (.Assign [.Name x pos'] e pos) (aO Ta (aA i)):=by
 obtain ⟨ta,pa,sa⟩:=he.ex
 exact ⟨_,PZ hN hi hx pa hs hf,λσ H ρ μ E E' rl h k=>sa σ H ρ μ _ _ rl h λv H' d μ' t' m' p' h'=>iI i σ H' ρ μ' v d _ _ (rl.go t' m') p' h' (k.go t').nx⟩
theorem vZ (i j:Nat){y:Str}{px py pt:Pos}{kt k2 pt2}(hc:X.calm=true)(hN:X.N.Nodup)(ha:LA X [a,b] At)(hi:X.N[i]? = some x:=by rfl)(hj:X.N[j]? = some y:=by rfl)(hij:i≠j:=by decide)
  (hx:X.env.scope.names.lookup x=some .local:=by rfl) (hy:X.env.scope.names.lookup y=some .local:=by rfl)
  (hw:zaO [.Tuple [.Name x px,.Name y py] kt pt] (.Tuple [a,b] k2 pt2) X.env=pure (some [x,y]):=by rfl)
  (hs:zaN [.Tuple [.Name x px,.Name y py] kt pt] (.Tuple [a,b] k2 pt2) pos.line X.env=pure false:=by rfl) :
  LS X (.Assign [.Tuple [.Name x px,.Name y py] kt pt] (.Tuple [a,b] k2 pt2) pos) (qB i j At):=by
 obtain ⟨ta,pa,sa⟩:=ha.ex
 refine ⟨_,Q9 hc hN hi hj hij hx hy pa hw hs,λσ H ρ μ E E' rl h k=>sa σ H ρ μ _ _ rl h λvs H' ds μ' t' m' p' h'=>?_⟩
 unfold L3.k2 at h'
 split at h'
 ·rename_i dv dw
  cases p' with | cons p1 p2=>cases p2 with | cons p2 p3=>
  cases p3
  exact ⟨_,_,rfl,k.nx _ _ _ _ t' (((rl.go t' m').set p1 i).set p2 j) h'⟩
 ·exact Wm h'
theorem sv {body:List Stmt}(hp:zc7 (WM X.prog X.w) X.A X.env X.xe)(hc:LT X c tA)(hb:LSs X body T1):LS X (.While c body [] pos) (wU tA T1):=by
 obtain ⟨tc,pc,sc⟩:=hc.ex
 obtain ⟨t1,p1,s1⟩:=hb.ex
 refine ⟨_,GF hp pc p1,λσ H ρ μ E E' rl h k=>?_⟩
 obtain ⟨P,m,h0,hs⟩:=h
 refine ⟨λn σ' H'=>∃ ρ' μ',Tk H H'/\Rl X.K σ' H' ρ' μ'/\P ρ' μ'/\n=m ρ' μ',⟨_,ρ,μ,.refl H,rl,h0,rfl⟩,?_⟩
 rintro n σ1 H1 ⟨ρ1,μ1,t1',rl1,hP,rfl⟩
 refine sc σ1 H1 ρ1 μ1 _ _ rl1 (hs ρ1 μ1 hP) λq H2 μ2 t2 m2 h2=>?_
 have t12:=t1'.trans t2
 cases q with
 | true=>
  refine qS ⟨λσ' H'=>∃ ρ' μ',Tk H H'/\Rl X.K σ' H' ρ' μ'/\P ρ' μ'/\m ρ' μ' < m ρ1 μ1,λσ' H' ⟨ρ',μ',a1,a2,a3,a4⟩=>⟨_,a4,ρ',μ',a1,a2,a3,rfl⟩,?_⟩
  have h2':=h2
  refine s1 σ1 H2 ρ1 μ2 _ _ (rl1.go t2 m2) h2' ⟨λσ' H' ρ' μ' t' r' q=>⟨ρ',μ',t12.trans t',r',q.1,q.2⟩,(k.go t12).rt,(k.go t12).nx,λσ' H' ρ' μ' t' r' q=>⟨ρ',μ',t12.trans t',r',q.1,q.2⟩⟩
 | false=>exact rE (k.nx _ _ _ _ t12 (rl1.go t2 m2) h2)
theorem oT (lo:Int)(n:Nat):cG lo (n+1)=.int lo::cG (lo+1) n:=by
 unfold cG
 rw[ZO]
 rw[Wr,Wq]
 congr 1
 ·simp
 ·refine WT λi _=>?_
  show D.int _=D.int _
  congr 1
  show lo+((i+1:Nat):Int)=lo+1+(i:Int)
  omega
end
def lift (K:Wa)(sp:FSp):Sp:=λvs H Q _=>∃ ds μ QQ,DpL K H vs ds/\bQ K H μ/\sp ds μ QQ/\jL K H QQ Q
def RT (Q:DK):DK:=λd μ'=>∃ μ,Sub μ μ'/\Q d μ
def ini (n:Nat)(ds:List D):ST:=ds.map some++X0 (n - ds.length) none
theorem Rz:∀ (ds:List D) (n i:Nat) (d:D),lk (ini n ds) i=some d->ds[i]? = some d:=by
 intro ds
 have rep:∀ m i (d:D),lk (X0 m none) i=some d->False:=by
  intro m
  induction m with
  | zero=>intro i d h;cases i<;>cases h
  | succ m ih=>intro i d h;cases i with
   | zero=>cases h
   | succ i=>exact ih i d h
 have gen:∀ (ds:List D) m i d,lk (ds.map some++X0 m none) i=some d->ds[i]? = some d:=by
  intro ds
  induction ds with
  | nil=>intro m i d h;exact (rep m i d h).elim
  | cons x r ih=>intro m i d h;cases i with
   | zero=>simpa[lk] using h
   | succ i=>simpa using ih m i d h
 exact λn i d h=>gen ds _ i d h
section
variable {P:WX} {w:Xb} {K:Wa} {mg:Str->Option We} {base:Heap}
theorem N6 {x qual:Str}{st:Stmt}{f:Addr}{fd:WH}{N ps:List Str}{k:Nat}{sp:FSp}{T:STr}(F:Fun K x qual st f fd)(S:aI N ps (ax st))(len:∀ ds μ Q,sp ds μ Q->ds.length=ps.length)
  (hb:∀ (cdv:We) (A:Xn) (outer:List Env) (s:Wh) (H:Hp) (E:XK),gG k (A.deeper (zaw qual (ax st) s.heap.objs.size f cdv))->
   LSs (Ar CX0 P w K mg base N qual (ax st) f cdv A outer s H E).nox (g9 st) T)
  (hr:∀ ds μ Q,sp ds μ Q->T { nx:=λ_ μ'=>RT Q .non μ',rt:=RT Q } (ini N.length ds) μ):l5 P w K mg base CX0 (k+1) f fd ps (lift K sp):=by
 refine F.ok S (λvs H Q E h=>?_) (λcdv A outer s H vs Q E hroom h=>?_)
 ·obtain ⟨ds,μ,QQ,l,m,h1,k⟩:=h
  rw[l.length];exact len ds μ QQ h1
 ·obtain ⟨ds,μ,QQ,l,m,h1,k⟩:=h
  obtain ⟨t,pt,stt⟩:=(hb cdv A outer s H E hroom).ex
  have hl:vs.length=ds.length:=l.length
  refine ⟨t,pt,stt (L2.start N vs) H (ini N.length ds) μ _ _ ⟨?_,λi d e=>?_,m⟩ (hr ds μ QQ h1) ⟨λσ' H' ρ' μ' t' r' q=>?_,λv H' d μ' t' m' p' q=>?_,λ_ _ _ _ _ _ q=>q,λ_ _ _ _ _ _ q=>q⟩⟩
  ·unfold ini L2.start;simp[hl]
  ·have e':=Rz ds _ i d e
   obtain ⟨v,e1,p⟩:=l.get e'
   refine ⟨v,?_,p⟩
   unfold L2.start
   have hi:i < vs.length:=(WL.mp e1).1
   rw[XC (by simpa using hi),Xh,e1]
   rfl
  ·obtain ⟨μ2,s2,q2⟩:=q
   exact k _ _ _ μ2 t' (r'.mu.sub s2) .non q2
  ·obtain ⟨μ2,s2,q2⟩:=q
   exact k _ _ _ μ2 t' (m'.sub s2) p' q2
end
section
variable {X:Cx} {k:Nat} {f:Addr} {fd:WH} {ps:List Str} {sp:FSp} {x:Str} {p pos:Pos} {e:WR} {es:List WR} {At:ATr}
theorem MN (F:l5 X.prog X.w X.K X.mg X.base CX0 k f fd ps (lift X.K sp))(hr:gG k X.A)(hg:Gl X x)(hm:X.mg x=some (.ref f))(hk:ZJ X.K (.ref f)=true)(hb:Binds X.K fd ps [])
  (ha:LA X (e::es) At) (hdb:(x == ("__debug__" : Str))=false:=by decide) (he:Ww (e::es) X.env=(false,Xw e X.env)::Ww es X.env:=by rfl) (hpl:(XA pos (Ww es X.env)).any (·.1)=false:=by rfl) :
  LE X (.Call (.Name x p) (e::es) [] pos) (au sp At):=by
 obtain ⟨ta,pa,sa⟩:=ha.ex
 refine ⟨_,K0 F hr hg hm hk hb .nil Su pa hdb he hpl,λσ H ρ μ Q Q' rl h k=>sa σ H ρ μ _ _ rl h λxs H1 ds μ1 t1 m1 p1 h1=>?_⟩
 rw[WS]
 exact ⟨ds,μ1,Q,p1,m1,h1,k.go t1⟩
end
end
section
open PySem PySem.Spec PyProof.Rows L2
theorem DpL.ints {K:Wa}{H:Hp}:∀ ns:List Int,DpL K H (ns.map V.int) (ns.map D.int)
 | []=>.nil
 | n::r=>.cons (.int n) (DpL.ints r)
theorem SqF.only {K:Wa}{H:Hp}{a:Addr}{xs:List V}(hO:LZ H)(h:SqL K H a xs):SqF K H a xs:=by
 rcases h with (h | h) | h
 ·rcases hO a with z | ⟨o,ys,z⟩
  ·rw[h] at z;cases z
  ·rw[h] at z;cases z
 ·exact .inl h
 ·exact .inr h
theorem SR {l:zbx}{k:Nat}{q:WX}{loose:List Str}{XP:(Str->Option We)->Heap->Prop}{YP:Xb->Heap->Prop}{d:DefRec}{K:Params->Wa}{sp:FSp}{x:Str}
  (hn:l.most=some 63) (hdf:d.params.defaults=[]) (hr:gG k zbo) (hY:∀ (w:Xb) (h:Heap),YP w h->(K w.params).In h)
  (hl:∀ ns:List Int,ns.length<=63->∀ μ,sp [.ls (ns.map .int)] μ (λd _=>d=.bl true))
  (F:∀ (w:Xb) (mg:Str->Option We) (fa:Addr) (h:Heap),(K w.params).In h->h.Ns XT mg->mg d.name=some (.ref fa)->
   ∃ fd:WH,(∀ (s:Wh) (u:We),zcN s fd ⟨[u],[]⟩ [(x,u)])/\∀ base:Heap,(K w.params).In base->base.Ns XT mg->l5 l.prog w (K w.params) mg base CX0 k fa fd [x] (lift (K w.params) sp)) :
  zdU q loose XP YP l.row.toRowW d [] (λf vs=>zdH f vs):=
 L2.Ly (n:=63) (k:=k) (x:=x) (CX:=λ_=>CX0) (sp:=λw=>lift (K w.params) sp) hn (by decide) hdf hr hY F
  (λw H a ns hl' hO hS=>⟨[.ls (ns.map .int)],λ_=>none,_,.cons (.ls (.only hO hS) (.ints ns)) .nil,(λa o e=>by cases e),hl ns hl' _,λv H' d μ' _ _ p e=>by
   have e':d=.bl true:=e
   subst e'
   cases p;rfl⟩) λ_ _ _ _ _ z=>z
end
section
open PySem PySem.Spec PyProof.Rows L2
def scB (N P:List Str)(sc:Scope):Bool:=decide N.Nodup&&decide (∀ x∈P,sc.names.lookup x=some .local∨sc.names.lookup x=some .cell)&&decide (∀ y∈sc.names,y.2≠.free)
theorem UA {N P:List Str}{sc:Scope}(h1:sc.kind=.function)(h2:sc.isCoroutine=false)(h3:sc.isGenerator=false)(h4:N.take P.length=P)(h:scB N P sc=true):aI N P sc:=by
 unfold scB at h
 rw[Xd,Xd] at h
 exact ⟨h1,h2,h3,of_decide_eq_true h.1.1,h4,of_decide_eq_true h.1.2,of_decide_eq_true h.2⟩
structure aS (P:WX) (w:Xb) (K:Wa) (mg:Str->Option We) (base:Heap) (k:Nat) (x:Str) (ps:List Str) (sp:FSp):Prop where
 ex:∃ f fd,l5 P w K mg base CX0 k f fd ps (lift K sp)/\mg x=some (.ref f)/\ZJ K (.ref f)=true/\Binds K fd ps []
section
variable {P:WX} {w:Xb} {K:Wa} {mg:Str->Option We} {base:Heap}
theorem aL {x qual:Str}{st:Stmt}{f:Addr}{fd:WH}{N ps:List Str}{k:Nat}{sp:FSp}{T:STr}(m:mg x=some (.ref f))(F:Fun K x qual st f fd)(S:aI N ps (ax st))(len:∀ ds μ Q,sp ds μ Q->ds.length=ps.length)
  (hr:∀ ds μ Q,sp ds μ Q->T { nx:=λ_ μ'=>RT Q .non μ',rt:=RT Q } (ini N.length ds) μ)
  (b:∀ (kV doc pm:We) (an:Option Addr) (cdv ct:We) (us:List We),us.length=ps.length->bindArgs (Zd x qual (ng st) (g9 st) (ax st) .none kV doc pm an cdv ct) ⟨us,[]⟩=pure (ps.zip us))
  (hb:∀ (cdv:We) (A:Xn) (outer:List Env) (s:Wh) (H:Hp) (E:XK),gG k (A.deeper (zaw qual (ax st) s.heap.objs.size f cdv))->(A.deeper (zaw qual (ax st) s.heap.objs.size f cdv)).units+64 < cLine->
   LSs (Ar CX0 P w K mg base N qual (ax st) f cdv A outer s H E).nox (g9 st) T):aS P w K mg base (k+1) x ps sp:=
 ⟨f,fd,N6 F S len (λcdv A outer s H E h=>hb cdv A outer s H E h h.units) hr,m,F.kp,F.binds b⟩
end
theorem ao {X:Cx}{k n:Nat}{x:Str}{ps:List Str}{sp:FSp}{e:WR}{es:List WR}{At:ATr}{p pos:Pos}(C:aS X.prog X.w X.K X.mg X.base k x ps sp)(hr:gG n X.A)(hg:Gl X x)
  (ha:LA X (e::es) At) (hle:k<=n:=by decide) (hdb:(x == ("__debug__" : Str))=false:=by decide) (he:Ww (e::es) X.env=(false,Xw e X.env)::Ww es X.env:=by rfl) (hpl:(XA pos (Ww es X.env)).any (·.1)=false:=by rfl) :
  LE X (.Call (.Name x p) (e::es) [] pos) (au sp At):=by
 obtain ⟨f,fd,F,m,kp,b⟩:=C.ex
 exact MN F (hr.mono hle) hg m kp b ha hdb he hpl
end
section
open PySem PySem.Spec PyProof.Rows L2
def bh (X:Cx)(scope:Scope)(Nc:List Str)(cl:List (Str×Addr))(C:Addr)(s₀:Wh)(H₀:Hp)(ex:List Addr):Cx:=
 { X with env:=zdJ scope cl C X.env,N:=Nc,s₀:=s₀,H₀:=H₀,outer:=X.stack,ex:=ex,fn:=λ_=>false,pn:=[] }
theorem CU {scope:Scope}{env:Env}(h:∀ y∈scope.names,y.2=.free->∃ c,env.cells.lookup y.1=some c) :
  ∃ cl,closureFor scope env=pure cl/\(∀ x c,cl.lookup x=some c->env.cells.lookup x=some c)/\∀ y∈scope.names,y.2=.free->∃ c,cl.lookup y.1=some c:=by
 have gen:∀ (ns:List (Str×Z5)) (cs:List (Str×Addr)),(∀ y∈ns,y.2=.free->∃ c,env.cells.lookup y.1=some c)->(∀ x c,cs.lookup x=some c->env.cells.lookup x=some c)->
   ∃ cl,(forIn ns cs λx r=>if (x.2 == Yc)=true then do let c ← cellOf env x.1;pure (Yf ((x.1,c)::r)) else pure (Yf r):Sem _)=pure cl/\(∀ x c,cl.lookup x=some c->env.cells.lookup x=some c)/\
    (∀ x,(cs.lookup x).isSome=true->(cl.lookup x).isSome=true)/\∀ y∈ns,y.2=.free->∃ c,cl.lookup y.1=some c:=by
  intro ns
  induction ns with
  | nil=>intro cs _ h2;exact ⟨cs,rfl,h2,λ_ z=>z,λ_ z=>nomatch z⟩
  | cons y r ih=>
   intro cs h1 h2
   obtain ⟨n,k⟩:=y
   by_cases hk:k=.free
   ·subst hk
    obtain ⟨c,hc⟩:=h1 (n,.free) Wu rfl
    have h2':∀ x c',((n,c)::cs).lookup x=some c'->env.cells.lookup x=some c':=λx c' e=>by
     rw[X7] at e
     split at e
     ·rename_i hx
      cases e
      have:x=n:=by simpa using hx
      subst this;exact hc
     ·exact h2 x c' e
    obtain ⟨cl,e1,e2,e3,e4⟩:=ih ((n,c)::cs) (λy hy=>h1 y (WD _ hy)) h2'
    refine ⟨cl,?_,e2,λx hx=>e3 x ?_,λy hy hf=>?_⟩
    ·rw[zah]
     have:cellOf env n=pure c:=by unfold cellOf;rw[hc]
     simp only[beq_self_eq_true,if_true,this,pure_bind]
     exact e1
    ·rw[X7];split
     ·rfl
     ·exact hx
    ·obtain rfl | hy:=Wx.mp hy
     ·have:(cl.lookup n).isSome=true:=e3 n (by simp[X7])
      exact zaR.mp this
     ·exact e4 y hy hf
   ·obtain ⟨cl,e1,e2,e3,e4⟩:=ih cs (λy hy=>h1 y (WD _ hy)) h2
    refine ⟨cl,?_,e2,e3,λy hy hf=>?_⟩
    ·rw[zah]
     have:(k == Yc)=false:=by simpa using hk
     simp only[this,Zv,if_false,pure_bind]
     exact e1
    ·obtain rfl | hy:=Wx.mp hy
     ·exact absurd hf hk
     ·exact e4 y hy hf
 obtain ⟨cl,e1,e2,_,e4⟩:=gen scope.names [] h λx c e=>by cases e
 refine ⟨cl,?_,e2,e4⟩
 show ((forIn scope.names ([]:List (Str×Addr)) λx r=>if (x.2 == Yc)=true then do let c ← cellOf env x.1;pure (Yf ((x.1,c)::r)) else pure (Yf r):Sem _) >>= λs=>pure s)=pure cl
 rw[e1]
 rfl
def xt (Y:Cx)(ifs:List WR)(t:TT):Prop:=
 ∀ (pins:List (Addr×Obj)) (s:Wh) (σ:L2.St) (H:Hp) (Q:Bool->Hp->Prop),Inv Y pins σ H s->t σ H Q->
  WJ (WM Y.prog Y.w) Y.A (forIn ifs true λc r=>if r=true then do let ok ← isTrue c Y.env (Xw c Y.env);pure (Yf ok) else pure (Yf r)) (TP Y pins σ Q) Y.xe s
def VR:TT:=λ_ H Q=>Q true H
theorem Mn {Y:Cx}:xt Y [] VR:=λpins s σ H Q I h=>wpAny_tests_nil ⟨H,I,h⟩
theorem M6 {Y:Cx}{c:WR}{t:TT}(h:PT Y c t):xt Y [c] t:=λpins s σ H Q I hh=>wpAny_tests_one (h pins s σ H Q I hh)
def lC (σ:L2.St)(n:Nat)(caps:List Nat):L2.St:=X0 n none++caps.map λi=>(σ[i]?).join
def Wk (σ' σ:L2.St):Prop:=σ'.length=σ.length/\∀ (i:Nat) v,σ'[i]? = some (some v)->σ[i]? = some (some v)
def lE (wi:TI)(g:TG)(tt:TT)(te:TE)(n:Nat)(caps:List Nat):TE:=λσ H Q=>wi σ H λJ H1=>∀ D,H1 D=none->
 ∃ W:Nat->Nat->List V->Hp->Prop,(∃ m,W 0 m [] (L2.upd H1 D (.lst [])))/\∀ i m ys H2,W i m ys H2->
  (J.stop i H2/\Q (.ref D) H2)∨(J.go i H2/\∃ N:List V->Hp->Prop,(∀ ys' H',N ys' H'->∃ m',m' < m/\W (i+1) m' ys' H')/\
   ∀ x H3,J.yld i H2 x H3->g x (lC σ n caps) H3 λσ4 H4=>Wk (lC σ n caps) σ4/\tt σ4 H4 λb H5=>if b=true then te σ4 H5 λy H6=>∃ zs,H6 D=some (.lst zs)/\zs.length < sizeLine/\N (zs++[y]) (L2.upd H6 D (.lst (zs++[y]))) else N ys H5)
theorem Fi {prog:WX}{w:Xb}{A:Xn}{R:zc9->Wh->Prop}{s:Wh}{elt target iter:WR}{ifs:List WR}{scope:Scope}{pos:Pos}{it acc:We}{env:Env}(J:Nat->Wh->Prop)
  (turn:∀ n s,J n s->WJ (WM prog w) A (Zs it) (λo t₁=>match o with
   | none=>R (.ok .next) t₁
   | some v=>WJ (WM prog w) A (zaf target it v) (λ_ t₁=>WJ (WM prog w) A (zbL target env v) (λ_ t₂=>
     WJ (WM prog w) A (forIn ifs true λc r=>
      if r=true then do let ok ← isTrue c env (Xw c env);pure (Yf ok) else pure (Yf r)) (λok t₃=>
      if ok=true then WJ (WM prog w) A (Xw elt env) (λx t₄=>
       WJ (WM prog w) A (zcb (.builtin "list.append") [acc,x]) (λ_ t₅=>∃ m,m < n/\J m t₅) (λ_ _=>False) t₄) (λ_ _=>False) t₃
      else ∃ m,m < n/\J m t₃) (λ_ _=>False) t₂) (λ_ _=>False) t₁) (λ_ _=>False) t₁) (λ_ _=>False) s)
  (n:Nat) (h:J n s):Y1 (WM prog w) A (.compLoop (.ListComp elt [⟨target,iter,ifs,0⟩] scope pos) 0 it acc env) R s:=by
 refine codeAny_loop rfl J (λn s hJ=>?_) n h
 show WJ _ A ((compTurn (.ListComp elt [⟨target,iter,ifs,0⟩] scope pos) 0 it acc env).onRaise
  (λx=>do noteFrame x env;theTreesLotGoes x)) _ _ s
 refine wpAny_noted ?_
 rw[compTurn_list]
 refine Wb (zaP (Wb (Xu (turn n s hJ) (λr t₁ g₁=>?_) λ_ _ h'=>h'.elim)))
 cases r with
 | none=>exact Wn g₁
 | some v=>
  refine Wb (Xu g₁ (λ_ t₁' g₁'=>?_) λ_ _ h'=>h'.elim)
  refine Wb (Xu g₁' (λ_ t₂ g₂=>Wb (Xu g₂ (λok t₃ g₃=>?_) λ_ _ h'=>h'.elim)) λ_ _ h'=>h'.elim)
  cases ok with
  | false=>exact Wn ⟨rfl,g₃⟩
  | true=>
   exact Wb (Wb (Xu g₃ (λx t₄ g₄=>Wb (Xu g₄ (λ_ t₅ g₅=>Wn (Wn ⟨rfl,g₅⟩)) λ_ _ h'=>h'.elim)) λ_ _ h'=>h'.elim))
theorem kJ {σ:L2.St}{n:Nat}{caps:List Nat}{i:Nat}{v:V}(h:(lC σ n caps)[i]? = some (some v)):∃ j k,i=n+j/\caps[j]? = some k/\σ[k]? = some (some v):=by
 unfold lC at h
 by_cases hi:i < n
 ·rw[XC (by simpa using hi),zaZ,if_pos hi] at h
  cases h
 ·rw[Yp (by simpa using hi)] at h
  rw[ZT,Xh] at h
  cases e:caps[i - n]? with
  | none=>rw[e] at h;cases h
  | some k=>
   rw[e] at h
   have h':(σ[k]?).join=some v:=W4 h
   cases e2:σ[k]? with
   | none=>rw[e2] at h';cases h'
   | some o=>
    rw[e2] at h'
    have h'':o=some v:=h'
    subst h''
    exact ⟨i - n,k,by omega,e,e2⟩
theorem fI {env:Env}(hk:env.scope.kind=.function):∀ {names:List (Str×Z5)} {x:Str},env.kindOf x=some .cell->names.lookup x=some .free->
  (names.map λ(n,k)=>if (k == Yc&&env.scope.kind == .function&&env.kindOf n == some .cell) then (n,zck) else (n,k)).lookup x=some .cell
 | [],_,_,h=>by simp at h
 | (n,k)::r,x,hc,h=>by
  have ih:=@fI env hk r x hc
  show List.lookup x ((if (k == Yc&&env.scope.kind == .function&&env.kindOf n == some .cell)=true
   then (n,zck) else (n,k))::_)=_
  cases hx:x == n with
  | true=>
   simp only[hx,X7] at h
   cases h
   have e:x=n:=by simpa using hx
   subst e
   simp[X7,hk,hc]
  | false=>
   simp only[hx,X7] at h
   by_cases hcc:(k == Yc&&env.scope.kind == .function&&env.kindOf n == some .cell)=true
   ·rw[if_pos hcc];simp only[X7,hx];exact ih h
   ·rw[if_neg hcc];simp only[X7,hx];exact ih h
theorem oY {env:Env}:∀ {names:List (Str×Z5)} {x:Str} {k':Z5},(∀ y∈names,y.2≠.cell)->(k'=.cell∨k'=.free)->
  (x,k')∈(names.map λ(n,k)=>if (k == Yc&&env.scope.kind == .function&&env.kindOf n == some .cell) then (n,zck) else (n,k))->(x,Yc)∈names:=by
 intro names x k' hn hk h
 obtain ⟨⟨n,k⟩,hm,e⟩:=Wg.mp h
 dsimp only at e
 split at e
 ·rename_i hc
  cases e
  have:k=.free:=by simp at hc;exact hc.1.1
  subst this;exact hm
 ·cases e
  rcases hk with rfl | rfl
  ·exact absurd rfl (hn _ hm)
  ·exact hm
theorem JD {X:Cx}{pins:List (Addr×Obj)}{σ:L2.St}{H H5:Hp}{s:Wh}{C:Addr}{h':Heap}(I:Inv X pins σ H s)(f0:H C=none)(fC:rW X pins H5 C)(hs:Zb C s.heap h'):Inv X pins σ H { s with heap:=h' }:=by
 have keep:∀ b o',b≠C->s.heap.get? b=some o'->h'.get? b=some o':=λb o' hb e'=>(hs.2 b hb).trans e'
 refine I.OQ (ch:=[C]) (s':={ s with heap:=h' }) rfl ⟨λb o' e' _ _ nx=>keep b o' (λz=>nx (by rw[z];exact Wu)) e',λb o' e' _ _ nx=>⟨o'.slots,keep b o' (λz=>nx (by rw[z];exact Wu)) e'⟩,λb o' _ w _=>w,λb o' e' nx=>⟨o',keep b o' (λz=>nx (by rw[z];exact Wu)) e'⟩,λb ys e'=>e',λb o' u e'=>e',λb ps e'=>⟨#[],by simpa using e'⟩⟩ (λb u e'=>?_) I.bare λb hb=>?_
 ·refine (I.hok b u e').lD (λc w' hc q=>keep c w' ?_ q) (λ_ q=>q) λ_ _ q=>q
  rintro rfl
  rcases hc with z | z
  ·rw[← z,f0] at e';cases e'
  ·rw[f0] at z;cases z
 ·cases XS.mp hb
  exact ⟨fC.2.2.2.1,fC.2.1,fC.2.2.2.2.1,fC.2.2.2.2.2⟩
theorem zV {X:Cx}{tg iter elt:WR}{ifs:List WR}{scope:Scope}{pos:Pos}{wi:TI}{g:TG}{tt:TT}{te:TE}{Nc:List Str}{n:Nat}{caps:List Nat}
  (hxe:X.xe=λ_ _=>False) (hcalm:X.calm=true) (hi:PI X tg iter wi)
  (hbody:∀ (cl:List (Str×Addr)) (C:Addr) (s₀:Wh) (H₀:Hp) (ex:List Addr),PG (bh X scope Nc cl C s₀ H₀ ex) tg g/\xt (bh X scope Nc cl C s₀ H₀ ex) ifs tt/\PE (bh X scope Nc cl C s₀ H₀ ex) elt te)
  (hfree:∀ y∈scope.names,y.2=.free->X.env.kindOf y.1=some .cell) (hcell:∀ y∈scope.names,y.2≠.cell) (gu:scope.kind=.function)
  (hnames:∀ y∈scope.names,y.2=.local->scope.names.lookup y.1=some .local) (hlen:Nc.length=n+caps.length)
  (hcap:∀ (j k:Nat),caps[j]? = some k->∃ x,Nc[n+j]? = some x/\X.N[k]? = some x/\scope.names.lookup x=some .free)
  {use:Option (We->Sem Unit)} {Qv:We->Wh->Prop} {pins:List (Addr×Obj)} {s:Wh} {σ:L2.St} {H:Hp} {Q:VK} {ps:Pos} (I:Inv X pins σ H s) (h:lE wi g tt te n caps σ H Q)
  (hfin:∀ (D C:Addr) (s5:Wh) (H5:Hp) (m:Str->Option We),Inv X pins σ H5 s5->rW X pins H5 C->s5.heap.Ns C m->Q (.ref D) H5->zdK (WM X.prog X.w) X.A (λ_ _=>False) use Qv (.ref D) C (.ok .next) s5)
  (hs:∀ x,Xf iter X.env x=pure x:=by intro _;rfl) :
  WJ (WM X.prog X.w) X.A (comprehension (.ListComp elt [⟨tg,iter,ifs,0⟩] scope pos) scope X.env ps (newList []) false (Xw iter X.env) use) Qv (λ_ _=>False) s:=by
 obtain ⟨cl,hclos,clin,clfree⟩:=CU (scope:=scope) (env:=X.env) λy hy hf=>I.ok.has y.1 (.inl (hfree y hy hf))
 refine wpAny_comprehension_free (use:=use) rfl hs hclos gu hnames ?_
 have hi':=hi pins s σ H _ I h
 rw[hxe] at hi'
 refine Xu hi' (λxv s1 h1=>Xu h1 (λitv s2 h2=>?_) λ_ _ z=>z) λ_ _ z=>z
 obtain ⟨it,fp,tn,J,H1,rfl,I2,T,st2,f2,hh⟩:=h2
 -- the new list
 refine Xp ?_
 have hD:H1 s2.heap.objs.size=none:=I2.hok.fresh (WA _)
 obtain ⟨W,⟨m0,w0⟩,turn⟩:=hh _ hD
 have I3:Inv X pins σ (L2.upd H1 s2.heap.objs.size (.lst [])) { s2 with heap:=s2.heap.push { cls:=.type "list", dict:=none,data:=.seq ([]:List We).toArray } }:=
  I2.laid (t':=s2.toks) (λb u e=>Wc _ e) (WA _) ⟨Xx _,[],0,.nil,WE _ rfl⟩
 have k3:∀ b u,s2.heap.get? b=some u->(s2.heap.push { cls:=.type "list", dict:=none,data:=.seq ([]:List We).toArray }).get? b=some u:=λb u e=>Wc _ e
 have fne:∀ b∈fp,b≠s2.heap.objs.size:=λb hb=>by
  obtain ⟨o,ho,_⟩:=T.obj 0 _ st2 b hb
  exact WO (WC ho)
 generalize eD:s2.heap.objs.size=D at *
 generalize eh3:s2.heap.push { cls:=.type "list", dict:=none,data:=.seq ([]:List We).toArray }=h3 at *
 generalize eH3:L2.upd H1 D (.lst [])=H3 at *
 have st3:tn 0 h3:=T.keep 0 _ _ st2 λb hb o e=>k3 b o e
 have f3:∀ b∈fp,rW X pins H3 b:=λb hb=>⟨by rw[← eH3,aP (fne b hb)];exact (f2 b hb).1,(f2 b hb).2⟩
 have lt3:∀ b∈fp,b < h3.objs.size:=λb hb=>by
  obtain ⟨o,ho,_⟩:=T.obj 0 _ st3 b hb
  exact WC ho
 generalize es3:({ s2 with heap:=h3 }:Wh)=s3 at *
 have hs3:s3.heap=h3:=by rw[← es3]
 refine wpAny_newFunctionEnv hcell (λy hy=>(by cases hy)) (λh4 hns hsb=>?_) gu
 show Y1 _ _ (.compStart _ 0 (.ref it) (.ref D) (zdJ scope cl s3.heap.objs.size X.env)) (zdK _ _ _ _ _ (.ref D) s3.heap.objs.size) _
 have k4:∀ b u,s3.heap.get? b=some u->h4.get? b=some u:=λb u e=>hsb.extBut b u (WO (WC e)) (Wc _ e)
 have okY:(bh X scope Nc cl s3.heap.objs.size s3 H3 fp).Ok:=by
  refine ⟨I3.ok.mod,gu,I3.ok.glob,I3.ok.blt,WA _,λx y c e1 e2=>I3.ok.inj x y c (clin _ _ e1) (clin _ _ e2),λx hx=>?_,λx c hf=>(by cases hf),I3.ok.hd,I3.ok.frames,.inl rfl,λb hb=>⟨?_,λx c e z=>?_⟩,I3.bs,Xa I3.ok.bsz I3.sz,λb o e hb=>?_,λb hb hz=>?_,I3.stack,I3.D8⟩
  ·have hx':(relabel scope X.env).names.lookup x=some .cell∨(relabel scope X.env).names.lookup x=some .free:=hx
   have hm:(x,Yc)∈scope.names:=by
    rcases hx' with q | q
    ·exact oY hcell (.inl rfl) (XD q)
    ·exact oY hcell (.inr rfl) (XD q)
   exact clfree _ hm rfl
  ·show b≠s3.heap.objs.size
   rw[hs3];exact WO (lt3 b hb)
  ·exact (f3 b hb).2.2.2.2.1 x c (clin _ _ e) z
  ·rcases (f3 b hb).2.2.2.1 with z | z
   ·exact I3.ok.Jq b o e z
   ·exact absurd (WK (WC e) (Xa I3.ok.bsz z)) (Ym _)
  ·rcases Wx.mp (I3.AE b hz) with z | z
   ·exact (f3 b hb).2.1 z
   ·exact (f3 b hb).2.2.1 z
 have S6:∀ c v,s3.heap.IsCell c v->h4.IsCell c v:=λc v ⟨o,ho,hd⟩=>⟨o,k4 c o ho,hd⟩
 have J0:Inv (bh X scope Nc cl s3.heap.objs.size s3 H3 fp) [] (lC σ n caps) H3 { s3 with heap:=h4,toks:=s3.toks+([]:List (Str×We)).length }:=by
  refine ⟨okY,rfl,I3.bare,Un.kept k4,⟨_,hns,λi x v e1 e2 e3=>?_⟩,λx c e=>?_,I3.hok.fresh (WA _),λx c e=>I3.j9 x c (clin _ _ e),(λp hp=>(by cases hp)),I3.hok.kept k4,?_⟩
  ·obtain ⟨j,k,rfl,ej,ek⟩:=kJ e2
   obtain ⟨x',n1,n2,n3⟩:=hcap j k ej
   have e1':Nc[n+j]? = some x:=e1
   rw[n1] at e1';cases e1'
   have hmem:(x,Yc)∈scope.names:=XD n3
   have hcellx:X.env.kindOf x=some .cell:=hfree _ hmem rfl
   obtain ⟨m,hn,hl⟩:=I3.loc
   obtain ⟨u,ru,lk⟩:=hl k x v n2 ek (.inr (.inl hcellx))
   refine ⟨u,ru,.inr ⟨.inl (fI I3.ok.kind hcellx n3),?_⟩⟩
   rcases lk with ⟨q,_⟩ | ⟨_,c,ec,ic⟩
   ·rw[hcellx] at q;cases q
   ·obtain ⟨c',ec'⟩:=clfree _ hmem rfl
    have:=clin _ _ ec'
    rw[ec] at this;cases this
    exact ⟨c,ec',S6 _ _ ic⟩
  ·obtain ⟨v,q⟩:=I3.cell x c (clin _ _ e)
   exact ⟨v,S6 _ _ q⟩
  ·unfold lC
   show _=Nc.length
   rw[Wv,ZT,Wf,hlen]
 obtain ⟨pg,pifs,pelt⟩:=hbody cl s3.heap.objs.size s3 H3 fp
 generalize eY:bh X scope Nc cl s3.heap.objs.size s3 H3 fp=Y at *
 have yP:Y.prog=X.prog:=by rw[← eY];rfl
 have yw:Y.w=X.w:=by rw[← eY];rfl
 have yK:Y.K=X.K:=by rw[← eY];rfl
 have yA:Y.A=X.A:=by rw[← eY];rfl
 have yx:Y.xe=λ_ _=>False:=by rw[← eY];exact hxe
 have yc:Y.calm=true:=by rw[← eY];exact hcalm
 have ye:Y.env=zdJ scope cl s3.heap.objs.size X.env:=by rw[← eY];rfl
 have yfs:Y.fs=frs X.stack:=by rw[← eY];rfl
 have yex:Y.ex=fp:=by rw[← eY];rfl
 have ys0:Y.s₀=s3:=by rw[← eY];rfl
 have yH0:Y.H₀=H3:=by rw[← eY];rfl
 have ypn:Y.pn=[]:=by rw[← eY];rfl
 have Ck:∀ {H':Hp},(∀ b∈fp,H' b=none)->∀ b∈fp,rW Y [] H' b:=λhn b hb=>⟨hn b hb,by rw[ye];show b≠s3.heap.objs.size;rw[hs3];exact WO (lt3 b hb),okY.Gv b (by rw[yex];exact hb),.inl (by rw[yex];exact hb),
  λx c e=>by rw[ye] at e;exact (f3 b hb).2.2.2.2.1 x c (clin _ _ e),λp hp=>by rw[ypn] at hp;exact nomatch hp⟩
 have tn4:∀ t,tn 0 ({ s3 with heap:=h4,toks:=t }:Wh).heap:=λt=>T.keep 0 _ _ st3 λb hb o e=>k4 b o (by rw[hs3];exact e)
 -- the end
 have fin:∀ (s5:Wh) (H5:Hp),Inv Y [] (lC σ n caps) H5 s5->Q (.ref D) H5->zdK (WM X.prog X.w) X.A (λ_ _=>False) use Qv (.ref D) s3.heap.objs.size (.ok .next) s5:=λs5 H5 I5 q5=>by
  obtain ⟨m,hn,_⟩:=I5.loc
  rw[ye] at hn
  have un:=I5.base
  rw[yfs,yex,yH0,ys0] at un
  have hfreeC0:=I5.free
  rw[ye] at hfreeC0
  have hfreeC:H5 s3.heap.objs.size=none:=hfreeC0
  have hok5:=I5.hok
  rw[yP,yw] at hok5
  have I5X:Inv X pins σ H5 s5:=I3.OQ (ch:=fp) (s':=s5) (by have:=I5.os;rw[ys0] at this;exact this) un hok5 I5.bare λb hb=>⟨(f3 b hb).2.2.2.1,(f3 b hb).2.1,(f3 b hb).2.2.2.2.1,(f3 b hb).2.2.2.2.2⟩
  exact hfin _ _ s5 H5 m I5X (I3.FJ (WA _) hfreeC) hn q5
 have loop:Y1 (WM X.prog X.w) X.A (.compLoop (.ListComp elt [⟨tg,iter,ifs,0⟩] scope pos) 0 (.ref it) (.ref D) (zdJ scope cl s3.heap.objs.size X.env)) (zdK (WM X.prog X.w) X.A (λ_ _=>False) use Qv (.ref D) s3.heap.objs.size)
   { s3 with heap:=h4,toks:=s3.toks+([]:List (Str×We)).length }:=by
  refine Fi (λk s'=>∃ i ys H',Inv Y [] (lC σ n caps) H' s'/\tn i s'.heap/\(∀ b∈fp,H' b=none)/\W i k ys H') ?_ m0 ⟨0,[],H3,J0,tn4 _,λb hb=>(f3 b hb).1,w0⟩
  rintro k s5 ⟨i,ys,H5,I5,st5,fr5,w5⟩
  rcases turn i k ys H5 w5 with ⟨stop,q⟩ | ⟨go,N,hN,step⟩
  ·have d:=T.done Y yP yw yK yc i [] s5 _ H5 (λ_ _=>False) I5 (Ck fr5) st5 stop
   rw[yA] at d
   refine thn d λr s6 ⟨hr,I6⟩=>?_
   subst hr
   exact fin s6 H5 I6 q
  ·have d:=T.item Y yP yw yK yc i [] s5 _ H5 (λ_ _=>False) I5 (Ck fr5) st5 go
   rw[yA] at d
   refine thn d λr s6 ⟨u,hr,h6⟩=>?_
   subst hr
   refine thn h6 λ_ s7 ⟨x,H7,I7,r7,y7,st7,fr7⟩=>?_
   have I7':=I7.pinned (Ck fr7) (T.obj _ _ st7)
   have a:=pg _ s7 _ H7 x u _ I7' r7 (step x H7 y7)
   rw[yP,yw,yA,yx,ye] at a
   refine thn a λ_ s8 ⟨σ8,H8,I8,wk,q8⟩=>?_
   have b:=pifs _ s8 σ8 H8 _ I8 q8
   rw[yP,yw,yA,yx,ye] at b
   have again:∀ {s9:Wh} {ys9:List V} {H9:Hp},Inv Y ([]++tq fp s7.heap) σ8 H9 s9->N ys9 H9->∃ m,m < k/\∃ i ys H',Inv Y [] (lC σ n caps) H' s9/\tn i s9.heap/\(∀ b∈fp,H' b=none)/\W i m ys H':=λ{s9 ys9 H9} I9 n9=>by
    obtain ⟨m',hm,w9⟩:=hN ys9 H9 n9
    have hp:∀ b∈fp,∀ o,s7.heap.get? b=some o->s9.heap.get? b=some o/\H9 b=none:=λb hb o e=>
     ⟨(I9.pin (b,o) (WN _ (WN _ (gF hb e)))).1,(I9.pin (b,o) (WN _ (WN _ (gF hb e)))).2.1⟩
    refine ⟨m',hm,i+1,ys9,H9,I9.ky.weak wk.1 wk.2,T.keep _ _ _ st7 λb hb o e=>(hp b hb o e).1,λb hb=>?_,w9⟩
    obtain ⟨o,e,_⟩:=T.obj _ _ st7 b hb
    exact (hp b hb o e).2
   refine thn b λok s9 ⟨H9,I9,q9⟩=>?_
   cases ok with
   | false=>
    rw[if_neg YQ] at q9 ⊢
    exact again I9 q9
   | true=>
    rw[if_pos rfl] at q9 ⊢
    have c:=pelt _ s9 σ8 H9 _ I9 q9
    rw[yP,yw,yA,yx,ye] at c
    refine thn c λv s10 ⟨y,H10,I10,r10,zs,ez,lz,n10⟩=>?_
    have d:=vp (X:=Y) _ s10 σ8 H10 (.ref D) [y] (.ref D) [v] (λ_ H'=>N (zs++[y]) H') I10 rfl (.cons r10 .nil) ⟨D,zs,y,rfl,rfl,ez,lz,n10⟩
    rw[yP,yw,yA,yx] at d
    exact thn d λ_ s11 ⟨_,H11,I11,_,q11⟩=>again I11 q11
 refine codeAny_compStart_list loop ?_
 exact T.self X.A 0 _ _ _ (tn4 _) loop
theorem D6 {X:Cx}{tg iter elt:WR}{ifs:List WR}{scope:Scope}{pos:Pos}{wi:TI}{g:TG}{tt:TT}{te:TE}{Nc:List Str}{n:Nat}{caps:List Nat}
  (hxe:X.xe=λ_ _=>False) (hcalm:X.calm=true) (hi:PI X tg iter wi)
  (hbody:∀ (cl:List (Str×Addr)) (C:Addr) (s₀:Wh) (H₀:Hp) (ex:List Addr),PG (bh X scope Nc cl C s₀ H₀ ex) tg g/\xt (bh X scope Nc cl C s₀ H₀ ex) ifs tt/\PE (bh X scope Nc cl C s₀ H₀ ex) elt te)
  (hfree:∀ y∈scope.names,y.2=.free->X.env.kindOf y.1=some .cell) (hcell:∀ y∈scope.names,y.2≠.cell) (gu:scope.kind=.function)
  (hnames:∀ y∈scope.names,y.2=.local->scope.names.lookup y.1=some .local) (hlen:Nc.length=n+caps.length)
  (hcap:∀ (j k:Nat),caps[j]? = some k->∃ x,Nc[n+j]? = some x/\X.N[k]? = some x/\scope.names.lookup x=some .free)
  (hs:∀ x,Xf iter X.env x=pure x:=by intro _;rfl) :
  PE X (.ListComp elt [⟨tg,iter,ifs,0⟩] scope pos) (lE wi g tt te n caps):=by
 intro pins s σ H Q I h
 rw[hxe,eval_ListComp]
 exact zV hxe hcalm hi hbody hfree hcell gu hnames hlen hcap (use:=none) I h (λD C s5 H5 m I5 fC hn q=>⟨m,hn,λh6 hs6=>⟨.ref D,H5,JD I5 fC.1 fC hs6,rfl,q⟩⟩) hs
theorem y9 {X:Cx}{tg iter elt:WR}{ifs:List WR}{scope:Scope}{pos spos py:Pos}{y:Str}{iy:Nat}{wi:TI}{g:TG}{tt:TT}{te:TE}{Nc:List Str}{n:Nat}{caps:List Nat}{Z:TE->TE}
  (hxe:X.xe=λ_ _=>False) (hcalm:X.calm=true) (hi:PI X tg iter wi)
  (hbody:∀ (cl:List (Str×Addr)) (C:Addr) (s₀:Wh) (H₀:Hp) (ex:List Addr),PG (bh X scope Nc cl C s₀ H₀ ex) tg g/\xt (bh X scope Nc cl C s₀ H₀ ex) ifs tt/\PE (bh X scope Nc cl C s₀ H₀ ex) elt te)
  (hfree:∀ y∈scope.names,y.2=.free->X.env.kindOf y.1=some .cell) (hcell:∀ y∈scope.names,y.2≠.cell) (gu:scope.kind=.function)
  (hnames:∀ y∈scope.names,y.2=.local->scope.names.lookup y.1=some .local) (hlen:Nc.length=n+caps.length)
  (hcap:∀ (j k:Nat),caps[j]? = some k->∃ x,Nc[n+j]? = some x/\X.N[k]? = some x/\scope.names.lookup x=some .free)
  (pgy:PG X (.Name y py) (nj iy))
  (hsw:YJ (.ListComp elt [⟨tg,iter,ifs,0⟩] scope pos) (some (.Name y py)) spos.line X.env=pure true)
  (hz:∀ (σ:L2.St) (H:Hp) (Q:VK),Z (lE wi g tt te n caps) σ H Q->∃ Q',lE wi g tt te n caps σ H Q'/\∀ pins D H5 s5,Inv X pins σ H5 s5->Q' (.ref D) H5->∃ H6,(∀ b,H5 b=none->H6 b=none)/\Inv X pins σ H6 s5/\Q (.ref D) H6)
  (hs:∀ x,Xf iter X.env x=pure x:=by intro _;rfl) :
  PS X (.Assign [.Name y py] (.ListComp elt [⟨tg,iter,ifs,0⟩] scope pos) spos) (GX (Z (lE wi g tt te n caps)) (nj iy)):=by
 intro pins s σ H E' I h
 rw[hxe]
 rewrite [exec_Assign_Name_used _ _ _ _ hsw]
 refine Wb (zaP ?_)
 refine Wb ?_
 refine (show WJ _ X.A (do let _ ← comprehension (.ListComp elt [⟨tg,iter,ifs,0⟩] scope pos) scope X.env _ (newList []) false (Xw iter X.env) (some (zbL (.Name y py) X.env))) _ _ s from ?_)
 obtain ⟨Q',h',hq⟩:=hz σ H _ h
 refine Wb (Xu (zV hxe hcalm hi hbody hfree hcell gu hnames hlen hcap (use:=some (zbL (.Name y py) X.env)) (Qv:=λ_ s'=>SP X pins E' .next s') I h' (λD C s5 H5 m I5 fC hn q=>?_) hs) (λ_ s' hq=>Wn (Wn hq)) λ_ _ e=>e)
 obtain ⟨H6,fr,I6,q6⟩:=hq pins D H5 s5 I5 q
 have f0:=fr C fC.1
 have fC6:rW X pins H6 C:=⟨f0,fC.2⟩
 obtain ⟨oC,gC,dC⟩:∃ oC,s5.heap.get? C=some oC/\∀ v,oC.data≠.cell v:=by
  obtain ⟨oC,es,ep,ho,hd,_⟩:=hn
  exact ⟨oC,ho,λv z=>by rw[hd] at z;cases z⟩
 have I5P:=I6.pinned (fp:=[C]) (λb hb=>by cases XS.mp hb;exact fC6) (λb hb=>by cases XS.mp hb;exact ⟨oC,gC,dC⟩)
 have as:=pgy _ s5 σ _ (.ref D) (.ref D) E'.nx I5P rfl q6
 rw[hxe] at as
 refine thn as λ_ s6 ⟨σ6,H7,I7,n7⟩=>?_
 obtain ⟨g7,f7,_⟩:=I7.pin (C,oC) (WN _ (WN _ (gF Wu gC)))
 exact ⟨m,hn.at' (λo' e'=>by have e'':s5.heap.get? C=some o':=e';rw[gC] at e'';cases e'';exact g7),λh8 hs8=>⟨σ6,H7,JD I7.ky f7 fC6 hs8,n7⟩⟩
end
section
open PySem PySem.Spec PyProof.Rows L2
structure Ji (K:Wa) (J:It) (H1:Hp) (ds:List D):Prop where
 go:∀ i H',Tk H1 H'->i < ds.length->J.go i H'
 yld:∀ i H' x H'',Tk H1 H'->i < ds.length->J.yld i H' x H''->Tk H' H''/\(∃ d,ds[i]? = some d/\Dp K H'' x d)/\∀ μ,bQ K H' μ->bQ K H'' μ
 stop:∀ i H',Tk H1 H'->ds.length<=i->J.stop i H'
def Pc (K:Wa)(wi:TI)(It':ATr):Prop:=∀ σ H ρ μ (Q:List D->Mu->Prop) (R:It->Hp->Prop),Rl K σ H ρ μ->It' ρ μ Q->(∀ J H1 ds μ1,Tk H H1->bQ K H1 μ1->Ji K J H1 ds->Q ds μ1->R J H1)->wi σ H R
structure LI (X:Cx) (tg iter:WR) (It':ATr):Prop where
 ex:∃ wi,PI X tg iter wi/\Pc X.K wi It'
section
variable {X:Cx} {tg a b c e elt iter:WR} {Ta Tb Te:ETr} {Tt:TTr} {pos:Pos} {It':ATr} {G:GTr}
theorem JN {K:Wa}{H:Hp}{p:Addr}{xs:List V}{ds:List D}(q:SqT K H p xs)(l:DpL K H xs ds):Ji K (Itt K p) H ds where
 go:=λi H' t hi=>by
  have hl:=l.length
  exact ⟨xs,xs[i],t.sqT q,by simp[show i < xs.length by omega]⟩
 yld:=λi H' x H'' t hi ⟨e,y⟩=>by
  subst e
  have ex:=y xs (t.sqT q)
  obtain ⟨d,ed,p⟩:=l.get' ex
  exact ⟨.refl _,⟨d,ed,p.mono t⟩,λ_ m=>m⟩
 stop:=λi H' t hi=>⟨xs,t.sqT q,by rw[l.length];exact hi⟩
theorem Lh {K:Wa}{H:Hp}{p:Addr}{xs:List V}{ds:List D}(q:SqF K H p xs)(l:DpL K H xs ds):Ji K (Itl K p) H ds where
 go:=λi H' t hi=>by
  have hl:=l.length
  exact ⟨xs,xs[i],(t.sqF q).sq,by simp[show i < xs.length by omega]⟩
 yld:=λi H' x H'' t hi ⟨e,y⟩=>by
  subst e
  have ex:=y xs (t.sqF q).sq
  obtain ⟨d,ed,p⟩:=l.get' ex
  exact ⟨.refl _,⟨d,ed,p.mono t⟩,λ_ m=>m⟩
 stop:=λi H' t hi=>⟨xs,(t.sqF q).sq,by rw[l.length];exact hi⟩
theorem eG (lo:Int)(n:Nat):(cG lo n).length=n:=by unfold cG;simp
theorem Hr {K:Wa}{H:Hp}(lo:Int)(n:Nat):Ji K (Itr lo n) H (cG lo n) where
 go:=λi H' t hi=>by rw[eG] at hi;exact hi
 yld:=λi H' x H'' t hi ⟨e,y⟩=>by
  rw[eG] at hi
  subst e y
  exact ⟨.refl _,⟨.int (lo+i),by unfold cG;simp[hi],.int _⟩,λ_ m=>m⟩
 stop:=λi H' t hi=>by rw[eG] at hi;exact hi
def Ug (a:ETr):ATr:=λρ μ Q=>a ρ μ λx μ1=>match x with
 | .tup ds=>Q ds μ1
 | _=>False
def ILs (a:ETr):ATr:=λρ μ Q=>a ρ μ λx μ1=>match x with
 | .ls ds=>Q ds μ1
 | _=>False
theorem lj {rp rpos:Pos}(hg:Gl X "range")(hm:X.mg "range" = none)(ha:LE X a Ta)(hs:Ww [a] X.env=[(false,Xw a X.env)]:=by rfl):LI X tg (.Call (.Name "range" rp) [a] [] rpos) (fW Ta):=by
 obtain ⟨ta,pa,sa⟩:=ha.ex
 refine ⟨_,Ek hg hm (ft pa i9 hs) hs,λσ H ρ μ Q R rl h k=>sa σ H ρ μ _ _ rl h λx H1 d μ1 t1 m1 p1 h1=>?_⟩
 cases p1 with
 | int j=>
  obtain ⟨⟨h2,h3⟩,h4⟩:=h1
  exact ⟨j,rfl,by simpa using h2,by simpa using h3,k _ H1 _ μ1 t1 m1 (Hr 0 _) h4⟩
 | _=>exact Wm h1
theorem SM {t1:TS}{T1:STr}{g:TG}{E:En}{E':Ends}{K:Wa}{H0 H1:Hp}{J:It}{ds:List D}(sg:OY K g G)(s1:HN K t1 T1)(k:HJ K H0 E E')(Y:Ji K J H1 ds){σ:L2.St}{ρ:ST}{μ:Mu}(t0:Tk H0 H1)(rl:Rl K σ H1 ρ μ)(h:forR G T1 E ds ρ μ) :
  ∃ W:Nat->Nat->L2.St->Hp->Prop,(∃ m,W 0 m σ H1)/\∀ i m σ H,W i m σ H->
   (J.stop i H/\E'.nx σ H)∨(J.go i H/\∃ N:L2.St->Hp->Prop,(∀ σ' H',N σ' H'->∃ m',m' < m/\W (i+1) m' σ' H')/\∀ x H',J.yld i H x H'->g x σ H' λσ2 H2=>t1 { E' with nx:=N,ct:=N,bk:=E'.nx } σ2 H2):=by
 refine ⟨λi m σ' H'=>m=ds.length - i/\i<=ds.length/\Tk H1 H'/\∃ ρ' μ',Rl K σ' H' ρ' μ'/\forR G T1 E (ds.drop i) ρ' μ',⟨ds.length,by simp,Xx _,.refl _,ρ,μ,rl,by simpa using h⟩,?_⟩
 rintro i m σ1 H2 ⟨rfl,hi,t12,ρ1,μ1,r1,h1⟩
 by_cases hlt:i < ds.length
 ·refine .inr ⟨Y.go i H2 t12 hlt,λσ' H'=>Tk H1 H'/\∃ ρ' μ',Rl K σ' H' ρ' μ'/\forR G T1 E (ds.drop (i+1)) ρ' μ',λσ' H' ⟨t',ρ',μ',r',h'⟩=>⟨ds.length - (i+1),by omega,rfl,hlt,t',ρ',μ',r',h'⟩,λx H3 y=>?_⟩
  obtain ⟨t23,⟨d,ed,pd⟩,mk⟩:=Y.yld i H2 x H3 t12 hlt y
  have e:ds.drop i=d::ds.drop (i+1):=by
   refine (X6 hlt).trans ?_
   congr 1
   rw[Wz hlt] at ed
   exact W4 ed
  rw[e] at h1
  have t13:=t12.trans t23
  refine sg σ1 H3 ρ1 μ1 _ _ _ _ (r1.go t23 (mk _ r1.mu)) pd h1 λσ4 H4 ρ4 μ4 t4 r4 h4=>?_
  have t14:=t13.trans t4
  have t04:=t0.trans t14
  exact s1 σ4 H4 ρ4 μ4 _ _ r4 h4 ⟨λσ' H' ρ' μ' t' r' q=>⟨t14.trans t',ρ',μ',r',q⟩,(k.go t04).rt,(k.go t04).nx,λσ' H' ρ' μ' t' r' q=>⟨t14.trans t',ρ',μ',r',q⟩⟩
 ·have e:i=ds.length:=by omega
  subst e
  rw[Yn] at h1
  exact .inl ⟨Y.stop _ H2 t12 (WA _),k.nx _ _ _ _ (t0.trans t12) r1 h1⟩
theorem dM {body:List Stmt}{T1:STr}(hp:zc7 (WM X.prog X.w) X.A X.env X.xe)(hc:X.calm=true)(hi:LI X tg iter It')(hG:LG X tg G)(hb:LSs X body T1)(hf:∀ x,Xf iter X.env x=pure x:=by intro _;rfl) :
  LS X (.For tg iter body [] pos) (iq It' G T1):=by
 obtain ⟨wi,pi,si⟩:=hi.ex
 obtain ⟨g,pg,sg⟩:=hG.ex
 obtain ⟨t1,p1,s1⟩:=hb.ex
 exact ⟨_,Qo hp hc pi pg p1 hf,λσ H ρ μ E E' rl h k=>si σ H ρ μ _ _ rl h λJ H1 ds μ1 t1' m1 Y h1=>SM sg s1 k Y t1' (rl.go t1' m1) h1⟩
def mP (K:Wa)(T:ETr):TE:=λσ H Q'=>∃ ρ μ Q,Rl K σ H ρ μ/\T ρ μ Q/\jL K H Q Q'
def liftT (K:Wa)(T:TTr):TT:=λσ H Q'=>∃ ρ μ Q,Rl K σ H ρ μ/\T ρ μ Q/\∀ b H' μ',Tk H H'->bQ K H' μ'->Q b μ'->Q' b H'
abbrev OL (K:Wa)(n:Nat)(σ:L2.St)(H:Hp)(k:ST->Mu->Prop)(k':L2.St->Hp->Prop):Prop:=∀ σ' H' ρ' μ',Tk H H'->Rl K σ' H' ρ' μ'->(σ'.length=σ.length/\∀ j,n<=j->σ'[j]? = σ[j]?)->k ρ' μ'->k' σ' H'
def nC (K:Wa)(n:Nat)(G:GTr):TG:=λv σ H k'=>∃ ρ μ d k,Rl K σ H ρ μ/\Dp K H v d/\G d ρ μ k/\OL K n σ H k k'
theorem LE.pe (h:LE X e Te):PE X e (mP X.K Te):=by
 obtain ⟨t,p,s⟩:=h.ex
 exact λpins st σ H Q I ⟨ρ,μ,Q0,rl,hT,k⟩=>p pins st σ H Q I (s σ H ρ μ Q0 Q rl hT k)
structure zL (X:Cx) (ifs:List WR) (Tt:TTr):Prop where
 pe:xt X ifs (liftT X.K Tt)
theorem b9:zL X [] fe:=⟨λpins s σ H Q I ⟨ρ,μ,Q0,rl,hT,k⟩=>Mn pins s σ H Q I (k true H μ (.refl H) rl.mu hT)⟩
theorem fq (h:LT X c Tt):zL X [c] Tt:=by
 obtain ⟨t,p,s⟩:=h.ex
 exact ⟨λpins st σ H Q I ⟨ρ,μ,Q0,rl,hT,k⟩=>M6 p pins st σ H Q I (s σ H ρ μ Q0 Q rl hT k)⟩
structure LGc (X:Cx) (n:Nat) (tg:WR) (G:GTr):Prop where
 pe:PG X tg (nC X.K n G)
theorem bA {x:Str}{n:Nat}(i:Nat)(hN:X.N.Nodup)(hin:i < n:=by decide)(hi:X.N[i]? = some x:=by rfl)(hx:Loc X.env.scope x:=by first | exact ZM rfl | exact ZN rfl)(hf:X.fn x=true∨X.env.scope.names.lookup x=some .local:=by first | exact .inr rfl | exact .inl rfl | assumption):LGc X n (.Name x pos) (aA i):=
 ⟨λpins s σ H v u k' I r ⟨ρ,μ,d,k,rl,p,h,post⟩=>ji hN hi hx hf pins s σ H v u k' I r (post _ H _ μ (.refl H) (rl.set p i) ⟨by simp,λj hj=>by rw[Yz (by omega)]⟩ h)⟩
theorem qm {K:Wa}{σ:L2.St}{H:Hp}{ρ:ST}{μ:Mu}(rl:Rl K σ H ρ μ)(n:Nat)(caps:List Nat):Rl K (lC σ n caps) H (fk ρ n caps) μ:=by
 refine ⟨by unfold lC fk;simp,λi d e=>?_,rl.mu⟩
 have gen:∀ (n i:Nat),lk (X0 n none++caps.map (lk ρ)) i=some d->∃ j,i=n+j/\∃ k,caps[j]? = some k/\lk ρ k=some d:=by
  intro n
  induction n with
  | zero=>
   intro i h
   have h':lk (caps.map (lk ρ)) i=some d:=by simpa using h
   have g2:∀ (cs:List Nat) (i:Nat),lk (cs.map (lk ρ)) i=some d->∃ k,cs[i]? = some k/\lk ρ k=some d:=by
    intro cs
    induction cs with
    | nil=>intro i h;cases i<;>cases h
    | cons c r ih=>intro i h;cases i with
     | zero=>exact ⟨c,rfl,h⟩
     | succ i=>simpa using ih i h
   exact ⟨i,by omega,g2 caps i h'⟩
  | succ n ih=>
   intro i h
   cases i with
   | zero=>cases h
   | succ i=>
    obtain ⟨j,rfl,k,h1,h2⟩:=ih i h
    exact ⟨j,by omega,k,h1,h2⟩
 obtain ⟨j,rfl,k,h1,h2⟩:=gen n i e
 obtain ⟨v,h3,h4⟩:=rl.loc k d h2
 refine ⟨v,?_,h4⟩
 unfold lC
 rw[Yp (by simp)]
 simp[h1,h3]
theorem My {ifs:List WR}{scope:Scope}{Nc:List Str}{n:Nat}{caps:List Nat}(hxe:X.xe=λ_ _=>False)(hcalm:X.calm=true)(hi:LI X tg iter It')
  (hbody:∀ (cl:List (Str×Addr)) (C:Addr) (s₀:Wh) (H₀:Hp) (ex:List Addr),LGc (bh X scope Nc cl C s₀ H₀ ex) n tg G/\zL (bh X scope Nc cl C s₀ H₀ ex) ifs Tt/\LE (bh X scope Nc cl C s₀ H₀ ex) elt Te)
  (hfree:∀ y∈scope.names,y.2=.free->X.env.kindOf y.1=some .cell) (hcell:∀ y∈scope.names,y.2≠.cell) (gu:scope.kind=.function)
  (hnames:∀ y∈scope.names,y.2=.local->scope.names.lookup y.1=some .local) (hlen:Nc.length=n+caps.length)
  (hcap:∀ (j k:Nat),caps[j]? = some k->∃ x,Nc[n+j]? = some x/\X.N[k]? = some x/\scope.names.lookup x=some .free)
  (hs:∀ x,Xf iter X.env x=pure x:=by intro _;rfl) :
  LE X (.ListComp elt [⟨tg,iter,ifs,0⟩] scope pos) (bZ It' G Tt Te n caps):=by
 obtain ⟨wi,pi,si⟩:=hi.ex
 refine ⟨_,jY (D6 (g:=nC X.K n G) (tt:=liftT X.K Tt) (te:=mP X.K Te) hxe hcalm pi (λcl C s₀ H₀ ex=>let ⟨h1,h2,h3⟩:=hbody cl C s₀ H₀ ex;⟨h1.pe,h2.pe,h3.pe⟩) hfree hcell gu hnames hlen hcap hs),?_⟩
 intro σ H ρ μ Q Q' rl h k
 refine si σ H ρ μ _ _ rl h λJ H1 ds μ1 t1 m1 Y h1 D hD=>?_
 have hp:=h1 D (m1.free hD)
 have tD:Tk H1 (L2.upd H1 D (.lst [])):=.new hD
 have mD:bQ X.K (L2.upd H1 D (.lst [])) (up μ1 D (.lst [])):=λa o e=>by
  by_cases ha:a=D
  ·subst ha
   rw[aK] at e;cases e
   exact ⟨[],aQ,.nil⟩
  ·rw[aY ha] at e
   exact dh m1 hD a o e
 refine ⟨λi m ys H2=>m=ds.length - i/\i<=ds.length/\Tk H1 H2/\∃ μ2,bQ X.K H2 μ2/\fK D G Tt Te (fk ρ n caps) (λμ'=>kL μ' D λzs=>Q (.ls zs) (dn μ' D)) (ds.drop i) μ2,
  ⟨ds.length,by simp,Xx _,tD,_,mD,by simpa using hp⟩,?_⟩
 rintro i m ys H2 ⟨rfl,hi,t12,μ2,m2,h2⟩
 by_cases hlt:i < ds.length
 ·refine .inr ⟨Y.go i H2 t12 hlt,λys' H'=>Tk H1 H'/\∃ μ',bQ X.K H' μ'/\fK D G Tt Te (fk ρ n caps) (λμ'=>kL μ' D λzs=>Q (.ls zs) (dn μ' D)) (ds.drop (i+1)) μ',λys' H' ⟨t',μ',m',h'⟩=>⟨ds.length - (i+1),by omega,rfl,hlt,t',μ',m',h'⟩,λx H3 y=>?_⟩
  obtain ⟨t23,⟨d,ed,pd⟩,mk⟩:=Y.yld i H2 x H3 t12 hlt y
  have e:ds.drop i=d::ds.drop (i+1):=by
   refine (X6 hlt).trans ?_
   congr 1
   rw[Wz hlt] at ed
   exact W4 ed
  rw[e] at h2
  have t13:=t12.trans t23
  have r3:Rl X.K (lC σ n caps) H3 (fk ρ n caps) μ2:=qm (rl.go (t1.trans t13) (mk _ m2)) n caps
  refine ⟨_,_,d,_,r3,pd,h2,λσ4 H4 ρ4 μ4 t4 r4 kp h4=>⟨⟨kp.1.symm,λj v ej=>?_⟩,_,_,_,r4,h4,λb H5 μ5 t5 m5 h5=>?_⟩⟩
  ·by_cases hj:n<=j
   ·rw[kp.2 j hj];exact ej
   ·obtain ⟨j',k',e1,_⟩:=kJ ej
    omega
  ·have t15:=t13.trans (t4.trans t5)
   cases b with
   | false=>exact rE ⟨t15,μ5,m5,h5⟩
   | true=>
    refine qS ⟨_,_,_,r4.go t5 m5,h5,λv H6 d6 μ6 t6 m6 p6 h6=>?_⟩
    obtain ⟨zs,ez,lz,h7⟩:=bT h6
    obtain ⟨xs,ex,lx⟩:=m6 D _ ez
    have t67:Tk H6 (L2.upd H6 D (.lst (xs++[v]))):=.upd (λys z=>by rw[ex] at z;cases z) λo' u z=>by rw[ex] at z;cases z
    refine ⟨xs,ex,by rw[lx.length];exact WK lz (by decide),(t15.trans t6).trans t67,up μ6 D (.lst (zs++[d6])),λa o ea=>?_,h7⟩
    by_cases ha:a=D
    ·subst ha
     rw[aK] at ea;cases ea
     exact ⟨_,aQ,(lx.append (.cons p6 .nil)).mono t67⟩
    ·rw[aY ha] at ea
     exact (m6 a _ ea).ne t67 ha
 ·have e:i=ds.length:=by omega
  subst e
  rw[Yn] at h2
  obtain ⟨zs,ez,hq⟩:=bT (show kL μ2 D λzs=>Q (.ls zs) (dn μ2 D) from h2)
  obtain ⟨xs,ex,lx⟩:=m2 D _ ez
  refine .inl ⟨Y.stop _ H2 t12 (WA _),D,xs,rfl,ex,λo=>?_⟩
  have t2f:Tk H2 (L2.upd H2 D (.frz o (.lst xs))):=.upd (λys z=>by rw[ex] at z;cases z) λo' u z=>by rw[ex] at z;cases z
  refine k _ _ _ (dn μ2 D) ((t1.trans t12).trans t2f) (λa o' ea=>?_) (.ls (.inl ⟨o,aQ⟩) (lx.mono t2f)) hq
  have ha:a≠D:=λz=>by subst z;unfold dn at ea;rw[if_pos rfl] at ea;cases ea
  have ea':μ2 a=some o':=by unfold dn at ea;rw[if_neg ha] at ea;exact ea
  exact (m2 a _ ea').ne t2f ha
end
end
section
open PySem PySem.Spec PyProof.Rows L2
def iB (fn:List (Str×Z5))(XN:List Str)(sc:Scope)(Nc:List Str)(n:Nat)(caps:List Nat):Bool:=
 sc.names.all (λy=>(y.2 != .free || fn.lookup y.1 == some .cell)&&y.2 != .cell&&(y.2 != .local || sc.names.lookup y.1 == some .local))&&sc.kind == .function&&Nc.length == n+caps.length &&
 (WQ caps.length).all λj=>match caps[j]? with
  | some k=>(match XN[k]? with
   | some x=>Nc[n+j]? == some x&&sc.names.lookup x == some .free
   | none=>false)
  | none=>false
section
variable {X:Cx} {tg a b c e elt iter:WR} {Ta Tb Te:ETr} {Tt:TTr} {pos:Pos} {It':ATr} {G:GTr}
theorem bO {ifs:List WR}{scope fsc:Scope}(XN Nc:List Str)(n:Nat)(caps:List Nat)(hxe:X.xe=λ_ _=>False)(hcalm:X.calm=true)(hi:LI X tg iter It')
  (hbody:∀ (cl:List (Str×Addr)) (C:Addr) (s₀:Wh) (H₀:Hp) (ex:List Addr),LGc (bh X scope Nc cl C s₀ H₀ ex) n tg G/\zL (bh X scope Nc cl C s₀ H₀ ex) ifs Tt/\LE (bh X scope Nc cl C s₀ H₀ ex) elt Te)
  (hsc:X.env.scope=fsc) (hXN:X.N=XN) (hok:iB fsc.names XN scope Nc n caps=true)
  (hs:∀ x,Xf iter X.env x=pure x:=by intro _;rfl) :
  LE X (.ListComp elt [⟨tg,iter,ifs,0⟩] scope pos) (bZ It' G Tt Te n caps):=by
 unfold iB at hok
 simp only[Xd,Zf] at hok
 obtain ⟨⟨⟨h1,h2⟩,h3⟩,h4⟩:=hok
 refine My hxe hcalm hi hbody (λy hy hf=>?_) (λy hy hf=>?_) (by simpa using h2) (λy hy hf=>?_) (by simpa using h3) (λj k hj=>?_) hs
 ·have:=(h1 y hy).1.1
  show X.env.scope.names.lookup y.1=_
  rw[hsc]
  simpa[hf] using this
 ·have:=(h1 y hy).1.2
  simp[hf] at this
 ·have:=(h1 y hy).2
  simpa[hf] using this
 ·have hl:j < caps.length:=(WL.mp hj).1
  have:=h4 j (YI.mpr hl)
  rw[hj] at this
  dsimp only at this
  rw[hXN]
  cases e:XN[k]? with
  | none=>rw[e] at this;cases this
  | some x=>
   rw[e] at this
   dsimp only at this
   rw[Xd] at this
   exact ⟨x,by simpa using this.1,rfl,by simpa using this.2⟩
end
theorem oK:∀ {bs:List Bool} {us:List We},Vals (bs.map V.bl) us->LSm.BoolsAre us bs
 | [],_,.nil=>.nil
 | b::r,_,.cons h t=>by
  cases (show _=zcx b from h)
  exact .cons b (oK t)
theorem Fx {X:Cx}(hc:X.calm=true):cM X (.builtin "all") (λxs H Q=>∃ (p:Addr) (ys:List V) (bs:List Bool),xs=[.ref p]/\SqL X.K H p ys/\ys=bs.map V.bl/\Q (.bl (bs.all id)) H):=λpins s σ H xs us Q I rx ⟨p,ys,bs,e1,sq,e2,q⟩=>by
 subst e1 e2
 cases rx with | cons r1 r2=>
 cases r2
 cases (show _=W5 p from r1)
 obtain ⟨its,rv,pl,_⟩:=I.list sq
 have ils:s.heap.IsList p its.toArray:=by
  obtain ⟨o,n,h1,h2,_,h3⟩:=pl
  exact ⟨o,h1,h2,n,h3⟩
 have bls:=oK rv
 have hlt:p < s.heap.objs.size:=by obtain ⟨_,e,_⟩:=ils;exact WC e
 refine call_all_walk (Y0 ils ?_)
 refine ⟨s.heap.objs.size,[s.heap.objs.size,p],[s.heap.objs.size],its.toArray.size,_,_,λi=>(bs[i]?).getD true,rfl,zek (A:=X.A.in1) (I.ok.hd hc) _ p (WO hlt) its.toArray,
  ⟨⟨_,WE _ rfl,rfl,rfl⟩,ils.push _⟩,λi v s' Q' E' gP gQ=>?_,λh' tk hk=>?_⟩
 ·obtain ⟨b,e,rfl⟩:=bls.get i v (by simpa using gP)
  simp only[e,Z1] at gQ
  exact YA gQ
 ·have e:((WQ its.toArray.size).all λi=>(bs[i]?).getD true)=bs.all id:=by
   rw[WG,bls.length];exact LSm.range_all bs
  rw[e]
  exact ⟨.bl _,H,I.kept (LSm.kept_iter hk),rfl,q⟩
theorem DpL.bools {K:Wa}{H:Hp}:∀ {xs:List V} {bs:List Bool},DpL K H xs (bs.map .bl)->xs=bs.map V.bl
 | _,[],.nil=>rfl
 | _,b::r,.cons h l=>by cases h;rw[DpL.bools l];rfl
theorem K8 {K:Wa}:mh K (λxs H Q=>∃ (p:Addr) (ys:List V) (bs:List Bool),xs=[.ref p]/\SqL K H p ys/\ys=bs.map V.bl/\Q (.bl (bs.all id)) H) Lm:=λH μ xs ds Q Q' m p h k=>by
 unfold Lm at h
 split at h
 ·obtain ⟨bs,rfl,h⟩:=h
  cases p with | cons p1 p2=>cases p2;cases p1 with | ls q l=>exact ⟨_,_,bs,rfl,q.sq,l.bools,k _ H _ μ (.refl H) m (.bl _) h⟩
 ·exact h.elim
end
section
open PySem PySem.Spec PyProof.Rows L2
def GV (K:Wa)(mg:Str->Option We)(x:Str)(d:D):Prop:=∃ u v,mg x=some u/\RelV v u/\∀ H,Dp K H v d
theorem aG {X:Cx}{x:Str}{pos:Pos}{d:D}(hg:Gl X x)(h:GV X.K X.mg x d)(hd:(x == ("__debug__" : Str))=false:=by decide):LE X (.Name x pos) (TC d):=by
 obtain ⟨u,v,hm,r,p⟩:=h
 exact ⟨_,Nh hg hm r hd,λσ H ρ μ Q Q' rl h k=>k v H d μ (.refl H) rl.mu (p H) h⟩
section
variable {K:Wa} {h:Heap} {mg:Str->Option We} {x:Str}
theorem bx {i:Int}{t:Tok}(X:K.In h)(G:h.Ns XT mg)(a:zd4 K XT x=some (some (.int i t))):GV K mg x (.int i):=⟨_,.int i,zdW X G a,⟨t,rfl⟩,λ_=>.int i⟩
theorem AS {p:Addr}{o:Obj}{its:Array We}{n:Nat}{xs:List V}{ds:List D}(X:K.In h)(G:h.Ns XT mg)(a:zd4 K XT x=some (some (.ref p)))(l:K.lookup p=some o)(c:o.cls=.type "tuple")(dn:o.dict=none)(d:o.data=.seq its n)
  (z:its.size<=sizeLine) (r:Vals xs its.toList) (q:∀ H,DpL K H xs ds):GV K mg x (.tup ds):=⟨_,.ref p,zdW X G a,rfl,λH=>.tup (.inr ⟨o,its,n,l,c,dn,d,z,r⟩) (q H)⟩
end
def kG:ST->List Nat->List D->ST
 | ρ,i::is,d::ds=>kG (ρ.set i (some d)) is ds
 | ρ,_,_=>ρ
def de (is:List Nat):GTr:=λd ρ μ k=>match d with
 | .tup ds=>ds.length=is.length/\k (kG ρ is ds) μ
 | _=>False
def UE (K:Wa)(t:TGs)(is:List Nat):Prop:=∀ σ H ρ μ vs ds (k:ST->Mu->Prop) (k':L2.St->Hp->Prop),Rl K σ H ρ μ->DpL K H vs ds->ds.length=is.length->k (kG ρ is ds) μ->Af K H k k'->t vs σ H k'
structure LGs (X:Cx) (es:List WR) (is:List Nat):Prop where
 ex:∃ t,PGs X es t/\UE X.K t is
section
variable {X:Cx} {e tg:WR} {es:List WR} {is:List Nat} {pos:Pos} {x:Str} {Ta:ETr} {G:GTr}
theorem dA:LGs X [] []:=⟨_,C9,λσ H ρ μ vs ds k k' rl l hl h q=>by
 cases ds with
 | nil=>cases l;exact ⟨rfl,q _ _ _ _ (.refl H) rl h⟩
 | cons=>cases hl⟩
theorem aZ (i:Nat)(hN:X.N.Nodup)(h2:LGs X es is)(hi:X.N[i]? = some x:=by rfl)(hx:Loc X.env.scope x:=by first | exact ZM rfl | exact ZN rfl)(hf:X.fn x=true∨X.env.scope.names.lookup x=some .local:=by first | exact .inl rfl | exact .inr rfl | assumption)
  (hs:(XZ (.Name x pos::es) X.env).map (·.2)=zbL (.Name x pos) X.env::(XZ es X.env).map (·.2):=by rfl):LGs X (.Name x pos::es) (i::is):=by
 obtain ⟨t,pt,st⟩:=h2.ex
 refine ⟨_,zN (ji hN hi hx hf) pt hs,λσ H ρ μ vs ds k k' rl l hl h q=>?_⟩
 cases l with
 | nil=>cases hl
 | @cons v d vs ds p l=>exact ⟨v,vs,rfl,st _ H _ μ vs ds k k' (rl.set p i) l (by simpa using hl) h q⟩
theorem fg {k:Nat}(hc:X.calm=true)(h:LGs X es is)(hn:(XZ es X.env).length=is.length:=by rfl)(hst:(XZ es X.env).findIdx? (·.1)=none:=by rfl):LG X (.Tuple es k pos) (de is):=by
 obtain ⟨t,pt,st⟩:=h.ex
 refine ⟨_,He hc pt hn hst,λσ H ρ μ v d k k' rl p h q=>?_⟩
 cases p with
 | @tup a xs ds sq l=>exact ⟨a,xs,rfl,sq,by rw[l.length];exact h.1,st σ H ρ μ xs ds k k' rl l h.1 h.2 q⟩
 | _=>exact Wm h
theorem wx (he:LE X e Ta)(hG:LG X tg G)(hs:zaN [tg] e pos.line X.env=pure false:=by rfl)(hw:zaO [tg] e X.env=pure none:=by rfl)
  (h1:(XZ [tg] X.env).map (·.2)=[zbL tg X.env]:=by rfl):LS X (.Assign [tg] e pos) (aO Ta G):=by
 obtain ⟨ta,pa,sa⟩:=he.ex
 obtain ⟨g,pg,sg⟩:=hG.ex
 exact ⟨_,Ql pa pg hs hw h1,λσ H ρ μ E E' rl h k=>sa σ H ρ μ _ _ rl h λv H' d μ' t' m' p' h'=>sg σ H' ρ μ' v d _ _ (rl.go t' m') p' h' (k.go t').nx⟩
end
end
section
open PySem PySem.Spec PyProof.Rows L2
def iJ (tp:Bool)(h:Heap)(it a:Addr)(i:Nat):Prop:=match tp with
 | true=>h.IsTupleIter it a i
 | false=>h.IsListIter it a i
def fX (tp:Bool)(h:Heap)(a:Addr)(xs:Array We):Prop:=match tp with
 | true=>h.IsTuple a xs
 | false=>h.IsList a xs
theorem iJ.at {tp:Bool}{h g:Heap}{it a:Addr}{i:Nat}(x:iJ tp h it a i)(k:∀ o,h.get? it=some o->g.get? it=some o):iJ tp g it a i:=by
 cases tp with
 | true=>obtain ⟨o,e,r⟩:=x;exact ⟨o,k o e,r⟩
 | false=>obtain ⟨o,e,r⟩:=x;exact ⟨o,k o e,r⟩
theorem fX.at {tp:Bool}{h g:Heap}{a:Addr}{xs:Array We}(x:fX tp h a xs)(k:∀ o,h.get? a=some o->g.get? a=some o):fX tp g a xs:=by
 cases tp with
 | true=>obtain ⟨o,e,r⟩:=x;exact ⟨o,k o e,r⟩
 | false=>obtain ⟨o,e,r⟩:=x;exact ⟨o,k o e,r⟩
theorem iJ.ex {tp:Bool}{h:Heap}{it a:Addr}{i:Nat}(x:iJ tp h it a i):∃ o,h.get? it=some o/\∃ vs,o.data=.fields vs:=by
 cases tp with
 | true=>obtain ⟨o,e,_,d⟩:=x;exact ⟨o,e,_,d⟩
 | false=>obtain ⟨o,e,_,d⟩:=x;exact ⟨o,e,_,d⟩
section
variable {prog:WX} {w:Xb} {A:Xn} {E:We->Wh->Prop} {s:Wh}
theorem HI {it t:Addr}{i:Nat}{xs:Array We}{x:We}{Q:We->Wh->Prop}(hi:s.heap.IsTupleIter it t i)(ht:s.heap.IsTuple t xs)(hx:xs[i]? = some x)
  (k:∀ g,g.IsTupleIter it t (i+1)->Zb it s.heap g->Q x { s with heap:=g }):WJ (WM prog w) A (WW (.ref it)) Q E s:=by
 obtain ⟨ob,gb,cb,db⟩:=id hi
 obtain ⟨ot,gt,_,nt,dt⟩:=ht
 delta WW
 refine Wb (Xo (name:=OF "__next__") hi.typeIs Yq (XW Yq hi.typeIs zaq ?_ (zai _)))
 refine Wb (m:=zbR (.ref it) 0) (Xg gb db (x:=.ref t) rfl ?_)
 refine (show WJ _ _ (if (W5 t == YD)=true then _ else _) _ _ s from ?_)
 rw[if_neg (show ¬ ((W5 t == YD)=true) by intro z;cases z)]
 refine Wb (m:=zbR (.ref it) 1) (Xg gb db (x:=.int i 0) rfl ?_)
 refine Wb (m:=zb9 (.ref t)) (Xy gt dt ?_)
 simp only[hx,ZL]
 refine Wb (wpAny_setField gb db (by simp) (Wn ⟨x,rfl,Wn (k _ ⟨_,ZV _ gb (Obj.isFreed_of_fields (zcC db _)),(Obj.cls_mapFields ..).trans cb,?_⟩ (zcd ..))⟩))
 rw[zcC db];simp[zav]
theorem qr {tp:Bool}{it a:Addr}{i:Nat}{xs:Array We}{x:We}{Q:We->Wh->Prop}(hi:iJ tp s.heap it a i)(hs:fX tp s.heap a xs)(hx:xs[i]? = some x)
  (k:∀ g,iJ tp g it a (i+1)->Zb it s.heap g->Q x { s with heap:=g }):WJ (WM prog w) A (WW (.ref it)) Q E s:=by
 cases tp with
 | true=>exact HI hi hs hx k
 | false=>exact wpAny_nextOf_list_item hi hs hx k
theorem M4 {it t:Addr}{i:Nat}{xs:Array We}{Q:We->Wh->Prop}(hh:A.handled=none)(hi:s.heap.IsTupleIter it t i)(ht:s.heap.IsTuple t xs)(hx:xs[i]? = none)
  (k:∀ g e,zdl it s.heap g->(∃ o,g.get? e=some o/\o.cls=.type "StopIteration")->E (.ref e) { s with heap:=g }):WJ (WM prog w) A (WW (.ref it)) Q E s:=by
 obtain ⟨ob,gb,cb,db⟩:=id hi
 obtain ⟨ot,gt,_,nt,dt⟩:=ht
 delta WW
 refine Wb (Xo (name:=OF "__next__") hi.typeIs Yq (XW Yq hi.typeIs zaq ?_ (zai _)))
 refine Wb (m:=zbR (.ref it) 0) (Xg gb db (x:=.ref t) rfl ?_)
 refine (show WJ _ _ (if (W5 t == YD)=true then _ else _) _ _ s from ?_)
 rw[if_neg (show ¬ ((W5 t == YD)=true) by intro z;cases z)]
 refine Wb (m:=zbR (.ref it) 1) (Xg gb db (x:=.int i 0) rfl ?_)
 refine Wb (m:=zb9 (.ref t)) (Xy gt dt ?_)
 simp only[hx,ZL]
 refine Wb (YO (Wb (wpAny_setField gb db (by simp) (Wb (m:=newExc (.type "StopIteration") []) ?_))))
 simp only[newExc,newTuple]
 refine Wb (Xp (Wb (m:=firstArgMember _ _) (zdm (a:=YD) (by first | rfl | (simp only[firstArgMember];rfl)) (Xp ?_ (by size_fits)))) (by size_fits))
 simp only[raiseNew]
 refine Wb <| wpAny_handled ?_
 rw[(show A.in1.handled=none from hh)]
 exact Wb (Wn (wpAny_throw (k _ _ (((zcd ..).extBut.push _).push _) ⟨_,WE _ rfl,rfl⟩)))
theorem Ce {tp:Bool}{it a:Addr}{i:Nat}{xs:Array We}{Q:We->Wh->Prop}(hh:A.handled=none)(hi:iJ tp s.heap it a i)(hs:fX tp s.heap a xs)(hx:xs[i]? = none)
  (k:∀ g e,zdl it s.heap g->(∃ o,g.get? e=some o/\o.cls=.type "StopIteration")->E (.ref e) { s with heap:=g }):WJ (WM prog w) A (WW (.ref it)) Q E s:=by
 cases tp with
 | true=>exact M4 hh hi hs hx k
 | false=>exact wpAny_nextOf_list_end hh hi hs hx k
structure Zp (z ti to i j a b:Addr):Prop where
 nd:[z,ti,to,i,j].Nodup
 na:a ∉ [z,to,i,j]
 nb:b ∉ [z,to,i,j]
structure ZAt (ta tb:Bool) (h:Heap) (z ti to i j a b:Addr) (k:Nat):Prop where
 zz:YB h z ti to .none
 zt:X1 h ti (.ref i) (.ref j)
 zo:∃ u v,X1 h to u v
 zi:iJ ta h i a k
 zj:iJ tb h j b k
theorem Fd {ta tb:Bool}{z ti to i j a b:Addr}{k:Nat}{xs ys:Array We}{x y:We}{Q:Option We->Wh->Prop}(Z:Zp z ti to i j a b)(S:ZAt ta tb s.heap z ti to i j a b k)(ha:fX ta s.heap a xs)(hb:fX tb s.heap b ys)(hx:xs[k]? = some x)(hy:ys[k]? = some y)
  (q:∀ g,YB g z ti to (zav s.heap.objs.size)->X1 g ti (.ref i) (.ref j)->X1 g to x y->iJ ta g i a (k+1)->iJ tb g j b (k+1)->X1 g s.heap.objs.size x y->
   (∀ c o,c≠z->c≠to->c≠i->c≠j->s.heap.get? c=some o->g.get? c=some o)->Q (some (.ref s.heap.objs.size)) { s with heap:=g }):WJ (WM prog w) A (Zs (.ref z)) Q E s:=by
 obtain ⟨zz,zt,⟨u,v,zo⟩,zi,zj⟩:=S
 obtain ⟨nd,na,nb⟩:=Z
 simp only[W9,Wx,W7,or_false,not_or] at nd na nb
 obtain ⟨⟨n1,n2,n3,n4⟩,⟨n5,n6,n7⟩,⟨n8,n9⟩,n10,_⟩:=nd
 obtain ⟨a1,a2,a3,a4⟩:=na
 obtain ⟨b1,b2,b3,b4⟩:=nb
 have hT:s.TypeIs (.ref z) "zip" := ⟨_,zz,rfl⟩
 unfold Zs
 refine Wb (zaT (Xo (name:=OF "__next__") hT zaj (XW zaj hT zdc ?_ (zcT _))))
 refine Wb (m:=zbR (.ref z) 2) (Xg zz rfl (x:=.bool false) rfl ?_)
 refine Wb (m:=zbR (.ref z) 3) (Xg zz rfl (x:=.ref ti) rfl (Wb (Xy zt rfl (Wb (m:=Xc (.ref z)) ?_))))
 delta Xc
 refine Wb (Xg zz rfl (x:=.none) rfl (Wn ?_))
 simp only[if_true]
 refine Wb (YO (Wb (Xg zz rfl (x:=.ref to) rfl (Wb (Xk zz (by simp) λg1 zz1 k1=>Wb ?_)))))
 have zz1:YB g1 z ti to .ellipsis:=zz1
 simp only[zdw,za3,zdL,zah]
 refine Wb (Wb (zaU (Wb (m:=WW (.ref i)) (qr (s:={ s with heap:=g1 }) (zi.at λo e=>(k1.2 i (WY n3)).trans e) (ha.at λo e=>(k1.2 a a1).trans e) hx λg2 zi2 k2=>Wn ?_))))
 have zo2:X1 g2 to u v:=(k2.2 to n8).trans ((k1.2 to (WY n2)).trans zo)
 refine Wb (Xy zo2 rfl (Wb (Y5 zo2 λg3 zo3 k3=>Wb (Y6 (Wn ?_)))))
 have zo3:X1 g3 to x v:=zo3
 refine Wb (Wb (zaU (Wb (m:=WW (.ref j)) (qr (s:={ s with heap:=g3 }) (zj.at λo e=>(k3.2 j (WY n9)).trans ((k2.2 j (WY n10)).trans ((k1.2 j (WY n4)).trans e)))
  (hb.at λo e=>(k3.2 b b2).trans ((k2.2 b b3).trans ((k1.2 b b1).trans e))) hy λg4 zj4 k4=>Wn ?_))))
 have zo4:X1 g4 to x v:=(k4.2 to n9).trans zo3
 refine Wb (Xy zo4 rfl (Wb (Y5 zo4 λg5 zo5 k5=>Wb (Y6 (Wn (Wn ?_))))))
 have zo5:X1 g5 to x y:=zo5
 refine Wb (Xy zo5 rfl (Wb (wpAny_newTuple (Wb (m:=XE (.ref z) (.ref g5.objs.size)) ?_))))
 have sz:g5.objs.size=s.heap.objs.size:=by rw[k5.1,k4.1,k3.1,k2.1,k1.1]
 have zz5:YB g5 z ti to .ellipsis:=(k5.2 z n2).trans ((k4.2 z n4).trans ((k3.2 z n2).trans ((k2.2 z n3).trans zz1)))
 have zlt:z < g5.objs.size:=WC zz5
 delta XE
 have zz6:YB (g5.push { cls:=.type "tuple", data:=.seq #[x,y] }) z ti to .ellipsis:=Wc _ zz5
 refine Wb (Xk zz6 (by simp) λg7 zz7 k7=>?_)
 have zz7:YB g7 z ti to (zav g5.objs.size):=zz7
 refine Xk zz7 (by simp) λg8 zz8 k8=>Wn ⟨_,rfl,Wn ?_⟩
 have up5:∀ c o,c≠z->g5.get? c=some o->g8.get? c=some o:=λc o c1 e=>(k8.2 c c1).trans ((k7.2 c c1).trans (Wc _ e))
 have TQ:X1 g8 g5.objs.size x y:=(k8.2 _ (YR zlt)).trans ((k7.2 _ (YR zlt)).trans (WE _ rfl))
 have zz8:YB g8 z ti to (zav g5.objs.size):=zz8
 rw[sz] at zz8 TQ
 have all:∀ c o,c≠z->c≠to->c≠i->c≠j->s.heap.get? c=some o->g8.get? c=some o:=λc o c1 c2 c3 c4 e=>up5 c o c1 ((k5.2 c c2).trans ((k4.2 c c4).trans ((k3.2 c c2).trans ((k2.2 c c3).trans ((k1.2 c c1).trans e)))))
 have fin:=q g8 zz8 (all ti _ (WY n1) n5 n6 n7 zt) (up5 to _ (WY n2) zo5) (zi2.at λo e=>up5 i o (WY n3) ((k5.2 i (WY n8)).trans ((k4.2 i n10).trans ((k3.2 i (WY n8)).trans e)))) (zj4.at λo e=>up5 j o (WY n4) ((k5.2 j (WY n9)).trans e)) TQ all
 rw[← sz] at fin
 exact fin
theorem HZ {ta tb:Bool}{z ti to i j a b:Addr}{k:Nat}{xs ys:Array We}{Q:Option We->Wh->Prop}(hh:A.handled=none)(Z:Zp z ti to i j a b)(S:ZAt ta tb s.heap z ti to i j a b k)(ha:fX ta s.heap a xs)(hb:fX tb s.heap b ys)(he:xs[k]? = none∨ys[k]? = none)
  (q:∀ g,(∀ c o,c≠z->c≠to->c≠i->c≠j->s.heap.get? c=some o->g.get? c=some o)->Q none { s with heap:=g }):WJ (WM prog w) A (Zs (.ref z)) Q E s:=by
 obtain ⟨zz,zt,⟨u,v,zo⟩,zi,zj⟩:=S
 obtain ⟨nd,na,nb⟩:=Z
 simp only[W9,Wx,W7,or_false,not_or] at nd na nb
 obtain ⟨⟨n1,n2,n3,n4⟩,⟨n5,n6,n7⟩,⟨n8,n9⟩,n10,_⟩:=nd
 obtain ⟨a1,a2,a3,a4⟩:=na
 obtain ⟨b1,b2,b3,b4⟩:=nb
 have hT:s.TypeIs (.ref z) "zip" := ⟨_,zz,rfl⟩
 have stop:∀ g e,(∃ o,g.get? e=some o/\o.cls=.type "StopIteration")->(∀ c o,c≠z->c≠to->c≠i->c≠j->s.heap.get? c=some o->g.get? c=some o)->
   WJ (WM prog w) A (isInstance (.ref e) (.type "StopIteration") >>= λy=>if y=true then pure none else throw (.ref e)) Q E { s with heap:=g }:=λg e ⟨o,ho,hc⟩ al=>by
  refine Wb <| wpAny_isInstance (T := "StopIteration") (b:=true) ⟨o,ho,hc⟩ isSubtype_stop ?_
  exact Wn (q g al)
 unfold Zs
 refine Wb (zaT (Xo (name:=OF "__next__") hT zaj (XW zaj hT zdc ?_ (zcT _))))
 refine Wb (m:=zbR (.ref z) 2) (Xg zz rfl (x:=.bool false) rfl ?_)
 refine Wb (m:=zbR (.ref z) 3) (Xg zz rfl (x:=.ref ti) rfl (Wb (Xy zt rfl (Wb (m:=Xc (.ref z)) ?_))))
 delta Xc
 refine Wb (Xg zz rfl (x:=.none) rfl (Wn ?_))
 simp only[if_true]
 refine Wb (YO (Wb (Xg zz rfl (x:=.ref to) rfl (Wb (Xk zz (by simp) λg1 zz1 k1=>Wb ?_)))))
 have zz1:YB g1 z ti to .ellipsis:=zz1
 simp only[zdw,za3,zdL,zah]
 have zi1:iJ ta g1 i a k:=zi.at λo e=>(k1.2 i (WY n3)).trans e
 have ha1:fX ta g1 a xs:=ha.at λo e=>(k1.2 a a1).trans e
 refine Wb (Wb (zaU (Wb (m:=WW (.ref i)) ?_)))
 cases hx:xs[k]? with
 | none=>
  refine Ce (s:={ s with heap:=g1 }) hh zi1 ha1 hx λg2 e k2 he2=>?_
  obtain ⟨oe,ge,ce⟩:=he2
  have zz2:YB g2 z ti to .ellipsis:=k2 z _ n3 zz1
  have ez:e≠z:=λy=>by subst y;rw[zz2] at ge;cases ge;simp at ce
  refine Xk zz2 (by simp) λg3 _ k3=>stop g3 e ⟨oe,(k3.2 e ez).trans ge,ce⟩ λc o c1 _ c3 _ y=>(k3.2 c c1).trans (k2 c o c3 ((k1.2 c c1).trans y))
 | some x=>
  have hy:ys[k]? = none:=by rcases he with h | h;rw[hx] at h;cases h;exact h
  refine qr (s:={ s with heap:=g1 }) zi1 ha1 hx λg2 zi2 k2=>Wn ?_
  have zo2:X1 g2 to u v:=(k2.2 to n8).trans ((k1.2 to (WY n2)).trans zo)
  refine Wb (Xy zo2 rfl (Wb (Y5 zo2 λg3 zo3 k3=>Wb (Y6 (Wn ?_)))))
  refine Wb (Wb (zaU (Wb (m:=WW (.ref j)) (Ce (s:={ s with heap:=g3 }) hh (zj.at λo e=>(k3.2 j (WY n9)).trans ((k2.2 j (WY n10)).trans ((k1.2 j (WY n4)).trans e)))
   (hb.at λo e=>(k3.2 b b2).trans ((k2.2 b b3).trans ((k1.2 b b1).trans e))) hy λg4 e k4 he4=>?_))))
  obtain ⟨oe,ge,ce⟩:=he4
  have zz4:YB g4 z ti to .ellipsis:=k4 z _ n4 ((k3.2 z n2).trans ((k2.2 z n3).trans zz1))
  have ez:e≠z:=λy=>by subst y;rw[zz4] at ge;cases ge;simp at ce
  refine Xk zz4 (by simp) λg5 _ k5=>stop g5 e ⟨oe,(k5.2 e ez).trans ge,ce⟩ λc o c1 c2 c3 c4 y=>(k5.2 c c1).trans (k4 c o c4 ((k3.2 c c2).trans ((k2.2 c c3).trans ((k1.2 c c1).trans y))))
abbrev itO (tp:Bool)(a:Addr):Obj:={ cls:=.type (match tp with | true => "tuple_iterator" | false => "list_iterator"),data:=.fields #[.ref a,.int 0 0] }
theorem M7 {tp:Bool}{a:Addr}{xs:Array We}{Q:We->Wh->Prop}(h:fX tp s.heap a xs)(q:Q (.ref s.heap.objs.size) { s with heap:=s.heap.push (itO tp a) }):WJ (WM prog w) A (pyIter (.ref a)) Q E s:=by
 cases tp with
 | true=>exact zcD h q
 | false=>exact Y0 h q
abbrev zg1 (ta:Bool)(h:Heap)(a:Addr):Heap:=h.push (itO ta a)
abbrev zg2 (ta tb:Bool)(h:Heap)(a b:Addr):Heap:=(zg1 ta h a).push (itO tb b)
abbrev zg3 (ta tb:Bool)(h:Heap)(a b:Addr):Heap:=(zg2 ta tb h a b).push { cls:=.type "tuple", data:=.seq #[.ref h.objs.size,.ref (zg1 ta h a).objs.size] }
abbrev zg4 (ta tb:Bool)(h:Heap)(a b:Addr):Heap:=(zg3 ta tb h a b).push { cls:=.type "tuple", data:=.seq #[.none,.none] }
abbrev zg5 (ta tb:Bool)(h:Heap)(a b:Addr):Heap:=(zg4 ta tb h a b).push { cls:=.type "zip", data:=.fields #[.none,.bool false,.bool false,.ref (zg2 ta tb h a b).objs.size,.ref (zg3 ta tb h a b).objs.size] }
theorem Ii (ta tb:Bool)(a b:Addr)(xs ys:Array We):Meets (ZP.«zip.__new__» ⟨[.type "zip", .ref a,.ref b],[]⟩) (λ_ R s=>fX ta s.heap a xs/\fX tb s.heap b ys/\R (.ok (.ret (.ref (zg4 ta tb s.heap a b).objs.size))) { s with heap:=zg5 ta tb s.heap a b }):=
 .of_wp λprog w A R s h=>by
  rcases s with ⟨hp,g,d,tk,os⟩
  obtain ⟨h1,h2,h⟩:=h
  have hs0:=PySem.sub_zip
  have H1:fX ta (zdn ⟨hp,g,d,tk,os⟩) a xs:=h1
  have H2:fX tb (zdn ⟨hp.push (itO ta a),g,d,tk,os⟩) b ys:=fX.at h2 λo e=>Wc _ e
  wp_walk using M7 H1,M7 H2
  exact ⟨_,rfl,h⟩
theorem Fu {ta tb:Bool}{a b:Addr}{xs ys:Array We}{Q:We->Wh->Prop}(h1:fX ta s.heap a xs)(h2:fX tb s.heap b ys)
  (q:∀ g,ZAt ta tb g (s.heap.objs.size+4) (s.heap.objs.size+2) (s.heap.objs.size+3) s.heap.objs.size (s.heap.objs.size+1) a b 0->(∀ c o,s.heap.get? c=some o->g.get? c=some o)->Q (.ref (s.heap.objs.size+4)) { s with heap:=g }) :
  WJ (WM prog w) A (zcb (.type "zip") [.ref a,.ref b]) Q E s:=by
 refine callType_new F.called_zip (by decide) (F.typeCall_zip_2 _ _) (F.newCall_zip_2 _ _) (λobj=>F.args_object_init_3 obj _ _) F.entry_zip_new (Ii ta tb a b xs ys) ⟨h1,h2,?_⟩
 have s1:(zg1 ta s.heap a).objs.size=s.heap.objs.size+1:=Y7 ..
 have s2:(zg2 ta tb s.heap a b).objs.size=s.heap.objs.size+2:=by rw[Y7,s1]
 have s3:(zg3 ta tb s.heap a b).objs.size=s.heap.objs.size+3:=by rw[Y7,s2]
 have s4:(zg4 ta tb s.heap a b).objs.size=s.heap.objs.size+4:=by rw[Y7,s3]
 have p5:(zg5 ta tb s.heap a b).get? (zg4 ta tb s.heap a b).objs.size=some _:=WE _ rfl
 have p4:(zg5 ta tb s.heap a b).get? (zg3 ta tb s.heap a b).objs.size=some _:=Wc _ (WE _ rfl)
 have p3:(zg5 ta tb s.heap a b).get? (zg2 ta tb s.heap a b).objs.size=some _:=Wc _ (Wc _ (WE _ rfl))
 have p2:(zg5 ta tb s.heap a b).get? (zg1 ta s.heap a).objs.size=some (itO tb b):=Wc _ (Wc _ (Wc _ (WE _ rfl)))
 have p1:(zg5 ta tb s.heap a b).get? s.heap.objs.size=some (itO ta a):=Wc _ (Wc _ (Wc _ (Wc _ (WE _ rfl))))
 have i1:iJ ta (zg5 ta tb s.heap a b) s.heap.objs.size a 0:=by cases ta<;>exact ⟨_,p1,rfl,rfl⟩
 have i2:iJ tb (zg5 ta tb s.heap a b) (zg1 ta s.heap a).objs.size b 0:=by cases tb<;>exact ⟨_,p2,rfl,rfl⟩
 show _/\_
 rw[s2,s3,s4] at p5
 rw[s1,s2] at p3
 rw[s3] at p4
 rw[s1] at i2
 rw[s4]
 exact ⟨⟨_,p5,rfl⟩,q _ ⟨p5,p3,⟨_,_,p4⟩,i1,i2⟩ λc o x=>Wc _ (Wc _ (Wc _ (Wc _ (Wc _ x))))⟩
end
def Sq (tp:Bool)(K:Wa)(H:Hp)(a:Addr)(xs:List V):Prop:=match tp with
 | true=>SqT K H a xs
 | false=>SqF K H a xs
theorem Inv.sq {X:Cx}{pins:List (Addr×Obj)}{σ:L2.St}{H:Hp}{s:Wh}{tp:Bool}{a:Addr}{xs:List V}(I:Inv X pins σ H s)(h:Sq tp X.K H a xs):∃ its:List We,Vals xs its/\fX tp s.heap a its.toArray:=by
 cases tp with
 | true=>obtain ⟨its,r,p,_⟩:=I.tuple h;exact ⟨its,r,p⟩
 | false=>
  obtain ⟨its,r,⟨o,n,e1,e2,_,e3⟩,_⟩:=I.list (SqF.sq h)
  exact ⟨its,r,o,e1,e2,n,e3⟩
theorem Inv.BG {X:Cx}{pins:List (Addr×Obj)}{σ:L2.St}{H:Hp}{s:Wh}{tp:Bool}{a:Addr}{xs ys:List V}(I:Inv X pins σ H s)(h:Sq tp X.K H a xs)(h':Sq tp X.K H a ys):xs=ys:=by
 cases tp with
 | true=>exact I.u7 h h'
 | false=>exact I.yo (SqF.sq h) (SqF.sq h')
def Itz (ta tb:Bool)(K:Wa)(a b:Addr):It:=
 ⟨λi H=>∃ xs ys x y,Sq ta K H a xs/\Sq tb K H b ys/\xs[i]? = some x/\ys[i]? = some y,
  λi H v H'=>∃ x y p,(∀ xs,Sq ta K H a xs->xs[i]? = some x)/\(∀ ys,Sq tb K H b ys->ys[i]? = some y)/\v=.ref p/\H p=none/\H'=L2.upd H p (.tup [x,y]),
  λi H=>∃ xs ys,Sq ta K H a xs/\Sq tb K H b ys/\(xs.length<=i∨ys.length<=i)⟩
theorem JV {P:WX}{w:Xb}{K:Wa}{es:List WR}{ek:Nat}{ep:Pos}{ta tb:Bool}{z ti to i j a b:Addr}(Z:Zp z ti to i j a b) :
  Turn P w K (.Tuple es ek ep) (Itz ta tb K a b) [z,ti,to,i,j] z (λk h=>ZAt ta tb h z ti to i j a b k) where
 mem:=by simp
 obj:=λk h S c hc=>by
  obtain ⟨zz,zt,⟨u,v,zo⟩,zi,zj⟩:=S
  simp only[Wx,W7,or_false] at hc
  rcases hc with rfl | rfl | rfl | rfl | rfl
  ·exact ⟨_,zz,λv y=>by cases y⟩
  ·exact ⟨_,zt,λv y=>by cases y⟩
  ·exact ⟨_,zo,λv y=>by cases y⟩
  ·obtain ⟨o,e,vs,d⟩:=zi.ex;exact ⟨o,e,λv y=>by rw[d] at y;cases y⟩
  ·obtain ⟨o,e,vs,d⟩:=zj.ex;exact ⟨o,e,λv y=>by rw[d] at y;cases y⟩
 keep:=λk h g S kp=>by
  obtain ⟨zz,zt,⟨u,v,zo⟩,zi,zj⟩:=S
  exact ⟨kp z (by simp) _ zz,kp ti (by simp) _ zt,⟨u,v,kp to (by simp) _ zo⟩,zi.at λo e=>kp i (by simp) o e,zj.at λo e=>kp j (by simp) o e⟩
 item:=by
  intro X hP hw hK hc k pins s σ H E I hf S hg
  subst hP hw hK
  obtain ⟨xs,ys,x,y,qa,qb,ex,ey⟩:=hg
  obtain ⟨ia,ra,sa⟩:=Inv.sq I qa
  obtain ⟨ib,rb,sb⟩:=Inv.sq I qb
  obtain ⟨ux,hux,rx⟩:=ra.get ex
  obtain ⟨uy,huy,ry⟩:=rb.get ey
  refine Fd Z S sa sb (x:=ux) (y:=uy) (by simpa using hux) (by simpa using huy) λg zz zt zo zi zj new al=>⟨_,rfl,wpAny_letOwnedTupleGo_zip zz λg2 zz2 k2=>?_⟩
  have nd:=Z.nd
  simp only[W9,Wx,W7,or_false,not_or] at nd
  obtain ⟨⟨n1,n2,n3,n4⟩,_⟩:=nd
  have zlt:z < s.heap.objs.size:=WC S.zz
  have fr:H s.heap.objs.size=none:=I.hok.fresh (WA _)
  have new2:X1 g2 s.heap.objs.size ux uy:=(k2.2 _ (YR zlt)).trans new
  have all:∀ c o,c ∉ [z,ti,to,i,j]->s.heap.get? c=some o->g2.get? c=some o:=λc o hc e=>by
   simp only[Wx,W7,or_false,not_or] at hc
   exact (k2.2 c hc.1).trans (al c o hc.1 hc.2.2.1 hc.2.2.2.1 hc.2.2.2.2 e)
  have nfp:∀ c u,H c=some u->c ∉ [z,ti,to,i,j]:=λc u e hc=>by rw[(hf c hc).1] at e;cases e
  refine ⟨.ref s.heap.objs.size,L2.upd H s.heap.objs.size (.tup [x,y]),?_,rfl,⟨x,y,_,λxs' q=>by rw[Inv.BG I q qa];exact ex,λys' q=>by rw[Inv.BG I q qb];exact ey,rfl,fr,rfl⟩,⟨zz2,(k2.2 ti (WY n1)).trans zt,⟨_,_,(k2.2 to (WY n2)).trans zo⟩,zi.at λo e=>(k2.2 i (WY n3)).trans e,zj.at λo e=>(k2.2 j (WY n4)).trans e⟩,λc hc=>?_⟩
  ·refine L2.Inv.step (s:=s) (H:=H) (H':=L2.upd H s.heap.objs.size (.tup [x,y])) (g':=s.gens) (d':=s.drawn) (t':=s.toks) (h':=g2) (ch:=[z,ti,to,i,j]) I (λc hc=>⟨(hf c hc).2.2.2.1,(hf c hc).2.1,(hf c hc).2.2.2.2.1,(hf c hc).2.2.2.2.2⟩) (λc o _ _ hc e _=>all c o hc e) (λc o _ _ hc e _=>⟨o.slots,all c o hc e⟩) (λc o hc e n=>?_) (λc o hc e=>⟨o,all c o hc e⟩)
    (λc xs e=>?_) (λc o u e=>?_) (λc ps e=>⟨#[],?_⟩) (λm hm=>?_) (λc u e=>?_) I.bare
   ·rw[aP (WO (WC e))];exact n
   ·rw[aP (bo e fr)];exact e
   ·rw[aP (bo e fr)];exact e
   ·rw[aP (bo e fr),e];simp
   ·obtain ⟨o,es',ep',ho,r⟩:=hm
    exact ⟨o,es',ep',all _ o (λhc=>(hf _ hc).2.1 rfl) ho,r⟩
   ·by_cases hcT:c=s.heap.objs.size
    ·subst hcT
     rw[aQ] at e;cases e
     exact ⟨by show 2<=sizeLine;decide,[ux,uy],.cons rx (.cons ry .nil),⟨_,new2⟩⟩
    ·rw[aP hcT] at e
     refine (I.hok c u e).lD (λc' v hc' q=>all c' v ?_ q) (λc' q=>by rw[aP (bo q fr)];exact q) λc' xs q=>by rw[aP (bo q fr)];exact q
     rcases hc' with rfl | hc'
     ·exact nfp _ _ e
     ·exact nfp _ _ hc'
  ·have hcl:c≠s.heap.objs.size:=by
    obtain ⟨zz,zt,⟨u,v,zo⟩,zi,zj⟩:=S
    simp only[Wx,W7,or_false] at hc
    rcases hc with rfl | rfl | rfl | rfl | rfl
    ·exact WO (WC zz)
    ·exact WO (WC zt)
    ·exact WO (WC zo)
    ·obtain ⟨o,e,_⟩:=zi.ex;exact WO (WC e)
    ·obtain ⟨o,e,_⟩:=zj.ex;exact WO (WC e)
   rw[aP hcl];exact (hf c hc).1
 done:=by
  intro X hP hw hK hc k pins s σ H E I hf S hg
  subst hP hw hK
  obtain ⟨xs,ys,qa,qb,he⟩:=hg
  obtain ⟨ia,ra,sa⟩:=Inv.sq I qa
  obtain ⟨ib,rb,sb⟩:=Inv.sq I qb
  have la:=ra.length
  have lb:=rb.length
  refine HZ (I.ok.hd hc) Z S sa sb (he.imp (λh=>by simp;omega) λh=>by simp;omega) λg al=>⟨rfl,?_⟩
  have all:∀ c o,c ∉ [z,ti,to,i,j]->s.heap.get? c=some o->g.get? c=some o:=λc o hc e=>by
   simp only[Wx,W7,or_false,not_or] at hc
   exact al c o hc.1 hc.2.2.1 hc.2.2.2.1 hc.2.2.2.2 e
  have nfp:∀ c u,H c=some u->c ∉ [z,ti,to,i,j]:=λc u e hc=>by rw[(hf c hc).1] at e;cases e
  refine L2.Inv.step (s:=s) (H:=H) (H':=H) (g':=s.gens) (d':=s.drawn) (t':=s.toks) (h':=g) (ch:=[z,ti,to,i,j]) I (λc hc=>⟨(hf c hc).2.2.2.1,(hf c hc).2.1,(hf c hc).2.2.2.2.1,(hf c hc).2.2.2.2.2⟩) (λc o _ _ hc e _=>all c o hc e) (λc o _ _ hc e _=>⟨o.slots,all c o hc e⟩) (λc o hc e n=>n) (λc o hc e=>⟨o,all c o hc e⟩)
   (λc xs e=>e) (λc o u e=>e) (λc ps e=>⟨#[],by rw[e];simp⟩) (λm hm=>?_) (λc u e=>?_) I.bare
  ·obtain ⟨o,es',ep',ho,r⟩:=hm
   exact ⟨o,es',ep',all _ o (λhc=>(hf _ hc).2.1 rfl) ho,r⟩
  ·refine (I.hok c u e).lD (λc' v hc' q=>all c' v ?_ q) (λc' q=>q) λc' xs q=>q
   rcases hc' with rfl | hc'
   ·exact nfp _ _ e
   ·exact nfp _ _ hc'
 self:=λ_ _ _ _ _ S h=>zdd S.zz h
theorem TU (n a b:Nat)(ha:a < n)(hb:b < n):Zp (n+4) (n+2) (n+3) n (n+1) a b:=by
 refine ⟨?_,?_,?_⟩
 ·show ([n+4,n+2,n+3,n,n+1]:List Nat).Nodup
  simp only[W9,Wx,W7,or_false,not_or,List.nodup_nil,and_true,not_false_eq_true]
  and_intros<;>omega
 ·show a ∉ ([n+4,n+3,n,n+1]:List Nat)
  simp only[Wx,W7,or_false,not_or]
  omega
 ·show b ∉ ([n+4,n+3,n,n+1]:List Nat)
  simp only[Wx,W7,or_false,not_or]
  omega
theorem Oi (n c:Nat)(h:c∈([n+4,n+2,n+3,n,n+1]:List Nat)):n<=c:=by
 simp only[Wx,W7,or_false] at h
 omega
section
variable {X:Cx} {ea eb:WR} {es:List WR} {ek:Nat} {ep p pos:Pos}
def kQ (tp:Bool)(x:D)(f:List D->Prop):Prop:=match tp,x with
 | true,.tup ds=>f ds
 | false,.ls ds=>f ds
 | _,_=>False
theorem Cu {K:Wa}{H:Hp}{tp:Bool}{v:V}{x:D}{f:List D->Prop}(p:Dp K H v x)(h:kQ tp x f):∃ a xs ds,v=.ref a/\Sq tp K H a xs/\DpL K H xs ds/\f ds:=by
 cases tp with
 | true=>cases p with
  | @tup a xs ds q l=>exact ⟨a,xs,ds,rfl,q,l,h⟩
  | _=>exact Wm h
 | false=>cases p with
  | @ls a xs ds q l=>exact ⟨a,xs,ds,rfl,q,l,h⟩
  | _=>exact Wm h
theorem Tk.sq {K:Wa}{H H':Hp}{tp:Bool}{a:Addr}{xs:List V}(t:Tk H H')(h:Sq tp K H a xs):Sq tp K H' a xs:=by
 cases tp with
 | true=>exact t.sqT h
 | false=>exact t.sqF h
end
end
section
open PySem PySem.Spec PyProof.Rows L2
def kObj (x:D)(f:Addr->Prop):Prop:=match x with
 | .obj a=>f a
 | _=>False
theorem jo (a:Addr)(f):kObj (.obj a) f=f a:=rfl
section
variable {X:Cx} {o a b c e:WR} {To Ta Tb Tc Te T T':ETr} {pos:Pos}
theorem Sx {K:Wa}{H:Hp}{μ:Mu}{q:Addr}{u:HO}(m:bQ K H μ)(t:Tk H (L2.upd H q u)):bQ K (L2.upd H q u) (dn μ q):=λz y ez=>by
 have zq:z≠q:=λw=>by subst w;unfold dn at ez;rw[if_pos rfl] at ez;cases ez
 have ez':μ z=some y:=by unfold dn at ez;rw[if_neg zq] at ez;exact ez
 exact (m z _ ez').ne t zq
theorem l6 {H:Hp}{q:Addr}{u:HO}{xs:List V}(ex:H q=some (.lst xs)):Tk H (L2.upd H q u):=
 .upd (λys z=>by rw[ex] at z;cases z) λo' w z=>by rw[ex] at z;cases z
theorem IT {K:Wa}{H:Hp}{μ:Mu}{q:Addr}{xs ys:List V}{ds:List D}(m:bQ K H μ)(ex:H q=some (.lst xs))(l:DpL K H ys ds):bQ K (L2.upd H q (.lst ys)) (up μ q (.lst ds)):=λz y ez=>by
 by_cases zq:z=q
 ·subst zq
  rw[aK] at ez;cases ez
  exact ⟨ys,aQ,l.mono (l6 ex)⟩
 ·rw[aY zq] at ez
  exact (m z _ ez).ne (l6 ex) zq
theorem AG {K:Wa}{H:Hp}{μ:Mu}{q:Addr}{ys:List V}{ds:List D}(m:bQ K H μ)(hq:H q=none)(l:DpL K H ys ds):bQ K (L2.upd H q (.lst ys)) (up μ q (.lst ds)):=λz y ez=>by
 by_cases zq:z=q
 ·subst zq
  rw[aK] at ez;cases ez
  exact ⟨ys,aQ,l.mono (.new hq)⟩
 ·rw[aY zq] at ez
  exact dh m hq z y ez
def uj (T:ETr):ETr:=λρ μ Q=>T ρ μ λx μ1=>kObj x λa=>kL μ1 a λds=>Q (.ls ds) (dn μ1 a)
theorem sG (h:LE X e T):LE X e (uj T):=by
 obtain ⟨t,p,s⟩:=h.ex
 refine ⟨_,jY p,λσ H ρ μ Q Q' rl h k=>s σ H ρ μ _ _ rl h λv H1 d μ1 t1 m1 p1 h1=>?_⟩
 cases p1 with
 | obj q=>
  obtain ⟨ds,e0,h2⟩:=bT h1
  obtain ⟨xs,ex,l⟩:=m1 q _ e0
  refine ⟨q,xs,rfl,ex,λu=>?_⟩
  have t2:Tk H1 (L2.upd H1 q (.frz u (.lst xs))):=l6 ex
  exact k _ _ _ (dn μ1 q) (t1.trans t2) (Sx m1 t2) (.ls (.inl ⟨u,aQ⟩) (l.mono t2)) h2
 | _=>exact Wm h1
def nz (To Te:ETr):ETr:=λρ μ Q=>To ρ μ λx μ1=>kObj x λa=>kL μ1 a λ_=>Te ρ μ1 λy μ2=>kL μ2 a λds=>ds.length < 1000000/\Q .non (up μ2 a (.lst (ds++[y])))
theorem le_app {apos cpos:Pos}(ho:LE X o To)(he:LE X e Te)
  (hbase:YW o (OF "append") X.env (Xw o X.env)=Xw o X.env:=by rfl)
  (hfew:((XA cpos (Ww [e] X.env)).all (λx=>!x.1)&&(Z4 cpos (YN [] X.env)).all (λx=>x.1.isSome)
   && decide ([e].length+([]:List YS).length+(if ([]:List YS).isEmpty then 0 else 1) < 30))=true:=by rfl)
  (hline:(apos.endLine == cpos.line)=true:=by rfl) (hs:Ww [e] X.env=(false,Xw e X.env)::Ww [] X.env:=by rfl) (hplain:(XA cpos (Ww [] X.env)).any (·.1)=false:=by rfl) :
  LE X (.Call (.Attribute o (OF "append") apos) [e] [] cpos) (nz To Te):=by
 obtain ⟨to,po,so⟩:=ho.ex
 obtain ⟨te,pe,se⟩:=he.ex
 refine ⟨_,D9 YL PySem.F.slot_list_append PySem.F.type_list_append vp po (ft pe i9 hs) hbase hfew hline hs hplain,λσ H ρ μ Q Q' rl h k=>so σ H ρ μ _ _ rl h λx H1 dx μ1 t1 m1 p1 h1=>?_⟩
 cases p1 with
 | obj q=>
  obtain ⟨ds0,e0,h2⟩:=bT h1
  obtain ⟨xs0,ex0,_⟩:=m1 q _ e0
  refine ⟨.inl ⟨rfl,_,SqL.of ex0⟩,se σ H1 ρ μ1 _ _ (rl.go t1 m1) h2 λy H2 dy μ2 t2 m2 p2 h3=>?_⟩
  obtain ⟨ds,e1,lz,h4⟩:=bT h3
  obtain ⟨xs,ex,l⟩:=m2 q _ e1
  exact ⟨q,xs,y,rfl,rfl,ex,by rw[l.length];exact WK lz (by decide),k _ _ _ _ ((t1.trans t2).trans (l6 ex)) (IT m2 ex (l.append (.cons p2 .nil))) .non h4⟩
 | _=>exact Wm h1
def bF:FSp:=λds μ Q=>match ds with
 | [.tup xs]=>Q (.tup xs) μ
 | [.ls xs]=>Q (.tup xs) μ
 | [.obj a]=>kL μ a λxs=>Q (.tup xs) μ
 | _=>False
theorem bj {K:Wa}:mh K (λxs H Q=>∃ p ys,xs=[.ref p]/\((SqL K H p ys/\∀ l,H l=none->Q (.ref l) (L2.upd H l (.tup ys)))∨(SqT K H p ys/\Q (.ref p) H))) bF:=λH μ xs ds Q Q' m p h k=>by
 unfold bF at h
 split at h
 ·cases p with | cons p1 p2=>cases p2;cases p1 with | tup q l=>exact ⟨_,_,rfl,.inr ⟨q,k _ H _ μ (.refl H) m (.tup q l) h⟩⟩
 ·cases p with | cons p1 p2=>cases p2;cases p1 with | ls q l=>exact ⟨_,_,rfl,.inl ⟨q.sq,λz hz=>k _ _ _ μ (.new hz) (dh m hz) (.tup (SqT.of aQ) (l.mono (.new hz))) h⟩⟩
 ·rename_i q
  cases p with | cons p1 p2=>
  cases p2;cases p1
  obtain ⟨ys,e0,h⟩:=bT h
  obtain ⟨xs,ex,l⟩:=m q _ e0
  exact ⟨_,_,rfl,.inl ⟨SqL.of ex,λz hz=>k _ _ _ μ (.new hz) (dh m hz) (.tup (SqT.of aQ) (l.mono (.new hz))) h⟩⟩
 ·exact Wm h
def jW:FSp:=λds μ Q=>match ds with
 | [.tup xs]=>∀ p,μ p=none->Q (.obj p) (up μ p (.lst xs))
 | [.ls xs]=>∀ p,μ p=none->Q (.obj p) (up μ p (.lst xs))
 | [.obj a]=>kL μ a λxs=>∀ p,μ p=none->Q (.obj p) (up μ p (.lst xs))
 | _=>False
theorem vc {K:Wa}:mh K (λxs H Q=>∃ p ys,xs=[.ref p]/\(SqL K H p ys∨SqT K H p ys)/\∀ l,H l=none->Q (.ref l) (L2.upd H l (.lst ys))) jW:=λH μ xs ds Q Q' m p h k=>by
 unfold jW at h
 split at h
 ·cases p with | cons p1 p2=>cases p2;cases p1 with | tup q l=>exact ⟨_,_,rfl,.inr q,λz hz=>k _ _ _ _ (.new hz) (AG m hz l) (.obj _) (h z (m.free hz))⟩
 ·cases p with | cons p1 p2=>cases p2;cases p1 with | ls q l=>exact ⟨_,_,rfl,.inl q.sq,λz hz=>k _ _ _ _ (.new hz) (AG m hz l) (.obj _) (h z (m.free hz))⟩
 ·rename_i q
  cases p with | cons p1 p2=>
  cases p2;cases p1
  obtain ⟨ys,e0,h⟩:=bT h
  obtain ⟨xs,ex,l⟩:=m q _ e0
  exact ⟨_,_,rfl,.inl (SqL.of ex),λz hz=>k _ _ _ _ (.new hz) (AG m hz l) (.obj _) (h z (m.free hz))⟩
 ·exact Wm h
def j4:FSp:=λds μ Q=>match ds with
 | [.tup xs]=>Q (.ls xs) μ
 | [.ls xs]=>Q (.ls xs) μ
 | [.obj a]=>kL μ a λxs=>Q (.ls xs) μ
 | _=>False
def QK (Q:VK):VK:=λv H1=>∃ a xs,v=.ref a/\H1 a=some (.lst xs)/\∀ o,Q v (L2.upd H1 a (.frz o (.lst xs)))
theorem gS {K:Wa}{H:Hp}{μ:Mu}{ys:List V}{ds:List D}{Q:DK}{Q':VK}{z:Addr}(m:bQ K H μ)(l:DpL K H ys ds)(h:Q (.ls ds) μ)(k:jL K H Q Q')(hz:H z=none):QK Q' (.ref z) (L2.upd H z (.lst ys)):=
 ⟨z,ys,rfl,aQ,λo=>by
  have e:L2.upd (L2.upd H z (.lst ys)) z (.frz o (.lst ys))=L2.upd H z (.frz o (.lst ys)):=xf
  rw[e]
  exact k _ _ _ μ (.new hz) (dh m hz) (.ls (.inl ⟨o,aQ⟩) (l.mono (.new hz))) h⟩
theorem Fj {K:Wa}:mh K (λxs H Q=>∃ p ys,xs=[.ref p]/\(SqL K H p ys∨SqT K H p ys)/\∀ l,H l=none->QK Q (.ref l) (L2.upd H l (.lst ys))) j4:=λH μ xs ds Q Q' m p h k=>by
 unfold j4 at h
 split at h
 ·cases p with | cons p1 p2=>cases p2;cases p1 with | tup q l=>exact ⟨_,_,rfl,.inr q,λz hz=>gS m l h k hz⟩
 ·cases p with | cons p1 p2=>cases p2;cases p1 with | ls q l=>exact ⟨_,_,rfl,.inl q.sq,λz hz=>gS m l h k hz⟩
 ·rename_i q
  cases p with | cons p1 p2=>
  cases p2;cases p1
  obtain ⟨ys,e0,h⟩:=bT h
  obtain ⟨xs,ex,l⟩:=m q _ e0
  exact ⟨_,_,rfl,.inl (SqL.of ex),λz hz=>gS m l h k hz⟩
 ·exact Wm h
theorem Hj {x:Str}{p:Pos}{At:ATr}(hx:x = "list")(hg:Gl X x)(hm:X.mg x=none)(hv:Yi x=some (.type "list"))(ha:LA X [e] At)(hn:x ≠ "__name__" := by decide)(hdb:(x == ("__debug__" : Str))=false:=by decide)
  (h1:Ww [e] X.env=(false,Xw e X.env)::Ww [] X.env:=by rfl) (h2:(XA pos (Ww [] X.env)).any (·.1)=false:=by rfl):LE X (.Call (.Name x p) [e] [] pos) (au j4 At):=by
 obtain ⟨ta,pa,sa⟩:=ha.ex
 exact ⟨_,jY (vx i5 hg hm hv pa hn hdb h1 h2),λσ H ρ μ Q Q' rl h k=>sa σ H ρ μ _ _ rl h λxs H1 ds μ1 t1 m1 p1 h1=>Fj H1 μ1 xs ds Q Q' m1 p1 h1 (k.go t1)⟩
def jw:D->Bool
 | .non=>true
 | .bl _=>true
 | .int _=>true
 | .str _=>true
 | _=>false
def inD (x:D)(xs:List D):Bool:=xs.any λy=>eqD y x
def rIn (neg:Bool):DR2:=λx y μ Q=>match y with
 | .tup xs=>(jw x=true/\xs.all jw=true)/\Q (.bl (if neg then !inD x xs else inD x xs)) μ
 | .ls xs=>(jw x=true/\xs.all jw=true)/\Q (.bl (if neg then !inD x xs else inD x xs)) μ
 | .obj a=>kL μ a λxs=>(jw x=true/\xs.all jw=true)/\Q (.bl (if neg then !inD x xs else inD x xs)) μ
 | _=>False
end
end
section
open PySem PySem.Spec PyProof.Rows L2
section
variable {X:Cx} {a b e:WR} {Ta Tb T:ETr} {pos:Pos}
def Tw (t:TE):TE:=λσ H Q=>t σ H λv H1=>Q v H1∨QK Q v H1
theorem C7 {t:TE}(h:PE X e t):PE X e (Tw t):=by
 have g:PE X e (λσ H Q=>∃ P:VK,FH t σ H P/\∀ v H',P v H'->Q v H'):=λpins s σ H Q I ⟨P,hP,k⟩=>
  thn (jY h pins s σ H P I hP) λu s1 ⟨v,H1,I1,r,q⟩=>⟨v,H1,I1,r,k _ _ q⟩
 intro pins s σ H Q I hh
 refine thn (h pins s σ H _ I hh) λu s1 ⟨v,H1,I1,r,q⟩=>?_
 rcases q with q | ⟨c,xs,rfl,ec,q⟩
 ·exact ⟨v,H1,I1,r,q⟩
 ·have hz:=I1.hok c _ ec
  obtain ⟨z,its,n,rv,hg⟩:=hz
  have nl:∀ d o,H1 d=some o->(∀ ys,o≠.lst ys)->d≠c:=λd o e1 e2 w=>by subst w;rw[ec] at e1;cases e1;exact e2 _ rfl
  refine ⟨.ref c,_,I1.un (h':=s1.heap) (t':=s1.toks) (H':=L2.upd H1 c (.frz { cls:=.type "list", data:=.seq its.toArray n } (.lst xs))) ⟨λd o e _ _ _=>e,λd o e _ _ _=>⟨o.slots,e⟩,λd o e w _=>?_,λd o e _=>⟨o,e⟩,λd ys e=>?_,λd o u e=>?_,λd ps e=>⟨#[],?_⟩⟩ (λd u e=>?_),r,q _⟩
  ·rw[aP (λz=>by subst z;rw[ec] at w;cases w)];exact w
  ·rw[aP (nl d _ e (λ_=>nofun))];exact e
  ·rw[aP (nl d _ e (λ_=>nofun))];exact e
  ·rw[aP (nl d _ e (λ_=>nofun)),e];simp
  ·by_cases hd:d=c
   ·subst hd
    rw[aQ] at e;cases e
    exact ⟨hg,z,its,n,rv,hg⟩
   ·rw[aP hd] at e
    refine (I1.hok d u e).lD (λk w _ q=>q) (λk q=>?_) λk ys q=>?_
    ·rw[aP (nl k _ q (λ_=>nofun))];exact q
    ·rw[aP (nl k _ q (λ_=>nofun))];exact q
def N7 (K:Wa):R2:=λx y H Q=>∃ p q ys,x=.ref p/\y=.ref q/\SqT K H p []/\SqT K H q ys/\Q (.ref q) H
theorem LC:OpR X (YK .Add) (N7 X.K):=λpins s σ H x y v u Q I rx ry ⟨p,q,ys,e1,e2,hp,hq,h⟩=>by
 subst e1 e2
 cases rx
 cases ry
 obtain ⟨its,r1,p1,_⟩:=I.tuple hp
 obtain ⟨its2,r2,p2,_⟩:=I.tuple hq
 cases r1
 obtain ⟨⟨c1,d1,t1,l1⟩,ho,hc,n,hd⟩:=id p1
 obtain ⟨⟨c2,d2,t2,l2⟩,ho2,hc2,n2,hd2⟩:=id p2
 simp only at hc hd hc2 hd2
 subst hc hd hc2 hd2
 exact zbj ⟨_,ho,rfl⟩ ⟨_,ho2,rfl⟩ za0 zci ZK Zz (Zm _ _)
  (tuple_addW0 p q #[] its2.toArray n n2 d1 d2 l1 l2 rfl) ⟨ho,ho2,⟨.ref q,H,I,rfl,h⟩⟩
def OP (K:Wa):R2:=λx y H Q=>∃ p q xs ys,x=.ref p/\y=.ref q/\SqL K H p xs/\SqL K H q ys/\xs.length+ys.length<=sizeLine/\∀ z,H z=none->Q (.ref z) (L2.upd H z (.lst (xs++ys)))
theorem KI:OpR X (YK .Add) (OP X.K):=λpins s σ H x y v u Q I rx ry ⟨p,q,xs,ys,e1,e2,hp,hq,hz,h⟩=>by
 subst e1 e2
 cases rx
 cases ry
 obtain ⟨its,r1,p1,_⟩:=I.list hp
 obtain ⟨its2,r2,p2,_⟩:=I.list hq
 obtain ⟨⟨c1,d1,t1,l1⟩,n,ho,hc,hx,hd⟩:=id p1
 obtain ⟨⟨c2,d2,t2,l2⟩,n2,ho2,hc2,hx2,hd2⟩:=id p2
 simp only at hc hd hc2 hd2
 subst hc hd hc2 hd2
 have z1:=r1.length
 have z2:=r2.length
 refine zbj ⟨_,ho,rfl⟩ ⟨_,ho2,rfl⟩ PySem.noFill_list_add PySem.seq_list_add PySem.F.slot_list_add PySem.F.entry_list_add (PySem.F.args_list_add_2 _ _)
  (list_addW p q its.toArray its2.toArray n n2 d1 d2 l1 l2 (by rw[WG,WG];omega)) ⟨ho,ho2,?_⟩
 have ea:its.toArray++its2.toArray=(its++its2).toArray:=by simp
 rw[ea]
 exact ⟨.ref _,_,I.Vt (t':=s.toks) (r1.append r2) (by rw[Wv];omega),rfl,h _ I.fresh⟩
def aV:DR2:=λx y μ Q=>match x,y with
 | .int i,.int j=>Q (.int (i+j)) μ
 | .str i,.str j=>i.length+j.length<=1000000/\Q (.str (i++j)) μ
 | .tup a,.tup b=>a.length+b.length<=1000000/\Q (.tup (a++b)) μ
 | .ls a,.ls b=>a.length+b.length<=1000000/\Q (.ls (a++b)) μ
 | _,_=>False
def rPl (K:Wa):R2:=λx y H Q=>(rI0 λi j=>.int (i+j)) x y H Q∨(∃ i j,x=.str i/\y=.str j/\i.length+j.length<=sizeLine/\Q (.str (i++j)) H)∨OO K x y H Q∨N7 K x y H Q∨OP K x y H Q
theorem NS:OpR X (YK .Add) (rPl X.K):=λpins s σ H x y v u Q I rx ry h=>by
 rcases h with h | h | h | h | h
 ·exact O0 pins s σ H x y v u Q I rx ry h
 ·exact Co pins s σ H x y v u Q I rx ry h
 ·exact Mo pins s σ H x y v u Q I rx ry h
 ·exact LC pins s σ H x y v u Q I rx ry h
 ·exact KI pins s σ H x y v u Q I rx ry h
theorem aN (ha:LE X a Ta)(hb:LE X b Tb):LE X (.BinOp a .Add b pos) (aj aV Ta Tb):=by
 obtain ⟨ta,pa,sa⟩:=ha.ex
 obtain ⟨tb,pb,sb⟩:=hb.ex
 refine ⟨_,C7 (Ob NS pa pb),λσ H ρ μ Q Q' rl h k=>sa σ H ρ μ _ _ rl h λx H1 dx μ1 t1 m1 p1 h1=>sb σ H1 ρ μ1 _ _ (rl.go t1 m1) h1 λy H2 dy μ2 t2 m2 p2 h2=>?_⟩
 have p1:=p1.mono t2
 have k:=k.go (t1.trans t2)
 cases p1 with
 | int i=>
  cases p2 with
  | int j=>exact .inl ⟨i,j,rfl,rfl,.inl (k _ H2 _ μ2 (.refl H2) m2 (.int _) h2)⟩
  | _=>exact Wm h2
 | str i=>
  cases p2 with
  | str j=>exact .inr (.inl ⟨i,j,rfl,rfl,big h2.1,.inl (k _ H2 _ μ2 (.refl H2) m2 (.str _) h2.2)⟩)
  | _=>exact Wm h2
 | @tup q xs ds sq l=>
  cases p2 with
  | @tup q' ys es sq' l'=>
   obtain ⟨hz,h3⟩:=h2
   by_cases hx:xs=[]
   ·subst hx
    cases l
    exact .inr (.inr (.inr (.inl ⟨q,q',ys,rfl,rfl,sq,sq',.inl (k _ H2 _ μ2 (.refl H2) m2 (.tup sq' l') h3)⟩)))
   ·refine .inr (.inr (.inl ⟨q,q',xs,ys,rfl,rfl,sq,sq',hx,by rw[l.length,l'.length];exact big hz,λhy=>?_,λ_ z hzn=>.inl ?_⟩))
    ·subst hy
     cases l'
     rw[WS] at h3
     exact .inl (k _ H2 _ μ2 (.refl H2) m2 (.tup sq l) h3)
    ·exact k _ _ _ μ2 (.new hzn) (dh m2 hzn) (.tup (SqT.of aQ) ((l.append l').mono (.new hzn))) h3
  | _=>exact Wm h2
 | @ls q xs ds sq l=>
  cases p2 with
  | @ls q' ys es sq' l'=>exact .inr (.inr (.inr (.inr ⟨q,q',xs,ys,rfl,rfl,sq.sq,sq'.sq,by rw[l.length,l'.length];exact big h2.1,λz hz=>.inr (gS m2 (l.append l') h2.2 k hz)⟩)))
  | _=>exact Wm h2
 | _=>cases p2<;>exact Wm h2
abbrev OTr:=ST->Mu->(Option Int->Mu->Prop)->Prop
def ONo:OTr:=λ_ μ Q=>Q none μ
def j8 (T:ETr):OTr:=λρ μ Q=>T ρ μ λx μ1=>kI x λi=>Q (some i) μ1
def UY (K:Wa)(t:TO)(T:OTr):Prop:=∀ σ H ρ μ (Q:Option Int->Mu->Prop) (Q':Option Int->Hp->Prop),Rl K σ H ρ μ->T ρ μ Q->(∀ i H' μ',Tk H H'->bQ K H' μ'->Q i μ'->Q' i H')->t σ H Q'
structure LO (X:Cx) (o:Option WR) (T:OTr):Prop where
 ex:∃ t,PO X o t/\UY X.K t T
theorem lJ:LO X none ONo:=⟨_,Mr,λσ H ρ μ Q Q' rl h k=>k none H μ (.refl H) rl.mu h⟩
theorem fE (h:LE X e T):LO X (some e) (j8 T):=by
 obtain ⟨t,p,s⟩:=h.ex
 refine ⟨_,KL p,λσ H ρ μ Q Q' rl h k=>s σ H ρ μ _ _ rl h λv H1 d μ1 t1 m1 p1 h1=>?_⟩
 cases p1 with
 | int i=>exact ⟨i,rfl,k _ H1 μ1 t1 m1 h1⟩
 | _=>exact Wm h1
def cutD {α:Type}(xs:List α)(lo hi:Option Int):List α:=(xs.drop (HT.sIx xs.length 0 lo)).take (HT.sIx xs.length xs.length hi - HT.sIx xs.length 0 lo)
theorem CW {α:Type}{xs:List α}{lo hi:Option Int}(h:HT.sIx xs.length 0 lo=0/\HT.sIx xs.length xs.length hi=xs.length):cutD xs lo hi=xs:=by
 unfold cutD;rw[h.1,h.2];simp
theorem DpL.take {K:Wa}{H:Hp}:∀ {vs:List V} {ds:List D} (n:Nat),DpL K H vs ds->DpL K H (vs.take n) (ds.take n)
 | _,_,0,_=>.nil
 | _,_,_+1,.nil=>.nil
 | _,_,n+1,.cons h l=>.cons h (DpL.take n l)
theorem DpL.drop {K:Wa}{H:Hp}:∀ {vs:List V} {ds:List D} (n:Nat),DpL K H vs ds->DpL K H (vs.drop n) (ds.drop n)
 | _,_,0,l=>l
 | _,_,_+1,.nil=>.nil
 | _,_,n+1,.cons _ l=>DpL.drop n l
theorem DpL.cut {K:Wa}{H:Hp}{vs:List V}{ds:List D}(lo hi:Option Int)(l:DpL K H vs ds):DpL K H (zc vs lo hi) (cutD ds lo hi):=by
 unfold zc cutD;rw[l.length];exact (l.drop _).take _
theorem Ad {prog:WX}{w:Xb}{A:Xn}{E:We->Wh->Prop}{s:Wh}{t sl:Addr}{items:Array We}{vl vu:We}{lo hi:Option Int}{Q:We->Wh->Prop}(ht:zdj s.heap t items)(hs:s.heap.IsSliceOf sl vl vu .none)(pl:IsPart vl lo)(pu:IsPart vu hi)
  (hw:HT.sIx items.size 0 lo=0/\HT.sIx items.size items.size hi=items.size) (h:Q (.ref t) s):WJ (WM prog w) A (zap (.ref t) (.ref sl)) Q E s:=by
 obtain ⟨os,hos,hcs,hds⟩:=id hs
 have hTs:s.TypeIs (.ref sl) "slice" := ⟨os,hos,hcs⟩
 unfold zap
 try with_reducible refine YV ?_
 first | refine Wb (Wn ?_) | skip
 refine Wb (zcP ht.typeIs (by decide) ?_)
 refine Wb (Xo (name:=OF "__getitem__") ht.typeIs Xl (XW Xl ht.typeIs zcc ?_ (zcA _ _)))
 show WJ _ _ (zay (.ref t) >>= _) _ _ s
 refine Wb (tupleItemsOf_ ht ?_)
 refine Wb <| wpAny_typeOf hTs ?_
 rw[if_pos (by decide)]
 refine Wb (HT.iF hs pl pu ?_)
 rw[hw.1,hw.2]
 refine (show WJ _ _ (if (((0:Nat):Int) == 0&&(1:Int) == 1&&(items.size - 0) == items.size)=true then _ else _) _ _ s from ?_)
 rw[if_pos (by simp)]
 unfold zdM
 refine Wb (Wb (wpAny_typeOf ht.typeIs (Wn ?_)))
 rw[if_pos (by decide)]
 first
  | exact Wb (YO (Wb (Wn (Wn ⟨_,rfl,Wn h⟩))))
  | exact Wb (YO (Wn ⟨_,rfl,Wn h⟩))
  | exact Wb (Wb (YO (Wn (Wn ⟨_,rfl,Wn h⟩))))
def Ve (K:Wa):V->Option Int->Option Int->Hp->VK->Prop:=λx lo hi H Q=>∃ a xs,x=.ref a/\SqT K H a xs/\(HT.sIx xs.length 0 lo=0/\HT.sIx xs.length xs.length hi=xs.length)/\Q (.ref a) H
theorem Gw:SlR X (Ve X.K):=λpins s σ H x v vl vu lo hi sl Q I rx hs pl pu ⟨q,xs,e,hx,hw,h⟩=>by
 subst e
 cases rx
 obtain ⟨its,r,ht,_⟩:=I.tuple hx
 have hlen:its.toArray.size=xs.length:=by rw[WG];exact r.length.symm
 exact ⟨"tuple", _,Xl.lookup,ht.typeIs,Ad ht hs pl pu (by rw[hlen];exact hw) ⟨.ref q,H,I,rfl,h⟩⟩
def rSl:D->Option Int->Option Int->Mu->DK->Prop:=λx lo hi μ Q=>match x with
 | .tup xs=>Q (.tup (cutD xs lo hi)) μ
 | .ls xs=>Q (.ls (cutD xs lo hi)) μ
 | .obj a=>kL μ a λxs=>Q (.ls (cutD xs lo hi)) μ
 | _=>False
def TSl (a:ETr)(lo hi:OTr):ETr:=λρ μ Q=>a ρ μ λx μ1=>lo ρ μ1 λl μ2=>hi ρ μ2 λh μ3=>rSl x l h μ3 Q
theorem kH {lo hi:Option WR}{Tl Th:OTr}{p2:Pos}(ha:LE X a Ta)(hl:LO X lo Tl)(hh:LO X hi Th):LE X (.Subscript a (.Slice lo hi none p2) pos) (TSl Ta Tl Th):=by
 obtain ⟨ta,pa,sa⟩:=ha.ex
 obtain ⟨tl,pl,sl⟩:=hl.ex
 obtain ⟨th,ph,sh⟩:=hh.ex
 refine ⟨_,C7 (GI (SlR.or Gw (SlR.or QB Ng)) pa pl ph),λσ H ρ μ Q Q' rl h k=>sa σ H ρ μ _ _ rl h λx H1 dx μ1 t1 m1 p1 h1=>sl σ H1 ρ μ1 _ _ (rl.go t1 m1) h1 λi H2 μ2 t2 m2 h2=>sh σ H2 ρ μ2 _ _ (rl.go (t1.trans t2) m2) h2 λj H3 μ3 t3 m3 h3=>?_⟩
 have p1:=p1.mono (t2.trans t3)
 have k:=k.go (t1.trans (t2.trans t3))
 cases p1 with
 | @tup q xs ds sq l=>
  by_cases hw:HT.sIx xs.length 0 i=0/\HT.sIx xs.length xs.length j=xs.length
  ·refine .inl ⟨q,xs,rfl,sq,hw,.inl (k _ H3 _ μ3 (.refl H3) m3 (.tup sq l) ?_)⟩
   rw[l.length] at hw
   have h3:Q (.tup (cutD ds i j)) μ3:=h3
   rw[CW hw] at h3;exact h3
  ·exact .inr (.inl ⟨q,xs,rfl,sq,hw,λz hz=>.inl (k _ _ _ μ3 (.new hz) (dh m3 hz) (.tup (SqT.of aQ) ((l.cut i j).mono (.new hz))) h3)⟩)
 | @ls q xs ds sq l=>exact .inr (.inr ⟨q,xs,rfl,sq.sq,λz hz=>.inr (gS m3 (l.cut i j) h3 k hz)⟩)
 | obj q=>
  obtain ⟨ds,e0,h4⟩:=bT h3
  obtain ⟨xs,ex,l⟩:=m3 q _ e0
  exact .inr (.inr ⟨q,xs,rfl,SqL.of ex,λz hz=>.inr (gS m3 (l.cut i j) h4 k hz)⟩)
 | _=>exact Wm h3
theorem D5 {α:Type}(xs:List α)(k:Nat):cutD xs none (some (k:Int))=xs.take k:=by
 unfold cutD
 rw[HT.Aq,HT.Dy,List.drop_zero,Nat.sub_zero]
 rcases zd5 k xs.length with h | h
 ·rw[zbz h]
 ·rw[za4 h,List.take_length,Yj h]
theorem uY {α:Type}(xs:List α)(k:Nat):cutD xs (some (k:Int)) none=xs.drop k:=by
 unfold cutD
 rw[HT.Aq,HT.Dy]
 rcases zd5 k xs.length with h | h
 ·rw[zbz h,Yj (by rw[Ze];omega)]
 ·rw[za4 h,Yn,List.drop_of_length_le h];simp
end
end
section
open PySem PySem.Spec PyProof.Rows L2
theorem jh:∀ {us:List We} {ns:List Int},Zo us ns->Vals (ns.map V.int) us
 | _,_,.nil=>.nil
 | _,_,.cons n t h=>.cons ⟨t,rfl⟩ (jh h)
def Qi (K:Wa):List V->Hp->VK->Prop:=λxs H Q=>∃ (p:Addr) (ns:List Int),xs=[.ref p]/\SqL K H p (ns.map V.int)/\ns.length < 64/\∀ ns':List Int,ns'.Perm ns->ns'.Pairwise (·<=·)->∀ z,H z=none->Q (.ref z) (L2.upd H z (.lst (ns'.map V.int)))
theorem Cy {X:Cx}:cM X (.builtin "sorted") (Qi X.K):=λpins s σ H xs us Q I rx ⟨p,ns,e1,sq,hl,q⟩=>by
 subst e1
 obtain ⟨u,rfl,ru⟩:=vals1 rx
 cases ru
 obtain ⟨its,rv,pl,hz⟩:=I.list sq
 have hi:Zo its ns:=intsAre_of rv
 have hlen:its.length < 64:=by rw[hi.length];exact hl
 refine sorted_ints pl.isList hi hlen λout ns' a1 a2 a3=>?_
 obtain ⟨n,en⟩:=sortedAll_at s.heap its out
 refine ⟨.ref _,_,I.laid (t':=s.toks) (o:=.lst (ns'.map V.int)) (λb o e=>sortedAll_old e) (Z6 _) ?_,rfl,q ns' a2 a3 _ (I.hok.fresh (Z6 _))⟩
 have z1:ns'.length=ns.length:=a2.length_eq
 exact ⟨by rw[Wf,z1];exact ZH (WK hl (by decide)),out.toList,n,jh a1,by simpa[zak] using en⟩
theorem DpL.ints_of {K:Wa}{H:Hp}:∀ {xs:List V} {ns:List Int},DpL K H xs (ns.map .int)->xs=ns.map V.int
 | _,[],.nil=>rfl
 | _,n::r,.cons h l=>by cases h;rw[DpL.ints_of l];rfl
end
section
open PySem PySem.Spec PyProof.Rows L2
theorem _root_.L2.Inv.frz {X:Cx}{pins:List (Addr×Obj)}{σ:L2.St}{H:Hp}{s:Wh}{c:Addr}{xs:List V}(I1:Inv X pins σ H s)(ec:H c=some (.lst xs)):∃ o,Inv X pins σ (L2.upd H c (.frz o (.lst xs))) s:=by
 obtain ⟨z,its,n,rv,hg⟩:=I1.hok c _ ec
 have nl:∀ d o,H d=some o->(∀ ys,o≠.lst ys)->d≠c:=λd o e1 e2 w=>by subst w;rw[ec] at e1;cases e1;exact e2 _ rfl
 refine ⟨_,I1.un (h':=s.heap) (t':=s.toks) (H':=L2.upd H c (.frz { cls:=.type "list", data:=.seq its.toArray n } (.lst xs))) ⟨λd o e _ _ _=>e,λd o e _ _ _=>⟨o.slots,e⟩,λd o e w _=>?_,λd o e _=>⟨o,e⟩,λd ys e=>?_,λd o u e=>?_,λd ps e=>⟨#[],?_⟩⟩ (λd u e=>?_)⟩
 ·rw[aP (λz=>by subst z;rw[ec] at w;cases w)];exact w
 ·rw[aP (nl d _ e (λ_=>nofun))];exact e
 ·rw[aP (nl d _ e (λ_=>nofun))];exact e
 ·rw[aP (nl d _ e (λ_=>nofun)),e];simp
 ·by_cases hd:d=c
  ·subst hd
   rw[aQ] at e;cases e
   exact ⟨hg,z,its,n,rv,hg⟩
  ·rw[aP hd] at e
   refine (I1.hok d u e).lD (λk w _ q=>q) (λk q=>?_) λk ys q=>?_
   ·rw[aP (nl k _ q (λ_=>nofun))];exact q
   ·rw[aP (nl k _ q (λ_=>nofun))];exact q
theorem Dh {X:Cx}{tg iter elt:WR}{ifs:List WR}{scope:Scope}{pos spos py:Pos}{y:Str}{iy:Nat}{wi:TI}{g:TG}{tt:TT}{te:TE}{Nc:List Str}{n:Nat}{caps:List Nat}
  (hxe:X.xe=λ_ _=>False) (hcalm:X.calm=true) (hi:PI X tg iter wi)
  (hbody:∀ (cl:List (Str×Addr)) (C:Addr) (s₀:Wh) (H₀:Hp) (ex:List Addr),PG (bh X scope Nc cl C s₀ H₀ ex) tg g/\xt (bh X scope Nc cl C s₀ H₀ ex) ifs tt/\PE (bh X scope Nc cl C s₀ H₀ ex) elt te)
  (hfree:∀ y∈scope.names,y.2=.free->X.env.kindOf y.1=some .cell) (hcell:∀ y∈scope.names,y.2≠.cell) (gu:scope.kind=.function)
  (hnames:∀ y∈scope.names,y.2=.local->scope.names.lookup y.1=some .local) (hlen:Nc.length=n+caps.length)
  (hcap:∀ (j k:Nat),caps[j]? = some k->∃ x,Nc[n+j]? = some x/\X.N[k]? = some x/\scope.names.lookup x=some .free)
  (pgy:PG X (.Name y py) (nj iy))
  (hsw:YJ (.ListComp elt [⟨tg,iter,ifs,0⟩] scope pos) (some (.Name y py)) spos.line X.env=pure true)
  (hs:∀ x,Xf iter X.env x=pure x:=by intro _;rfl) :
  PS X (.Assign [.Name y py] (.ListComp elt [⟨tg,iter,ifs,0⟩] scope pos) spos) (GX (FH (lE wi g tt te n caps)) (nj iy)):=
 y9 (Z:=FH) hxe hcalm hi hbody hfree hcell gu hnames hlen hcap pgy hsw (λσ H Q h=>⟨_,h,λpins D H5 s5 I5 ⟨a,xs,ea,eH,q⟩=>by
  cases ea
  obtain ⟨o,I6⟩:=I5.frz eH
  exact ⟨_,λb hb=>by rw[aP (λz=>by rw[z,eH] at hb;cases hb)];exact hb,I6,q o⟩⟩) hs
theorem Kc {K:Wa}{wi:TI}{It':ATr}{G:GTr}{Tt:TTr}{Te:ETr}{n:Nat}{caps:List Nat}(si:Pc K wi It'):Sim K (FH (lE wi (nC K n G) (liftT K Tt) (mP K Te) n caps)) (bZ It' G Tt Te n caps):=by
 intro σ H ρ μ Q Q' rl h k
 refine si σ H ρ μ _ _ rl h λJ H1 ds μ1 t1 m1 Y h1 D hD=>?_
 have hp:=h1 D (m1.free hD)
 have tD:Tk H1 (L2.upd H1 D (.lst [])):=.new hD
 have mD:bQ K (L2.upd H1 D (.lst [])) (up μ1 D (.lst [])):=λa o e=>by
  by_cases ha:a=D
  ·subst ha
   rw[aK] at e;cases e
   exact ⟨[],aQ,.nil⟩
  ·rw[aY ha] at e
   exact dh m1 hD a o e
 refine ⟨λi m ys H2=>m=ds.length - i/\i<=ds.length/\Tk H1 H2/\∃ μ2,bQ K H2 μ2/\fK D G Tt Te (fk ρ n caps) (λμ'=>kL μ' D λzs=>Q (.ls zs) (dn μ' D)) (ds.drop i) μ2,
  ⟨ds.length,by simp,Xx _,tD,_,mD,by simpa using hp⟩,?_⟩
 rintro i m ys H2 ⟨rfl,hi,t12,μ2,m2,h2⟩
 by_cases hlt:i < ds.length
 ·refine .inr ⟨Y.go i H2 t12 hlt,λys' H'=>Tk H1 H'/\∃ μ',bQ K H' μ'/\fK D G Tt Te (fk ρ n caps) (λμ'=>kL μ' D λzs=>Q (.ls zs) (dn μ' D)) (ds.drop (i+1)) μ',λys' H' ⟨t',μ',m',h'⟩=>⟨ds.length - (i+1),by omega,rfl,hlt,t',μ',m',h'⟩,λx H3 y=>?_⟩
  obtain ⟨t23,⟨d,ed,pd⟩,mk⟩:=Y.yld i H2 x H3 t12 hlt y
  have e:ds.drop i=d::ds.drop (i+1):=by
   refine (X6 hlt).trans ?_
   congr 1
   rw[Wz hlt] at ed
   exact W4 ed
  rw[e] at h2
  have t13:=t12.trans t23
  have r3:Rl K (lC σ n caps) H3 (fk ρ n caps) μ2:=qm (rl.go (t1.trans t13) (mk _ m2)) n caps
  refine ⟨_,_,d,_,r3,pd,h2,λσ4 H4 ρ4 μ4 t4 r4 kp h4=>⟨⟨kp.1.symm,λj v ej=>?_⟩,_,_,_,r4,h4,λb H5 μ5 t5 m5 h5=>?_⟩⟩
  ·by_cases hj:n<=j
   ·rw[kp.2 j hj];exact ej
   ·obtain ⟨j',k',e1,_⟩:=kJ ej
    omega
  ·have t15:=t13.trans (t4.trans t5)
   cases b with
   | false=>exact rE ⟨t15,μ5,m5,h5⟩
   | true=>
    refine qS ⟨_,_,_,r4.go t5 m5,h5,λv H6 d6 μ6 t6 m6 p6 h6=>?_⟩
    obtain ⟨zs,ez,lz,h7⟩:=bT h6
    obtain ⟨xs,ex,lx⟩:=m6 D _ ez
    have t67:Tk H6 (L2.upd H6 D (.lst (xs++[v]))):=.upd (λys z=>by rw[ex] at z;cases z) λo' u z=>by rw[ex] at z;cases z
    refine ⟨xs,ex,by rw[lx.length];exact WK lz (by decide),(t15.trans t6).trans t67,up μ6 D (.lst (zs++[d6])),λa o ea=>?_,h7⟩
    by_cases ha:a=D
    ·subst ha
     rw[aK] at ea;cases ea
     exact ⟨_,aQ,(lx.append (.cons p6 .nil)).mono t67⟩
    ·rw[aY ha] at ea
     exact (m6 a _ ea).ne t67 ha
 ·have e:i=ds.length:=by omega
  subst e
  rw[Yn] at h2
  obtain ⟨zs,ez,hq⟩:=bT (show kL μ2 D λzs=>Q (.ls zs) (dn μ2 D) from h2)
  obtain ⟨xs,ex,lx⟩:=m2 D _ ez
  refine .inl ⟨Y.stop _ H2 t12 (WA _),D,xs,rfl,ex,λo=>?_⟩
  have t2f:Tk H2 (L2.upd H2 D (.frz o (.lst xs))):=.upd (λys z=>by rw[ex] at z;cases z) λo' u z=>by rw[ex] at z;cases z
  refine k _ _ _ (dn μ2 D) ((t1.trans t12).trans t2f) (λa o' ea=>?_) (.ls (.inl ⟨o,aQ⟩) (lx.mono t2f)) hq
  have ha:a≠D:=λz=>by subst z;unfold dn at ea;rw[if_pos rfl] at ea;cases ea
  have ea':μ2 a=some o':=by unfold dn at ea;rw[if_neg ha] at ea;exact ea
  exact (m2 a _ ea').ne t2f ha
theorem gD {X:Cx}{tg elt iter:WR}{Te:ETr}{Tt:TTr}{pos spos py:Pos}{y:Str}{It':ATr}{G:GTr}{ifs:List WR}{scope fsc:Scope}(iy:Nat)(hN:X.N.Nodup)(XN Nc:List Str)(n:Nat)(caps:List Nat)(hxe:X.xe=λ_ _=>False)(hcalm:X.calm=true)(hi:LI X tg iter It')
  (hbody:∀ (cl:List (Str×Addr)) (C:Addr) (s₀:Wh) (H₀:Hp) (ex:List Addr),LGc (bh X scope Nc cl C s₀ H₀ ex) n tg G/\zL (bh X scope Nc cl C s₀ H₀ ex) ifs Tt/\LE (bh X scope Nc cl C s₀ H₀ ex) elt Te)
  (hsc:X.env.scope=fsc) (hXN:X.N=XN) (hok:iB fsc.names XN scope Nc n caps=true)
  (hiy:X.N[iy]? = some y:=by rfl) (hx:Loc X.env.scope y:=by first | exact ZM rfl | exact ZN rfl) (hf:X.fn y=true∨X.env.scope.names.lookup y=some .local:=by first | exact .inl rfl | exact .inr rfl | assumption)
  (hsw:YJ (.ListComp elt [⟨tg,iter,ifs,0⟩] scope pos) (some (.Name y py)) spos.line X.env=pure true:=by rfl)
  (hs:∀ x,Xf iter X.env x=pure x:=by intro _;rfl) :
  LS X (.Assign [.Name y py] (.ListComp elt [⟨tg,iter,ifs,0⟩] scope pos) spos) (aO (bZ It' G Tt Te n caps) (aA iy)):=by
 unfold iB at hok
 simp only[Xd,Zf] at hok
 obtain ⟨⟨⟨h1,h2⟩,h3⟩,h4⟩:=hok
 obtain ⟨wi,pi,si⟩:=hi.ex
 refine ⟨_,Dh (g:=nC X.K n G) (tt:=liftT X.K Tt) (te:=mP X.K Te) hxe hcalm pi (λcl C s₀ H₀ ex=>let ⟨h1,h2,h3⟩:=hbody cl C s₀ H₀ ex;⟨h1.pe,h2.pe,h3.pe⟩) (λy hy hf=>?_) (λy hy hf=>?_) (by simpa using h2) (λy hy hf=>?_) (by simpa using h3) (λj k hj=>?_) (ji hN hiy hx hf) hsw hs,λσ H ρ μ E E' rl h k=>Kc si σ H ρ μ _ _ rl h λv H' d μ' t' m' p' h'=>iI iy σ H' ρ μ' v d _ _ (rl.go t' m') p' h' (k.go t').nx⟩
 ·have:=(h1 y hy).1.1
  show X.env.scope.names.lookup y.1=_
  rw[hsc]
  simpa[hf] using this
 ·have:=(h1 y hy).1.2
  simp[hf] at this
 ·have:=(h1 y hy).2
  simpa[hf] using this
 ·have hl:j < caps.length:=(WL.mp hj).1
  have:=h4 j (YI.mpr hl)
  rw[hj] at this
  dsimp only at this
  rw[hXN]
  cases e:XN[k]? with
  | none=>rw[e] at this;cases this
  | some x=>
   rw[e] at this
   dsimp only at this
   rw[Xd] at this
   exact ⟨x,by simpa using this.1,rfl,by simpa using this.2⟩
end
section
open PySem PySem.Spec PyProof.Rows L2
section
variable {X:Cx} {ea:WR} {es:List WR} {ek:Nat} {ep p pos:Pos}
def gJ (ds:List D):List D:=(WQ ds.length).zipWith (λi d=>.tup [.int (i:Nat),d]) ds
def Sv (t:ATr):ATr:=λρ μ Q=>t ρ μ λvs μ1=>match vs with
 | [.ls ds]=>Q (gJ ds) μ1
 | _=>False
theorem u9 (ds:List D)(i:Nat):(gJ ds)[i]? = (ds[i]?).map λd=>.tup [.int (i:Nat),d]:=by
 unfold gJ
 rw[zbH]
 by_cases h:i < ds.length
 ·rw[zce h,Wz h];rfl
 ·rw[Yw.mpr (by simpa using h),Yw.mpr (by simpa using h)];rfl
theorem vo (ds:List D):(gJ ds).length=ds.length:=by unfold gJ;simp
variable {eb:WR} {tg:WR} {Ta Tb:ETr}
end
end
section
open PySem PySem.Spec PyProof PyProof.Rows L2
theorem ij:∀ {us:List We} {ns:List Int},Zo us ns->∃ ps:List (Int×Tok),us=ps.map (λp=>zas p.1 p.2)/\ps.map zdN=ns
 | _,_,.nil=>⟨[],⟨rfl,rfl⟩⟩
 | _,_,.cons n t h=>by
  obtain ⟨ps,e1,e2⟩:=ij h
  exact ⟨(n,t)::ps,by rw[e1];rfl,by rw[← e2];rfl⟩
theorem sF (ps:List (Int×Tok))(i:Nat):zdo ps.toArray i=((ps.map zdN)[i]?).getD 0:=by
 unfold zdo
 simp only[List.getElem?_toArray,Xh]
section
variable {X:Cx} {a b:WR} {Ta Tb:ETr} {pos:Pos}
end
end
theorem xk (i j:Int)(μ Q):aV (.int i) (.int j) μ Q=Q (.int (i+j)) μ:=rfl
theorem xm (i j:Str)(μ Q):aV (.str i) (.str j) μ Q=(i.length+j.length<=1000000/\Q (.str (i++j)) μ):=rfl
theorem vP (a b:List D)(μ Q):aV (.tup a) (.tup b) μ Q=(a.length+b.length<=1000000/\Q (.tup (a++b)) μ):=rfl
theorem vQ (a b:List D)(μ Q):aV (.ls a) (.ls b) μ Q=(a.length+b.length<=1000000/\Q (.ls (a++b)) μ):=rfl
theorem qG (a:List D)(μ Q):bF [.tup a] μ Q=Q (.tup a) μ:=rfl
theorem sx (a:List D)(μ Q):bF [.ls a] μ Q=Q (.tup a) μ:=rfl
theorem sL (a:Addr)(μ Q):bF [.obj a] μ Q=kL μ a λxs=>Q (.tup xs) μ:=rfl
theorem rS (a:List D)(μ Q):j4 [.tup a] μ Q=Q (.ls a) μ:=rfl
theorem rf (a:List D)(μ Q):j4 [.ls a] μ Q=Q (.ls a) μ:=rfl
theorem rV (a:Addr)(μ Q):j4 [.obj a] μ Q=kL μ a λxs=>Q (.ls xs) μ:=rfl
theorem sZ (a:List D)(μ Q):jW [.tup a] μ Q = ∀ p,μ p=none->Q (.obj p) (up μ p (.lst a)):=rfl
theorem qV (a:List D)(μ Q):jW [.ls a] μ Q = ∀ p,μ p=none->Q (.obj p) (up μ p (.lst a)):=rfl
theorem qJ (a:Addr)(μ Q):jW [.obj a] μ Q=kL μ a λxs=>∀ p,μ p=none->Q (.obj p) (up μ p (.lst xs)):=rfl
theorem xP (a:List D)(lo hi)(μ Q):rSl (.tup a) lo hi μ Q=Q (.tup (cutD a lo hi)) μ:=rfl
theorem GZ (a:List D)(lo hi)(μ Q):rSl (.ls a) lo hi μ Q=Q (.ls (cutD a lo hi)) μ:=rfl
theorem Jg (a:Addr)(lo hi)(μ Q):rSl (.obj a) lo hi μ Q=kL μ a λxs=>Q (.ls (cutD xs lo hi)) μ:=rfl
theorem GK (n:Bool)(x:D)(a:List D)(μ Q):L3.rIn n x (.tup a) μ Q=((jw x=true/\a.all jw=true)/\Q (.bl (if n then !inD x a else inD x a)) μ):=rfl
theorem Jl (n:Bool)(x:D)(a:List D)(μ Q):L3.rIn n x (.ls a) μ Q=((jw x=true/\a.all jw=true)/\Q (.bl (if n then !inD x a else inD x a)) μ):=rfl
theorem F6 (n:Bool)(x:D)(a:Addr)(μ Q):L3.rIn n x (.obj a) μ Q=kL μ a λxs=>(jw x=true/\xs.all jw=true)/\Q (.bl (if n then !inD x xs else inD x xs)) μ:=rfl
theorem Cv (a:Addr)(μ Q):dB [.obj a] μ Q=kL μ a λxs=>Q (.int xs.length) μ:=rfl
theorem CV (x:Str)(μ Q):dB [.str x] μ Q=(x.length<=1000000/\Q (.int x.length) μ):=rfl
theorem IX (μ Q):rIs .non .non μ Q=Q (.bl true) μ:=rfl
theorem HG (i:Int)(μ Q):rIs (.int i) .non μ Q=Q (.bl false) μ:=rfl
theorem G7 (i:List D)(μ Q):rIs (.tup i) .non μ Q=Q (.bl false) μ:=rfl
theorem sN (μ Q):ik .non .non μ Q=Q (.bl false) μ:=rfl
theorem sU (i:Int)(μ Q):ik (.int i) .non μ Q=Q (.bl true) μ:=rfl
theorem qK (i:List D)(μ Q):ik (.tup i) .non μ Q=Q (.bl true) μ:=rfl
theorem Cq (c:String)(i:List D)(μ Q):Fo c (.ls i) μ Q=Q (.bl (mL "list" c)) μ:=rfl
theorem BB (c:String)(i:Str)(μ Q):Fo c (.str i) μ Q=Q (.bl (mL "str" c)) μ:=rfl
theorem A7 (c:String)(μ Q):Fo c .non μ Q=Q (.bl (mL "NoneType" c)) μ:=rfl
theorem bL (k:Nat)(ds:List D):atD ds (k:Int)=ds[k]?:=by
 unfold atD L2.atI L2.ixN
 rw[if_pos (Zw k)]
 by_cases h:k < ds.length
 ·rw[if_pos (by omega)];simp
 ·rw[if_neg (by omega)];simp;omega
theorem pJ (ds:List D):atD ds 0=ds[0]?:=bL 0 ds
theorem yZ (ds:List D):atD ds 1=ds[1]?:=bL 1 ds
theorem Ec (ds:List D):atD ds 2=ds[2]?:=bL 2 ds
theorem D4 (ds:List D):atD ds 3=ds[3]?:=bL 3 ds
theorem DY (ds:List D):atD ds 4=ds[4]?:=bL 4 ds
theorem DV (ds:List D):atD ds 5=ds[5]?:=bL 5 ds
theorem NR (n k:Nat):L2.ixN n (k:Int)=if k < n then some k else none:=by
 unfold L2.ixN
 rw[if_pos (Zw k)]
 by_cases h:k < n
 ·rw[if_pos (by omega),if_pos h];simp
 ·rw[if_neg (by omega),if_neg h]
theorem gi:mL "int" "int" = true:=by decide
theorem fN:mL "int" "bool" = false:=by decide
theorem fY:mL "bool" "bool" = true:=by decide
theorem gf:mL "bool" "int" = true:=by decide
theorem gh:mL "tuple" "tuple" = true:=by decide
theorem fS:mL "int" "tuple" = false:=by decide
theorem fO:mL "bool" "tuple" = false:=by decide
theorem fm0 {a n:Int}(h:0 < n):0<=a.fmod n:=Int.fmod_nonneg_of_pos a h
theorem fm1 {a n:Int}(h:0 < n):a.fmod n < n:=Int.fmod_lt_of_pos a h
theorem J8 (A B:Prop):kIf true A B=A:=rfl
theorem Kl (A B:Prop):kIf false A B=B:=rfl
theorem Jy (p:Prop) [Decidable p] (A B:Prop):kIf (decide p) A B=if p then A else B:=by by_cases h:p<;>simp[h,kIf]
theorem HQ (c:Bool)(A B:Prop):kIf (!c) A B=kIf c B A:=by cases c<;>rfl
theorem Hk (c:Bool)(f):kB (.bl c) f=f c:=rfl
theorem BQ (c:Int)(f):kI (.int c) f=f c:=rfl
theorem qA (c:D)(f):kO (some c) f=f c:=rfl
theorem B7 (c:List D)(f):kS (.tup c) f=f c:=rfl
theorem GC (c:List D)(f):kS (.ls c) f=f c:=rfl
theorem BO (a b:D)(f):k2 [a,b] f=f a b:=rfl
theorem vU (c:Nat)(f):kN (some c) f=f c:=rfl
theorem DG (μ:Mu)(a:Addr)(ds:List D)(f):kL (up μ a (.lst ds)) a f=f ds:=by unfold kL;rw[aK]
theorem Uk {μ:Mu}{a:Addr}{ds:List D}(h:μ a=some (.lst ds))(f):kL μ a f=f ds:=by unfold kL;rw[h]
theorem rO (a:Addr)(n:Int)(y:D)(μ:Mu)(f):SN (.obj a) (.int n) y μ f=kL μ a λds=>kN (L2.ixN ds.length n) λj=>f (up μ a (.lst (ds.set j y))):=rfl
theorem Aw (i j:Int)(μ Q):kg (.int i) (.int j) μ Q=Q (.int (i - j)) μ:=rfl
theorem Cs (i j:Int)(μ Q):eP (.int i) (.int j) μ Q=(MulOk i j/\Q (.int (i*j)) μ):=rfl
theorem AD (i j:Int)(μ Q):oa (.int i) (.int j) μ Q=(kC j/\Q (.int (i.fdiv j)) μ):=rfl
theorem Bj (i j:Int)(μ Q):mN (.int i) (.int j) μ Q=(j≠0/\Q (.int (i.fmod j)) μ):=rfl
theorem Bn (i j:Int)(μ Q):Gu (.int i) (.int j) μ Q=(sj i j/\Q (.int (i ^ j.toNat)) μ):=rfl
theorem CD (i:Int)(μ Q):Nw (.int i) μ Q=Q (.int (-i)) μ:=rfl
theorem Hl (i j:Int)(μ Q):rLt (.int i) (.int j) μ Q=Q (.bl (decide (i < j))) μ:=rfl
theorem IV (i j:Int)(μ Q):rLe (.int i) (.int j) μ Q=Q (.bl (decide (i<=j))) μ:=rfl
theorem G9 (i j:Int)(μ Q):rGt (.int i) (.int j) μ Q=Q (.bl (decide (j < i))) μ:=rfl
theorem IA (i j:Int)(μ Q):rGe (.int i) (.int j) μ Q=Q (.bl (decide (j<=i))) μ:=rfl
theorem G4 (x y:D)(μ Q):L3.rEq x y μ Q=((okD 40 x=true/\okD 40 y=true)/\Q (.bl (eqD x y)) μ):=rfl
theorem J1 (x y:D)(μ Q):L3.rNe x y μ Q=((okD 40 x=true/\okD 40 y=true)/\Q (.bl (!eqD x y)) μ):=rfl
theorem sA (ds:List D)(i:Int)(μ Q):L3.rIx (.tup ds) (.int i) μ Q=kO (atD ds i) λd=>Q d μ:=rfl
theorem DA (ds:List D)(i:Int)(μ Q):L3.rIx (.ls ds) (.int i) μ Q=kO (atD ds i) λd=>Q d μ:=rfl
theorem Gb (a:Addr)(i:Int)(μ Q):L3.rIx (.obj a) (.int i) μ Q=kL μ a λds=>kO (atD ds i) λd=>Q d μ:=rfl
theorem BI (c:String)(i:Int)(μ Q):Fo c (.int i) μ Q=Q (.bl (mL "int" c)) μ:=rfl
theorem Bf (c:String)(i:Bool)(μ Q):Fo c (.bl i) μ Q=Q (.bl (mL "bool" c)) μ:=rfl
theorem Bh (c:String)(i:List D)(μ Q):Fo c (.tup i) μ Q=Q (.bl (mL "tuple" c)) μ:=rfl
theorem Cw (i:Int)(μ Q):xr [.int i] μ Q=Q (.int (if i < 0 then -i else i)) μ:=rfl
theorem Cc (i j:Int)(μ Q):vA [.int i,.int j] μ Q=Q (.int (if j > i then j else i)) μ:=rfl
theorem BW (i j:Int)(μ Q):vm [.int i,.int j] μ Q=Q (.int (if j < i then j else i)) μ:=rfl
theorem AQ (i:Int)(μ Q):yJ [.int i] μ Q=Q (.int i) μ:=rfl
theorem BS (i:Bool)(μ Q):yJ [.bl i] μ Q=Q (.int (if i then 1 else 0)) μ:=rfl
theorem CI (i:List D)(μ Q):dB [.tup i] μ Q=Q (.int i.length) μ:=rfl
theorem B3 (i:List D)(μ Q):dB [.ls i] μ Q=Q (.int i.length) μ:=rfl
local macro_rules | `(tactic| walk_at "rd")=>zzS "L3.ah L3.TC L3.aj L3.TUn L3.fJ L3.Bo L3.Kd L3.TB L3.mG L3.TOr L3.CQ L3.lZ L3.BY L3.aq L3.af L3.bf L3.fc L3.mT L3.au L3.a8 L3.aB L3.CK L3.HD L3.fv L3.aW L3.G8 L3.bI L3.aA L3.aO L3.qB L3.Cn L3.iq L3.fW L3.eL L3.J8 L3.Kl L3.Jy L3.HQ L3.Hk L3.BQ L3.qA L3.B7 L3.GC L3.BO L3.vU L3.DG L3.rO L3.xk L3.xm L3.vP L3.vQ L3.nz L3.jo L3.uj L3.qG L3.sx L3.sL L3.rS L3.rf L3.rV L3.sZ L3.qV L3.qJ L3.TSl L3.ONo L3.j8 L3.xP L3.GZ L3.Jg L3.GK L3.Jl L3.F6 L3.Cv L3.CV L3.IX L3.HG L3.G7 L3.sN L3.sU L3.qK L3.Cq L3.BB L3.A7 L3.Aw L3.Cs L3.AD L3.Bj L3.Bn L3.CD L3.Hl L3.IV L3.G9 L3.IA L3.G4 L3.J1 L3.sA L3.DA L3.Gb L3.BI L3.Bf L3.Bh L3.Cw L3.Cc L3.BW L3.AQ L3.BS L3.CI L3.B3 L3.lk L3.ini za5 X5 X0 zdp zef za6 XJ zcU zcl zcm L3.pJ L3.yZ L3.Ec L3.D4 L3.DY L3.DV ZC ZD L3.aK zcV za7 if_true if_false true_and and_true zcn zbS zbT za8 Z7 zbA decide_eq_true_eq Zv ite_false ite_true ne_eq not_false_eq_true zbB zco zcp zcq zcr zcs zcW L3.okD L3.ck L3.eqD L3.jK zct zcu zcv L3.gi L3.fN L3.fY L3.gf L3.gh L3.fS L3.fO"
local macro_rules | `(tactic| walk_at "ok")=>`(tactic| (simp only[L3.kC,L3.MulOk,L3.S64,L3.gw,L3.sj] at *;omega))
def Box (μ:Mu)(b:Addr):Prop:=∃ g s c:Int,μ b=some (.lst [.int g,.int s,.int c])/\0<=s/\s < 2147483647
structure sW (b:Addr) (μ μ':Mu):Prop where
 box:Box μ' b
 oth:∀ a,a≠b->μ' a=μ a
theorem sW.trans {b:Addr}{μ μ1 μ2:Mu}(x:sW b μ μ1)(y:sW b μ1 μ2):sW b μ μ2:=⟨y.box,λa h=>(y.oth a h).trans (x.oth a h)⟩
theorem xZ (x y:Int):WV y (x.fmod y)=WV x y:=by
 rw[Int.fmod_def,Int.gcd_sub_mul_left_right,zbr]
theorem JX (a:Int):(if a < 0 then -a else a)=(a.natAbs:Int):=by
 split<;>omega
def mz (i:Nat):ST->Mu->Nat:=λρ _=>match lk ρ i with
 | some (.int z)=>z.toNat
 | _=>0
structure Fr (p q:Int):Prop where
 q0:0 < q
 q1:q < 100000000000
 p0:-100000000000 < p
 p1:p < 100000000000
 g:WV p q=1
theorem km {a b:Int}(h:0 < b):a.fdiv b=a / b:=Int.fdiv_eq_ediv_of_nonneg a (zbs h)
theorem Ie {ns:List Int}{k:Int}(h0:0<=k)(h1:k < (ns.length:Int)):∃ z,atD (ns.map D.int) k=some (.int z):=by
 rcases ZE h0 with ⟨j,rfl⟩
 rw[bL]
 have hj:j < ns.length:=by omega
 exact ⟨ns[j],by simp[hj]⟩
theorem tm {lo:Int}{n:Nat}{d:D}(h:d∈cG lo n):∃ k:Int,d=.int k/\lo<=k/\k < lo+n:=by
 unfold cG at h
 rcases Wg.mp h with ⟨i,hi,rfl⟩
 have:=YI.mp hi
 exact ⟨_,rfl,by omega,by omega⟩
def iA:FSp:=λds μ Q=>kcL ds λxs ds=>kcN ds ((∃ ns:List Int,xs=ns.map .int/\ns.length<=63)/\∀ μ',Q (.bl true) μ')
theorem wC:∀ ds μ Q,iA ds μ Q->ds.length=1:=λ_ _ _ h=>lcL h λ_ _ h=>by rw[(ecN h).1];rfl
theorem nE (ns:List Int)(h:ns.length<=63)(μ:Mu):iA [.ls (ns.map .int)] μ (λd _=>d=.bl true):=⟨⟨ns,rfl,h⟩,λ_=>rfl⟩
local macro_rules | `(tactic| walk_at "rd")=>zzS "L3.ah L3.TC L3.aj L3.TUn L3.fJ L3.Bo L3.Kd L3.TB L3.mG L3.TOr L3.CQ L3.lZ L3.BY L3.aq L3.af L3.bf L3.fc L3.mT L3.au L3.a8 L3.aB L3.CK L3.HD L3.fv L3.aW L3.G8 L3.bI L3.aA L3.aO L3.qB L3.Cn L3.iq L3.fW L3.eL L3.bZ L3.fK L3.fk L3.fe L3.Ug L3.ILs L3.J8 L3.Kl L3.Jy L3.HQ L3.Hk L3.BQ L3.qA L3.B7 L3.GC L3.BO L3.vU L3.DG L3.rO L3.xk L3.xm L3.vP L3.vQ L3.nz L3.jo L3.uj L3.qG L3.sx L3.sL L3.rS L3.rf L3.rV L3.sZ L3.qV L3.qJ L3.TSl L3.ONo L3.j8 L3.xP L3.GZ L3.Jg L3.GK L3.Jl L3.F6 L3.Cv L3.CV L3.IX L3.HG L3.G7 L3.sN L3.sU L3.qK L3.Cq L3.BB L3.A7 L3.Aw L3.Cs L3.AD L3.Bj L3.Bn L3.CD L3.Hl L3.IV L3.G9 L3.IA L3.G4 L3.J1 L3.sA L3.DA L3.Gb L3.BI L3.Bf L3.Bh L3.Cw L3.Cc L3.BW L3.AQ L3.BS L3.CI L3.B3 L3.lk L3.ini za5 X5 X0 zdp zef za6 XJ zcU zcl zcm L3.pJ L3.yZ L3.Ec L3.D4 L3.DY L3.DV ZC ZD L3.aK L3.iC zcV za7 if_true if_false true_and and_true zcn zbS zbT za8 Z7 zbA decide_eq_true_eq Zv ite_false ite_true ne_eq not_false_eq_true zbB zco zcp zcq zcr zcs zcW L3.okD L3.ck L3.eqD L3.jK zct zcu zcv L3.gi L3.fN L3.fY L3.gf L3.gh L3.fS L3.fO"
structure IsPart (a b p q:Int):Prop where
 q0:0 < q
 g:WV p q=1
 e:p*b=a*q
 pa:p.natAbs<=a.natAbs
 qb:q.natAbs<=b.natAbs
theorem qW {g c:Int}(hg:0 < g):c.natAbs<=(g*c).natAbs:=by
 rw[zdO]
 exact Nat.le_mul_of_pos_left _ (by omega)
theorem Dw {a b:Int}(hb:b≠0):IsPart a b (a.fdiv (if b < 0 then -(WV a b:Int) else WV a b)) (b.fdiv (if b < 0 then -(WV a b:Int) else WV a b)):=by
 have gp:0 < WV a b:=Yg a hb
 have gz:0 < (WV a b:Int):=by omega
 obtain ⟨c,hc⟩:=zde a b
 obtain ⟨d,hd⟩:=zcX a b
 have g1:=zaC gp
 have e1:a / (WV a b:Int)=c:=Yk (by omega) hc
 have e2:b / (WV a b:Int)=d:=Yk (by omega) hd
 rw[e1,e2] at g1
 generalize (WV a b:Int)=g at *
 clear e1 e2 gp
 subst hc hd
 have p1:=qW (c:=c) gz
 have p2:=qW (c:=d) gz
 split
 ·rename_i hneg
  have d0:d < 0:=by
   rcases ZQ d 0 with h | h | h
   ·exact h
   ·subst h;omega
   ·have:=XX gz h;omega
  have x1:(g*c).fdiv (-g) = -c:=by rw[show g*c = -g * -c by rw[zdx]];exact YG _ (by omega)
  have x2:(g*d).fdiv (-g) = -d:=by rw[show g*d = -g * -d by rw[zdx]];exact YG _ (by omega)
  rw[x1,x2]
  refine ⟨by omega,by rw[Int.neg_gcd,Int.gcd_neg];exact g1,?_,by omega,by omega⟩
  rw[Int.neg_mul,Int.mul_neg,zcY,zdX]
 ·rename_i hneg
  have d0:0 < d:=by
   rcases ZQ d 0 with h | h | h
   ·have:=Zi gz h;omega
   ·subst h;omega
   ·exact h
  have x1:(g*c).fdiv g=c:=YG _ (by omega)
  have x2:(g*d).fdiv g=d:=YG _ (by omega)
  rw[x1,x2]
  refine ⟨d0,g1,?_,by omega,by omega⟩
  rw[zcY,zdX]
theorem MY {p q p' q':Int}(q0:0 < q)(q0':0 < q')(g:WV p q=1)(g':WV p' q'=1)(e:p*q'=p'*q):p=p'/\q=q':=by
 have h1:q ∣ q':=by
  have:q ∣ p*q':=⟨p',by rw[e,XM]⟩
  have h:=Yl.mpr this
  rw[zbr,g] at h
  simpa using h
 have h2:q' ∣ q:=by
  have:q' ∣ p'*q:=⟨p,by rw[← e,XM]⟩
  have h:=Yl.mpr this
  rw[zbr,g'] at h
  simpa using h
 have e3:q=q':=Int.dvd_antisymm (by omega) (by omega) h1 h2
 subst e3
 exact ⟨Y8 (by omega) e,rfl⟩
theorem IsPart.same {a b p q a' b' p' q':Int}(h:IsPart a b p q)(h':IsPart a' b' p' q')(hb:b≠0)(hb':b'≠0)(e:a*b'=a'*b):p=p'/\q=q':=by
 refine MY h.q0 h'.q0 h.g h'.g ?_
 have e1:=h.e
 have e2:=h'.e
 have x:(p*q')*(b*b')=(p'*q)*(b*b'):=by
  calc (p*q')*(b*b')=(p*b)*(q'*b'):=by ac_rfl
   _=(a*q)*(q'*b'):=by rw[e1]
   _=(a*b')*(q*q'):=by ac_rfl
   _=(a'*b)*(q*q'):=by rw[e]
   _=(a'*q')*(q*b):=by ac_rfl
   _=(p'*b')*(q*b):=by rw[e2]
   _=(p'*q)*(b*b'):=by ac_rfl
 exact Y8 (Int.mul_ne_zero hb hb') x
def fZ:FSp:=λds μ Q=>kcI ds λa ds=>kcI ds λb ds=>kcN ds (Q (.int (WV a b)) μ)
theorem ur:∀ ds μ Q,fZ ds μ Q->ds.length=2:=λ_ _ _ h=>lcI h λ_ _ h=>lcI h λ_ _ h=>by rw[(ecN h).1];rfl
def oQ:STr:=aB (aO (au xr (af (ah 0) (aq))) (aA 2)) (aB (aO (au xr (af (ah 1) (aq))) (aA 3)) (aB (wU (TB (aj rGt (ah 3) (TC (.int 0)))) (aB (aO (aj mN (ah 2) (ah 3)) (aA 4)) (aB (aO (ah 3) (aA 2)) (aO (ah 4) (aA 3))))) (aW (ah 2))))
theorem wc:∀ ds μ Q,fZ ds μ Q->oQ { nx:=λ_ μ'=>RT Q .non μ',rt:=RT Q } (ini 5 ds) μ:=by
 intro ds μ Q k
 replace k:=ecI k
 obtain ⟨a,ds,rfl,k⟩:=k
 replace k:=ecI k
 obtain ⟨b,ds,rfl,k⟩:=k
 replace k:=ecN k
 obtain ⟨rfl,k⟩:=k
 unfold oQ
 walk_at "rd"
 refine ⟨λρ μ'=>μ'=μ/\∃ (x y:Int) (z:Option D),ρ=[some (.int a),some (.int b),some (.int x),some (.int y),z]/\0<=x/\0<=y/\WV x y=WV a b,mz 3,⟨rfl,_,_,_,rfl,?_,?_,?_⟩,?_⟩
 ·split<;>omega
 ·split<;>omega
 ·rw[JX,JX];unfold WV;rw[zcE,zcE]
 ·rintro ρ _ ⟨rfl,x,y,z,rfl,x0,y0,e⟩
  walk_at "rd"
  split
  ·rename_i hy
   refine ⟨by omega,⟨_,_,_,rfl,y0,fm0 hy,?_⟩,?_⟩
   ·rw[xZ];exact e
   ·have:=fm1 (a:=x) hy
    have:=fm0 (a:=x) hy
    simp only[mz,lk]
    omega
  ·rename_i hy
   have hy0:y=0:=by omega
   subst hy0
   rw[zcF] at e
   have hx:x=(WV a b:Int):=by omega
   subst hx
   exact ⟨_,.refl _,k⟩
def gM:FSp:=λds μ Q=>kcI ds λa ds=>kcI ds λb ds=>kcN ds ((b≠0/\gw b)/\∀ p q,IsPart a b p q->Q (.tup [.int p,.int q]) μ)
theorem JC:∀ ds μ Q,gM ds μ Q->ds.length=2:=λ_ _ _ h=>lcI h λ_ _ h=>lcI h λ_ _ h=>by rw[(ecN h).1];rfl
def JL:STr:=aB (aO (au fZ (af (ah 0) (af (ah 1) (aq)))) (aA 2)) (aB (bI (TB (aj rLt (ah 1) (TC (.int 0)))) (aO (TUn Nw (ah 2)) (aA 2)) (a8)) (aW (bf (af (aj oa (ah 0) (ah 2)) (af (aj oa (ah 1) (ah 2)) (aq))))))
theorem NH:∀ ds μ Q,gM ds μ Q->JL { nx:=λ_ μ'=>RT Q .non μ',rt:=RT Q } (ini 3 ds) μ:=by
 intro ds μ Q h
 replace h:=ecI h
 obtain ⟨a,ds,rfl,h⟩:=h
 replace h:=ecI h
 obtain ⟨b,ds,rfl,h⟩:=h
 replace h:=ecN h
 obtain ⟨rfl,h⟩:=h
 obtain ⟨⟨hb,hm⟩,k⟩:=h
 have P:=k _ _ (Dw (a:=a) hb)
 have gp:0 < WV a b:=Yg a hb
 have gl:WV a b<=b.natAbs:=Int.gcd_le_natAbs_right a hb
 unfold JL
 walk_at "rd"
 show (if b < 0 then _ else _)
 split
 ·rename_i hn
  rw[if_pos hn] at P
  have dv:kC (-(WV a b:Int)):=by walk_at "ok"
  exact ⟨dv,dv,_,.refl _,P⟩
 ·rename_i hn
  rw[if_neg hn] at P
  have dv:kC (WV a b:Int):=by walk_at "ok"
  exact ⟨dv,dv,_,.refl _,P⟩
structure FrB (lo hi p q:Int):Prop where
 q0:0 < q
 q1:q<=10000002
 g:WV p q=1
 ge:lo*q<=p
 le:p<=hi*q
structure FrA (lo hi p q:Int):Prop extends FrB lo hi p q where
 ab:lo*q < p
structure FrL (hi p q:Int):Prop extends FrB 0 hi p q where
 ab:0 < p
 be:p < hi*q
theorem kW {a b:Int}(b0:0 < b):∃ g p q:Int,0 < g/\a=g*p/\b=g*q/\a.fdiv (WV a b)=p/\b.fdiv (WV a b)=q/\0 < q/\q<=b/\WV p q=1:=by
 have gp:0 < WV a b:=Yg a (by omega)
 have gz:0 < (WV a b:Int):=by omega
 obtain ⟨c,hc⟩:=zde a b
 obtain ⟨d,hd⟩:=zcX a b
 have g1:=zaC gp
 have e1:a / (WV a b:Int)=c:=Yk (by omega) hc
 have e2:b / (WV a b:Int)=d:=Yk (by omega) hd
 rw[e1,e2] at g1
 refine ⟨_,c,d,gz,hc,hd,by rw[km gz];exact e1,by rw[km gz];exact e2,?_,?_,g1⟩
 all_goals generalize (WV a b:Int)=g at *
 ·rcases ZQ d 0 with h | h | h
  ·have:=Zi gz h;omega
  ·subst h;omega
  ·exact h
 ·have d0:0 < d:=by
   rcases ZQ d 0 with h | h | h
   ·have:=Zi gz h;omega
   ·subst h;omega
   ·exact h
  have h:=WI (show (1:Int)<=g by omega) (show (0:Int)<=d by omega)
  omega
theorem Gy {lo hi a b:Int}(b0:0 < b)(b1:b<=10000002)(h1:lo*b<=a)(h2:a<=hi*b):FrB lo hi (a.fdiv (WV a b)) (b.fdiv (WV a b)):=by
 obtain ⟨g,p,q,g0,ea,eb,ep,eq,q0,qb,gg⟩:=kW (a:=a) b0
 rw[ep,eq]
 subst ea
 have e1:lo*b=g*(lo*q):=by rw[eb];ac_rfl
 have e2:hi*b=g*(hi*q):=by rw[eb];ac_rfl
 exact ⟨q0,by omega,gg,zaD (by rw[← e1];exact h1) g0,zaD (by rw[← e2];exact h2) g0⟩
theorem HU {lo hi a b:Int}(b0:0 < b)(b1:b<=10000002)(h1:lo*b < a)(h2:a<=hi*b):FrA lo hi (a.fdiv (WV a b)) (b.fdiv (WV a b)):=by
 refine ⟨Gy b0 b1 (by omega) h2,?_⟩
 obtain ⟨g,p,q,g0,ea,eb,ep,eq,q0,qb,gg⟩:=kW (a:=a) b0
 rw[ep,eq]
 have e1:lo*b=g*(lo*q):=by rw[eb];ac_rfl
 exact Zj (by rw[← e1,← ea];exact h1) (by omega)
theorem Tj {hi a b:Int}(b0:0 < b)(b1:b<=10000002)(h1:0 < a)(h2:a < hi*b):FrL hi (a.fdiv (WV a b)) (b.fdiv (WV a b)):=by
 refine ⟨Gy b0 b1 (by omega) (by omega),?_,?_⟩
 all_goals
  obtain ⟨g,p,q,g0,ea,eb,ep,eq,q0,qb,gg⟩:=kW (a:=a) b0
 ·rw[ep]
  exact Zj (a:=g) (by rw[← ea];simpa using h1) (by omega)
 ·rw[ep,eq]
  have e1:hi*b=g*(hi*q):=by rw[eb];ac_rfl
  exact Zj (by rw[← e1,← ea];exact h2) (by omega)
theorem dU:(OF "still" = OF "step")=False:=eq_false (by decide +kernel)
theorem dk:(OF "still" = OF "swell")=False:=eq_false (by decide +kernel)
theorem d8:(OF "still" = OF "heed")=False:=eq_false (by decide +kernel)
theorem dN:(OF "still" = OF "calm")=False:=eq_false (by decide +kernel)
theorem dR:(OF "step" = OF "still")=False:=eq_false (by decide +kernel)
theorem dX:(OF "step" = OF "swell")=False:=eq_false (by decide +kernel)
theorem eT:(OF "step" = OF "heed")=False:=eq_false (by decide +kernel)
theorem eO:(OF "step" = OF "calm")=False:=eq_false (by decide +kernel)
theorem dj:(OF "swell" = OF "still")=False:=eq_false (by decide +kernel)
theorem dQ:(OF "swell" = OF "step")=False:=eq_false (by decide +kernel)
theorem d9:(OF "swell" = OF "heed")=False:=eq_false (by decide +kernel)
theorem dZ:(OF "swell" = OF "calm")=False:=eq_false (by decide +kernel)
theorem dW:(OF "heed" = OF "still")=False:=eq_false (by decide +kernel)
theorem eS:(OF "heed" = OF "step")=False:=eq_false (by decide +kernel)
theorem dY:(OF "heed" = OF "swell")=False:=eq_false (by decide +kernel)
theorem eX:(OF "heed" = OF "calm")=False:=eq_false (by decide +kernel)
theorem d7:(OF "calm" = OF "still")=False:=eq_false (by decide +kernel)
theorem fb:(OF "calm" = OF "step")=False:=eq_false (by decide +kernel)
theorem ef:(OF "calm" = OF "swell")=False:=eq_false (by decide +kernel)
theorem eQ:(OF "calm" = OF "heed")=False:=eq_false (by decide +kernel)
theorem oA:Wj (OF "still")=true:=by decide +kernel
theorem r8:Wj (OF "step")=true:=by decide +kernel
theorem nN:Wj (OF "swell")=true:=by decide +kernel
theorem sI:Wj (OF "heed")=true:=by decide +kernel
theorem tO:Wj (OF "calm")=true:=by decide +kernel
abbrev fr (p q:Int):D:=.tup [.int p,.int q]
inductive Kg:Str->D->Prop
 | gZ {p q:Int} (w:FrB 1 60 p q):Kg (OF "still") (.tup [.str "still", fr p q])
 | calm {p q r s x y l h:Int} (w:FrB 1 60 p q) (t:FrB 1 60 r s) (wt:p*s<=r*q) (u:FrA 0 60 x y) (l0:0<=l) (lh:l<=h) (h1:h<=60):Kg (OF "calm") (.tup [.str "calm", fr p q,fr x y,.int l,.int h,fr r s])
 | lS {p q r s x y a b:Int} (w:FrB 1 60 p q) (t:FrB 1 60 r s) (wt:p*s<=r*q) (u:FrA 0 60 x y) (g:FrA 0 1 a b):Kg (OF "heed") (.tup [.str "heed", fr p q,fr x y,fr a b,fr r s])
 | step {p q r s x y a b:Int} (w:FrB 1 60 p q) (t:FrB 1 60 r s) (wt:p*s<=r*q) (u:FrA 0 60 x y) (g:FrL 1 a b):Kg (OF "step") (.tup [.str "step", fr p q,fr x y,fr a b,fr r s])
 | jz {p q r s x y a b:Int} (w:FrB 1 60 p q) (t:FrB 1 60 r s) (wt:p*s<=r*q) (u:FrA 1 60 x y) (g:FrL 1 a b):Kg (OF "swell") (.tup [.str "swell", fr p q,fr x y,fr a b,fr r s])
theorem cB (i:Decidable (OF "still" = OF "step")):@decide (OF "still" = OF "step") i=false:=by cases i with | isTrue h=>exact absurd h (by rw[dU];exact not_false) | isFalse _=>rfl
theorem b8 (i:Decidable (OF "still" = OF "swell")):@decide (OF "still" = OF "swell") i=false:=by cases i with | isTrue h=>exact absurd h (by rw[dk];exact not_false) | isFalse _=>rfl
theorem cI (i:Decidable (OF "still" = OF "heed")):@decide (OF "still" = OF "heed") i=false:=by cases i with | isTrue h=>exact absurd h (by rw[d8];exact not_false) | isFalse _=>rfl
theorem cy (i:Decidable (OF "still" = OF "calm")):@decide (OF "still" = OF "calm") i=false:=by cases i with | isTrue h=>exact absurd h (by rw[dN];exact not_false) | isFalse _=>rfl
theorem cJ (i:Decidable (OF "step" = OF "still")):@decide (OF "step" = OF "still") i=false:=by cases i with | isTrue h=>exact absurd h (by rw[dR];exact not_false) | isFalse _=>rfl
theorem cw (i:Decidable (OF "step" = OF "swell")):@decide (OF "step" = OF "swell") i=false:=by cases i with | isTrue h=>exact absurd h (by rw[dX];exact not_false) | isFalse _=>rfl
theorem c5 (i:Decidable (OF "step" = OF "heed")):@decide (OF "step" = OF "heed") i=false:=by cases i with | isTrue h=>exact absurd h (by rw[eT];exact not_false) | isFalse _=>rfl
theorem cU (i:Decidable (OF "step" = OF "calm")):@decide (OF "step" = OF "calm") i=false:=by cases i with | isTrue h=>exact absurd h (by rw[eO];exact not_false) | isFalse _=>rfl
theorem b7 (i:Decidable (OF "swell" = OF "still")):@decide (OF "swell" = OF "still") i=false:=by cases i with | isTrue h=>exact absurd h (by rw[dj];exact not_false) | isFalse _=>rfl
theorem cA (i:Decidable (OF "swell" = OF "step")):@decide (OF "swell" = OF "step") i=false:=by cases i with | isTrue h=>exact absurd h (by rw[dQ];exact not_false) | isFalse _=>rfl
theorem cx (i:Decidable (OF "swell" = OF "heed")):@decide (OF "swell" = OF "heed") i=false:=by cases i with | isTrue h=>exact absurd h (by rw[d9];exact not_false) | isFalse _=>rfl
theorem cC (i:Decidable (OF "swell" = OF "calm")):@decide (OF "swell" = OF "calm") i=false:=by cases i with | isTrue h=>exact absurd h (by rw[dZ];exact not_false) | isFalse _=>rfl
theorem cz (i:Decidable (OF "heed" = OF "still")):@decide (OF "heed" = OF "still") i=false:=by cases i with | isTrue h=>exact absurd h (by rw[dW];exact not_false) | isFalse _=>rfl
theorem cZ (i:Decidable (OF "heed" = OF "step")):@decide (OF "heed" = OF "step") i=false:=by cases i with | isTrue h=>exact absurd h (by rw[eS];exact not_false) | isFalse _=>rfl
theorem cD (i:Decidable (OF "heed" = OF "swell")):@decide (OF "heed" = OF "swell") i=false:=by cases i with | isTrue h=>exact absurd h (by rw[dY];exact not_false) | isFalse _=>rfl
theorem cW (i:Decidable (OF "heed" = OF "calm")):@decide (OF "heed" = OF "calm") i=false:=by cases i with | isTrue h=>exact absurd h (by rw[eX];exact not_false) | isFalse _=>rfl
theorem cF (i:Decidable (OF "calm" = OF "still")):@decide (OF "calm" = OF "still") i=false:=by cases i with | isTrue h=>exact absurd h (by rw[d7];exact not_false) | isFalse _=>rfl
theorem c7 (i:Decidable (OF "calm" = OF "step")):@decide (OF "calm" = OF "step") i=false:=by cases i with | isTrue h=>exact absurd h (by rw[fb];exact not_false) | isFalse _=>rfl
theorem cH (i:Decidable (OF "calm" = OF "swell")):@decide (OF "calm" = OF "swell") i=false:=by cases i with | isTrue h=>exact absurd h (by rw[ef];exact not_false) | isFalse _=>rfl
theorem cY (i:Decidable (OF "calm" = OF "heed")):@decide (OF "calm" = OF "heed") i=false:=by cases i with | isTrue h=>exact absurd h (by rw[eQ];exact not_false) | isFalse _=>rfl
theorem je (a:Str)(i:Decidable (a=a)):@decide (a=a) i=true:=by cases i with | isTrue _=>rfl | isFalse h=>exact absurd rfl h
def kLs (x:D)(f:List D->Prop):Prop:=match x with
 | .ls ds=>f ds
 | _=>False
def jJ (sp:FSp)(ds:List D)(μ:Mu)(Q:DK):Prop:=sp ds μ Q
def LEN (ds:List D)(P:Prop):Prop:=ds.length<=1000000/\P
theorem Ru (d:D)(r:ST)(μ:Mu)(Q:DK):ah 0 (some d::r) μ Q=Q d μ:=propext Wi
theorem K6 (x0:Option D)(r:ST)(d:D)(μ:Mu)(k:ST->Mu->Prop):aA 0 d (x0::r) μ k=k (some d::r) μ:=propext Wi
theorem QT (x0:Option D)(d:D)(r:ST)(μ:Mu)(Q:DK):ah 1 (x0::some d::r) μ Q=Q d μ:=propext Wi
theorem Ni (x0 x1:Option D)(r:ST)(d:D)(μ:Mu)(k:ST->Mu->Prop):aA 1 d (x0::x1::r) μ k=k (x0::some d::r) μ:=propext Wi
theorem Px (x0 x1:Option D)(d:D)(r:ST)(μ:Mu)(Q:DK):ah 2 (x0::x1::some d::r) μ Q=Q d μ:=propext Wi
theorem Mt (x0 x1 x2:Option D)(r:ST)(d:D)(μ:Mu)(k:ST->Mu->Prop):aA 2 d (x0::x1::x2::r) μ k=k (x0::x1::some d::r) μ:=propext Wi
theorem RE (x0 x1 x2:Option D)(d:D)(r:ST)(μ:Mu)(Q:DK):ah 3 (x0::x1::x2::some d::r) μ Q=Q d μ:=propext Wi
theorem LQ (x0 x1 x2 x3:Option D)(r:ST)(d:D)(μ:Mu)(k:ST->Mu->Prop):aA 3 d (x0::x1::x2::x3::r) μ k=k (x0::x1::x2::some d::r) μ:=propext Wi
theorem PC (x0 x1 x2 x3:Option D)(d:D)(r:ST)(μ:Mu)(Q:DK):ah 4 (x0::x1::x2::x3::some d::r) μ Q=Q d μ:=propext Wi
theorem MR (x0 x1 x2 x3 x4:Option D)(r:ST)(d:D)(μ:Mu)(k:ST->Mu->Prop):aA 4 d (x0::x1::x2::x3::x4::r) μ k=k (x0::x1::x2::x3::some d::r) μ:=propext Wi
theorem QA (x0 x1 x2 x3 x4:Option D)(d:D)(r:ST)(μ:Mu)(Q:DK):ah 5 (x0::x1::x2::x3::x4::some d::r) μ Q=Q d μ:=propext Wi
theorem MG (x0 x1 x2 x3 x4 x5:Option D)(r:ST)(d:D)(μ:Mu)(k:ST->Mu->Prop):aA 5 d (x0::x1::x2::x3::x4::x5::r) μ k=k (x0::x1::x2::x3::x4::some d::r) μ:=propext Wi
theorem QG (x0 x1 x2 x3 x4 x5:Option D)(d:D)(r:ST)(μ:Mu)(Q:DK):ah 6 (x0::x1::x2::x3::x4::x5::some d::r) μ Q=Q d μ:=propext Wi
theorem NK (x0 x1 x2 x3 x4 x5 x6:Option D)(r:ST)(d:D)(μ:Mu)(k:ST->Mu->Prop):aA 6 d (x0::x1::x2::x3::x4::x5::x6::r) μ k=k (x0::x1::x2::x3::x4::x5::some d::r) μ:=propext Wi
theorem RF (x0 x1 x2 x3 x4 x5 x6:Option D)(d:D)(r:ST)(μ:Mu)(Q:DK):ah 7 (x0::x1::x2::x3::x4::x5::x6::some d::r) μ Q=Q d μ:=propext Wi
theorem Lo (x0 x1 x2 x3 x4 x5 x6 x7:Option D)(r:ST)(d:D)(μ:Mu)(k:ST->Mu->Prop):aA 7 d (x0::x1::x2::x3::x4::x5::x6::x7::r) μ k=k (x0::x1::x2::x3::x4::x5::x6::some d::r) μ:=propext Wi
theorem Qr (x0 x1 x2 x3 x4 x5 x6 x7:Option D)(d:D)(r:ST)(μ:Mu)(Q:DK):ah 8 (x0::x1::x2::x3::x4::x5::x6::x7::some d::r) μ Q=Q d μ:=propext Wi
theorem M8 (x0 x1 x2 x3 x4 x5 x6 x7 x8:Option D)(r:ST)(d:D)(μ:Mu)(k:ST->Mu->Prop):aA 8 d (x0::x1::x2::x3::x4::x5::x6::x7::x8::r) μ k=k (x0::x1::x2::x3::x4::x5::x6::x7::some d::r) μ:=propext Wi
theorem RY (x0 x1 x2 x3 x4 x5 x6 x7 x8:Option D)(d:D)(r:ST)(μ:Mu)(Q:DK):ah 9 (x0::x1::x2::x3::x4::x5::x6::x7::x8::some d::r) μ Q=Q d μ:=propext Wi
theorem LL (x0 x1 x2 x3 x4 x5 x6 x7 x8 x9:Option D)(r:ST)(d:D)(μ:Mu)(k:ST->Mu->Prop):aA 9 d (x0::x1::x2::x3::x4::x5::x6::x7::x8::x9::r) μ k=k (x0::x1::x2::x3::x4::x5::x6::x7::x8::some d::r) μ:=propext Wi
theorem Mm (x0 x1 x2 x3 x4 x5 x6 x7 x8 x9:Option D)(d:D)(r:ST)(μ:Mu)(Q:DK):ah 10 (x0::x1::x2::x3::x4::x5::x6::x7::x8::x9::some d::r) μ Q=Q d μ:=propext Wi
theorem Im (x0 x1 x2 x3 x4 x5 x6 x7 x8 x9 x10:Option D)(r:ST)(d:D)(μ:Mu)(k:ST->Mu->Prop):aA 10 d (x0::x1::x2::x3::x4::x5::x6::x7::x8::x9::x10::r) μ k=k (x0::x1::x2::x3::x4::x5::x6::x7::x8::x9::some d::r) μ:=propext Wi
theorem NO (x0 x1 x2 x3 x4 x5 x6 x7 x8 x9 x10:Option D)(d:D)(r:ST)(μ:Mu)(Q:DK):ah 11 (x0::x1::x2::x3::x4::x5::x6::x7::x8::x9::x10::some d::r) μ Q=Q d μ:=propext Wi
theorem IY (x0 x1 x2 x3 x4 x5 x6 x7 x8 x9 x10 x11:Option D)(r:ST)(d:D)(μ:Mu)(k:ST->Mu->Prop):aA 11 d (x0::x1::x2::x3::x4::x5::x6::x7::x8::x9::x10::x11::r) μ k=k (x0::x1::x2::x3::x4::x5::x6::x7::x8::x9::x10::some d::r) μ:=propext Wi
theorem Me (x0 x1 x2 x3 x4 x5 x6 x7 x8 x9 x10 x11:Option D)(d:D)(r:ST)(μ:Mu)(Q:DK):ah 12 (x0::x1::x2::x3::x4::x5::x6::x7::x8::x9::x10::x11::some d::r) μ Q=Q d μ:=propext Wi
theorem FW (x0 x1 x2 x3 x4 x5 x6 x7 x8 x9 x10 x11 x12:Option D)(r:ST)(d:D)(μ:Mu)(k:ST->Mu->Prop):aA 12 d (x0::x1::x2::x3::x4::x5::x6::x7::x8::x9::x10::x11::x12::r) μ k=k (x0::x1::x2::x3::x4::x5::x6::x7::x8::x9::x10::x11::some d::r) μ:=propext Wi
theorem Gf (x0 x1 x2 x3 x4 x5 x6 x7 x8 x9 x10 x11 x12 x13:Option D)(r:ST)(d:D)(μ:Mu)(k:ST->Mu->Prop):aA 13 d (x0::x1::x2::x3::x4::x5::x6::x7::x8::x9::x10::x11::x12::x13::r) μ k=k (x0::x1::x2::x3::x4::x5::x6::x7::x8::x9::x10::x11::x12::some d::r) μ:=propext Wi
theorem MS (x0 x1 x2 x3 x4 x5 x6 x7 x8 x9 x10 x11 x12 x13:Option D)(d:D)(r:ST)(μ:Mu)(Q:DK):ah 14 (x0::x1::x2::x3::x4::x5::x6::x7::x8::x9::x10::x11::x12::x13::some d::r) μ Q=Q d μ:=propext Wi
theorem HA (x0 x1 x2 x3 x4 x5 x6 x7 x8 x9 x10 x11 x12 x13 x14:Option D)(r:ST)(d:D)(μ:Mu)(k:ST->Mu->Prop):aA 14 d (x0::x1::x2::x3::x4::x5::x6::x7::x8::x9::x10::x11::x12::x13::x14::r) μ k=k (x0::x1::x2::x3::x4::x5::x6::x7::x8::x9::x10::x11::x12::x13::some d::r) μ:=propext Wi
theorem KZ (x0 x1 x2 x3 x4 x5 x6 x7 x8 x9 x10 x11 x12 x13 x14:Option D)(d:D)(r:ST)(μ:Mu)(Q:DK):ah 15 (x0::x1::x2::x3::x4::x5::x6::x7::x8::x9::x10::x11::x12::x13::x14::some d::r) μ Q=Q d μ:=propext Wi
theorem JY (x0 x1 x2 x3 x4 x5 x6 x7 x8 x9 x10 x11 x12 x13 x14 x15:Option D)(r:ST)(d:D)(μ:Mu)(k:ST->Mu->Prop):aA 15 d (x0::x1::x2::x3::x4::x5::x6::x7::x8::x9::x10::x11::x12::x13::x14::x15::r) μ k=k (x0::x1::x2::x3::x4::x5::x6::x7::x8::x9::x10::x11::x12::x13::x14::some d::r) μ:=propext Wi
theorem VQ (d:D)(ρ:ST)(μ:Mu)(Q:DK):TC d ρ μ Q=Q d μ:=propext Wi
theorem RM (r:DR2)(a b:ETr)(ρ:ST)(μ:Mu)(Q:DK):aj r a b ρ μ Q=a ρ μ λx μ1=>b ρ μ1 λy μ2=>r x y μ2 Q:=propext Wi
theorem Nj (a b:ETr)(ρ:ST)(μ:Mu)(Q:DK):fJ a b ρ μ Q=a ρ μ λx μ1=>kB x λc=>kIf c (b ρ μ1 Q) (Q (.bl false) μ1):=propext Wi
theorem PM (a b:ETr)(ρ:ST)(μ:Mu)(Q:DK):Bo a b ρ μ Q=a ρ μ λx μ1=>kB x λc=>kIf c (Q (.bl true) μ1) (b ρ μ1 Q):=propext Wi
theorem Va (t:ETr)(ρ:ST)(μ:Mu)(Q:Bool->Mu->Prop):TB t ρ μ Q=t ρ μ λx μ1=>kB x λc=>Q c μ1:=propext Wi
theorem QY (t u:TTr)(ρ:ST)(μ:Mu)(Q:Bool->Mu->Prop):mG t u ρ μ Q=t ρ μ λc μ1=>kIf c (u ρ μ1 Q) (Q false μ1):=propext Wi
theorem SJ (t u:TTr)(ρ:ST)(μ:Mu)(Q:Bool->Mu->Prop):TOr t u ρ μ Q=t ρ μ λc μ1=>kIf c (Q true μ1) (u ρ μ1 Q):=propext Wi
theorem QN (t:TTr)(ρ:ST)(μ:Mu)(Q:Bool->Mu->Prop):CQ t ρ μ Q=t ρ μ λc μ1=>Q (!c) μ1:=propext Wi
theorem PF (c:TTr)(a b:ETr)(ρ:ST)(μ:Mu)(Q:DK):lZ c a b ρ μ Q=c ρ μ λk μ1=>kIf k (a ρ μ1 Q) (b ρ μ1 Q):=propext Wi
theorem Ry (ρ:ST)(μ:Mu)(Q:List D->Mu->Prop):aq ρ μ Q=Q [] μ:=propext Wi
theorem MB (a:ETr)(r:ATr)(ρ:ST)(μ:Mu)(Q:List D->Mu->Prop):af a r ρ μ Q=a ρ μ λx μ1=>r ρ μ1 λxs μ2=>Q (x::xs) μ2:=propext Wi
theorem Sa (t:ATr)(ρ:ST)(μ:Mu)(Q:DK):bf t ρ μ Q=t ρ μ λds μ1=>LEN ds (Q (.tup ds) μ1):=propext Wi
theorem OX (t:ATr)(ρ:ST)(μ:Mu)(Q:DK):fc t ρ μ Q=t ρ μ λds μ1=>LEN ds (Q (.ls ds) μ1):=propext Wi
theorem Rv (t:ATr)(ρ:ST)(μ:Mu)(Q:DK):mT t ρ μ Q=t ρ μ λds μ1=>LEN ds (∀ p,μ1 p=none->Q (.obj p) (up μ1 p (.lst ds))):=propext Wi
theorem Lv (sp:FSp)(t:ATr)(ρ:ST)(μ:Mu)(Q:DK):au sp t ρ μ Q=t ρ μ λds μ1=>jJ sp ds μ1 Q:=propext Wi
theorem Lc (nx:ST->Mu->Prop)(rt:DK)(bk ct:ST->Mu->Prop)(ρ:ST)(μ:Mu):a8 ⟨nx,rt,bk,ct⟩ ρ μ=nx ρ μ:=propext Wi
theorem Qw (t u:STr)(nx:ST->Mu->Prop)(rt:DK)(bk ct:ST->Mu->Prop)(ρ:ST)(μ:Mu):aB t u ⟨nx,rt,bk,ct⟩ ρ μ=t ⟨u ⟨nx,rt,bk,ct⟩,rt,bk,ct⟩ ρ μ:=propext Wi
theorem Lz (e:ETr)(nx:ST->Mu->Prop)(rt:DK)(bk ct:ST->Mu->Prop)(ρ:ST)(μ:Mu):fv e ⟨nx,rt,bk,ct⟩ ρ μ=e ρ μ λ_ μ1=>nx ρ μ1:=propext Wi
theorem Sf (e:ETr)(nx:ST->Mu->Prop)(rt:DK)(bk ct:ST->Mu->Prop)(ρ:ST)(μ:Mu):aW e ⟨nx,rt,bk,ct⟩ ρ μ=e ρ μ rt:=propext Wi
theorem QX (c:TTr)(t u:STr)(nx:ST->Mu->Prop)(rt:DK)(bk ct:ST->Mu->Prop)(ρ:ST)(μ:Mu):bI c t u ⟨nx,rt,bk,ct⟩ ρ μ=c ρ μ λb μ1=>kIf b (t ⟨nx,rt,bk,ct⟩ ρ μ1) (u ⟨nx,rt,bk,ct⟩ ρ μ1):=propext Wi
theorem RC (e:ETr)(g:GTr)(nx:ST->Mu->Prop)(rt:DK)(bk ct:ST->Mu->Prop)(ρ:ST)(μ:Mu):aO e g ⟨nx,rt,bk,ct⟩ ρ μ=e ρ μ λd μ1=>g d ρ μ1 nx:=propext Wi
theorem Rt (i j:Nat)(a:ATr)(nx:ST->Mu->Prop)(rt:DK)(bk ct:ST->Mu->Prop)(ρ:ST)(μ:Mu):qB i j a ⟨nx,rt,bk,ct⟩ ρ μ=a ρ μ λds μ1=>k2 ds λv w=>aA i v ρ μ1 λρ2 μ2=>aA j w ρ2 μ2 nx:=propext Wi
theorem PD (it:ATr)(g:GTr)(b:STr)(nx:ST->Mu->Prop)(rt:DK)(bk ct:ST->Mu->Prop)(ρ:ST)(μ:Mu):iq it g b ⟨nx,rt,bk,ct⟩ ρ μ=it ρ μ λds μ1=>forR g b ⟨nx,rt,bk,ct⟩ ds ρ μ1:=propext Wi
theorem FL (a:ETr)(ρ:ST)(μ:Mu)(Q:List D->Mu->Prop):fW a ρ μ Q=a ρ μ λx μ1=>kI x λj=>(-4611686018427387904<=j/\j < 4611686018427387904)/\Q (cG 0 j.toNat) μ1:=propext Wi
theorem kZ (a:ETr)(ρ:ST)(μ:Mu)(Q:List D->Mu->Prop):Sv (af a aq) ρ μ Q=a ρ μ λx μ1=>kLs x λds=>Q (gJ ds) μ1:=propext (Iff.of_eq (congrArg (a ρ μ) (funext λx=>funext λμ1=>by cases x<;>rfl)))
theorem PY (a:ETr)(ρ:ST)(μ:Mu)(Q:DK):uj a ρ μ Q=a ρ μ λx μ1=>kObj x λb=>kL μ1 b λds=>Q (.ls ds) (dn μ1 b):=propext Wi
theorem Qa (To Te:ETr)(ρ:ST)(μ:Mu)(Q:DK):nz To Te ρ μ Q=To ρ μ λx μ1=>kObj x λa=>kL μ1 a λ_=>Te ρ μ1 λy μ2=>kL μ2 a λds=>ds.length < 1000000/\Q .non (up μ2 a (.lst (ds++[y]))):=propext Wi
theorem Uz (a:ETr)(lo hi:OTr)(ρ:ST)(μ:Mu)(Q:DK):TSl a lo hi ρ μ Q=a ρ μ λx μ1=>lo ρ μ1 λl μ2=>hi ρ μ2 λh μ3=>rSl x l h μ3 Q:=propext Wi
theorem TR (ρ:ST)(μ:Mu)(Q:Option Int->Mu->Prop):ONo ρ μ Q=Q none μ:=propext Wi
theorem Ra (T:ETr)(ρ:ST)(μ:Mu)(Q:Option Int->Mu->Prop):j8 T ρ μ Q=T ρ μ λx μ1=>kI x λi=>Q (some i) μ1:=propext Wi
theorem Q7 (i0 i1:Nat)(d0 d1:D)(ρ:ST)(μ:Mu)(k:ST->Mu->Prop):de [i0,i1] (.tup [d0,d1]) ρ μ k=aA i0 d0 ρ μ λρ1 _=>aA i1 d1 ρ1 μ λρ2 _=>k ρ2 μ:=by simp[de,kG,aA]
theorem Se (i0 i1 i2:Nat)(d0 d1 d2:D)(ρ:ST)(μ:Mu)(k:ST->Mu->Prop):de [i0,i1,i2] (.tup [d0,d1,d2]) ρ μ k=aA i0 d0 ρ μ λρ1 _=>aA i1 d1 ρ1 μ λρ2 _=>aA i2 d2 ρ2 μ λρ3 _=>k ρ3 μ:=by simp[de,kG,aA]
theorem R5 (i0 i1 i2 i3:Nat)(d0 d1 d2 d3:D)(ρ:ST)(μ:Mu)(k:ST->Mu->Prop):de [i0,i1,i2,i3] (.tup [d0,d1,d2,d3]) ρ μ k=aA i0 d0 ρ μ λρ1 _=>aA i1 d1 ρ1 μ λρ2 _=>aA i2 d2 ρ2 μ λρ3 _=>aA i3 d3 ρ3 μ λρ4 _=>k ρ4 μ:=by simp[de,kG,aA]
theorem UC (P:Prop):LEN [] P=P:=by simp[LEN]
theorem Uu (x0:D)(P:Prop):LEN [x0] P=P:=by simp[LEN]
theorem Tg (x0 x1:D)(P:Prop):LEN [x0,x1] P=P:=by simp[LEN]
theorem Tf (x0 x1 x2:D)(P:Prop):LEN [x0,x1,x2] P=P:=by simp[LEN]
theorem TJ (x0 x1 x2 x3:D)(P:Prop):LEN [x0,x1,x2,x3] P=P:=by simp[LEN]
theorem SF (x0 x1 x2 x3 x4:D)(P:Prop):LEN [x0,x1,x2,x3,x4] P=P:=by simp[LEN]
theorem S5 (x0 x1 x2 x3 x4 x5:D)(P:Prop):LEN [x0,x1,x2,x3,x4,x5] P=P:=by simp[LEN]
theorem SG (x0 x1 x2 x3 x4 x5 x6 x7:D)(P:Prop):LEN [x0,x1,x2,x3,x4,x5,x6,x7] P=P:=by simp[LEN]
theorem Pf (x0 x1 x2 x3 x4 x5 x6 x7 x8 x9 x10:D)(P:Prop):LEN [x0,x1,x2,x3,x4,x5,x6,x7,x8,x9,x10] P=P:=by simp[LEN]
theorem Qk (x0:D)(r:List D)(μ:Mu)(Q:DK):L3.rIx (.tup (x0::r)) (.int 0) μ Q=Q x0 μ:=by rw[sA];exact congrArg (λo=>kO o λd=>Q d μ) (bL 0 _)
theorem Pe (x0:D)(r:List D)(μ:Mu)(Q:DK):L3.rIx (.ls (x0::r)) (.int 0) μ Q=Q x0 μ:=by rw[DA];exact congrArg (λo=>kO o λd=>Q d μ) (bL 0 _)
theorem Q4 (x0 x1:D)(r:List D)(μ:Mu)(Q:DK):L3.rIx (.tup (x0::x1::r)) (.int 1) μ Q=Q x1 μ:=by rw[sA];exact congrArg (λo=>kO o λd=>Q d μ) (bL 1 _)
theorem OV (x0 x1 x2:D)(r:List D)(μ:Mu)(Q:DK):L3.rIx (.tup (x0::x1::x2::r)) (.int 2) μ Q=Q x2 μ:=by rw[sA];exact congrArg (λo=>kO o λd=>Q d μ) (bL 2 _)
theorem QM (x0 x1 x2 x3:D)(r:List D)(μ:Mu)(Q:DK):L3.rIx (.tup (x0::x1::x2::x3::r)) (.int 3) μ Q=Q x3 μ:=by rw[sA];exact congrArg (λo=>kO o λd=>Q d μ) (bL 3 _)
theorem OS (i j:Int)(μ:Mu)(Q:DK):L3.rEq (.int i) (.int j) μ Q=Q (.bl (decide (i=j))) μ:=by simp[L3.rEq,okD,eqD]
theorem Sh (i j:Str)(μ:Mu)(Q:DK):L3.rEq (.str i) (.str j) μ Q=((Wj i=true/\Wj j=true)/\Q (.bl (decide (i=j))) μ):=by simp[L3.rEq,okD,eqD]
theorem QC (i:Int)(μ:Mu)(Q:DK):jJ xr [.int i] μ Q=Q (.int (if i < 0 then -i else i)) μ:=propext Wi
theorem PN (i j:Int)(μ:Mu)(Q:DK):jJ vA [.int i,.int j] μ Q=Q (.int (max i j)) μ:=by show Q (.int (if j > i then j else i)) μ=_;congr 2;omega
theorem R0 (i j:Int)(μ:Mu)(Q:DK):jJ vm [.int i,.int j] μ Q=Q (.int (min i j)) μ:=by show Q (.int (if j < i then j else i)) μ=_;congr 2;omega
theorem Ro (i:Bool)(μ:Mu)(Q:DK):jJ yJ [.bl i] μ Q=Q (.int (if i then 1 else 0)) μ:=propext Wi
theorem Ke (a:List D)(μ:Mu)(Q:DK):jJ bF [.tup a] μ Q=Q (.tup a) μ:=propext Wi
theorem IK (a:List D)(μ:Mu)(Q:DK):jJ bF [.ls a] μ Q=Q (.tup a) μ:=propext Wi
theorem Js (a:Addr)(μ:Mu)(Q:DK):jJ bF [.obj a] μ Q=kL μ a λxs=>Q (.tup xs) μ:=propext Wi
theorem Jd (a:List D)(μ:Mu)(Q:DK):jJ j4 [.ls a] μ Q=Q (.ls a) μ:=propext Wi
theorem GH (a:List D)(μ:Mu)(Q:DK):jJ jW [.tup a] μ Q = ∀ p,μ p=none->Q (.obj p) (up μ p (.lst a)):=propext Wi
theorem Sj (a:Addr)(μ:Mu)(Q:DK):jJ dB [.obj a] μ Q=kL μ a λxs=>Q (.int xs.length) μ:=propext Wi
theorem oj (a:List D)(μ:Mu)(Q:DK):jJ dB [.tup a] μ Q=Q (.int a.length) μ:=propext Wi
theorem nR (a:List D)(μ:Mu)(Q:DK):jJ dB [.ls a] μ Q=Q (.int a.length) μ:=propext Wi
theorem zA (n:Nat)(i:Int):okD n (.int i)=true:=by cases n<;>simp[okD]
theorem kA (n:Nat)(x:Str):okD n (.str x)=Wj x:=by cases n<;>simp[okD]
theorem yg (n:Nat)(ds:List D):okD (n+1) (.tup ds)=ck n ds:=by simp[okD]
theorem ET (n:Nat)(ds:List D):okD (n+1) (.ls ds)=ck n ds:=by simp[okD]
theorem gR (n:Nat):ck n []=true:=by simp[ck]
theorem b6 (n:Nat)(d:D)(r:List D):ck n (d::r)=(okD n d&&ck n r):=by simp[ck]
theorem qT (i j:Int):eqD (.int i) (.int j)=decide (i=j):=by simp[eqD]
theorem fB (i j:Str):eqD (.str i) (.str j)=decide (i=j):=by simp[eqD]
theorem uX (a b:List D):eqD (.tup a) (.tup b)=jK a b:=by simp[eqD]
theorem vh (a b:List D):eqD (.ls a) (.ls b)=jK a b:=by simp[eqD]
theorem lq  : jK [] []=true:=by simp[jK]
theorem iG (a b:D)(r s:List D):jK (a::r) (b::s)=(eqD a b&&jK r s):=by simp[jK]
theorem Kt (A B:Prop):kIf true A B=A:=propext Wi
theorem L7 (A B:Prop):kIf false A B=B:=propext Wi
theorem MW (c:Bool)(f):kB (.bl c) f=f c:=propext Wi
theorem Kr (c:Int)(f):kI (.int c) f=f c:=propext Wi
theorem EM (c:D)(f):kO (some c) f=f c:=propext Wi
theorem GW (c:List D)(f):kS (.tup c) f=f c:=propext Wi
theorem MK (c:List D)(f):kS (.ls c) f=f c:=propext Wi
theorem Km (a b:D)(f):k2 [a,b] f=f a b:=propext Wi
theorem EO (c:Nat)(f):kN (some c) f=f c:=propext Wi
theorem ES (i j:Int)(μ Q):aV (.int i) (.int j) μ Q=Q (.int (i+j)) μ:=propext Wi
theorem E9 (a b:List D)(μ Q):aV (.tup a) (.tup b) μ Q=(a.length+b.length<=1000000/\Q (.tup (a++b)) μ):=propext Wi
theorem EB (a b:List D)(μ Q):aV (.ls a) (.ls b) μ Q=(a.length+b.length<=1000000/\Q (.ls (a++b)) μ):=propext Wi
theorem Hv (i j:Int)(μ Q):kg (.int i) (.int j) μ Q=Q (.int (i - j)) μ:=propext Wi
theorem F5 (i j:Int)(μ Q):eP (.int i) (.int j) μ Q=(MulOk i j/\Q (.int (i*j)) μ):=propext Wi
theorem J9 (i j:Int)(μ Q):oa (.int i) (.int j) μ Q=(kC j/\Q (.int (i.fdiv j)) μ):=propext Wi
theorem JO (i j:Int)(μ Q):mN (.int i) (.int j) μ Q=(j≠0/\Q (.int (i.fmod j)) μ):=propext Wi
theorem Ig (i j:Int)(μ Q):Gu (.int i) (.int j) μ Q=(sj i j/\Q (.int (i ^ j.toNat)) μ):=propext Wi
theorem M3 (i j:Int)(μ Q):rLt (.int i) (.int j) μ Q=Q (.bl (decide (i < j))) μ:=propext Wi
theorem NT (i j:Int)(μ Q):rGt (.int i) (.int j) μ Q=Q (.bl (decide (j < i))) μ:=propext Wi
theorem K5 (i j:Int)(μ Q):rGe (.int i) (.int j) μ Q=Q (.bl (decide (j<=i))) μ:=propext Wi
theorem Nd (μ Q):rIs .non .non μ Q=Q (.bl true) μ:=propext Wi
theorem Lu (i:Int)(μ Q):rIs (.int i) .non μ Q=Q (.bl false) μ:=propext Wi
theorem Bz (μ Q):ik .non .non μ Q=Q (.bl false) μ:=propext Wi
theorem BH (i:Int)(μ Q):ik (.int i) .non μ Q=Q (.bl true) μ:=propext Wi
theorem BX (i:List D)(μ Q):ik (.tup i) .non μ Q=Q (.bl true) μ:=propext Wi
theorem Nk (a:List D)(lo hi)(μ Q):rSl (.tup a) lo hi μ Q=Q (.tup (cutD a lo hi)) μ:=propext Wi
theorem Nv (a:List D)(lo hi)(μ Q):rSl (.ls a) lo hi μ Q=Q (.ls (cutD a lo hi)) μ:=propext Wi
theorem kM (ds:List D)(i:Int)(μ Q):L3.rIx (.tup ds) (.int i) μ Q=kO (atD ds i) λd=>Q d μ:=propext Wi
theorem lr (ds:List D)(i:Int)(μ Q):L3.rIx (.ls ds) (.int i) μ Q=kO (atD ds i) λd=>Q d μ:=propext Wi
theorem kU (x y:D)(μ Q):L3.rEq x y μ Q=((okD 40 x=true/\okD 40 y=true)/\Q (.bl (eqD x y)) μ):=propext Wi
theorem lu (x y:D)(μ Q):L3.rNe x y μ Q=((okD 40 x=true/\okD 40 y=true)/\Q (.bl (!eqD x y)) μ):=propext Wi
theorem kif {p:Prop} [Decidable p] {A B:Prop}(h1:p->A)(h2:¬ p->B):kIf (decide p) A B:=by
 by_cases h:p
 ·rw[decide_eq_true h];exact h1 h
 ·rw[decide_eq_false h];exact h2 h
theorem U5 {p:Prop} [Decidable p] {A B:Prop}(h1:¬ p->A)(h2:p->B):kIf (!decide p) A B:=by
 by_cases h:p
 ·rw[decide_eq_true h];exact h2 h
 ·rw[decide_eq_false h];exact h1 h
theorem cv {p:Prop} [Decidable p] {A B:Prop}(h:p)(hA:A):kIf (decide p) A B:=by rw[decide_eq_true h];exact hA
theorem dq {p:Prop} [Decidable p] {A B:Prop}(h:¬ p)(hB:B):kIf (decide p) A B:=by rw[decide_eq_false h];exact hB
theorem O1 {p:Prop} [Decidable p] {A B:Prop}(h:p)(hB:B):kIf (!decide p) A B:=by rw[decide_eq_true h];exact hB
theorem OI {c:Bool}{A B:Prop}(h1:c=true->A)(h2:c=false->B):kIf c A B:=by
 cases c
 ·exact h2 rfl
 ·exact h1 rfl
theorem jy {o:Option D}{d:D}{f:D->Prop}(e:o=some d)(h:f d):kO o f:=by rw[e];exact h
theorem br {μ:Mu}{a:Addr}{ds:List D}{f:List D->Prop}(e:μ a=some (.lst ds))(h:f ds):kL μ a f:=by rw[Uk e];exact h
section
open PySem PySem.Spec PyProof.Rows L2
def N1 (kvs:List (Str×D))(s:Str):Option D:=(kvs.find? λkv=>decide (kv.1=s)).map (·.2)
def Dd (K:Wa):List DictEntry->List (Str×D)->Prop
 | [],[]=>True
 | e::es,(x,d)::r=>(∃ t,e.key=.str x t)/\(∃ v,RelV v e.val/\∀ H,Dp K H v d)/\Dd K es r
 | _,_=>False
theorem Ao (s x:Str)(t:Tok):YU s (.str x t)=decide (x=s):=by
 by_cases h:x=s
 ·subst h;simp[YU]
 ·rw[decide_eq_false h];simp[YU];first | exact h | exact λz=>h z.symm
theorem Dd.find {K:Wa}(s:Str):∀ {es:List DictEntry} {kvs:List (Str×D)},Dd K es kvs->
  match N1 kvs s with
  | none=>(es.find? λe=>YU s e.key)=none
  | some d=>∃ e v,(es.find? λe=>YU s e.key)=some e/\RelV v e.val/\∀ H,Dp K H v d
 | [],[],_=>rfl
 | e::es,(x,d)::r,h=>by
  obtain ⟨⟨t,ht⟩,⟨v,rv,pv⟩,hr⟩:=h
  have ih:=Dd.find s hr
  unfold N1 at ih ⊢
  rw[Xs,Xs,ht,Ao]
  by_cases hx:x=s
  ·simp only[decide_eq_true hx,zbC]
   exact ⟨e,v,rfl,rv,pv⟩
  ·simp only[decide_eq_false hx]
   exact ih
 | [],_::_,h=>Wm h
 | _::_,[],h=>Wm h
section
variable {X:Cx} {a b c e:WR} {Ta Tb Te:ETr} {pos gpos:Pos} {x:Str} {kvs:List (Str×D)}
end
section
variable {X:Cx} {a b:WR} {Ta Tb:ETr} {pos:Pos}
end
end
section
open PySem PySem.Spec PyProof.Rows L2
def eI {κ:Type} [DecidableEq κ] (kvs:List (κ×D))(k:κ):Option D:=(kvs.find? λkv=>decide (kv.1=k)).map (·.2)
def putD {κ:Type} [DecidableEq κ] (kvs:List (κ×D))(k:κ)(v:D):List (κ×D):=
 if (kvs.any λkv=>decide (kv.1=k))=true then kvs.map (λkv=>if kv.1=k then (kv.1,v) else kv) else kvs++[(k,v)]
def yl (x:D)(f:Key->Prop):Prop:=match x with
 | .int i=>f (.inl i)
 | .str s=>f (.inr s)
 | _=>False
theorem DpK.nil {κ:Type}{K:Wa}{H:Hp}:DpK (κ:=κ) K H [] []:=⟨rfl,.nil⟩
theorem DpK.cons {κ:Type}{K:Wa}{H:Hp}{k:κ}{v:V}{d:D}{xs:List (κ×V)}{kvs:List (κ×D)}(h:Dp K H v d)(r:DpK K H xs kvs):DpK K H ((k,v)::xs) ((k,d)::kvs):=
 ⟨by simp[r.1],.cons h r.2⟩
theorem DpK.ind {κ:Type}{K:Wa}{H:Hp}{P:List (κ×V)->List (κ×D)->Prop}(h0:P [] [])(h1:∀ k v d xs kvs,Dp K H v d->DpK K H xs kvs->P xs kvs->P ((k,v)::xs) ((k,d)::kvs)) :
  ∀ {xs:List (κ×V)} {kvs:List (κ×D)},DpK K H xs kvs->P xs kvs
 | [],[],_=>h0
 | [],_::_,h=>by cases h.1
 | _::_,[],h=>by cases h.1
 | (k,v)::xs,(k',d)::kvs,h=>by
  obtain ⟨h2,h3⟩:=h
  simp only[Wr,List.cons.injEq] at h2
  obtain ⟨rfl,h2⟩:=h2
  cases h3 with
  | cons p l=>exact h1 k v d xs kvs p ⟨h2,l⟩ (DpK.ind h0 h1 ⟨h2,l⟩)
theorem DpK.look {κ:Type} [DecidableEq κ] {K:Wa}{H:Hp}{xs:List (κ×V)}{kvs:List (κ×D)}(h:DpK K H xs kvs)(k:κ) :
  (eI kvs k=none/\ix xs k=none)∨∃ v d,eI kvs k=some d/\ix xs k=some v/\Dp K H v d:=by
 refine DpK.ind (P:=λxs kvs=>(eI kvs k=none/\ix xs k=none)∨∃ v d,eI kvs k=some d/\ix xs k=some v/\Dp K H v d) (.inl ⟨rfl,rfl⟩) (λj v d xs kvs p _ ih=>?_) h
 by_cases e:j=k
 ·refine .inr ⟨v,d,?_,mC (p:=(j,v)) e,p⟩
  unfold eI;rw[Xs];simp[e]
 ·have e1:eI ((j,d)::kvs) k=eI kvs k:=by unfold eI;rw[Xs];simp[e]
  rw[e1,mi (p:=(j,v)) e]
  exact ih
theorem DpK.any {κ:Type} [DecidableEq κ] {K:Wa}{H:Hp}{xs:List (κ×V)}{kvs:List (κ×D)}(h:DpK K H xs kvs)(k:κ):(xs.any λkv=>decide (kv.1=k))=kvs.any λkv=>decide (kv.1=k):=by
 refine DpK.ind (P:=λxs kvs=>(xs.any λkv=>decide (kv.1=k))=kvs.any λkv=>decide (kv.1=k)) rfl (λj v d xs kvs p _ ih=>?_) h
 rw[YX,YX,ih]
theorem DpK.put {κ:Type} [DecidableEq κ] {K:Wa}{H:Hp}{xs:List (κ×V)}{kvs:List (κ×D)}(h:DpK K H xs kvs)(k:κ){v:V}{d:D}(p:Dp K H v d):DpK K H (putK xs k v) (putD kvs k d):=by
 unfold putK putD
 rw[h.any k]
 split
 ·refine DpK.ind (P:=λxs kvs=>DpK K H (xs.map λkv=>if kv.1=k then (kv.1,v) else kv) (kvs.map λkv=>if kv.1=k then (kv.1,d) else kv)) .nil (λj v' d' xs kvs p' _ ih=>?_) h
  rw[Wr,Wr]
  by_cases e:j=k
  ·rw[if_pos e,if_pos e];exact .cons p ih
  ·rw[if_neg e,if_neg e];exact .cons p' ih
 ·refine DpK.ind (P:=λxs kvs=>DpK K H (xs++[(k,v)]) (kvs++[(k,d)])) (.cons p .nil) (λj v' d' xs kvs p' _ ih=>?_) h
  exact .cons p' ih
theorem DpK.length {κ:Type}{K:Wa}{H:Hp}{xs:List (κ×V)}{kvs:List (κ×D)}(h:DpK K H xs kvs):xs.length=kvs.length:=by
 have:=h.2.length
 simpa using this
theorem tL {K:Wa}{H:Hp}{y:V}{dy:D}{f:Key->Prop}(p:Dp K H y dy)(h:yl dy f):∃ k,y=kV k/\f k:=by
 cases p with
 | int i=>exact ⟨.inl i,rfl,h⟩
 | str s=>exact ⟨.inr s,rfl,h⟩
 | _=>exact Wm h
theorem iE {K:Wa}{H:Hp}{x:V}{dx:D}{f:Addr->Prop}(p:Dp K H x dx)(h:kObj dx f):∃ a,x=.ref a/\f a:=by
 cases p with
 | obj a=>exact ⟨a,rfl,h⟩
 | _=>exact Wm h
theorem rT {H:Hp}{q:Addr}{u:HO}{xs:List (Key×V)}(ex:H q=some (.dK xs)):Tk H (L2.upd H q u):=
 .upd (λys z=>by rw[ex] at z;cases z) λo' w z=>by rw[ex] at z;cases z
theorem BC {K:Wa}{H:Hp}{μ:Mu}{q:Addr}{xs ys:List (Key×V)}{ds:List (Key×D)}(m:bQ K H μ)(ex:H q=some (.dK xs))(l:DpK K H ys ds):bQ K (L2.upd H q (.dK ys)) (up μ q (.dct ds)):=λz y ez=>by
 by_cases zq:z=q
 ·subst zq
  rw[aK] at ez;cases ez
  exact ⟨ys,aQ,l.mono (rT ex)⟩
 ·rw[aY zq] at ez
  exact (m z _ ez).ne (rT ex) zq
theorem Dq {K:Wa}{H:Hp}{μ:Mu}{q:Addr}{ys:List (Key×V)}{ds:List (Key×D)}(m:bQ K H μ)(hq:H q=none)(l:DpK K H ys ds):bQ K (L2.upd H q (.dK ys)) (up μ q (.dct ds)):=λz y ez=>by
 by_cases zq:z=q
 ·subst zq
  rw[aK] at ez;cases ez
  exact ⟨ys,aQ,l.mono (.new hq)⟩
 ·rw[aY zq] at ez
  exact dh m hq z y ez
section
variable {X:Cx} {o i a b c e value:WR} {To Ti Ta Tb Te:ETr} {pos tpos:Pos}
theorem hu1 (hu:X.A.units+64 < cLine):X.A.units+1 < cLine:=by omega
def bP (To Ti:ETr):ETr:=λρ μ Q=>To ρ μ λx μ1=>Ti ρ μ1 λy μ2=>kObj x λa=>kD μ2 a λkvs=>yl y λk=>kO (eI kvs k) λd=>Q d μ2
theorem cN (hu:X.A.units+64 < cLine)(ho:LE X o To)(hi:LE X i Ti)(hs:PX i:=by intro _ _;rfl):LE X (.Subscript o i pos) (bP To Ti):=by
 obtain ⟨to,po,so⟩:=ho.ex
 obtain ⟨ti,pi,si⟩:=hi.ex
 refine ⟨_,Kv (hu1 hu) po pi hs,λσ H ρ μ Q Q' rl h k=>so σ H ρ μ _ _ rl h λx H1 dx μ1 t1 m1 p1 h1=>si σ H1 ρ μ1 _ _ (rl.go t1 m1) h1 λy H2 dy μ2 t2 m2 p2 h2=>?_⟩
 obtain ⟨q,rfl,h2⟩:=iE p1 h2
 obtain ⟨kvs,e0,h2⟩:=sM h2
 obtain ⟨kk,rfl,h2⟩:=tL p2 h2
 obtain ⟨d,e1,h2⟩:=lX h2
 obtain ⟨xs,ex,l⟩:=m2 q _ e0
 rcases l.look kk with ⟨z,_⟩ | ⟨v,d',z,ev,pv⟩
 ·rw[z] at e1;cases e1
 ·rw[z] at e1;cases e1
  exact ⟨q,v,rfl,by rw[← ev];exact tX.k ex,k _ H2 _ μ2 (t1.trans t2) m2 pv h2⟩
def jC (To Ti Te:ETr):STr:=λE ρ μ=>Te ρ μ λv μ1=>To ρ μ1 λx μ2=>Ti ρ μ2 λy μ3=>kObj x λa=>kD μ3 a λkvs=>yl y λk=>kvs.length < 1000000/\E.nx ρ (up μ3 a (.dct (putD kvs k v)))
theorem ni (hu:X.A.units+64 < cLine)(ho:LE X o To)(hi:LE X i Ti)(he:LE X value Te)(hs:YJ value (some (.Subscript o i tpos)) pos.line X.env=pure false:=by rfl) :
  LS X (.Assign [.Subscript o i tpos] value pos) (jC To Ti Te):=by
 obtain ⟨to,po,so⟩:=ho.ex
 obtain ⟨ti,pi,si⟩:=hi.ex
 obtain ⟨te,pe,se⟩:=he.ex
 refine ⟨_,Lp (hu1 hu) po pi pe hs,λσ H ρ μ E E' rl h k=>se σ H ρ μ _ _ rl h λv H1 dv μ1 t1 m1 p1 h1=>so σ H1 ρ μ1 _ _ (rl.go t1 m1) h1 λx H2 dx μ2 t2 m2 p2 h2=>
  si σ H2 ρ μ2 _ _ (rl.go (t1.trans t2) m2) h2 λy H3 dy μ3 t3 m3 p3 h3=>?_⟩
 obtain ⟨q,rfl,h3⟩:=iE p2 h3
 obtain ⟨kvs,e0,h3⟩:=sM h3
 obtain ⟨kk,rfl,h3⟩:=tL p3 h3
 obtain ⟨xs,ex,l⟩:=m3 q _ e0
 have t4:Tk H3 (L2.upd H3 q (.dK (putK xs kk v))):=rT ex
 have t14:=t1.trans (t2.trans (t3.trans t4))
 refine ⟨q,_,rfl,vH.k ex (by rw[l.length];exact WK h3.1 (by decide)),k.nx _ _ ρ _ t14 (rl.go t14 (BC m3 ex (l.put kk (p1.mono (t2.trans t3))))) h3.2⟩
def m7 (f:Int->Int->Int)(To Ti Te:ETr):STr:=λE ρ μ=>To ρ μ λx μ1=>Ti ρ μ1 λy μ2=>kObj x λa=>kD μ2 a λkvs=>yl y λk=>kO (eI kvs k) λd=>kI d λm=>
 Te ρ μ2 λw μ3=>kI w λn=>kD μ3 a λkvs3=>kvs3.length < 1000000/\E.nx ρ (up μ3 a (.dct (putD kvs3 k (.int (f m n)))))
theorem GU {to ti te:TE}{K:Wa}{f:Int->Int->Int}{rd:V->V->Hp->VK->Prop}(hrd:∀ i j H Q,Q (.int (f i j)) H->rd (.int i) (.int j) H Q)(so:Sim K to To)(si:Sim K ti Ti)(se:Sim K te Te) :
  HN K (OM to ti te rd) (m7 f To Ti Te):=λσ H ρ μ E E' rl h k=>so σ H ρ μ _ _ rl h λx H1 dx μ1 t1 m1 p1 h1=>si σ H1 ρ μ1 _ _ (rl.go t1 m1) h1 λy H2 dy μ2 t2 m2 p2 h2=>by
  obtain ⟨q,rfl,h2⟩:=iE p1 h2
  obtain ⟨kvs,e0,h2⟩:=sM h2
  obtain ⟨kk,rfl,h2⟩:=tL p2 h2
  obtain ⟨d,e1,h2⟩:=lX h2
  obtain ⟨xs,ex,l⟩:=m2 q _ e0
  rcases l.look kk with ⟨z,_⟩ | ⟨v,d',z,ev,pv⟩
  ·rw[z] at e1;cases e1
  ·rw[z] at e1;cases e1
   cases pv with
   | int m=>
    refine ⟨q,.int m,rfl,by rw[← ev];exact tX.k ex,se σ H2 ρ μ2 _ _ (rl.go (t1.trans t2) m2) h2 λw H3 dw μ3 t3 m3 p3 h3=>?_⟩
    cases p3 with
    | int n=>
     obtain ⟨kvs3,e3,h3⟩:=sM (show kD μ3 q _ from h3)
     obtain ⟨xs3,ex3,l3⟩:=m3 q _ e3
     have t4:Tk H3 (L2.upd H3 q (.dK (putK xs3 kk (.int (f m n))))):=rT ex3
     have t14:=t1.trans (t2.trans (t3.trans t4))
     exact hrd m n H3 _ ⟨_,vH.k ex3 (by rw[l3.length];exact WK h3.1 (by decide)),k.nx _ _ ρ _ t14 (rl.go t14 (BC m3 ex3 (l3.put kk (.int _)))) h3.2⟩
    | _=>exact Wm h3
   | _=>exact Wm h2
theorem lU (hu:X.A.units+64 < cLine)(ho:LE X o To)(hi:LE X i Ti)(he:LE X value Te)(ha:∀ ov iv new,augStore i ov iv new=(do zbg [new,ov,iv] (setItem ov iv new);release [new,ov,iv] [];pure .next):=by intros;rfl) :
  LS X (.AugAssign (.Subscript o i tpos) .Add value pos) (m7 (λm n=>m+n) To Ti Te):=by
 obtain ⟨to,po,so⟩:=ho.ex
 obtain ⟨ti,pi,si⟩:=hi.ex
 obtain ⟨te,pe,se⟩:=he.ex
 exact ⟨_,Ma (hu1 hu) po pi pe O2 ha,GU (λi j H Q q=>⟨i,j,rfl,rfl,q⟩) so si se⟩
def KN (f:Int->Int->Int)(i:Nat)(Te:ETr):STr:=λE ρ μ=>kO (lk ρ i) λd=>kI d λm=>Te ρ μ λw μ1=>kI w λn=>aA i (.int (f m n)) ρ μ1 E.nx
theorem Li {te:TE}{K:Wa}{f:Int->Int->Int}{j:Nat}(se:Sim K te Te):HN K (Ts j te (ipI f)) (KN f j Te):=λσ H ρ μ E E' rl h k=>by
 obtain ⟨d,e1,h⟩:=lX h
 obtain ⟨v,ev,pv⟩:=rl.loc j d e1
 cases pv with
 | int m=>
  refine ⟨.int m,ev,se σ H ρ μ _ _ rl h λw H1 dw μ1 t1 m1 p1 h1=>?_⟩
  cases p1 with
  | int n=>exact ⟨m,n,rfl,rfl,k.nx _ _ _ _ t1 ((rl.go t1 m1).set (.int _) j) h1⟩
  | _=>exact Wm h1
 | _=>exact Wm h
theorem Fv (j:Nat){x:Str}(hN:X.N.Nodup)(he:LE X e Te)(hi:X.N[j]? = some x:=by rfl)(hx:Loc X.env.scope x:=by first | exact ZM rfl | exact ZN rfl)(hf:X.fn x=true∨X.env.scope.names.lookup x=some .local:=by first | exact .inl rfl | exact .inr rfl | assumption) :
  LS X (.AugAssign (.Name x tpos) .Add e pos) (KN (λm n=>m+n) j Te):=by
 obtain ⟨te,pe,se⟩:=he.ex
 exact ⟨_,Qy hN hi hx pe QD hf,Li se⟩
def VX (K:Wa)(trs:List (TE×TE))(ks:List Key)(T:ATr):Prop:=∀ σ H ρ μ (Q:List D->Mu->Prop) (Q':List (V×V)->Hp->Prop),Rl K σ H ρ μ->T ρ μ Q->
 (∀ vs H' ds μ',Tk H H'->bQ K H' μ'->vs.length=ks.length->DpL K H' vs ds->Q ds μ'->Q' ((ks.map kV).zip vs) H')->wJ trs σ H Q'
structure LPs (X:Cx) (pos:Pos) (keys:List (Option WR)) (values:List WR) (ks:List Key) (T:ATr):Prop where
 ex:∃ trs,PPs X pos keys values trs/\VX X.K trs ks T
theorem LB:LPs X pos [] [] [] aq:=⟨[],NC,λσ H ρ μ Q Q' rl h k=>k [] H [] μ (.refl H) rl.mu rfl .nil h⟩
theorem kP {s:Str}{j}{p:Pos}{ks:List (Option WR)}{vs:List WR}{kk:List Key}{At:ATr}(hv:LE X value Te)(hr:LPs X pos ks vs kk At):LPs X pos (some (.Constant (.str s) j p)::ks) (value::vs) (.inr s::kk) (af Te At):=by
 obtain ⟨te,pe,se⟩:=hv.ex
 obtain ⟨trs,pr,sr⟩:=hr.ex
 refine ⟨_,Hw JQ pe pr,λσ H ρ μ Q Q' rl h k=>?_⟩
 refine se σ H ρ μ _ _ rl h λy H1 dy μ1 t1 m1 p1 h1=>sr σ H1 ρ μ1 _ _ (rl.go t1 m1) h1 λvs H2 ds μ2 t2 m2 hl p2 h2=>?_
 exact k (y::vs) H2 (dy::ds) μ2 (t1.trans t2) m2 (by simp[hl]) (.cons (p1.mono t2) p2) h2
def Ja (ks:List Key)(At:ATr):ETr:=λρ μ Q=>∀ p,μ p=none->At ρ (up μ p (.dct [])) λds μ2=>kD μ2 p λkvs=>kvs=[]/\Q (.obj p) (up μ2 p (.dct (ks.zip ds)))
theorem JJ {acc:List (Key×V)}{k:Key}{v:V}(h:ix acc k=some v):k∈acc.map (·.1):=by
 unfold ix at h
 obtain ⟨p,hp,_⟩:=zbq.mp h
 have h1:=Zk hp
 have h2:=List.find?_some hp
 exact Wg.mpr ⟨p,h1,of_decide_eq_true h2⟩
theorem tf:∀ (kvs acc:List (Key×V)),((acc++kvs).map (·.1)).Nodup->eF acc kvs=acc++kvs
 | [],acc,_=>by simp[eF]
 | p::r,acc,h=>by
  have hn:ix acc p.1=none:=by
   cases e:ix acc p.1 with
   | none=>rfl
   | some v=>
    exfalso
    have:=JJ e
    rw[W2,Wr] at h
    exact (zcZ.mp h).2.2 _ this _ Wu rfl
  show eF (putK acc p.1 p.2) r=_
  rw[Ik p.2 hn]
  rw[tf r (acc++[(p.1,p.2)]) (by simpa using h)]
  simp
theorem yn:∀ (ks:List Key) (vs:List V),(ks.map kV).zip vs=(ks.zip vs).map λkv=>(kV kv.1,kv.2)
 | [],_=>by simp
 | _::_,[]=>by simp
 | k::ks,v::vs=>by simp[yn ks vs]
theorem DpK.zip {K:Wa}{H:Hp}:∀ {ks:List Key} {vs:List V} {ds:List D},DpL K H vs ds->DpK K H (ks.zip vs) (ks.zip ds)
 | [],_,_,_=>by simp;exact .nil
 | _::_,_,_,.nil=>by simp;exact .nil
 | k::ks,_,_,.cons p l=>.cons p (DpK.zip l)
theorem Kw {keys:List (Option WR)}{values:List WR}{ks:List Key}{At:ATr}(h:LPs X pos keys values ks At)(hall:keys.all (·.isSome)=true:=by rfl)(hl:keys.length=values.length:=by rfl)(h0:keys≠[]:=by nofun)
  (h15:keys.length<=15:=by decide) (hk:keys.length=ks.length:=by rfl) (hn:ks.Nodup:=by decide):LE X (.Dict keys values pos) (Ja ks At):=by
 obtain ⟨trs,pr,sr⟩:=h.ex
 refine ⟨_,Mq pr hall hl h0 h15,λσ H ρ μ Q Q' rl h k p hp=>?_⟩
 refine sr σ _ ρ _ _ _ (rl.go (.new hp) (Dq rl.mu hp .nil)) (h p (rl.mu.free hp)) λvs H2 ds μ2 t2 m2 hvl p2 h2=>?_
 obtain ⟨kvs,e0,rfl,h2⟩:=sM h2
 obtain ⟨xs,ex,l⟩:=m2 p _ e0
 have:xs=[]:=by have:=l.length;cases xs with | nil=>rfl | cons=>simp at this
 subst this
 refine ⟨ex,ks.zip vs,yn ks vs,by rw[zdy];omega,?_⟩
 have e:eF [] (ks.zip vs)=ks.zip vs:=by
  have:=tf (ks.zip vs) [] (by rw[XJ,List.map_fst_zip (by omega)];exact hn)
  simpa using this
 rw[e]
 exact k _ _ _ _ ((Tk.new hp).trans (t2.trans (rT ex))) (BC m2 ex (.zip p2)) (.obj p) h2
end
end
section
open PySem PySem.Spec PyProof.Rows L2
theorem Fg:zdF (.type "list") (OF "keys")=pure none:=am_miss_of_fast (by kernel_rfl)
theorem Qf {prog:WX}{w:Xb}{A:Xn}{E:We->Wh->Prop}{s:Wh}{a:Addr}{o:Obj}{xs:Array We}{k:Nat}{Q:Option We->Wh->Prop}
  (hx:s.heap.get? a=some o) (hc:o.cls=.type "list") (hdat:o.data=.seq xs k) (hd:o.dict=none) (hA:A.handled=none)
  (h:∀ h' tk,(∀ b ob,s.heap.get? b=some ob->h'.get? b=some ob)->Q none { s with heap:=h',toks:=tk }) :
  WJ (WM prog w) A (getAttr? (.ref a) "keys") Q E s:=by
 obtain ⟨c,dct,dat,sl⟩:=o
 simp only at hc hdat hd
 subst hc hdat hd
 obtain ⟨hp,g,d,tk,os⟩:=s
 have hT:∀ tk',(⟨hp,g,d,tk',os⟩:Wh).TypeIs (.ref a) "list" := λ_=>⟨_,hx,rfl⟩
 have f1:=sub_AttributeError
 have f3:=Zn.lookup
 have f4:=Zn.bind (.ref a)
 have f5:=am_list_getattr_none
 unfold getAttr? getAttrBy? getAttrBy
 repeat (any_goals (first | assumption | exact hT _ | ((with_reducible show WJ _ _ (zcb (Value.builtin "list.__getattribute__") _ _) _ _ _);refine Z0 Zn (hT _) am_entry_list_getattribute (F.args_list_getattribute_2 _ _) (meets_getattribute_miss_list a xs k sl (OF "keys") _ Fg (by decide +kernel) (by decide +kernel)) ⟨hx,hA,λh' tk' e hx'=>?_⟩) | wp_step))
 obtain ⟨t',u',he⟩:=hx'.there
 show WJ _ _ (zcG _ _ _ _ _ _ _) _ _ _
 unfold zcG
 repeat (any_goals (first | assumption | wp_step))
 exact h _ _ hx'.keeps
theorem mO:plainId "dict.update.loop" = true:=by decide +kernel
theorem y8:entryFor table "dict.update.loop" = some ZP.«dict.update.loop»:=entryFor_of_fast (by kernel_rfl)
inductive fQ {prog:WX} {w:Xb} {κ:Type} [DecidableEq κ] (knd:KeyKind prog w κ) (h:Heap):List We->List (κ×We)->Prop
 | nil:fQ knd h [] []
 | cons {a:Addr} {u v:We} {k:κ} {us:List We} {r:List (κ×We)}:zdj h a #[u,v]->knd.is k u=true->fQ knd h us r->fQ knd h (.ref a::us) ((k,v)::r)
section
variable {prog:WX} {w:Xb} {κ:Type} [DecidableEq κ] {knd:KeyKind prog w κ}
theorem fQ.keeps {h h':Heap}(kp:∀ b o,h.get? b=some o->o.cls=.type "tuple" -> h'.get? b=some o):∀ {us:List We} {r:List (κ×We)},fQ knd h us r->fQ knd h' us r
 | _,_,.nil=>.nil
 | _,_,.cons t k r=>.cons (by obtain ⟨o,e,c,n,d⟩:=t;exact ⟨o,kp _ o e c,c,n,d⟩) k (r.keeps kp)
theorem xM {A:Xn}{R:zc9->Wh->Prop}{d it l:Addr}{items:Array We}(hA:A.handled=none)(n1:d≠it)(n2:l≠it)(n3:l≠d) :
  ∀ (us:List We) (r:List (κ×We)) (i:Nat) (kvs:List (κ×We)) (s:Wh),items.toList.drop i=us->fQ knd s.heap us r->s.heap.IsListIter it l i->s.heap.IsList l items->s.heap.DictOf knd d kvs->kvs.length+r.length<=sizeLine->
   (∀ h' tk,h'.DictOf knd d (merged kvs r)->(∀ b o,b≠it->b≠d->s.heap.get? b=some o->h'.get? b=some o)->R (.ok (.ret .none)) { s with heap:=h',toks:=tk })->
   WJ (WM prog w) A.in1 (ZP.«dict.update.loop» ⟨[.ref d,.ref it,zav i,.none],[]⟩) (λfin s'=>match fin with | .done f=>R (.ok f) s' | .again c'=>c'.quiet=true/\Y1 (WM prog w) A c' R s') (λe s'=>R (.error e) s') s
 | [],r,i,kvs,s,hd,P,hit,hl,hm,hz,h=>by
  cases P
  have hx:items[i]? = none:=by
   have:items.toList.length<=i:=by
    have:=congrArg X5 hd
    simp at this;simp;omega
   simpa using this
  show WJ _ _ (Zs (.ref it) >>= _) _ _ _
  refine Wb (zbG (by exact hA) hit hl hx λh' k=>?_)
  show WJ _ _ (zdY d [] >>= _) _ _ _
  refine Wb (Wn (Wn ?_))
  refine h h' s.toks ?_ λb o hb _ e=>k b o hb e
  obtain ⟨o,es,ep,ho,rest⟩:=hm
  exact ⟨o,es,ep,k d o n1 ho,rest⟩
 | u::us,r,i,kvs,s,hd,P,hit,hl,hm,hz,h=>by
  cases P with
  | @cons a ku v k _ r tp hk P=>
  have hx:items[i]? = some (.ref a):=by
   have:items.toList[i]? = some (.ref a):=by
    have:=congrArg (λl=>l[0]?) hd
    simpa using this
   simpa using this
  have hd':items.toList.drop (i+1)=us:=by
   have:=congrArg List.tail hd
   simpa using this
  show WJ _ _ (Zs (.ref it) >>= _) _ _ _
  refine Wb (zbh hit hl hx λh1 it1 k1=>?_)
  have ne_it:∀ b o,s.heap.get? b=some o->o.cls≠.type "list_iterator" -> b≠it:=λb o e c z=>by
   subst z
   obtain ⟨o',e',c',_⟩:=hit
   rw[e] at e';cases e';exact c c'
  have tp1:zdj h1 a #[ku,v]:=by
   obtain ⟨o,e,c,n,dd⟩:=tp
   exact ⟨o,(k1.2 a (ne_it a o e (by rw[c];decide))).trans e,c,n,dd⟩
  obtain ⟨o,e,c,n,dd⟩:=tp1
  have hm1:h1.DictOf knd d kvs:=by
   obtain ⟨o,es,ep,ho,rest⟩:=hm
   exact ⟨o,es,ep,(k1.2 d n1).trans ho,rest⟩
  have hl1:h1.IsList l items:=by
   obtain ⟨o,e,c,n,dd⟩:=hl
   exact ⟨o,(k1.2 l n2).trans e,c,n,dd⟩
  dsimp only
  refine Wb (YV ?_)
  refine Wb (Y9 ?_)
  unfold zd6
  refine Wb (wpAny_typeOf (T := "tuple") ⟨o,e,c⟩ ?_)
  rw[if_pos (by decide)]
  refine Wb (Xy e dd (Wn ?_))
  show WJ _ _ (zbg [ku,v] (dictSet d ku v)) _ _ _
  refine YV (wpAny_dictSet_pairs (hsz:=by have:=hz;simp at this;omega) hk hm1 λh2 hm2 k2=>?_)
  refine Wn ?_
  refine ⟨YH mO _,zbD y8 ?_⟩
  rw[Z8 mO _]
  have kp:∀ b o,b≠it->b≠d->s.heap.get? b=some o->h2.get? b=some o:=λb o b1 b2 q=>(k2.2 b b2).trans ((k1.2 b b1).trans q)
  have ci:((i:Int)+1)=((i+1:Nat):Int):=by push_cast;rfl
  have nd:∀ b o,s.heap.get? b=some o->o.cls≠.type "dict" -> b≠d:=λb o q c z=>by
   subst z
   obtain ⟨o',_,_,e',ex,_⟩:=hm
   rw[q] at e';cases e';exact c ex.1
  show WJ _ _ (ZP.«dict.update.loop» ⟨[.ref d,.ref it,zav ((i:Int)+1),.none],[]⟩) _ _ _
  rw[ci]
  refine xM hA n1 n2 n3 us r (i+1) (stored kvs k v) _ hd' (P.keeps λb o q c=>kp b o (ne_it b o q (by rw[c];decide)) (nd b o q (by rw[c];decide)) q) ?_ ?_ hm2 ?_ ?_
  ·obtain ⟨o,e,c⟩:=it1
   exact ⟨o,(k2.2 it (WY n1)).trans e,c⟩
  ·obtain ⟨o,e,c⟩:=hl1
   exact ⟨o,(k2.2 l n3).trans e,c⟩
  ·have:=stored_length_le kvs k v
   simp at hz;omega
  ·intro h' tk hm' kp'
   exact h h' tk hm' λb o b1 b2 q=>kp' b o b1 b2 (kp b o b1 b2 q)
end
end
section
open PySem PySem.Spec PyProof.Rows L2
section
variable {prog:WX} {w:Xb} {κ:Type} [DecidableEq κ] {knd:KeyKind prog w κ}
theorem pP {A:Xn}{E:We->Wh->Prop}{s:Wh}{l:Addr}{o:Obj}{items:Array We}{k:Nat}{r:List (κ×We)}{Q:We->Wh->Prop}(hA:A.handled=none)
  (hx:s.heap.get? l=some o) (hc:o.cls=.type "list") (hdat:o.data=.seq items k) (hd:o.dict=none) (P:fQ knd s.heap items.toList r) (hz:r.length<=sizeLine)
  (h:∀ h' tk,h'.DictOf knd s.heap.objs.size (merged [] r)->(∀ b o,s.heap.get? b=some o->h'.get? b=some o)->Q (.ref s.heap.objs.size) { s with heap:=h',toks:=tk }) :
  WJ (WM prog w) A (zcb (.type "dict") [.ref l]) Q E s:=by
 refine callType_codes (Q₁:=λobj s₁=>obj=.ref s.heap.objs.size/\s₁={ s with heap:=s.heap.push { cls:=.type "dict", data:=.dict #[] } }) F.kt_called_dict (F.kt_typeCall_dict_1 _) F.entry_dict_init (kt_code_dict_new _ ⟨rfl,rfl⟩) ?_
 rintro obj s₁ ⟨rfl,rfl⟩
 have KU:(s.heap.push { cls:=.type "dict", data:=.dict #[] }).DictOf knd s.heap.objs.size []:=zdu s.heap
 have hx1:(s.heap.push { cls:=.type "dict", data:=.dict #[] }).get? l=some o:=Wc _ hx
 have ll:l < s.heap.objs.size:=WC hx
 refine ⟨KU.typeIs,F.args_dict_init_2 _ _,?_⟩
 unfold ZP.«dict.__init__»
 refine Wb ?_
 unfold zdZ
 refine Wb (wpAny_notOrdered_dict KU.typeIs ?_)
 show WJ _ _ (pure (s.heap.objs.size,[W5 l])) _ _ _
 refine Wn ?_
 show WJ _ _ (za9 "dict.__init__" s.heap.objs.size (.ref l) [] .none) _ _ _
 unfold za9
 refine Wb (wpAny_typeOf (T := "list") ⟨o,hx1,hc⟩ ?_)
 rw[if_pos (by decide)]
 refine Wb (Qf hx1 hc hdat hd hA λh1 tk1 kp1=>?_)
 rw[if_pos (by decide)]
 refine Wb (YO ?_)
 have hx2:h1.get? l=some o:=kp1 _ _ hx1
 have hl2:h1.IsList l items:=⟨o,hx2,hc,k,hdat⟩
 have lt1:s.heap.objs.size < h1.objs.size:=by
  obtain ⟨o',es,ep,ho,_⟩:=KU
  exact WC (kp1 _ _ ho)
 refine Wb (Y0 hl2 ?_)
 refine Wb (Wn (Wn ?_))
 refine ⟨YH mO _,zbD y8 ?_⟩
 rw[Z8 mO _]
 have kp2:∀ b o,s.heap.get? b=some o->(h1.push { cls:=.type "list_iterator", data:=.fields #[.ref l,.int 0 0] }).get? b=some o:=λb o q=>Wc _ (kp1 _ _ (Wc _ q))
 refine xM (A:=A.in1) (knd:=knd) (it:=h1.objs.size) (d:=s.heap.objs.size) (l:=l) (items:=items) (R:=wants (λr s₂=>r=YD/\Q (W5 s.heap.objs.size) s₂) E) hA (WO lt1) (WO (zcR ll lt1)) (WO ll) items.toList r 0 [] _ rfl ?_ ?_ ?_ ?_ (by simpa using hz) ?_
 ·exact P.keeps λb o q _=>kp2 b o q
 ·exact ⟨_,WE _ rfl,rfl,rfl⟩
 ·exact ⟨o,Wc _ hx2,hc,k,hdat⟩
 ·obtain ⟨o',es,ep,ho,rest⟩:=KU
  exact ⟨o',es,ep,Wc _ (kp1 _ _ ho),rest⟩
 ·intro h' tk hm' kp'
  refine ⟨rfl,h h' tk hm' λb o q=>?_⟩
  have hb:b < s.heap.objs.size:=WC q
  exact kp' b o (WO (zcR hb lt1)) (WO hb) (kp2 b o q)
end
def dK:Key->D
 | .inl i=>.int i
 | .inr s=>.str s
def AO (kv:Key×D):D:=.tup [dK kv.1,kv.2]
def jZ (kvs more:List (Key×D)):List (Key×D):=more.foldl (λacc kv=>putD acc kv.1 kv.2) kvs
inductive fD (K:Wa) (H:Hp):List V->List (Key×V)->Prop
 | nil:fD K H [] []
 | cons {a:Addr} {k:Key} {v:V} {ys:List V} {r:List (Key×V)}:SqT K H a [kV k,v]->fD K H ys r->fD K H (.ref a::ys) ((k,v)::r)
theorem fD.at {X:Cx}{pins:List (Addr×Obj)}{σ:L2.St}{H:Hp}{s:Wh}(I:Inv X pins σ H s):∀ {ys:List V} {kvs:List (Key×V)} {us:List We},fD X.K H ys kvs->Vals ys us->∃ r,fQ (cu X.prog X.w) s.heap us r/\KV kvs r
 | _,_,_,.nil,.nil=>⟨[],.nil,.nil⟩
 | _,_,_,@fD.cons _ _ a k v ys r sq h,.cons ru rs=>by
  cases (show _=W5 a from ru)
  obtain ⟨r,p,q⟩:=h.at I rs
  obtain ⟨its,vs,it,_⟩:=I.tuple sq
  cases vs with | @cons _ u1 _ _ r1 vs=>cases vs with | @cons _ u2 _ _ r2 vs=>
  cases vs
  exact ⟨(k,u2)::r,.cons it (Ag r1) p,.cons ⟨rfl,r2⟩ q⟩
theorem BF {X:Cx}(hc:X.calm=true):cM X (.type "dict") (λxs H Q=>∃ l ys kvs,xs=[.ref l]/\SqL X.K H l ys/\fD X.K H ys kvs/\kvs.length<=sizeLine/\∀ p,H p=none->Q (.ref p) (L2.upd H p (.dK (eF [] kvs)))):=by
 intro pins s σ H xs us Q I rx h
 obtain ⟨l,ys,kvs,rfl,sq,pv,hz,q⟩:=h
 obtain ⟨u,rfl,ru⟩:=vals1 rx
 cases (show u=W5 l from ru)
 obtain ⟨its,vs,pl,_⟩:=I.list sq
 obtain ⟨o,n,e,c,hd,hdat⟩:=pl
 obtain ⟨r,pr,kv⟩:=pv.at I vs
 refine pP (knd:=cu X.prog X.w) (I.ok.hd hc) e c hdat hd (r:=r) (by simpa using pr) (by rw[← kv.length];exact hz) λh' tk dd kp=>?_
 have hl:(eF [] kvs).length<=sizeLine:=by have:=iw kvs [];simp at this;omega
 exact ⟨.ref s.heap.objs.size,_,I.laid (a:=s.heap.objs.size) (o:=.dK (eF [] kvs)) kp (WA _) (Bu hl (beq_eq_false_iff_ne.mpr (WY (WO I.big))) (KV.merge kv .nil) dd),rfl,q _ (I.hok.fresh (WA _))⟩
def D7:FSp:=λds μ Q=>match ds with
 | [.ls xs]=>∃ kvs:List (Key×D),xs=kvs.map AO/\kvs.length<=1000000/\∀ p,μ p=none->Q (.obj p) (up μ p (.dct (jZ [] kvs)))
 | _=>False
theorem Rh {K:Wa}{H:Hp}{v:V}{k:Key}(h:Dp K H v (dK k)):v=kV k:=by
 cases k with
 | inl i=>cases h;rfl
 | inr s=>cases h;rfl
theorem fD.of {K:Wa}{H:Hp}:∀ {kvs:List (Key×D)} {xs:List V},DpL K H xs (kvs.map AO)->∃ r,fD K H xs r/\DpK K H r kvs
 | [],_,h=>by cases h;exact ⟨[],.nil,.nil⟩
 | kv::kvs,_,h=>by
  obtain ⟨k,d⟩:=kv
  cases h with
  | cons p l=>
   obtain ⟨r,h1,h2⟩:=fD.of l
   cases p with
   | tup sq lp=>
    cases lp with | cons p1 lp=>cases lp with | cons p2 lp=>
    cases lp
    cases Rh p1
    exact ⟨(k,_)::r,.cons sq h1,.cons p2 h2⟩
theorem DpK.merge {K:Wa}{H:Hp}{xs:List (Key×V)}{kvs:List (Key×D)}(h:DpK K H xs kvs):∀ {axs:List (Key×V)} {akvs:List (Key×D)},DpK K H axs akvs->DpK K H (eF axs xs) (jZ akvs kvs):=
 DpK.ind (P:=λxs kvs=>∀ {axs:List (Key×V)} {akvs:List (Key×D)},DpK K H axs akvs->DpK K H (eF axs xs) (jZ akvs kvs)) (λh=>h) (λk v d xs kvs p _ ih axs akvs ha=>ih (ha.put k p)) h
theorem HW {K:Wa}:mh K (λxs H Q=>∃ l ys kvs,xs=[.ref l]/\SqL K H l ys/\fD K H ys kvs/\kvs.length<=sizeLine/\∀ p,H p=none->Q (.ref p) (L2.upd H p (.dK (eF [] kvs)))) D7:=λH μ xs ds Q Q' m p h k=>by
 unfold D7 at h
 split at h
 ·obtain ⟨kvs,rfl,hl,h⟩:=h
  cases p with | cons p1 p2=>
  cases p2
  cases p1 with
  | ls q l=>
   obtain ⟨r,h1,h2⟩:=fD.of l
   exact ⟨_,_,r,rfl,q.sq,h1,by rw[h2.length];exact big hl,λz hz=>k _ _ _ _ (.new hz) (Dq m hz (h2.merge .nil)) (.obj z) (h z (m.free hz))⟩
 ·exact Wm h
end
section
open PySem PySem.Spec PyProof.Rows L2
section
variable {X:Cx} {o i a b c e value:WR} {To Ti Ta Tb Te:ETr} {pos tpos apos cpos:Pos}
def RJ (To Ti:ETr):ETr:=λρ μ Q=>To ρ μ λx μ1=>kObj x λa=>kL μ1 a λ_=>Ti ρ μ1 λy μ2=>kI y λj=>(-9223372036854775808<=j/\j < 9223372036854775808)/\kL μ2 a λds=>kN (L2.ixN ds.length j) λk=>kO ds[k]? λd=>Q d (up μ2 a (.lst (ds.eraseIdx k)))
theorem GN {n k:Nat}{j:Int}(h:L2.ixN n j=some k):zb7 j n=some k:=by
 unfold L2.ixN at h
 unfold zb7
 split at h
 ·split at h
  ·cases h
   rename_i h1 h2
   simp[show ¬ (j < 0) by omega,h1,h2]
  ·cases h
 ·split at h
  ·cases h
   rename_i h1 h2
   simp[show j < 0 by omega]
   omega
  ·cases h
theorem DpL.erase {K:Wa}{H:Hp}:∀ {vs:List V} {ds:List D} (i:Nat),DpL K H vs ds->DpL K H (vs.eraseIdx i) (ds.eraseIdx i)
 | _,_,_,.nil=>by simp;exact .nil
 | _,_,0,.cons _ l=>l
 | _,_,i+1,.cons q l=>.cons q (DpL.erase i l)
theorem O5 (ho:LE X o To)(hi:LE X i Ti)
  (hbase:YW o "pop" X.env (Xw o X.env)=Xw o X.env:=by rfl)
  (hfew:((XA cpos (Ww [i] X.env)).all (λx=>!x.1)&&(Z4 cpos (YN [] X.env)).all (λx=>x.1.isSome)
   && decide (([i]:List WR).length+([]:List YS).length+(if ([]:List YS).isEmpty then 0 else 1) < 30))=true:=by rfl)
  (hline:(apos.endLine == cpos.line)=true:=by rfl) (hs:Ww [i] X.env=(false,Xw i X.env)::Ww [] X.env:=by rfl) (hplain:(XA cpos (Ww [] X.env)).any (·.1)=false:=by rfl) :
  LE X (.Call (.Attribute o "pop" apos) [i] [] cpos) (RJ To Ti):=by
 obtain ⟨to,po,so⟩:=ho.ex
 obtain ⟨ti,pi,si⟩:=hi.ex
 refine ⟨_,D9 YL PySem.F.slot_list_pop PySem.F.type_list_pop Hf po (ft pi i9 hs) hbase hfew hline hs hplain,λσ H ρ μ Q Q' rl h k=>so σ H ρ μ _ _ rl h λx H1 dx μ1 t1 m1 p1 h1=>?_⟩
 obtain ⟨q,rfl,h1⟩:=iE p1 h1
 obtain ⟨ds0,e0,h1⟩:=bT h1
 obtain ⟨xs0,ex0,_⟩:=m1 q _ e0
 refine ⟨.inl ⟨rfl,_,SqL.of ex0⟩,si σ H1 ρ μ1 _ _ (rl.go t1 m1) h1 λy H2 dy μ2 t2 m2 p2 h2=>?_⟩
 cases p2 with
 | int j=>
  obtain ⟨hr,h2⟩:=h2
  obtain ⟨ds,e2,h3⟩:=bT (show kL μ2 q _ from h2)
  obtain ⟨kk,e3,h3⟩:=CH h3
  obtain ⟨d,e4,h3⟩:=lX h3
  obtain ⟨xs,ex,l⟩:=m2 q _ e2
  obtain ⟨v,ev,pv⟩:=l.get e4
  have e3':L2.ixN xs.length j=some kk:=by rw[l.length];exact e3
  exact ⟨q,xs,j,kk,v,rfl,rfl,ex,by omega,by omega,GN e3',ev,k _ _ _ _ ((t1.trans t2).trans (l6 ex)) (IT m2 ex (l.erase kk)) (pv.mono (l6 ex)) h3⟩
 | _=>exact Wm h2
end
noncomputable def mK (h:Heap) (dx:PyData) (y:We):Bool:=@decide (∃ d as,Reads h y d as/\zdI d=true/\YF d dx=true) (ZF _)
theorem Kx {h:Heap}{dx d:PyData}{y:We}{as:List Addr}(r:Reads h y d as)(hd:d.canLay0=true):mK h dx y=YF d dx:=by
 unfold mK
 cases e:YF d dx with
 | true=>exact @decide_eq_true _ (ZF _) ⟨d,as,r,hd,e⟩
 | false=>
  refine @decide_eq_false _ (ZF _) ?_
  rintro ⟨d',as',r',hd',e'⟩
  cases SeqAt.Reads.unique _ _ _ _ _ hd r r'
  rw[e] at e';cases e'
theorem Dl {n:Nat}:∀ {ds:List D} {d:D},ck n ds=true->d∈ds->okD n d=true
 | x::r,d,h,hm=>by
  have h':okD n x=true/\ck n r=true:=by simpa[ck] using h
  rcases Wx.mp hm with rfl | hm
  ·exact h'.1
  ·exact Dl h'.2 hm
section
variable {X:Cx} {pins:List (Addr×Obj)} {σ:L2.St} {H:Hp} {s:Wh}
theorem item_at (I:Inv X pins σ H s){vs:List V}{ds:List D}{us:List We}(l:DpL X.K H vs ds)(r:Vals vs us)(ok:ck 38 ds=true){dy:D}{y:We}{bs:List Addr}(oy:okD 38 dy=true)(ry:Reads s.heap y (toP dy) bs)(hu:X.A.units+64 < cLine)
  {m:Nat} {u:We} (hm:us[m]? = some u):∃ d,ds[m]? = some d/\mK s.heap (toP dy) u=eqD d dy/\zbt X.A.in1 s u y (mK s.heap (toP dy) u):=by
 have hlt:m < vs.length:=by rw[r.length];exact (WL.mp hm).1
 obtain ⟨u',e1,rv⟩:=r.get (Wz hlt)
 rw[hm] at e1;cases e1
 obtain ⟨d,ed,pd⟩:=l.get' (Wz hlt)
 have od:=Dl ok (Xi ed)
 obtain ⟨as,ra⟩:=eU I pd od rv
 obtain ⟨l1,d1⟩:=jl 38 d od
 obtain ⟨l2,d2⟩:=jl 38 dy oy
 have e:=Kx (dx:=toP dy) ra l1
 refine ⟨d,ed,by rw[e,qv 38 38 d dy od oy],?_⟩
 rw[e]
 exact SeqAt.eqAt_reads _ _ _ s _ _ _ _ ra ry l1 l2 (by have:=zby (toP d).depth (toP dy).depth;rw[Around.in1_units];omega)
end
def oq (ds:List D)(x:D):Option Nat:=ds.findIdx? λy=>eqD y x
theorem Gn {X:Cx}(hu:X.A.units+64 < cLine):MtM X "list.index" (λx vs H Q=>∃ p xs y ds dy,∃ j:Nat,x=.ref p/\vs=[y]/\SqL X.K H p xs/\DpL X.K H xs ds/\Dp X.K H y dy/\ck 38 ds=true/\okD 38 dy=true/\oq ds dy=some j/\j < 1000000/\Q (.int j) H):=by
 intro pins s σ H x vs v us Q I rx rv h
 obtain ⟨p,xs,y,ds,dy,j,rfl,rfl,sq,l,py,ok,oy,hj,hj2,q⟩:=h
 cases (show v=W5 p from rx)
 obtain ⟨u,rfl,ru⟩:=rv.one
 obtain ⟨its,r,⟨o,n,e,c,hd,hdat⟩,_⟩:=I.list sq
 obtain ⟨bs,rb⟩:=eU I py oy ru
 have he:s.heap.get? p=some ⟨.type "list", none,.seq its.toArray n,o.slots⟩:=by
  rw[e];obtain ⟨c',dd,dt,sl⟩:=o;simp only at c hd hdat;subst c hd hdat;rfl
 unfold oq at hj
 rw[Yu] at hj
 obtain ⟨h1,h2,h3⟩:=hj
 have hl:ds.length=its.length:=by rw[← l.length,r.length]
 have at':∀ m (hm:m < its.toArray.size),∃ d,ds[m]? = some d/\mK s.heap (toP dy) its.toArray[m]=eqD d dy/\zbt X.A.in1 s its.toArray[m] u (mK s.heap (toP dy) its.toArray[m]):=λm hm=>
  item_at I l r ok oy rb hu (by simp at hm ⊢)
 refine Z0 F.slot_list_index ⟨_,he,rfl⟩ F.entry_list_index (F.args_list_index_2 _ _) (SeqAt.list_indexAt p its.toArray n none o.slots u (mK s.heap (toP dy)) j (by simp;omega) (by omega) ?_ ?_) ⟨he,λw hw=>?_,?_⟩
 ·obtain ⟨d,e1,e2,_⟩:=at' j (by simp;omega)
  rw[e2]
  rw[Wz h1] at e1;cases e1
  exact h2
 ·intro m hm hlt
  obtain ⟨d,e1,e2,_⟩:=at' m hm
  rw[e2]
  have hm':m < ds.length:=by simp at hm;omega
  rw[Wz hm'] at e1;cases e1
  have:=h3 m hlt
  simpa using this
 ·obtain ⟨m,hm,rfl⟩:=ZW.mp hw
  obtain ⟨d,_,_,e3⟩:=at' m hm
  exact e3
 ·exact ⟨.int j,H,I.tok _,⟨_,rfl⟩,q⟩
section
variable {X:Cx} {o i a b c e value:WR} {To Ti Ta Tb Te:ETr} {pos tpos apos cpos:Pos}
def Ex (μ:Mu)(x:D)(f:List D->Prop):Prop:=match x with
 | .ls ds=>f ds
 | .obj a=>kL μ a f
 | _=>False
theorem Ae {K:Wa}{H:Hp}{μ:Mu}{x:V}{dx:D}{f:List D->Prop}(m:bQ K H μ)(p:Dp K H x dx)(h:Ex μ dx f):∃ q xs ds,x=.ref q/\SqL K H q xs/\DpL K H xs ds/\f ds:=by
 cases p with
 | ls sq l=>exact ⟨_,_,_,rfl,sq.sq,l,h⟩
 | obj q=>
  obtain ⟨ds,e0,h⟩:=bT h
  obtain ⟨xs,ex,l⟩:=m q _ e0
  exact ⟨q,xs,ds,rfl,SqL.of ex,l,h⟩
 | _=>exact Wm h
def CS (To Ti:ETr):ETr:=λρ μ Q=>To ρ μ λx μ1=>Ex μ1 x λ_=>Ti ρ μ1 λy μ2=>Ex μ2 x λds=>(ck 38 ds=true/\okD 38 y=true)/\kN (oq ds y) λj=>j < 1000000/\Q (.int j) μ2
theorem Hq (hu:X.A.units+64 < cLine)(ho:LE X o To)(hi:LE X i Ti)
  (hbase:YW o "index" X.env (Xw o X.env)=Xw o X.env:=by rfl)
  (hfew:((XA cpos (Ww [i] X.env)).all (λx=>!x.1)&&(Z4 cpos (YN [] X.env)).all (λx=>x.1.isSome)
   && decide (([i]:List WR).length+([]:List YS).length+(if ([]:List YS).isEmpty then 0 else 1) < 30))=true:=by rfl)
  (hline:(apos.endLine == cpos.line)=true:=by rfl) (hs:Ww [i] X.env=(false,Xw i X.env)::Ww [] X.env:=by rfl) (hplain:(XA cpos (Ww [] X.env)).any (·.1)=false:=by rfl) :
  LE X (.Call (.Attribute o "index" apos) [i] [] cpos) (CS To Ti):=by
 obtain ⟨to,po,so⟩:=ho.ex
 obtain ⟨ti,pi,si⟩:=hi.ex
 refine ⟨_,D9 YL PySem.F.slot_list_index PySem.F.type_list_index (Gn hu) po (ft pi i9 hs) hbase hfew hline hs hplain,λσ H ρ μ Q Q' rl h k=>so σ H ρ μ _ _ rl h λx H1 dx μ1 t1 m1 p1 h1=>?_⟩
 obtain ⟨q,xs0,ds0,rfl,sq0,l0,h1⟩:=Ae m1 p1 h1
 refine ⟨.inl ⟨rfl,_,sq0⟩,si σ H1 ρ μ1 _ _ (rl.go t1 m1) h1 λy H2 dy μ2 t2 m2 p2 h2=>?_⟩
 obtain ⟨q',xs,ds,eq,sq,l,h2⟩:=Ae m2 (p1.mono t2) h2
 cases eq
 obtain ⟨⟨o1,o2⟩,h2⟩:=h2
 obtain ⟨j,ej,hj,h2⟩:=CH h2
 exact ⟨q,xs,y,ds,dy,j,rfl,rfl,sq,l,p2,o1,o2,ej,hj,k _ H2 _ μ2 (t1.trans t2) m2 (.int _) h2⟩
def inG (x:D)(ds:List D):Bool:=ds.any λy=>eqD y x
def OH (K:Wa)(neg:Bool):L2.R2:=λx y H Q=>∃ p xs ds dx,y=.ref p/\(SqL K H p xs∨SqT K H p xs)/\DpL K H xs ds/\Dp K H x dx/\ck 38 ds=true/\okD 38 dx=true/\Q (.bl (if neg then !inG dx ds else inG dx ds)) H
theorem GG {pins:List (Addr×Obj)}{σ:L2.St}{H:Hp}{s:Wh}(I:Inv X pins σ H s)(hu:X.A.units+64 < cLine){vs:List V}{ds:List D}{us:List We}(l:DpL X.K H vs ds)(r:Vals vs us)(ok:ck 38 ds=true){dy:D}{y:We}{bs:List Addr}(oy:okD 38 dy=true)(ry:Reads s.heap y (toP dy) bs) :
  (∀ w,w∈us.toArray->zbt X.A.in1 s w y (mK s.heap (toP dy) w))/\us.toArray.any (mK s.heap (toP dy))=inG dy ds:=by
 have hl:ds.length=us.length:=by rw[← l.length,r.length]
 constructor
 ·intro w hw
  obtain ⟨m,hm,rfl⟩:=ZW.mp hw
  obtain ⟨d,_,_,e3⟩:=item_at I l r ok oy ry hu (m:=m) (u:=us.toArray[m]) (by simp at hm ⊢)
  exact e3
 ·unfold inG
  rw[show us.toArray.any (mK s.heap (toP dy))=us.any (mK s.heap (toP dy)) by simp]
  rw[Bool.eq_iff_iff,zba,zba]
  constructor
  ·rintro ⟨w,hw,e⟩
   obtain ⟨m,hm,rfl⟩:=zbU.mp hw
   obtain ⟨d,e1,e2,_⟩:=item_at I l r ok oy ry hu (m:=m) (u:=us[m]) (by simp)
   exact ⟨d,Xi e1,by rw[← e2];exact e⟩
  ·rintro ⟨d,hd,e⟩
   obtain ⟨m,hm,rfl⟩:=zbU.mp hd
   obtain ⟨d',e1,e2,_⟩:=item_at I l r ok oy ry hu (m:=m) (u:=us[m]'(by omega)) (by simp)
   rw[Wz hm] at e1;cases e1
   exact ⟨us[m]'(by omega),XB _,by rw[e2];exact e⟩
theorem Kq (hu:X.A.units+64 < cLine):OpR X (Yy .In) (OH X.K false):=by
 intro pins s σ H x y v u Q I rx ry h
 obtain ⟨p,xs,ds,dx,rfl,hq,l,px,o1,o2,q⟩:=h
 cases (show u=W5 p from ry)
 obtain ⟨bs,rb⟩:=eU I px o2 rx
 rcases hq with hq | hq
 ·obtain ⟨its,r,pl,hz⟩:=I.list hq
  obtain ⟨h1,h2⟩:=GG I hu l r o1 o2 rb
  exact SeqAt.in_listAt _ pl.isList h1 ⟨.bl _,H,I,rfl,by rw[h2];exact q⟩
 ·obtain ⟨its,r,pl,hz⟩:=I.tuple hq
  obtain ⟨h1,h2⟩:=GG I hu l r o1 o2 rb
  exact SeqAt.in_tupleAt _ pl h1 ⟨.bl _,H,I,rfl,by rw[h2];exact q⟩
def EH (μ:Mu)(x:D)(f:List D->Prop):Prop:=match x with
 | .tup ds=>f ds
 | .ls ds=>f ds
 | .obj a=>kL μ a f
 | _=>False
def um (neg:Bool):DR2:=λx y μ Q=>EH μ y λds=>(ck 38 ds=true/\okD 38 x=true)/\Q (.bl (if neg then !inG x ds else inG x ds)) μ
theorem DJ {K:Wa}(neg:Bool):gI K (OH K neg) (um neg):=λH μ x y dx dy Q Q' m px py h k=>by
 cases py with
 | tup sq l=>exact ⟨_,_,_,dx,rfl,.inr sq,l,px,h.1.1,h.1.2,k _ H _ μ (.refl H) m (.bl _) h.2⟩
 | ls sq l=>exact ⟨_,_,_,dx,rfl,.inl sq.sq,l,px,h.1.1,h.1.2,k _ H _ μ (.refl H) m (.bl _) h.2⟩
 | obj q=>
  obtain ⟨ds,e0,h⟩:=bT (show kL μ q _ from h)
  obtain ⟨xs,ex,l⟩:=m q _ e0
  exact ⟨_,_,_,dx,rfl,.inl (SqL.of ex),l,px,h.1.1,h.1.2,k _ H _ μ (.refl H) m (.bl _) h.2⟩
 | _=>exact Wm h
theorem F9 (hu:X.A.units+64 < cLine)(ha:LE X a Ta)(hb:LE X b Tb)(hm:YE .In b=false:=by rfl):LE X (.Compare a [.In] [b] pos) (aj (um false) Ta Tb):=mw (Kq hu) (DJ false) ha hb hm
theorem AI (hu:X.A.units+64 < cLine)(ha:LE X a Ta)(hb:LE X b Tb)(hm:YE .In b=false:=by rfl):LT X (.Compare a [.In] [b] pos) (TB (aj (um false) Ta Tb)):=fR (Kq hu) (DJ false) ha hb hm
end
end
section
open PySem PySem.Spec PyProof.Rows L2
def RA (K:Wa)(n:Nat)(t:TGs)(is:List Nat):Prop:=∀ σ H ρ μ vs ds (k:ST->Mu->Prop) (k':L2.St->Hp->Prop),Rl K σ H ρ μ->DpL K H vs ds->ds.length=is.length->k (kG ρ is ds) μ->OL K n σ H k k'->t vs σ H k'
structure L9 (X:Cx) (n:Nat) (es:List WR) (is:List Nat):Prop where
 ex:∃ t,PGs X es t/\RA X.K n t is
section
variable {X:Cx} {e tg:WR} {es:List WR} {is:List Nat} {pos:Pos} {x:Str} {n:Nat}
theorem fu:L9 X n [] []:=⟨_,C9,λσ H ρ μ vs ds k k' rl l hl h q=>by
 cases ds with
 | nil=>cases l;exact ⟨rfl,q _ _ _ _ (.refl H) rl ⟨rfl,λ_ _=>rfl⟩ h⟩
 | cons=>cases hl⟩
theorem bG (i:Nat)(hN:X.N.Nodup)(h2:L9 X n es is)(hin:i < n:=by decide)(hi:X.N[i]? = some x:=by rfl)(hx:Loc X.env.scope x:=by first | exact ZM rfl | exact ZN rfl)(hf:X.fn x=true∨X.env.scope.names.lookup x=some .local:=by first | exact .inr rfl | exact .inl rfl | assumption)
  (hs:(XZ (.Name x pos::es) X.env).map (·.2)=zbL (.Name x pos) X.env::(XZ es X.env).map (·.2):=by rfl):L9 X n (.Name x pos::es) (i::is):=by
 obtain ⟨t,pt,st⟩:=h2.ex
 refine ⟨_,zN (ji hN hi hx hf) pt hs,λσ H ρ μ vs ds k k' rl l hl h q=>?_⟩
 cases l with
 | nil=>cases hl
 | @cons v d vs ds p l=>
  refine ⟨v,vs,rfl,st _ H _ μ vs ds k k' (rl.set p i) l (by simpa using hl) h λσ' H' ρ' μ' t' r' hk kk=>q σ' H' ρ' μ' t' r' ⟨?_,λj hj=>?_⟩ kk⟩
  ·rw[hk.1];simp
  ·rw[hk.2 j hj,Yz (by omega)]
theorem ie {k:Nat}(hc:X.calm=true)(h:L9 X n es is)(hn:(XZ es X.env).length=is.length:=by rfl)(hst:(XZ es X.env).findIdx? (·.1)=none:=by rfl):LGc X n (.Tuple es k pos) (de is):=by
 obtain ⟨t,pt,st⟩:=h.ex
 refine ⟨λpins s σ H v u k' I r ⟨ρ,μ,d,k,rl,p,h,post⟩=>He hc pt hn hst pins s σ H v u k' I r ?_⟩
 cases p with
 | @tup a xs ds sq l=>exact ⟨a,xs,rfl,sq,by rw[l.length];exact h.1,st σ H ρ μ xs ds k k' rl l h.1 h.2 post⟩
 | _=>exact Wm h
end
section
variable {X:Cx} {o i a b c e value:WR} {To Ti Ta Tb Te:ETr} {pos tpos apos cpos:Pos}
theorem EA (l:Addr)(its:Array We)(n:Nat)(q:Addr)(its2:Array We)(n2:Nat)(sl:Array (Option We))(h0:¬ (!its.isEmpty&&XI (its.size+its2.size))=true)(h1:its.size<=sizeLine)(h2:its.size+its2.size<=sizeLine+1) :
  Meets (ZP.«list.extend» ⟨[.ref l,.ref q],[]⟩) (λ_ R s=>s.heap.get? l=some { cls:=.type "list", dict:=none,data:=.seq its n,slots:=#[] }/\s.heap.get? q=some { cls:=.type "list", dict:=none,data:=.seq its2 n2,slots:=sl }/\
   R (.ok (.ret YD)) { s with heap:=s.heap.update l (zbn λx=>x++its2) }):=
 .of_wp λprog w A R s h=>by
  obtain ⟨hp,g,d,tk,os⟩:=s
  obtain ⟨hl,hb,h⟩:=h
  have z1:=zbu
  have z2:=Z2
  have z3:=zal
  have z4:=Z9
  have z5:=zaa
  have hz':(its++its2).size<=sizeLine+1:=by rw[zc0];omega
  wp_walk using (Zq hl rfl (hz:=h1) (_hz':=hz')),zam hl,zam hb
  exact ⟨_,rfl,h⟩
def SE (K:Wa):V->List V->Hp->VK->Prop:=λx vs H Q=>∃ l b xs zs,x=.ref l/\vs=[.ref b]/\H l=some (.lst xs)/\SqL K H b zs/\xs.length+zs.length<=sizeLine/\Q .non (L2.upd H l (.lst (xs++zs)))
theorem OT:MtM X "list.extend" (SE X.K):=by
 intro pins s σ H x vs v us Q I rx rv h
 obtain ⟨l,q,xs,zs,rfl,rfl,hH,hB,hz,qq⟩:=h
 cases (show v=W5 l from rx)
 obtain ⟨u,rfl,ru⟩:=rv.one
 cases (show u=W5 q from ru)
 obtain ⟨z,its,n,r,hl,e⟩:=I.Mx hH
 obtain ⟨its2,r2,⟨o,n2,e2,c2,d2,dat2⟩,_⟩:=I.list hB
 have e2':s.heap.get? q=some ⟨.type "list", none,.seq its2.toArray n2,o.slots⟩:=by
  rw[e2];obtain ⟨c',dd,dt,sl⟩:=o;simp only at c2 d2 dat2;subst c2 d2 dat2;rfl
 have hl2:=r2.length
 have hs2:its.toArray.size+its2.toArray.size<=sizeLine:=by rw[WG,WG];omega
 have Ka:¬ (!its.toArray.isEmpty&&XI (its.toArray.size+its2.toArray.size))=true:=by
  rw[zG hs2,zbV];decide
 refine Z0 zcH ⟨_,e,rfl⟩ zcf (zbW _ _) (EA l its.toArray n q its2.toArray n2 o.slots Ka (by omega) (by omega)) ⟨e,e2',?_⟩
 refine ⟨.non,_,I.Mv (its':=its++its2) hH e (by simp) (r.append r2) ?_,rfl,qq⟩
 rw[Wv];omega
end
section
variable {P:WX} {w:Xb} {K:Wa} {mg:Str->Option We} {base:Heap}
end
end
section
open PySem PySem.Spec PyProof.Rows L2
section
variable {X:Cx} {tg a ea eb:WR} {Ta:ETr} {es:List WR} {ek:Nat} {ep p pos:Pos}
def UX (K:Wa)(tl:TE):TI:=λσ H R=>tl σ H λx H1=>∃ q,x=.ref q/\(((∃ xs,SqL K H1 q xs)/\R (Itl K q) H1)∨((∃ xs,SqT K H1 q xs)/\R (Itt K q) H1))
theorem Qc {tl:TE}(hl:PE X a tl):PI X tg a (UX X.K tl):=by
 intro pins s σ H R I h
 refine thn (hl pins s σ H _ I h) λv s1 ⟨x,H1,I1,r1,q,ex,qq⟩=>?_
 subst ex
 cases (show v=W5 q from r1)
 have fp:∀ b∈[s1.heap.objs.size],_:=λb hb=>by
  have e:b=s1.heap.objs.size:=by simpa using hb
  subst e
  exact I1.FJ (WA _) (I1.hok.fresh (WA _))
 rcases qq with ⟨⟨xs,sq⟩,qq⟩ | ⟨⟨xs,sq⟩,qq⟩
 ·obtain ⟨its,rv,pl,hz⟩:=I1.list sq
  exact Y0 pl.isList ⟨s1.heap.objs.size,[s1.heap.objs.size],_,_,H1,rfl,I1.kept (t':=s1.toks) (λb o e=>Wc _ e),uV q _,⟨_,WE _ rfl,rfl,rfl⟩,fp,qq⟩
 ·obtain ⟨its,rv,pl,hz⟩:=I1.tuple sq
  exact zcD (show s1.heap.IsTuple q its.toArray from pl) ⟨s1.heap.objs.size,[s1.heap.objs.size],_,_,H1,rfl,I1.kept (t':=s1.toks) (λb o e=>Wc _ e),Cm q _,⟨_,WE _ rfl,rfl,rfl⟩,fp,qq⟩
theorem bS (ha:LE X a Ta):LI X tg a (eL Ta):=by
 obtain ⟨ta,pa,sa⟩:=ha.ex
 refine ⟨_,Qc pa,λσ H ρ μ Q R rl h k=>sa σ H ρ μ _ _ rl h λx H1 d μ1 t1 m1 p1 h1=>?_⟩
 cases p1 with
 | @tup p xs ds q l=>exact ⟨p,rfl,.inr ⟨⟨xs,q⟩,k _ H1 ds μ1 t1 m1 (JN q l) h1⟩⟩
 | @ls p xs ds q l=>exact ⟨p,rfl,.inl ⟨⟨xs,q.sq⟩,k _ H1 ds μ1 t1 m1 (Lh q l) h1⟩⟩
 | _=>exact Wm h1
def Tv (K:Wa)(t:TA):TI:=λσ H R=>t σ H λvs H1=>∃ (ta tb:Bool) (a b:Addr),vs=[.ref a,.ref b]/\(∃ xs,Sq ta K H1 a xs)/\(∃ ys,Sq tb K H1 b ys)/\R (Itz ta tb K a b) H1
theorem Mc {t:TA}(hg:Gl X "zip")(hm:X.mg "zip" = none)(ha:PA X [ea,eb] t)(hs:Ww [ea,eb] X.env=[(false,Xw ea X.env),(false,Xw eb X.env)]:=by rfl)(hs2:Ww [eb] X.env=[(false,Xw eb X.env)]:=by rfl) :
  PI X (.Tuple es ek ep) (.Call (.Name "zip" p) [ea,eb] [] pos) (Tv X.K t):=by
 intro pins s σ H R I h
 refine Call_ (kn I hg hm boot_zip (Xv (thn (ha pos pins s σ H _ I h) λus s1 ⟨vs,H1,I1,r1,ta,tb,a,b,e,⟨xs,qa⟩,⟨ys,qb⟩,q⟩=>?_) (by rw[hs,hs2]) (by rw[hs2];rfl)))
 subst e
 cases r1 with | cons r rr=>cases rr with | cons r' rr=>
 cases rr
 cases (show _=W5 a from r)
 cases (show _=W5 b from r')
 obtain ⟨ia,ra,sa⟩:=Inv.sq I1 qa
 obtain ⟨ib,rb,sb⟩:=Inv.sq I1 qb
 have alt:a < s1.heap.objs.size:=by cases ta<;>(obtain ⟨o,e,_⟩:=sa;exact WC e)
 have blt:b < s1.heap.objs.size:=by cases tb<;>(obtain ⟨o,e,_⟩:=sb;exact WC e)
 refine Fu sa sb λg S kp=>zdd S.zz ⟨s1.heap.objs.size+4,[s1.heap.objs.size+4,s1.heap.objs.size+2,s1.heap.objs.size+3,s1.heap.objs.size,s1.heap.objs.size+1],_,_,H1,rfl,I1.kept (t':=s1.toks) kp,JV (TU _ _ _ alt blt),S,λc hc=>?_,q⟩
 exact I1.FJ (Oi _ _ hc) (I1.hok.fresh (Oi _ _ hc))
def kr (t:ATr):ATr:=λρ μ Q=>t ρ μ λvs μ1=>k2 vs λx y=>kS x λds=>kS y λes=>Q (Xj (λd e=>.tup [d,e]) ds es) μ1
theorem CA {K:Wa}{H:Hp}{v:V}{x:D}{f:List D->Prop}(p:Dp K H v x)(h:kS x f):∃ (tp:Bool) (a:Addr) (xs:List V) (ds:List D),v=.ref a/\Sq tp K H a xs/\DpL K H xs ds/\kQ tp x f:=by
 cases p with
 | @tup a xs ds q l=>exact ⟨true,a,xs,ds,rfl,q,l,h⟩
 | @ls a xs ds q l=>exact ⟨false,a,xs,ds,rfl,q,l,h⟩
 | _=>exact Wm h
theorem f6 {At:ATr}(hg:Gl X "zip")(hm:X.mg "zip" = none)(ha:LA X [ea,eb] At)
  (hs:Ww [ea,eb] X.env=[(false,Xw ea X.env),(false,Xw eb X.env)]:=by rfl) (hs2:Ww [eb] X.env=[(false,Xw eb X.env)]:=by rfl) :
  LI X (.Tuple es ek ep) (.Call (.Name "zip" p) [ea,eb] [] pos) (kr At):=by
 obtain ⟨t,pt,st⟩:=ha.ex
 refine ⟨_,Mc hg hm pt hs hs2,λσ H ρ μ Q R rl h k=>st σ H ρ μ _ _ rl h λvs H1 ds μ1 t1 m1 p1 h1=>?_⟩
 unfold L3.k2 at h1
 split at h1
 case h_2=>exact Wm h1
 cases p1 with | cons pa p2=>cases p2 with | cons pb p3=>
 cases p3
 obtain ⟨ta,a,xs,dx,rfl,qa,la,h2⟩:=CA pa h1
 obtain ⟨a',xs',dx',ea',qa',la',h2⟩:=Cu pa h2
 cases ea'
 obtain ⟨tb,b,ys,dy,rfl,qb,lb,h3⟩:=CA pb h2
 obtain ⟨b',ys',dy',eb',qb',lb',h3⟩:=Cu pb h3
 cases eb'
 refine ⟨ta,tb,a,b,rfl,⟨xs',qa'⟩,⟨ys',qb'⟩,k _ H1 _ μ1 t1 m1 ⟨λi H' tk hi=>?_,λi H' v H'' tk hi yv=>?_,λi H' tk hi=>?_⟩ h3⟩
 ·have l1:=la'.length
  have l2:=lb'.length
  rw[XF] at hi
  exact ⟨xs',ys',xs'[i],ys'[i],tk.sq qa',tk.sq qb',by simp[show i < xs'.length by omega],by simp[show i < ys'.length by omega]⟩
 ·obtain ⟨x,y,q,fx,fy,rfl,fr,rfl⟩:=yv
  obtain ⟨d,ed,pd⟩:=la'.get' (fx _ (tk.sq qa'))
  obtain ⟨e,ee,pe⟩:=lb'.get' (fy _ (tk.sq qb'))
  have tn:Tk H' (L2.upd H' q (.tup [x,y])):=.new fr
  exact ⟨tn,⟨.tup [d,e],by simp[zbH,ed,ee],.tup (SqT.of aQ) (.cons ((pd.mono tk).mono tn) (.cons ((pe.mono tk).mono tn) .nil))⟩,λμ' m'=>dh m' fr⟩
 ·have l1:=la'.length
  have l2:=lb'.length
  rw[XF] at hi
  exact ⟨xs',ys',tk.sq qa',tk.sq qb',by omega⟩
variable {i o:WR} {Ti To:ETr}
end
end
section
open PySem PySem.Spec PyProof.Rows L2
def ltS (x y:Str):Bool:=decide (x.cps.toList < y.cps.toList)
theorem mB:∀ {us:List We} {ss:List Str},StrsAre us ss->Vals (ss.map V.str) us
 | _,_,.nil=>.nil
 | _,_,.cons n t h=>.cons ⟨t,rfl⟩ (mB h)
theorem Dn:∀ {us:List We} {ss:List Str},Vals (ss.map V.str) us->StrsAre us ss
 | _,[],h=>by cases h;exact .nil
 | _,s::r,h=>by
  cases h with
  | cons q h=>obtain ⟨t,rfl⟩:=(show ∃ t,_=zb5 s t from q);exact .cons s t (Dn h)
def RZ (K:Wa):List V->Hp->VK->Prop:=λxs H Q=>∃ (p:Addr) (ss:List Str),xs=[.ref p]/\SqL K H p (ss.map V.str)/\ss.length < 64/\∀ ss':List Str,ss'.Perm ss->ss'.Pairwise (λa b=>ltS b a=false)->∀ z,H z=none->Q (.ref z) (L2.upd H z (.lst (ss'.map V.str)))
theorem EY:∀ (p:Str) (l:List Str),risingS p l=true->(p::l).Pairwise (λa b=>ltS b a=false):=by
 have tr:∀ a b c:Str,ltS b a=false->ltS c b=false->ltS c a=false:=by
  intro a b c h1 h2
  unfold ltS at *
  rw[decide_eq_false_iff_not,zdq] at *
  exact List.le_trans h1 h2
 intro p l
 induction l generalizing p with
 | nil=>intro _;exact List.pairwise_singleton _ _
 | cons x r ih=>
  intro h
  have h':ltCps x.cps.toList p.cps.toList=false/\risingS x r=true:=by
   have:(!ltCps x.cps.toList p.cps.toList&&risingS x r)=true:=h
   simpa using this
  have hx:=ih x h'.2
  have hpx:ltS x p=false:=by unfold ltS;rw[← ltCps_eq];exact h'.1
  refine Zx.mpr ⟨λy hy=>?_,hx⟩
  rcases Wx.mp hy with rfl | hy
  ·exact hpx
  ·exact tr p x y hpx ((Zx.mp hx).1 y hy)
theorem Fl:∀ (l:List Str),sortedS l=true->l.Pairwise (λa b=>ltS b a=false)
 | [],_=>.nil
 | p::l,h=>EY p l h
theorem AH {X:Cx}:cM X (.builtin "sorted") (RZ X.K):=λpins s σ H xs us Q I rx ⟨p,ss,e1,sq,hl,q⟩=>by
 subst e1
 obtain ⟨u,rfl,ru⟩:=vals1 rx
 cases (show u=W5 p from ru)
 obtain ⟨its,rv,pl,hz⟩:=I.list sq
 have hi:StrsAre its ss:=Dn rv
 have hlen:its.length < 64:=by have:=rv.length;simp at this;omega
 refine sorted_strs pl.isList hi hlen λout ss' a1 a2 a3=>?_
 obtain ⟨n,en⟩:=sortedAll_at s.heap its out
 refine ⟨.ref _,_,I.laid (t':=s.toks) (o:=.lst (ss'.map V.str)) (λb o e=>sortedAll_old e) (Z6 _) ?_,rfl,q ss' a2 (Fl _ a3) _ (I.hok.fresh (Z6 _))⟩
 have z1:ss'.length=ss.length:=a2.length_eq
 exact ⟨by rw[Wf,z1];exact ZH (WK hl (by decide)),out.toList,n,mB a1,by simpa[zak] using en⟩
def Az:FSp:=λds μ Q=>match ds with
 | [.ls xs]=>∃ ss:List Str,(xs=ss.map .str/\ss.length < 64)/\∀ ss':List Str,ss'.Perm ss->ss'.Pairwise (λa b=>ltS b a=false)->Q (.ls (ss'.map .str)) μ
 | _=>False
theorem DpL.strs {K:Wa}{H:Hp}:∀ ss:List Str,DpL K H (ss.map V.str) (ss.map D.str)
 | []=>.nil
 | s::r=>.cons (.str s) (DpL.strs r)
theorem DpL.mB {K:Wa}{H:Hp}:∀ {xs:List V} {ss:List Str},DpL K H xs (ss.map .str)->xs=ss.map V.str
 | _,[],.nil=>rfl
 | _,s::r,.cons h l=>by cases h;rw[DpL.mB l];rfl
section
variable {X:Cx} {e a b:WR} {x:Str} {p pos:Pos} {At:ATr} {Ta Tb:ETr}
theorem FQ (hg:Gl X x)(hm:X.mg x=none)(hv:Yi x=some (.builtin "sorted"))(ha:LA X [e] At)(hn:x ≠ "__name__" := by decide)(hdb:(x == ("__debug__" : Str))=false:=by decide)
  (h1:Ww [e] X.env=(false,Xw e X.env)::Ww [] X.env:=by rfl) (h2:(XA pos (Ww [] X.env)).any (·.1)=false:=by rfl):LE X (.Call (.Name x p) [e] [] pos) (au Az At):=by
 obtain ⟨ta,pa,sa⟩:=ha.ex
 refine ⟨_,jY (qE AH hg hm hv pa hn hdb h1 h2),λσ H ρ μ Q Q' rl h k=>sa σ H ρ μ _ _ rl h λxs H1 ds μ1 t1 m1 p1 h1=>?_⟩
 unfold Az at h1
 split at h1
 ·obtain ⟨ss,⟨rfl,hl⟩,h2⟩:=h1
  cases p1 with | cons p1 p2=>
  cases p2
  cases p1 with
  | @ls a ys _ q l=>
   cases DpL.mB l
   refine ⟨a,ss,rfl,q.sq,hl,λss' a2 a3 z hz=>⟨z,_,rfl,aQ,λo=>?_⟩⟩
   have e:L2.upd (L2.upd H1 z (.lst (ss'.map V.str))) z (.frz o (.lst (ss'.map V.str)))=L2.upd H1 z (.frz o (.lst (ss'.map V.str))):=xf
   rw[e]
   exact k _ _ _ μ1 (t1.trans (.new hz)) (dh m1 hz) (.ls (.inl ⟨o,aQ⟩) (.strs ss')) (h2 ss' a2 a3)
 ·exact Wm h1
def Oc (f:Str->Str->Bool):DR2:=λx y μ Q=>match x,y with
 | .str i,.str j=>Q (.bl (f i j)) μ
 | _,_=>False
theorem RB:OpR X (Yy .Gt) (λx y H Q=>∃ i j,x=.str i/\y=.str j/\Q (.bl (ltS j i)) H):=by
 intro pins s σ H x y v u Q I rx ry h
 obtain ⟨i,j,rfl,rfl,q⟩:=h
 obtain ⟨t,rfl⟩:=rx
 obtain ⟨t',rfl⟩:=ry
 exact PySem.P.gt_str ⟨.bl _,H,I,rfl,q⟩
theorem G6 {K:Wa}(f:Str->Str->Bool):gI K (λx y H Q=>∃ i j,x=.str i/\y=.str j/\Q (.bl (f i j)) H) (Oc f):=λH μ x y dx dy Q Q' m px py h k=>by
 cases px with
 | str i=>cases py with
  | str j=>exact ⟨i,j,rfl,rfl,k _ H _ μ (.refl H) m (.bl _) h⟩
  | _=>exact Wm h
 | _=>cases py<;>exact Wm h
def Qj:DR2:=Oc λi j=>ltS j i
theorem Sm (ha:LE X a Ta)(hb:LE X b Tb):LT X (.Compare a [.Gt] [b] pos) (TB (aj Qj Ta Tb)):=fR RB (G6 _) ha hb (fF _)
end
end
section
open PySem PySem.Spec PyProof.Rows L2
def lW (C:Mu->Prop)(p:Addr)(G:GTr)(tt:TTr)(te:ETr)(ρc:ST)(K:Mu->Prop):List D->Mu->Prop
 | [],μ=>C μ/\K μ
 | d::r,μ=>C μ/\G d ρc μ λρ1 μ1=>tt ρ1 μ1 λb μ2=>kIf b (te ρ1 μ2 λy μ3=>kL μ3 p λzs=>zs.length < 1000000/\lW C p G tt te ρc K r (up μ3 p (.lst (zs++[y])))) (lW C p G tt te ρc K r μ2)
def kl (To:ETr)(G:GTr)(tt:TTr)(te:ETr)(n:Nat)(caps:List Nat):ETr:=λρ μ Q=>To ρ μ λx μ1=>kObj x λa=>kL μ1 a λds=>∀ p,μ1 p=none->
 lW (λμ=>μ a=some (.lst ds)) p G tt te (fk ρ n caps) (λμ'=>kL μ' p λzs=>Q (.ls zs) (dn μ' p)) ds (up μ1 p (.lst []))
theorem uL {K:Wa}{ta:TE}{To:ETr}{G:GTr}{Tt:TTr}{Te:ETr}{n:Nat}{caps:List Nat}(sa:Sim K ta To):Sim K (FH (lE (Oy K ta) (nC K n G) (liftT K Tt) (mP K Te) n caps)) (kl To G Tt Te n caps):=by
 intro σ H ρ μ Q Q' rl h k
 refine sa σ H ρ μ _ _ rl h λx H1 dx μ1 t1 m1 px hx=>?_
 obtain ⟨q,rfl,hx⟩:=iE px hx
 obtain ⟨ds,eq0,h1⟩:=bT hx
 obtain ⟨xs0,exs0,l0⟩:=m1 q _ eq0
 refine ⟨q,rfl,⟨_,SqL.of exs0⟩,λD hD=>?_⟩
 have hp:=h1 D (m1.free hD)
 have tD:Tk H1 (L2.upd H1 D (.lst [])):=.new hD
 have mD:bQ K (L2.upd H1 D (.lst [])) (up μ1 D (.lst [])):=λa o e=>by
  by_cases ha:a=D
  ·subst ha
   rw[aK] at e;cases e
   exact ⟨[],aQ,.nil⟩
  ·rw[aY ha] at e
   exact dh m1 hD a o e
 refine ⟨λi m ys H2=>m=ds.length - i/\i<=ds.length/\Tk H1 H2/\∃ μ2,bQ K H2 μ2/\lW (λμ=>μ q=some (.lst ds)) D G Tt Te (fk ρ n caps) (λμ'=>kL μ' D λzs=>Q (.ls zs) (dn μ' D)) (ds.drop i) μ2,
  ⟨ds.length,by simp,Xx _,tD,_,mD,by simpa using hp⟩,?_⟩
 rintro i m ys H2 ⟨rfl,hi,t12,μ2,m2,h2⟩
 have hg:μ2 q=some (.lst ds):=by
  cases hdr:ds.drop i with
  | nil=>rw[hdr] at h2;exact h2.1
  | cons=>rw[hdr] at h2;exact h2.1
 obtain ⟨xs2,ex2,l2⟩:=m2 q _ hg
 have ll:=l2.length
 by_cases hlt:i < ds.length
 ·refine .inr ⟨⟨xs2,xs2[i]'(by omega),SqL.of ex2,Wz (by omega)⟩,λys' H'=>Tk H1 H'/\∃ μ',bQ K H' μ'/\lW (λμ=>μ q=some (.lst ds)) D G Tt Te (fk ρ n caps) (λμ'=>kL μ' D λzs=>Q (.ls zs) (dn μ' D)) (ds.drop (i+1)) μ',λys' H' ⟨t',μ',m',h'⟩=>⟨ds.length - (i+1),by omega,rfl,hlt,t',μ',m',h'⟩,λx H3 y=>?_⟩
  obtain ⟨rfl,y⟩:=y
  have exi:=y xs2 (SqL.of ex2)
  obtain ⟨d,ed,pd⟩:=l2.get' exi
  have e:ds.drop i=d::ds.drop (i+1):=by
   refine (X6 hlt).trans ?_
   congr 1
   rw[Wz hlt] at ed
   exact W4 ed
  rw[e] at h2
  have t13:=t12
  have r3:Rl K (lC σ n caps) H3 (fk ρ n caps) μ2:=qm (rl.go (t1.trans t13) m2) n caps
  refine ⟨_,_,d,_,r3,pd,h2.2,λσ4 H4 ρ4 μ4 t4 r4 kp h4=>⟨⟨kp.1.symm,λj v ej=>?_⟩,_,_,_,r4,h4,λb H5 μ5 t5 m5 h5=>?_⟩⟩
  ·by_cases hj:n<=j
   ·rw[kp.2 j hj];exact ej
   ·obtain ⟨j',k',e1,_⟩:=kJ ej
    omega
  ·have t15:=t13.trans (t4.trans t5)
   cases b with
   | false=>exact rE ⟨t15,μ5,m5,h5⟩
   | true=>
    refine qS ⟨_,_,_,r4.go t5 m5,h5,λv H6 d6 μ6 t6 m6 p6 h6=>?_⟩
    obtain ⟨zs,ez,lz,h7⟩:=bT h6
    obtain ⟨xs,ex,lx⟩:=m6 D _ ez
    have t67:Tk H6 (L2.upd H6 D (.lst (xs++[v]))):=.upd (λys z=>by rw[ex] at z;cases z) λo' u z=>by rw[ex] at z;cases z
    refine ⟨xs,ex,by rw[lx.length];exact WK lz (by decide),(t15.trans t6).trans t67,up μ6 D (.lst (zs++[d6])),λa o ea=>?_,h7⟩
    by_cases ha:a=D
    ·subst ha
     rw[aK] at ea;cases ea
     exact ⟨_,aQ,(lx.append (.cons p6 .nil)).mono t67⟩
    ·rw[aY ha] at ea
     exact (m6 a _ ea).ne t67 ha
 ·have e:i=ds.length:=by omega
  subst e
  rw[Yn] at h2
  obtain ⟨zs,ez,hq⟩:=bT (show kL μ2 D λzs=>Q (.ls zs) (dn μ2 D) from h2.2)
  obtain ⟨xs,ex,lx⟩:=m2 D _ ez
  refine .inl ⟨⟨xs2,SqL.of ex2,by omega⟩,D,xs,rfl,ex,λo=>?_⟩
  have t2f:Tk H2 (L2.upd H2 D (.frz o (.lst xs))):=.upd (λys z=>by rw[ex] at z;cases z) λo' u z=>by rw[ex] at z;cases z
  refine k _ _ _ (dn μ2 D) ((t1.trans t12).trans t2f) (λa o' ea=>?_) (.ls (.inl ⟨o,aQ⟩) (lx.mono t2f)) hq
  have ha:a≠D:=λz=>by subst z;unfold dn at ea;rw[if_pos rfl] at ea;cases ea
  have ea':μ2 a=some o':=by unfold dn at ea;rw[if_neg ha] at ea;exact ea
  exact (m2 a _ ea').ne t2f ha
theorem nG {X:Cx}{tg elt iter:WR}{Te:ETr}{Tt:TTr}{pos spos py:Pos}{y:Str}{To:ETr}{G:GTr}{ifs:List WR}{scope fsc:Scope}(iy:Nat)(hN:X.N.Nodup)(XN Nc:List Str)(n:Nat)(caps:List Nat)(hxe:X.xe=λ_ _=>False)(hcalm:X.calm=true)(hi:LE X iter To)
  (hbody:∀ (cl:List (Str×Addr)) (C:Addr) (s₀:Wh) (H₀:Hp) (ex:List Addr),LGc (bh X scope Nc cl C s₀ H₀ ex) n tg G/\zL (bh X scope Nc cl C s₀ H₀ ex) ifs Tt/\LE (bh X scope Nc cl C s₀ H₀ ex) elt Te)
  (hsc:X.env.scope=fsc) (hXN:X.N=XN) (hok:iB fsc.names XN scope Nc n caps=true)
  (hiy:X.N[iy]? = some y:=by rfl) (hx:Loc X.env.scope y:=by first | exact ZM rfl | exact ZN rfl) (hf:X.fn y=true∨X.env.scope.names.lookup y=some .local:=by first | exact .inl rfl | exact .inr rfl | assumption)
  (hsw:YJ (.ListComp elt [⟨tg,iter,ifs,0⟩] scope pos) (some (.Name y py)) spos.line X.env=pure true:=by rfl)
  (hs:∀ x,Xf iter X.env x=pure x:=by intro _;rfl) :
  LS X (.Assign [.Name y py] (.ListComp elt [⟨tg,iter,ifs,0⟩] scope pos) spos) (aO (kl To G Tt Te n caps) (aA iy)):=by
 unfold iB at hok
 simp only[Xd,Zf] at hok
 obtain ⟨⟨⟨h1,h2⟩,h3⟩,h4⟩:=hok
 obtain ⟨ta,pa,sa⟩:=hi.ex
 refine ⟨_,Dh (g:=nC X.K n G) (tt:=liftT X.K Tt) (te:=mP X.K Te) hxe hcalm (C8 pa) (λcl C s₀ H₀ ex=>let ⟨h1,h2,h3⟩:=hbody cl C s₀ H₀ ex;⟨h1.pe,h2.pe,h3.pe⟩) (λy hy hf=>?_) (λy hy hf=>?_) (by simpa using h2) (λy hy hf=>?_) (by simpa using h3) (λj k hj=>?_) (ji hN hiy hx hf) hsw hs,λσ H ρ μ E E' rl h k=>uL sa σ H ρ μ _ _ rl h λv H' d μ' t' m' p' h'=>iI iy σ H' ρ μ' v d _ _ (rl.go t' m') p' h' (k.go t').nx⟩
 ·have:=(h1 y hy).1.1
  show X.env.scope.names.lookup y.1=_
  rw[hsc]
  simpa[hf] using this
 ·have:=(h1 y hy).1.2
  simp[hf] at this
 ·have:=(h1 y hy).2
  simpa[hf] using this
 ·have hl:j < caps.length:=(WL.mp hj).1
  have:=h4 j (YI.mpr hl)
  rw[hj] at this
  dsimp only at this
  rw[hXN]
  cases e:XN[k]? with
  | none=>rw[e] at this;cases this
  | some x=>
   rw[e] at this
   dsimp only at this
   rw[Xd] at this
   exact ⟨x,by simpa using this.1,rfl,by simpa using this.2⟩
theorem Et {X:Cx}{tg elt iter:WR}{Te:ETr}{Tt:TTr}{pos:Pos}{To:ETr}{G:GTr}{ifs:List WR}{scope fsc:Scope}(XN Nc:List Str)(n:Nat)(caps:List Nat)(hxe:X.xe=λ_ _=>False)(hcalm:X.calm=true)(hi:LE X iter To)
  (hbody:∀ (cl:List (Str×Addr)) (C:Addr) (s₀:Wh) (H₀:Hp) (ex:List Addr),LGc (bh X scope Nc cl C s₀ H₀ ex) n tg G/\zL (bh X scope Nc cl C s₀ H₀ ex) ifs Tt/\LE (bh X scope Nc cl C s₀ H₀ ex) elt Te)
  (hsc:X.env.scope=fsc) (hXN:X.N=XN) (hok:iB fsc.names XN scope Nc n caps=true)
  (hs:∀ x,Xf iter X.env x=pure x:=by intro _;rfl) :
  LE X (.ListComp elt [⟨tg,iter,ifs,0⟩] scope pos) (kl To G Tt Te n caps):=by
 unfold iB at hok
 simp only[Xd,Zf] at hok
 obtain ⟨⟨⟨h1,h2⟩,h3⟩,h4⟩:=hok
 obtain ⟨ta,pa,sa⟩:=hi.ex
 refine ⟨_,jY (D6 (g:=nC X.K n G) (tt:=liftT X.K Tt) (te:=mP X.K Te) hxe hcalm (C8 pa) (λcl C s₀ H₀ ex=>let ⟨h1,h2,h3⟩:=hbody cl C s₀ H₀ ex;⟨h1.pe,h2.pe,h3.pe⟩) (λy hy hf=>?_) (λy hy hf=>?_) (by simpa using h2) (λy hy hf=>?_) (by simpa using h3) (λj k hj=>?_) hs),uL sa⟩
 ·have:=(h1 y hy).1.1
  show X.env.scope.names.lookup y.1=_
  rw[hsc]
  simpa[hf] using this
 ·have:=(h1 y hy).1.2
  simp[hf] at this
 ·have:=(h1 y hy).2
  simpa[hf] using this
 ·have hl:j < caps.length:=(WL.mp hj).1
  have:=h4 j (YI.mpr hl)
  rw[hj] at this
  dsimp only at this
  rw[hXN]
  cases e:XN[k]? with
  | none=>rw[e] at this;cases this
  | some x=>
   rw[e] at this
   dsimp only at this
   rw[Xd] at this
   exact ⟨x,by simpa using this.1,rfl,by simpa using this.2⟩
end
theorem K9 (a b:ETr)(ρ:ST)(μ:Mu)(Q:DK):bP a b ρ μ Q=a ρ μ λx μ1=>b ρ μ1 λy μ2=>kObj x λa=>kD μ2 a λkvs=>yl y λk=>kO (eI kvs k) λd=>Q d μ2:=propext Wi
theorem NV (a b e:ETr)(nx:ST->Mu->Prop)(rt:DK)(bk ct:ST->Mu->Prop)(ρ:ST)(μ:Mu):jC a b e ⟨nx,rt,bk,ct⟩ ρ μ=e ρ μ λv μ1=>a ρ μ1 λx μ2=>b ρ μ2 λy μ3=>kObj x λa=>kD μ3 a λkvs=>yl y λk=>kvs.length < 1000000/\nx ρ (up μ3 a (.dct (putD kvs k v))):=propext Wi
theorem MA (f:Int->Int->Int)(a b e:ETr)(nx:ST->Mu->Prop)(rt:DK)(bk ct:ST->Mu->Prop)(ρ:ST)(μ:Mu):m7 f a b e ⟨nx,rt,bk,ct⟩ ρ μ=a ρ μ λx μ1=>b ρ μ1 λy μ2=>kObj x λa=>kD μ2 a λkvs=>yl y λk=>kO (eI kvs k) λd=>kI d λm=>e ρ μ2 λw μ3=>kI w λn=>kD μ3 a λkvs3=>kvs3.length < 1000000/\nx ρ (up μ3 a (.dct (putD kvs3 k (.int (f m n))))):=propext Wi
theorem Rr (f:Int->Int->Int)(i:Nat)(e:ETr)(nx:ST->Mu->Prop)(rt:DK)(bk ct:ST->Mu->Prop)(ρ:ST)(μ:Mu):KN f i e ⟨nx,rt,bk,ct⟩ ρ μ=ah i ρ μ λd _=>kI d λm=>e ρ μ λw μ1=>kI w λn=>aA i (.int (f m n)) ρ μ1 nx:=propext Wi
theorem LR (ks:List L2.Key)(t:ATr)(ρ:ST)(μ:Mu)(Q:DK):Ja ks t ρ μ Q = ∀ p,μ p=none->t ρ (up μ p (.dct [])) λds μ2=>kD μ2 p λkvs=>kvs=[]/\Q (.obj p) (up μ2 p (.dct (ks.zip ds))):=propext Wi
theorem QZ (a b:ETr)(ρ:ST)(μ:Mu)(Q:DK):RJ a b ρ μ Q=a ρ μ λx μ1=>kObj x λa=>kL μ1 a λ_=>b ρ μ1 λy μ2=>kI y λj=>(-9223372036854775808<=j/\j < 9223372036854775808)/\kL μ2 a λds=>kN (L2.ixN ds.length j) λk=>kO ds[k]? λd=>Q d (up μ2 a (.lst (ds.eraseIdx k))):=propext Wi
theorem IW (a b:ETr)(ρ:ST)(μ:Mu)(Q:DK):CS a b ρ μ Q=a ρ μ λx μ1=>Ex μ1 x λ_=>b ρ μ1 λy μ2=>Ex μ2 x λds=>(ck 38 ds=true/\okD 38 y=true)/\kN (oq ds y) λj=>j < 1000000/\Q (.int j) μ2:=propext Wi
theorem Q8 (a:ETr)(ρ:ST)(μ:Mu)(Q:List D->Mu->Prop):eL a ρ μ Q=a ρ μ λx μ1=>kS x λds=>Q ds μ1:=propext Wi
theorem Mi (t:ATr)(ρ:ST)(μ:Mu)(Q:List D->Mu->Prop):kr t ρ μ Q=t ρ μ λvs μ1=>k2 vs λx y=>kS x λds=>kS y λes=>Q (Xj (λd e=>.tup [d,e]) ds es) μ1:=propext Wi
theorem QE (n:Bool)(x:D)(ds:List D)(μ:Mu)(Q:DK):um n x (.tup ds) μ Q=((ck 38 ds=true/\okD 38 x=true)/\Q (.bl (if n then !inG x ds else inG x ds)) μ):=propext Wi
theorem Po (n:Bool)(x:D)(ds:List D)(μ:Mu)(Q:DK):um n x (.ls ds) μ Q=((ck 38 ds=true/\okD 38 x=true)/\Q (.bl (if n then !inG x ds else inG x ds)) μ):=propext Wi
theorem Py (μ:Mu)(ds:List D)(f:List D->Prop):Ex μ (.ls ds) f=f ds:=propext Wi
theorem RK (s:Str)(f:L2.Key->Prop):yl (.str s) f=f (.inr s):=propext Wi
theorem N4 {μ:Mu}{a:Addr}{ds:List (L2.Key×D)}(h:μ a=some (.dct ds))(f):kD μ a f=f ds:=by unfold kD;rw[h]
theorem S2 (μ:Mu)(a:Addr)(ds:List (L2.Key×D))(f:List (L2.Key×D)->Prop):kD (up μ a (.dct ds)) a f=f ds:=N4 aK f
theorem SW {μ:Mu}{a:Addr}{ds:List (L2.Key×D)}{f:List (L2.Key×D)->Prop}(e:μ a=some (.dct ds))(h:f ds):kD μ a f:=by rw[N4 e];exact h
theorem M5 (xs:List D)(μ:Mu)(Q:DK):jJ D7 [.ls xs] μ Q=(∃ kvs:List (L2.Key×D),xs=kvs.map AO/\kvs.length<=1000000/\∀ p,μ p=none->Q (.obj p) (up μ p (.dct (jZ [] kvs)))):=propext Wi
theorem Ph (i j:Str)(μ:Mu)(Q:DK):Qj (.str i) (.str j) μ Q=Q (.bl (ltS j i)) μ:=propext Wi
theorem IsPart.of_eq {a b c d x y:Int}(h:IsPart a b x y)(hb:0 < b)(hd:0 < d)(e:a*d=c*b):IsPart c d x y:=by
 have xd:x*d=c*y:=by
  refine Y8 (a:=b) (by omega) ?_
  calc x*d*b=(x*b)*d:=by ac_rfl
   _=(a*y)*d:=by rw[h.e]
   _=(a*d)*y:=by ac_rfl
   _=(c*b)*y:=by rw[e]
   _=c*y*b:=by ac_rfl
 have y0:=h.q0
 have dx:x ∣ c:=by
  have:x ∣ y*c:=⟨d,by rw[XM y c];exact xd.symm⟩
  have h':=Yl.mpr this
  rw[h.g] at h'
  simpa using h'
 have dy:y ∣ d:=by
  have:y ∣ x*d:=⟨c,by rw[xd,XM]⟩
  have h':=Yl.mpr this
  rw[zbr,h.g] at h'
  simpa using h'
 refine ⟨h.q0,h.g,xd,?_,zd0 (by omega) (zbI.mpr dy)⟩
 by_cases hc:c=0
 ·subst hc
  have:x=0:=by
   rcases Int.mul_eq_zero.mp (show x*d=0 by rw[xd,Int.zero_mul]) with z | z
   ·exact z
   ·omega
  rw[this];exact WA _
 ·exact zd0 (by omega) (zbI.mpr dx)
structure Vl (d:D) (a b:Int):Prop where
 ex:∃ p q,d=fr p q/\IsPart a b p q
 b0:0 < b
theorem Vl.of_eq {d:D}{a b a' b':Int}(h:Vl d a b)(hb:0 < b')(e:a*b'=a'*b):Vl d a' b':=by
 obtain ⟨⟨p,q,rfl,P⟩,b0⟩:=h
 exact ⟨⟨p,q,rfl,P.of_eq b0 hb e⟩,hb⟩
theorem Vl.uniq {d d':D}{a b:Int}(h:Vl d a b)(h':Vl d' a b):d=d':=by
 obtain ⟨⟨p,q,rfl,P⟩,b0⟩:=h
 obtain ⟨⟨p',q',rfl,P'⟩,_⟩:=h'
 obtain ⟨rfl,rfl⟩:=P.same P' (by omega) (by omega) rfl
 rfl
theorem QO (a:Int){b:Int}(b0:0 < b):Vl (.tup [.int (a.fdiv (WV a b)),.int (b.fdiv (WV a b))]) a b:=by
 have h:=Dw (a:=a) (b:=b) (by omega)
 rw[if_neg (by omega)] at h
 exact ⟨⟨_,_,rfl,h⟩,b0⟩
theorem jf {lo hi p q:Int}(h:FrB lo hi p q):Vl (fr p q) p q:=⟨⟨p,q,rfl,h.q0,h.g,rfl,WA _,WA _⟩,h.q0⟩
theorem Eh {a b x y:Int}(h:IsPart a b x y)(b0:0 < b):Vl (fr x y) a b:=⟨⟨x,y,rfl,h⟩,b0⟩
theorem Oo {p q a b:Int}(g:Int)(q0:0 < q)(b0:0 < b)(e:p*b=a*q):p*g / q=a*g / b:=by
 calc p*g / q=(p*g)*b / (q*b):=(XO _ _ b0).symm
  _=(a*g)*q / (b*q):=by rw[show p*g*b=(p*b)*g by ac_rfl,e,XM q b,show a*q*g=a*g*q by ac_rfl]
  _=a*g / b:=XO _ _ q0
theorem RW {p q a b:Int}(q0:0 < q)(b0:0 < b)(e:p*b=a*q):p / q=a / b:=by
 have:=Oo 1 q0 b0 e
 simpa using this
theorem Tu {p q r s a b c e:Int}(q0:0 < q)(s0:0 < s)(b0:0 < b)(e0:0 < e)(h1:p*b=a*q)(h2:r*e=c*s):(p*s < r*q)↔(a*e < c*b):=by
 have k1:(p*s)*(b*e)=(a*e)*(q*s):=by
  calc (p*s)*(b*e)=(p*b)*(s*e):=by ac_rfl
   _=(a*q)*(s*e):=by rw[h1]
   _=(a*e)*(q*s):=by ac_rfl
 have k2:(r*q)*(b*e)=(c*b)*(q*s):=by
  calc (r*q)*(b*e)=(r*e)*(q*b):=by ac_rfl
   _=(c*s)*(q*b):=by rw[h2]
   _=(c*b)*(q*s):=by ac_rfl
 have be:0 < b*e:=XX b0 e0
 have qs:0 < q*s:=XX q0 s0
 constructor
 ·intro h
  have:=Y2 h be
  rw[k1,k2] at this
  exact zaA this (zbs qs)
 ·intro h
  have:=Y2 h qs
  rw[← k1,← k2] at this
  exact zaA this (zbs be)
def Le (a A:Int):Prop:=-A<=a/\a<=A
theorem Le.mono {a A B:Int}(h:Le a A)(hb:A<=B):Le a B:=⟨by have:=h.1;omega,by have:=h.2;omega⟩
theorem Le.of {a A:Int}(h0:0<=a)(h1:a<=A):Le a A:=⟨by omega,h1⟩
theorem Le.add {a b A B:Int}(h:Le a A)(k:Le b B):Le (a+b) (A+B):=⟨by have:=h.1;have:=k.1;omega,by have:=h.2;have:=k.2;omega⟩
theorem Le.sub {a b A B:Int}(h:Le a A)(k:Le b B):Le (a - b) (A+B):=⟨by have:=h.1;have:=k.2;omega,by have:=h.2;have:=k.1;omega⟩
theorem Le.neg {a A:Int}(h:Le a A):Le (-a) A:=⟨by have:=h.2;omega,by have:=h.1;omega⟩
theorem Le.abs {a A:Int}(h:Le a A):(a.natAbs:Int)<=A:=by have:=h.1;have:=h.2;omega
theorem Le.GR {a A:Int}(h:(a.natAbs:Int)<=A):Le a A:=⟨by omega,by omega⟩
theorem Le.mul {a b A B:Int}(h:Le a A)(k:Le b B):Le (a*b) (A*B):=by
 refine .GR ?_
 rw[zdO,Int.natCast_mul]
 have a0:(0:Int)<=(a.natAbs:Int):=Zw _
 have b0:(0:Int)<=(b.natAbs:Int):=Zw _
 exact zdP h.abs k.abs b0 (Int.le_trans a0 h.abs)
abbrev Bd (a:Int):Prop:=Le a 1000000000000000000000000000000
theorem Bd.m {a:Int}(h:Bd a):gw a:=by have:=h.1;have:=h.2;unfold gw;omega
theorem Bd.mm {a b:Int}(h:Bd a)(k:Bd b):gw (a*b):=by
 have:=(h.mul k).1;have:=(h.mul k).2
 unfold gw;omega
theorem Bd.mul {a b:Int}(h:Bd a)(k:Bd b):MulOk a b:=.inr ⟨h.m,k.m⟩
theorem IsPart.bp {a b x y:Int}(h:IsPart a b x y)(ha:Bd a):Bd x:=.GR (by have:=h.pa;have:=ha.abs;omega)
theorem IsPart.bq {a b x y:Int}(h:IsPart a b x y)(hb:Bd b):Bd y:=.GR (by have:=h.qb;have:=hb.abs;omega)
inductive Wd | gZ | step | jz | lS | calm
 deriving DecidableEq
structure RN where
 wd:Wd
 p:Int
 q:Int
 x:Int
 y:Int
 a:Int
 b:Int
 l:Int
 h:Int
 r:Int
 s:Int
def Wd.str:Wd->Str
 | .gZ=>OF "still"
 | .step=>OF "step"
 | .jz=>OF "swell"
 | .lS=>OF "heed"
 | .calm=>OF "calm"
def RN.toD (R:RN):D:=match R.wd with
 | .gZ=>.tup [.str "still", fr R.p R.q]
 | .step=>.tup [.str "step", fr R.p R.q,fr R.x R.y,fr R.a R.b,fr R.r R.s]
 | .jz=>.tup [.str "swell", fr R.p R.q,fr R.x R.y,fr R.a R.b,fr R.r R.s]
 | .lS=>.tup [.str "heed", fr R.p R.q,fr R.x R.y,fr R.a R.b,fr R.r R.s]
 | .calm=>.tup [.str "calm", fr R.p R.q,fr R.x R.y,.int R.l,.int R.h,fr R.r R.s]
structure RN.Ok (R:RN):Prop where
 w:FrB 1 60 R.p R.q
 t:FrB 1 60 R.r R.s
 wt:R.p*R.s<=R.r*R.q
 u:FrA 0 60 R.x R.y
 u1:R.wd=.jz->R.y < R.x
 g:FrA 0 1 R.a R.b
 d1:R.wd=.step∨R.wd=.jz->R.a < R.b
 l0:0<=R.l
 lh:R.l<=R.h
 h1:R.h<=60
 st:R.wd=.gZ->R.r=R.p/\R.s=R.q
theorem j7 {lo hi:Int}(h0:lo < 1)(h1:1<=hi):FrA lo hi 1 1:=⟨⟨by decide,by decide,by decide,by omega,by omega⟩,by omega⟩
theorem TH {p q:Int}(h:FrL 1 p q):FrA 0 1 p q:=⟨h.toFrB,by have:=h.ab;omega⟩
structure Hd where
 good:Int
 mark:Int
 a9:Int
 wt:Int
structure Hd.Ok (h:Hd):Prop where
 g0:0<=h.good
 g1:h.good<=1000000
 m0:0<=h.mark
 m1:h.mark<=1000000
 l0:0<=h.a9
 l1:h.a9<=1000000
 w0:0<=h.wt
def Hd.toD (h:Hd):D:=.tup [.int h.good,.int h.mark,.int h.a9,.int h.wt]
def Hd.bad (h:Hd):Int:=h.mark+h.a9
def Hd.many (h:Hd):Int:=h.good+h.bad
def RN.idle (R:RN)(h:Hd):Prop:=R.wd=.gZ∨h.good+h.mark+h.a9=0
instance (R:RN) (h:Hd):Decidable (R.idle h):=by unfold RN.idle;infer_instance
def RN.cap (R:RN)(g:Int):Int:=R.r*g / R.s
def RN.shr (R:RN)(g S:Int)(h:Hd):Int:=if R.wd=.lS then (S*R.b*h.many+R.a*(h.bad*g - S*h.many)) / (R.b*h.many) else S
def RN.fac (R:RN)(g S:Int)(h:Hd):Option (Int×Int):=match R.wd with
 | .gZ=>none
 | .calm=>if 0 < h.a9 then some (1,2) else none
 | .lS=>if h.bad=0 then none else some (2*g - S,2*g)
 | .jz=>if h.bad=0 then some (R.x,R.y) else some (R.a,R.b)
 | .step=>if h.bad=0 then none else some (R.a,R.b)
def RN.mvd (R:RN)(g W:Int)(h:Hd):Int:=if R.wd=.calm then (if h.wt < R.l then W*R.y+g*R.x else if R.h < h.wt then W*R.y - g*R.x else W*R.y) else W*R.y+g*R.x
def RN.mv (R:RN)(g W S:Int)(h:Hd):Int:=match R.fac g S h with
 | some f=>W*f.1 / f.2
 | none=>R.mvd g W h / R.y
def RN.clip (R:RN)(g z:Int):Int:=min (max z g) (R.cap g)
def RN.beh (R:RN)(g W S:Int)(h:Hd):Int×Int:=if R.idle h then (W,S) else (R.clip g (R.mv g W (R.shr g S h) h),R.shr g S h)
theorem HH {R:RN}(k:R.Ok){g:Int}(g0:0 < g):g<=R.cap g:=by
 unfold RN.cap
 rw[X2 k.t.q0]
 have:=WI k.t.ge (show 0<=g by omega)
 have e:g*R.s=1*R.s*g:=by rw[zbX,XM]
 omega
theorem HC {R:RN}(k:R.Ok){g:Int}(g0:0 < g):R.cap g<=60*g:=by
 unfold RN.cap
 refine YY k.t.q0 ?_
 have:=WI k.t.le (show 0<=g by omega)
 have e:60*g*R.s=60*R.s*g:=by ac_rfl
 omega
theorem Ki {R:RN}(k:R.Ok){g S:Int}{h:Hd}(H:h.Ok)(hn:¬ R.idle h)(g0:0 < g)(S0:0<=S)(S1:S<=g):0<=R.shr g S h/\R.shr g S h<=g:=by
 unfold RN.shr
 split
 ·rename_i hw
  have m0:0 < h.many:=by
   unfold RN.idle at hn
   unfold Hd.many Hd.bad
   have:=H.g0;have:=H.m0;have:=H.l0
   have:¬ (h.good+h.mark+h.a9=0):=λz=>hn (.inr z)
   omega
  have bb:h.bad<=h.many:=by unfold Hd.many;have:=H.g0;omega
  have b0:0<=h.bad:=by unfold Hd.bad;have:=H.m0;have:=H.l0;omega
  have q0:=k.g.q0
  have a0:0 < R.a:=by have:=k.g.ab;omega
  have ab:R.a<=R.b:=by have:=k.g.le;omega
  have Y:0 < R.b*h.many:=XX q0 m0
  have e:S*R.b*h.many+R.a*(h.bad*g - S*h.many)=(R.b - R.a)*(S*h.many)+R.a*(h.bad*g):=by
   rw[Int.mul_sub,zaI,show S*R.b*h.many=R.b*(S*h.many) by ac_rfl];omega
  have z1:0<=(R.b - R.a)*(S*h.many):=YM (by omega) (YM S0 (by omega))
  have z2:0<=R.a*(h.bad*g):=YM (by omega) (YM b0 (by omega))
  have z3:(R.b - R.a)*(S*h.many)<=(R.b - R.a)*(g*h.many):=zab (WI S1 (by omega)) (by omega)
  have z4:R.a*(h.bad*g)<=R.a*(h.many*g):=zab (WI bb (by omega)) (by omega)
  have e2:(R.b - R.a)*(g*h.many)+R.a*(h.many*g)=g*(R.b*h.many):=by
   rw[zaI,show R.b*(g*h.many)=g*(R.b*h.many) by ac_rfl,show R.a*(h.many*g)=R.a*(g*h.many) by ac_rfl];omega
  rw[e]
  exact ⟨Int.ediv_nonneg (by omega) (by omega),YY Y (by omega)⟩
 ·exact ⟨S0,S1⟩
local macro_rules | `(tactic| walk_at "rd")=>zzS "L3.ah L3.TC L3.aj L3.TUn L3.fJ L3.Bo L3.Kd L3.TB L3.mG L3.TOr L3.CQ L3.lZ L3.BY L3.aq L3.af L3.bf L3.fc L3.mT L3.au L3.a8 L3.aB L3.CK L3.HD L3.fv L3.aW L3.G8 L3.bI L3.aA L3.aO L3.qB L3.Cn L3.iq L3.fW L3.eL L3.bZ L3.fK L3.fk L3.fe L3.Ug L3.ILs L3.J8 L3.Kl L3.Jy L3.HQ L3.Hk L3.BQ L3.qA L3.B7 L3.GC L3.BO L3.vU L3.DG L3.rO L3.xk L3.xm L3.vP L3.vQ L3.nz L3.jo L3.uj L3.qG L3.sx L3.sL L3.rS L3.rf L3.rV L3.sZ L3.qV L3.qJ L3.TSl L3.ONo L3.j8 L3.xP L3.GZ L3.Jg L3.GK L3.Jl L3.F6 L3.Cv L3.CV L3.IX L3.HG L3.G7 L3.sN L3.sU L3.qK L3.Cq L3.BB L3.A7 L3.Aw L3.Cs L3.AD L3.Bj L3.Bn L3.CD L3.Hl L3.IV L3.G9 L3.IA L3.G4 L3.J1 L3.sA L3.DA L3.Gb L3.BI L3.Bf L3.Bh L3.Cw L3.Cc L3.BW L3.AQ L3.BS L3.CI L3.B3 L3.lk L3.ini za5 X5 X0 zdp zef za6 XJ zcU zcl zcm L3.pJ L3.yZ L3.Ec L3.D4 L3.DY L3.DV ZC ZD L3.aK L3.iC zcV za7 if_true if_false true_and and_true zcn zbS zbT za8 Z7 zbA decide_eq_true_eq Zv ite_false ite_true ne_eq not_false_eq_true zbB zco zcp zcq zcr zcs zcW L3.okD L3.ck L3.eqD L3.jK zct zcu zcv L3.de L3.kG decide_true decide_false Bool.or_true zdT zd3 zdV zbV zdC and_self L3.cB L3.b8 L3.cI L3.cy L3.cJ L3.cw L3.c5 L3.cU L3.b7 L3.cA L3.cx L3.cC L3.cz L3.cZ L3.cD L3.cW L3.cF L3.c7 L3.cH L3.cY L3.je L3.oA L3.r8 L3.nN L3.sI L3.tO L3.gi L3.fN L3.fY L3.gf L3.gh L3.fS L3.fO"
def kK:FSp:=λds μ Q=>kcA ds λd1 ds=>kcA ds λd2 ds=>kcN ds (∃ a b c e,((Vl d1 a b/\Vl d2 c e)/\Bd a/\Bd b/\Bd c/\Bd e)/\∀ z,Vl z (a*e+c*b) (b*e)->Q z μ)
theorem HM:∀ ds μ Q,kK ds μ Q->ds.length=2:=λ_ _ _ h=>lcA h λ_ _ h=>lcA h λ_ _ h=>by rw[(ecN h).1];rfl
def Hu:STr:=aW (au gM (af (aj aV (aj eP (aj L3.rIx (ah 0) (TC (.int 0))) (aj L3.rIx (ah 1) (TC (.int 1)))) (aj eP (aj L3.rIx (ah 1) (TC (.int 0))) (aj L3.rIx (ah 0) (TC (.int 1))))) (af (aj eP (aj L3.rIx (ah 0) (TC (.int 1))) (aj L3.rIx (ah 1) (TC (.int 1)))) (aq))))
theorem M1:∀ ds μ Q,kK ds μ Q->Hu { nx:=λ_ μ'=>RT Q .non μ',rt:=RT Q } (ini 2 ds) μ:=by
 intro ds μ Q h
 replace h:=ecA h
 obtain ⟨d1,ds,rfl,h⟩:=h
 replace h:=ecA h
 obtain ⟨d2,ds,rfl,h⟩:=h
 replace h:=ecN h
 obtain ⟨rfl,h⟩:=h
 unfold Hu
 walk_at "rd"
 obtain ⟨a,b,c,e,⟨⟨V1,V2⟩,Ba,Bb,Bc,Be⟩,k⟩:=h
 obtain ⟨⟨p,q,rfl,P⟩,b0⟩:=V1
 obtain ⟨⟨r,s,rfl,S⟩,e0⟩:=V2
 have q0:=P.q0
 have s0:=S.q0
 have be:0 < b*e:=XX b0 e0
 have qs:0 < q*s:=XX q0 s0
 have Bp:=P.bp Ba
 have Bq:=P.bq Bb
 have Br:=S.bp Bc
 have Bs:=S.bq Be
 walk_at "rd"
 refine ⟨Bp.mul Bs,Br.mul Bq,Bq.mul Bs,⟨by omega,Bq.mm Bs⟩,λx y Pt=>⟨_,.refl _,k _ ⟨⟨x,y,rfl,Pt.of_eq qs be ?_⟩,be⟩⟩⟩
 calc (p*s+r*q)*(b*e)=(p*b)*(s*e)+(r*e)*(q*b):=by rw[zbY];congr 1<;>ac_rfl
  _=(a*q)*(s*e)+(c*s)*(q*b):=by rw[P.e,S.e]
  _=(a*e+c*b)*(q*s):=by rw[zbY];congr 1<;>ac_rfl
def iV:FSp:=λds μ Q=>kcA ds λd1 ds=>kcA ds λd2 ds=>kcN ds (∃ a b c e,((Vl d1 a b/\Vl d2 c e)/\Bd a/\Bd b/\Bd c/\Bd e)/\∀ z,Vl z (a*e - c*b) (b*e)->Q z μ)
theorem FI:∀ ds μ Q,iV ds μ Q->ds.length=2:=λ_ _ _ h=>lcA h λ_ _ h=>lcA h λ_ _ h=>by rw[(ecN h).1];rfl
def DU:STr:=aW (au gM (af (aj kg (aj eP (aj L3.rIx (ah 0) (TC (.int 0))) (aj L3.rIx (ah 1) (TC (.int 1)))) (aj eP (aj L3.rIx (ah 1) (TC (.int 0))) (aj L3.rIx (ah 0) (TC (.int 1))))) (af (aj eP (aj L3.rIx (ah 0) (TC (.int 1))) (aj L3.rIx (ah 1) (TC (.int 1)))) (aq))))
theorem JZ:∀ ds μ Q,iV ds μ Q->DU { nx:=λ_ μ'=>RT Q .non μ',rt:=RT Q } (ini 2 ds) μ:=by
 intro ds μ Q h
 replace h:=ecA h
 obtain ⟨d1,ds,rfl,h⟩:=h
 replace h:=ecA h
 obtain ⟨d2,ds,rfl,h⟩:=h
 replace h:=ecN h
 obtain ⟨rfl,h⟩:=h
 unfold DU
 walk_at "rd"
 obtain ⟨a,b,c,e,⟨⟨V1,V2⟩,Ba,Bb,Bc,Be⟩,k⟩:=h
 obtain ⟨⟨p,q,rfl,P⟩,b0⟩:=V1
 obtain ⟨⟨r,s,rfl,S⟩,e0⟩:=V2
 have q0:=P.q0
 have s0:=S.q0
 have be:0 < b*e:=XX b0 e0
 have qs:0 < q*s:=XX q0 s0
 have Bp:=P.bp Ba
 have Bq:=P.bq Bb
 have Br:=S.bp Bc
 have Bs:=S.bq Be
 walk_at "rd"
 refine ⟨Bp.mul Bs,Br.mul Bq,Bq.mul Bs,⟨by omega,Bq.mm Bs⟩,λx y Pt=>⟨_,.refl _,k _ ⟨⟨x,y,rfl,Pt.of_eq qs be ?_⟩,be⟩⟩⟩
 calc (p*s - r*q)*(b*e)=(p*b)*(s*e) - (r*e)*(q*b):=by rw[zaI];congr 1<;>ac_rfl
  _=(a*q)*(s*e) - (c*s)*(q*b):=by rw[P.e,S.e]
  _=(a*e - c*b)*(q*s):=by rw[zaI];congr 1<;>ac_rfl
def iD:FSp:=λds μ Q=>kcA ds λd1 ds=>kcA ds λd2 ds=>kcN ds (∃ a b c e,((Vl d1 a b/\Vl d2 c e)/\Bd a/\Bd b/\Bd c/\Bd e)/\∀ z,Vl z (a*c) (b*e)->Q z μ)
theorem Fm:∀ ds μ Q,iD ds μ Q->ds.length=2:=λ_ _ _ h=>lcA h λ_ _ h=>lcA h λ_ _ h=>by rw[(ecN h).1];rfl
def Ef:STr:=aW (au gM (af (aj eP (aj L3.rIx (ah 0) (TC (.int 0))) (aj L3.rIx (ah 1) (TC (.int 0)))) (af (aj eP (aj L3.rIx (ah 0) (TC (.int 1))) (aj L3.rIx (ah 1) (TC (.int 1)))) (aq))))
theorem JP:∀ ds μ Q,iD ds μ Q->Ef { nx:=λ_ μ'=>RT Q .non μ',rt:=RT Q } (ini 2 ds) μ:=by
 intro ds μ Q h
 replace h:=ecA h
 obtain ⟨d1,ds,rfl,h⟩:=h
 replace h:=ecA h
 obtain ⟨d2,ds,rfl,h⟩:=h
 replace h:=ecN h
 obtain ⟨rfl,h⟩:=h
 unfold Ef
 walk_at "rd"
 obtain ⟨a,b,c,e,⟨⟨V1,V2⟩,Ba,Bb,Bc,Be⟩,k⟩:=h
 obtain ⟨⟨p,q,rfl,P⟩,b0⟩:=V1
 obtain ⟨⟨r,s,rfl,S⟩,e0⟩:=V2
 have q0:=P.q0
 have s0:=S.q0
 have be:0 < b*e:=XX b0 e0
 have qs:0 < q*s:=XX q0 s0
 have Bp:=P.bp Ba
 have Bq:=P.bq Bb
 have Br:=S.bp Bc
 have Bs:=S.bq Be
 walk_at "rd"
 refine ⟨Bp.mul Br,Bq.mul Bs,⟨by omega,Bq.mm Bs⟩,λx y Pt=>⟨_,.refl _,k _ ⟨⟨x,y,rfl,Pt.of_eq qs be ?_⟩,be⟩⟩⟩
 calc (p*r)*(b*e)=(p*b)*(r*e):=by ac_rfl
  _=(a*q)*(c*s):=by rw[P.e,S.e]
  _=(a*c)*(q*s):=by ac_rfl
def mQ:FSp:=λds μ Q=>kcA ds λd1 ds=>kcA ds λd2 ds=>kcN ds (∃ a b c e,((Vl d1 a b/\Vl d2 c e)/\Bd a/\Bd b/\Bd c/\Bd e)/\Q (.bl (decide (a*e < c*b))) μ)
theorem Ge:∀ ds μ Q,mQ ds μ Q->ds.length=2:=λ_ _ _ h=>lcA h λ_ _ h=>lcA h λ_ _ h=>by rw[(ecN h).1];rfl
def Ip:STr:=aW (aj rLt (aj eP (aj L3.rIx (ah 0) (TC (.int 0))) (aj L3.rIx (ah 1) (TC (.int 1)))) (aj eP (aj L3.rIx (ah 1) (TC (.int 0))) (aj L3.rIx (ah 0) (TC (.int 1)))))
theorem Nb:∀ ds μ Q,mQ ds μ Q->Ip { nx:=λ_ μ'=>RT Q .non μ',rt:=RT Q } (ini 2 ds) μ:=by
 intro ds μ Q h
 replace h:=ecA h
 obtain ⟨d1,ds,rfl,h⟩:=h
 replace h:=ecA h
 obtain ⟨d2,ds,rfl,h⟩:=h
 replace h:=ecN h
 obtain ⟨rfl,h⟩:=h
 unfold Ip
 walk_at "rd"
 obtain ⟨a,b,c,e,⟨⟨V1,V2⟩,Ba,Bb,Bc,Be⟩,k⟩:=h
 obtain ⟨⟨p,q,rfl,P⟩,b0⟩:=V1
 obtain ⟨⟨r,s,rfl,S⟩,e0⟩:=V2
 walk_at "rd"
 refine ⟨(P.bp Ba).mul (S.bq Be),(S.bp Bc).mul (P.bq Bb),_,.refl _,?_⟩
 rw[show decide (p*s < r*q)=decide (a*e < c*b) from decide_eq_decide.mpr (Tu P.q0 S.q0 b0 e0 P.e S.e)]
 exact k
def gX:FSp:=λds μ Q=>kcA ds λd1 ds=>kcN ds (∃ a b,(Vl d1 a b/\Bd b)/\Q (.int (a / b)) μ)
theorem wj:∀ ds μ Q,gX ds μ Q->ds.length=1:=λ_ _ _ h=>lcA h λ_ _ h=>by rw[(ecN h).1];rfl
def sH:STr:=aW (aj oa (aj L3.rIx (ah 0) (TC (.int 0))) (aj L3.rIx (ah 0) (TC (.int 1))))
theorem Ai:∀ ds μ Q,gX ds μ Q->sH { nx:=λ_ μ'=>RT Q .non μ',rt:=RT Q } (ini 1 ds) μ:=by
 intro ds μ Q h
 replace h:=ecA h
 obtain ⟨d1,ds,rfl,h⟩:=h
 replace h:=ecN h
 obtain ⟨rfl,h⟩:=h
 unfold sH
 walk_at "rd"
 obtain ⟨a,b,⟨⟨⟨p,q,rfl,P⟩,b0⟩,Bb⟩,k⟩:=h
 have q0:=P.q0
 walk_at "rd"
 rw[km q0,RW q0 b0 P.e]
 exact ⟨⟨by omega,(P.bq Bb).m⟩,_,.refl _,k⟩
def fj:FSp:=λds μ Q=>kcA ds λd1 ds=>kcI ds λg ds=>kcN ds (∃ a b,(Vl d1 a b/\Bd a/\Bd b/\0 < g/\g<=1000000)/\∀ z,Vl z (a*g / b) g->Q z μ)
theorem AL:∀ ds μ Q,fj ds μ Q->ds.length=2:=λ_ _ _ h=>lcA h λ_ _ h=>lcI h λ_ _ h=>by rw[(ecN h).1];rfl
def yd:STr:=aW (au gM (af (aj oa (aj eP (aj L3.rIx (ah 0) (TC (.int 0))) (ah 1)) (aj L3.rIx (ah 0) (TC (.int 1)))) (af (ah 1) (aq))))
theorem FK:∀ ds μ Q,fj ds μ Q->yd { nx:=λ_ μ'=>RT Q .non μ',rt:=RT Q } (ini 2 ds) μ:=by
 intro ds μ Q h
 replace h:=ecA h
 obtain ⟨d1,ds,rfl,h⟩:=h
 replace h:=ecI h
 obtain ⟨g,ds,rfl,h⟩:=h
 replace h:=ecN h
 obtain ⟨rfl,h⟩:=h
 unfold yd
 walk_at "rd"
 obtain ⟨a,b,⟨⟨⟨p,q,rfl,P⟩,b0⟩,Ba,Bb,g0,g1⟩,k⟩:=h
 have q0:=P.q0
 walk_at "rd"
 rw[km q0,Oo g q0 b0 P.e]
 exact ⟨.inl (.inr (by unfold S64;omega)),⟨by omega,(P.bq Bb).m⟩,⟨by omega,by unfold gw;omega⟩,λx y Pt=>⟨_,.refl _,k _ (Eh Pt g0)⟩⟩
theorem qC {xs:List D}{d:D}(h:xs[xs.length - 1]? = some d)(h0:xs≠[]):atD xs ((xs.length:Int) - 1)=some d:=by
 have:0 < xs.length:=List.length_pos_iff.mpr h0
 have e:((xs.length:Int) - 1)=((xs.length - 1:Nat):Int):=by omega
 rw[e,bL,h]
theorem RN.tup (R:RN)(hst:R.wd=.gZ->R.r=R.p/\R.s=R.q):∃ xs,R.toD=.tup xs/\xs[0]? = some (.str R.wd.str)/\xs[1]? = some (fr R.p R.q)/\xs[xs.length - 1]? = some (fr R.r R.s)/\xs≠[]:=by
 obtain ⟨wd,p,q,x,y,a,b,l,h,r,s⟩:=R
 cases wd
 ·obtain ⟨e1,e2⟩:=hst rfl
  dsimp only at e1 e2
  subst e1 e2
  exact ⟨_,rfl,rfl,rfl,rfl,nofun⟩
 all_goals exact ⟨_,rfl,rfl,rfl,rfl,nofun⟩
def iU:FSp:=λds μ Q=>kcA ds λd ds=>kcN ds (∃ R:RN,(R.Ok/\d=R.toD)/\Q (fr R.r R.s) μ)
theorem Bk:∀ ds μ Q,iU ds μ Q->ds.length=1:=λ_ _ _ h=>lcA h λ_ _ h=>by rw[(ecN h).1];rfl
def xA:STr:=aW (aj L3.rIx (ah 0) (aj kg (au dB (af (ah 0) (aq))) (TC (.int 1))))
theorem EG:∀ ds μ Q,iU ds μ Q->xA { nx:=λ_ μ'=>RT Q .non μ',rt:=RT Q } (ini 1 ds) μ:=by
 intro ds μ Q h
 replace h:=ecA h
 obtain ⟨d,ds,rfl,h⟩:=h
 replace h:=ecN h
 obtain ⟨rfl,h⟩:=h
 unfold xA
 walk_at "rd"
 obtain ⟨R,⟨K,rfl⟩,k⟩:=h
 obtain ⟨xs,e,_,_,e3,e4⟩:=R.tup K.st
 rw[e]
 walk_at "rd"
 rw[qC e3 e4]
 exact ⟨_,.refl _,k⟩
def jq:FSp:=λds μ Q=>kcA ds λd ds=>kcA ds λe ds=>kcN ds (∃ (R:RN) (h:Hd),(d=R.toD/\e=h.toD)/\Q (.bl (decide (R.idle h))) μ)
theorem Ak:∀ ds μ Q,jq ds μ Q->ds.length=2:=λ_ _ _ h=>lcA h λ_ _ h=>lcA h λ_ _ h=>by rw[(ecN h).1];rfl
def uI:STr:=aW (Bo (aj rEq (aj L3.rIx (ah 0) (TC (.int 0))) (TC (.str "still"))) (aj rEq (aj aV (aj aV (aj L3.rIx (ah 1) (TC (.int 0))) (aj L3.rIx (ah 1) (TC (.int 1)))) (aj L3.rIx (ah 1) (TC (.int 2)))) (TC (.int 0))))
theorem BA:∀ ds μ Q,jq ds μ Q->uI { nx:=λ_ μ'=>RT Q .non μ',rt:=RT Q } (ini 2 ds) μ:=by
 intro ds μ Q h
 replace h:=ecA h
 obtain ⟨d,ds,rfl,h⟩:=h
 replace h:=ecA h
 obtain ⟨e,ds,rfl,h⟩:=h
 replace h:=ecN h
 obtain ⟨rfl,h⟩:=h
 unfold uI
 walk_at "rd"
 obtain ⟨R,h,⟨rfl,rfl⟩,k⟩:=h
 obtain ⟨wd,p,q,x,y,a,b,l,hh,r,s⟩:=R
 obtain ⟨good,mark,a9,wt⟩:=h
 unfold RN.idle at k
 cases wd
 all_goals
  simp only[RN.toD,Hd.toD,fr]
  walk_at "rd"
  refine ⟨_,.refl _,?_⟩
  simpa using k
def Gd (g:Int):Prop:=1<=g/\g<=60
theorem Jv {R:RN}{h:Hd}(H:h.Ok)(hn:¬ R.idle h):0 < h.many/\h.many<=3000000:=by
 have:=H.g0;have:=H.m0;have:=H.l0;have:=H.g1;have:=H.m1;have:=H.l1
 have:¬ (h.good+h.mark+h.a9=0):=λz=>hn (.inr z)
 unfold Hd.many Hd.bad
 omega
theorem FrB.bd {lo hi p q:Int}(h:FrB lo hi p q)(l0:0<=lo)(h1:hi<=60):Le p 600000120/\Le q 10000002:=by
 have:=h.q0;have:=h.q1
 have e1:=h.ge;have e2:=h.le
 have a1:0<=lo*q:=YM l0 (by omega)
 have a2:hi*q<=60*q:=WI h1 (by omega)
 exact ⟨.of (by omega) (by omega),.of (by omega) (by omega)⟩
theorem B9 {R:RN}{g S:Int}{h:Hd}(hw:R.wd=.lS)(g0:0 < g)(Y:0 < R.b*h.many):(S*(R.b*(h.many*g))+R.a*(h.bad*g - S*h.many)*g)*g / (g*(R.b*(h.many*g)))=R.shr g S h:=by
 unfold RN.shr
 rw[if_pos hw]
 have e1:(S*(R.b*(h.many*g))+R.a*(h.bad*g - S*h.many)*g)*g=(S*R.b*h.many+R.a*(h.bad*g - S*h.many))*(g*g):=by
  rw[zbY,zbY];congr 1<;>ac_rfl
 have e2:g*(R.b*(h.many*g))=(R.b*h.many)*(g*g):=by ac_rfl
 rw[e1,e2]
 exact XO _ _ (XX g0 g0)
def eC:FSp:=λds μ Q=>kcA ds λd ds=>kcI ds λg ds=>kcA ds λsd ds=>kcA ds λe ds=>kcN ds (∃ (R:RN) (S:Int) (h:Hd),((d=R.toD/\e=h.toD)/\R.Ok/\h.Ok/\Gd g/\Vl sd S g/\(0<=S/\S<=g)/\¬ R.idle h)/\∀ z,Vl z (R.shr g S h) g->Q z μ)
theorem oh:∀ ds μ Q,eC ds μ Q->ds.length=4:=λ_ _ _ h=>lcA h λ_ _ h=>lcI h λ_ _ h=>lcA h λ_ _ h=>lcA h λ_ _ h=>by rw[(ecN h).1];rfl
def jU:STr:=aB (bI (TB (aj rNe (aj L3.rIx (ah 0) (TC (.int 0))) (TC (.str "heed")))) (aW (ah 2)) (a8)) (aB (aO (aj aV (aj L3.rIx (ah 3) (TC (.int 1))) (aj L3.rIx (ah 3) (TC (.int 2)))) (aA 4)) (aB (aO (au iD (af (aj L3.rIx (ah 0) (TC (.int 3))) (af (au iV (af (au gM (af (ah 4) (af (aj aV (aj L3.rIx (ah 3) (TC (.int 0))) (ah 4)) (aq)))) (af (ah 2) (aq)))) (aq)))) (aA 5)) (aW (au fj (af (au kK (af (ah 2) (af (ah 5) (aq)))) (af (ah 1) (aq)))))))
theorem qf:∀ ds μ Q,eC ds μ Q->jU { nx:=λ_ μ'=>RT Q .non μ',rt:=RT Q } (ini 6 ds) μ:=by
 intro ds μ Q h
 replace h:=ecA h
 obtain ⟨d,ds,rfl,h⟩:=h
 replace h:=ecI h
 obtain ⟨g,ds,rfl,h⟩:=h
 replace h:=ecA h
 obtain ⟨sd,ds,rfl,h⟩:=h
 replace h:=ecA h
 obtain ⟨e,ds,rfl,h⟩:=h
 replace h:=ecN h
 obtain ⟨rfl,h⟩:=h
 unfold jU
 walk_at "rd"
 obtain ⟨R,S,h,⟨⟨rfl,rfl⟩,K,H,⟨g0,g1⟩,VS,⟨S0,S1⟩,hn⟩,k⟩:=h
 obtain ⟨m0,m1⟩:=Jv H hn
 have hb0:=H.m0;have hb1:=H.m1;have hc0:=H.l0;have hc1:=H.l1;have hg0:=H.g0;have hg1:=H.g1
 have GB:=K.g.toFrB.bd (by decide) (by decide)
 have gp:=K.g.q0
 obtain ⟨wd,p,q,x,y,a,b,l,hh,r,s⟩:=R
 cases wd
 case lS=>
  have sh:=λY=>B9 (R:=⟨.lS,p,q,x,y,a,b,l,hh,r,s⟩) (g:=g) (S:=S) (h:=h) rfl (by omega) Y
  have k':=k
  generalize RN.shr ⟨.lS,p,q,x,y,a,b,l,hh,r,s⟩ g S h=Z at sh k'
  dsimp only at sh GB gp
  obtain ⟨good,mark,a9,wt⟩:=h
  simp only[Hd.many,Hd.bad] at sh m0 m1
  dsimp only at m0 m1 hb0 hb1 hc0 hc1 hg0 hg1
  simp only[RN.toD,Hd.toD,fr]
  walk_at "rd"
  have L1:Le (mark+a9) 2000000:=.of (by omega) (by omega)
  have L2:Le (good+(mark+a9)) 3000000:=.of (by omega) (by omega)
  have LS:Le S 60:=.of S0 (by omega)
  have Lg:Le g 60:=.of (by omega) g1
  have e1:=L1.mul Lg
  have e2:=LS.mul L2
  have e3:=L2.mul Lg
  have e4:=e1.sub e2
  have e5:=GB.1.mul e4
  have e6:=GB.2.mul e3
  have mg:0 < (good+(mark+a9))*g:=XX m0 (by omega)
  refine ⟨⟨by omega,Bd.m (L2.mono (by decide))⟩,λu v Pt=>⟨_,_,_,_,⟨⟨Eh Pt m0,VS⟩,L1.mono (by decide),L2.mono (by decide),LS.mono (by decide),Lg.mono (by decide)⟩,λz1 V1=>?_⟩⟩
  refine ⟨a,b,_,_,⟨⟨jf K.g.toFrB,V1⟩,GB.1.mono (by decide),GB.2.mono (by decide),e4.mono (by decide),e3.mono (by decide)⟩,λz2 V2=>?_⟩
  walk_at "rd"
  refine ⟨_,_,_,_,⟨⟨VS,V2⟩,LS.mono (by decide),Lg.mono (by decide),e5.mono (by decide),e6.mono (by decide)⟩,λz3 V3=>?_⟩
  refine ⟨_,_,⟨V3,((LS.mul e6).add (e5.mul Lg)).mono (by decide),(Lg.mul e6).mono (by decide),by omega,by omega⟩,λz V=>⟨_,.refl _,k' z ?_⟩⟩
  rw[sh (XX gp m0)] at V
  exact V
 all_goals
  simp only[RN.toD,Hd.toD,fr]
  walk_at "rd"
  refine ⟨_,.refl _,k _ ?_⟩
  exact VS
def gc:FSp:=λds μ Q=>kcA ds λd ds=>kcA ds λsd ds=>kcA ds λe ds=>kcN ds (∃ (R:RN) (g S:Int) (h:Hd),((d=R.toD/\e=h.toD)/\R.Ok/\h.Ok/\Gd g/\Vl sd S g/\(0<=S/\S<=g)/\¬ R.idle h)/\(R.fac g S h=none->Q .non μ)/\∀ f,R.fac g S h=some f->∀ z,Vl z f.1 f.2->Q z μ)
theorem ud:∀ ds μ Q,gc ds μ Q->ds.length=3:=λ_ _ _ h=>lcA h λ_ _ h=>lcA h λ_ _ h=>lcA h λ_ _ h=>by rw[(ecN h).1];rfl
def oZ:STr:=aB (bI (TB (aj rEq (aj L3.rIx (ah 0) (TC (.int 0))) (TC (.str "calm")))) (aW (lZ (TB (aj rGt (aj L3.rIx (ah 2) (TC (.int 2))) (TC (.int 0)))) (TC (.tup [.int 1,.int 2])) (TC .non))) (a8)) (aB (bI (TB (aj rEq (aj aV (aj L3.rIx (ah 2) (TC (.int 1))) (aj L3.rIx (ah 2) (TC (.int 2)))) (TC (.int 0)))) (aW (lZ (TB (aj rEq (aj L3.rIx (ah 0) (TC (.int 0))) (TC (.str "swell")))) (aj L3.rIx (ah 0) (TC (.int 2))) (TC .non))) (a8)) (aB (bI (TB (aj rEq (aj L3.rIx (ah 0) (TC (.int 0))) (TC (.str "heed")))) (aW (au iV (af (TC (.tup [.int 1,.int 1])) (af (au iD (af (TC (.tup [.int 1,.int 2])) (af (ah 1) (aq)))) (aq))))) (a8)) (aW (aj L3.rIx (ah 0) (TC (.int 3))))))
theorem wA:∀ ds μ Q,gc ds μ Q->oZ { nx:=λ_ μ'=>RT Q .non μ',rt:=RT Q } (ini 3 ds) μ:=by
 intro ds μ Q h
 replace h:=ecA h
 obtain ⟨d,ds,rfl,h⟩:=h
 replace h:=ecA h
 obtain ⟨sd,ds,rfl,h⟩:=h
 replace h:=ecA h
 obtain ⟨e,ds,rfl,h⟩:=h
 replace h:=ecN h
 obtain ⟨rfl,h⟩:=h
 unfold oZ
 walk_at "rd"
 obtain ⟨R,g,S,h,⟨⟨rfl,rfl⟩,K,H,⟨g0,g1⟩,VS,⟨S0,S1⟩,hn⟩,k1,k2⟩:=h
 have hb0:=H.m0;have hb1:=H.m1;have hc0:=H.l0;have hc1:=H.l1;have hg0:=H.g0;have hg1:=H.g1
 have VG:=jf K.g.toFrB
 have VU:=jf K.u.toFrB
 have LS:Le S 60:=.of S0 (by omega)
 have Lg:Le g 60:=.of (by omega) g1
 have V12:Vl (fr 1 2) 1 2:=jf (lo:=0) (hi:=1) ⟨by decide,by decide,by decide,by decide,by decide⟩
 have V11:Vl (fr 1 1) 1 1:=jf (j7 (lo:=0) (hi:=1) (by decide) (by decide)).toFrB
 obtain ⟨wd,p,q,x,y,a,b,l,hh,r,s⟩:=R
 obtain ⟨good,mark,a9,wt⟩:=h
 dsimp only at hb0 hb1 hc0 hc1 hg0 hg1 VG VU
 simp only[RN.fac,Hd.bad] at k1 k2
 cases wd
 case gZ=>exact absurd (ZM rfl) hn
 case calm=>
  simp only[RN.toD,Hd.toD,fr]
  walk_at "rd"
  split
  ·rename_i hl
   exact ⟨_,.refl _,k2 (1,2) (if_pos hl) _ V12⟩
  ·rename_i hl
   exact ⟨_,.refl _,k1 (if_neg hl)⟩
 case lS=>
  simp only[RN.toD,Hd.toD,fr]
  walk_at "rd"
  split
  ·rename_i hl
   exact ⟨_,.refl _,k1 (if_pos hl)⟩
  ·rename_i hl
   refine ⟨1,2,S,g,⟨⟨V12,VS⟩,.of (by decide) (by decide),.of (by decide) (by decide),LS.mono (by decide),Lg.mono (by decide)⟩,λz1 V1=>?_⟩
   refine ⟨1,1,_,_,⟨⟨V11,V1⟩,.of (by decide) (by decide),.of (by decide) (by decide),?_,?_⟩,λz2 V2=>⟨_,.refl _,k2 (2*g - S,2*g) (if_neg hl) _ ?_⟩⟩
   ·rw[zbX];exact LS.mono (by decide)
   ·exact .of (by omega) (by omega)
   ·simpa using V2
 case step=>
  simp only[RN.toD,Hd.toD,fr]
  walk_at "rd"
  split
  ·rename_i hl
   exact ⟨_,.refl _,k1 (if_pos hl)⟩
  ·rename_i hl
   exact ⟨_,.refl _,k2 (a,b) (if_neg hl) _ VG⟩
 case jz=>
  simp only[RN.toD,Hd.toD,fr]
  walk_at "rd"
  split
  ·rename_i hl
   exact ⟨_,.refl _,k2 (x,y) (if_pos hl) _ VU⟩
  ·rename_i hl
   exact ⟨_,.refl _,k2 (a,b) (if_neg hl) _ VG⟩
def md:FSp:=λds μ Q=>kcA ds λd ds=>kcA ds λwd ds=>kcA ds λe ds=>kcN ds (∃ (R:RN) (g W:Int) (h:Hd),((d=R.toD/\e=h.toD)/\R.Ok/\Gd g/\Vl wd W g/\Le W 1000000/\¬ R.idle h)/\∀ z,Vl z (R.mvd g W h) (g*R.y)->Q z μ)
theorem Fe:∀ ds μ Q,md ds μ Q->ds.length=3:=λ_ _ _ h=>lcA h λ_ _ h=>lcA h λ_ _ h=>lcA h λ_ _ h=>by rw[(ecN h).1];rfl
def C5:STr:=aB (bI (TOr (TB (aj rNe (aj L3.rIx (ah 0) (TC (.int 0))) (TC (.str "calm")))) (TB (aj rLt (aj L3.rIx (ah 2) (TC (.int 3))) (aj L3.rIx (ah 0) (TC (.int 3)))))) (aW (au kK (af (ah 1) (af (aj L3.rIx (ah 0) (TC (.int 2))) (aq))))) (a8)) (aB (bI (TB (aj rGt (aj L3.rIx (ah 2) (TC (.int 3))) (aj L3.rIx (ah 0) (TC (.int 4))))) (aW (au iV (af (ah 1) (af (aj L3.rIx (ah 0) (TC (.int 2))) (aq))))) (a8)) (aW (ah 1)))
theorem FR:∀ ds μ Q,md ds μ Q->C5 { nx:=λ_ μ'=>RT Q .non μ',rt:=RT Q } (ini 3 ds) μ:=by
 intro ds μ Q h
 replace h:=ecA h
 obtain ⟨d,ds,rfl,h⟩:=h
 replace h:=ecA h
 obtain ⟨wd,ds,rfl,h⟩:=h
 replace h:=ecA h
 obtain ⟨e,ds,rfl,h⟩:=h
 replace h:=ecN h
 obtain ⟨rfl,h⟩:=h
 unfold C5
 walk_at "rd"
 obtain ⟨R,g,W,h,⟨⟨rfl,rfl⟩,K,⟨g0,g1⟩,VW,LW,hn⟩,k⟩:=h
 have VU:=jf K.u.toFrB
 have UB:=K.u.toFrB.bd (by decide) (by decide)
 have y0:=K.u.q0
 have Lg:Le g 60:=.of (by omega) g1
 obtain ⟨wd',p,q,x,y,a,b,l,hh,r,s⟩:=R
 obtain ⟨good,mark,a9,wt⟩:=h
 dsimp only at VU UB y0
 simp only[RN.mvd] at k
 have up:∀ Q':DK,(∀ z,Vl z (W*y+g*x) (g*y)->Q' z μ)->kK [wd,fr x y] μ Q':=λQ' kk=>
  ⟨W,g,x,y,⟨⟨VW,VU⟩,LW.mono (by decide),Lg.mono (by decide),UB.1.mono (by decide),UB.2.mono (by decide)⟩,λz V=>kk z (by rw[XM g x];exact V)⟩
 cases wd'
 case gZ=>exact absurd (ZM rfl) hn
 case calm=>
  simp only[if_true] at k
  simp only[RN.toD,Hd.toD,fr]
  walk_at "rd"
  split
  ·rename_i hl
   rw[if_pos hl] at k
   exact up _ λz V=>⟨_,.refl _,k z V⟩
  ·rename_i hl
   rw[if_neg hl] at k
   split
   ·rename_i hm
    rw[if_pos hm] at k
    exact ⟨W,g,x,y,⟨⟨VW,VU⟩,LW.mono (by decide),Lg.mono (by decide),UB.1.mono (by decide),UB.2.mono (by decide)⟩,λz V=>⟨_,.refl _,k z (by rw[XM g x];exact V)⟩⟩
   ·rename_i hm
    rw[if_neg hm] at k
    exact ⟨_,.refl _,k _ (VW.of_eq (XX (by omega) y0) (by ac_rfl))⟩
 all_goals
  simp only[reduceCtorEq,if_false] at k
  simp only[RN.toD,Hd.toD,fr]
  walk_at "rd"
  exact up _ λz V=>⟨_,.refl _,k z V⟩
def ml:FSp:=λds μ Q=>kcA ds λd ds=>kcI ds λg ds=>kcA ds λwd ds=>kcN ds (∃ (R:RN) (N M:Int),(d=R.toD/\R.Ok/\Gd g/\Vl wd N M/\Bd N/\Bd M)/\∀ z,Vl z (R.clip g (N*g / M)) g->Q z μ)
theorem IS:∀ ds μ Q,ml ds μ Q->ds.length=3:=λ_ _ _ h=>lcA h λ_ _ h=>lcI h λ_ _ h=>lcA h λ_ _ h=>by rw[(ecN h).1];rfl
def G5:STr:=aB (bI (TB (au mQ (af (ah 2) (af (TC (.tup [.int 1,.int 1])) (aq))))) (aW (TC (.tup [.int 1,.int 1]))) (a8)) (aB (bI (TB (au mQ (af (au iU (af (ah 0) (aq))) (af (ah 2) (aq))))) (aW (au fj (af (au iU (af (ah 0) (aq))) (af (ah 1) (aq))))) (a8)) (aW (au fj (af (ah 2) (af (ah 1) (aq))))))
theorem L4:∀ ds μ Q,ml ds μ Q->G5 { nx:=λ_ μ'=>RT Q .non μ',rt:=RT Q } (ini 3 ds) μ:=by
 intro ds μ Q h
 replace h:=ecA h
 obtain ⟨d,ds,rfl,h⟩:=h
 replace h:=ecI h
 obtain ⟨g,ds,rfl,h⟩:=h
 replace h:=ecA h
 obtain ⟨wd,ds,rfl,h⟩:=h
 replace h:=ecN h
 obtain ⟨rfl,h⟩:=h
 unfold G5
 walk_at "rd"
 obtain ⟨R,N,M,⟨rfl,K,⟨g0,g1⟩,V,BN,BM⟩,k⟩:=h
 have M0:=V.b0
 have V11:Vl (fr 1 1) 1 1:=jf (j7 (lo:=0) (hi:=1) (by decide) (by decide)).toFrB
 have TB:=K.t.bd (by decide) (by decide)
 have VT:=jf K.t
 have s0:=K.t.q0
 have cg:=HH K (g:=g) (by omega)
 refine ⟨N,M,1,1,⟨⟨V,V11⟩,BN,BM,.of (by decide) (by decide),.of (by decide) (by decide)⟩,?_⟩
 walk_at "rd"
 rw[Int.mul_one,zbX]
 have key:∀ z,Vl z (R.clip g (N*g / M)) g->RT Q z μ:=λz V=>⟨_,.refl _,k z V⟩
 unfold RN.clip at key
 split
 ·rename_i hl
  have f:N*g / M < g:=by
   rw[Int.ediv_lt_iff_lt_mul M0,XM g M]
   exact Y2 hl (by omega)
  rw[show min (max (N*g / M) g) (R.cap g)=g by omega] at key
  exact key _ (V11.of_eq (by omega) (by omega))
 ·rename_i hl
  refine ⟨R,⟨K,rfl⟩,R.r,R.s,N,M,⟨⟨VT,V⟩,TB.1.mono (by decide),TB.2.mono (by decide),BN,BM⟩,?_⟩
  walk_at "rd"
  have f1:g<=N*g / M:=by
   rw[X2 M0,XM g M]
   exact WI (by omega) (by omega)
  split
  ·rename_i ht
   have f2:R.cap g<=N*g / M:=by
    unfold RN.cap
    rw[X2 M0]
    have d:=zbE (R.r*g) (show R.s≠0 by omega)
    have e1:R.r*g / R.s*M*R.s<=N*g*R.s:=by
     calc R.r*g / R.s*M*R.s=(R.r*g / R.s*R.s)*M:=by ac_rfl
      _<=(R.r*g)*M:=WI d (by omega)
      _=(R.r*M)*g:=by ac_rfl
      _<=(N*R.s)*g:=WI (by omega) (by omega)
      _=N*g*R.s:=by ac_rfl
    exact Za e1 s0
   rw[show min (max (N*g / M) g) (R.cap g)=R.cap g by omega] at key
   exact ⟨R,⟨K,rfl⟩,R.r,R.s,⟨VT,TB.1.mono (by decide),TB.2.mono (by decide),by omega,by omega⟩,λz V=>key z V⟩
  ·rename_i ht
   have f2:N*g / M<=R.cap g:=by
    unfold RN.cap
    rw[X2 s0]
    have d:=zbE (N*g) (show M≠0 by omega)
    have e1:N*g / M*R.s*M<=R.r*g*M:=by
     calc N*g / M*R.s*M=(N*g / M*M)*R.s:=by ac_rfl
      _<=(N*g)*R.s:=WI d (by omega)
      _=(N*R.s)*g:=by ac_rfl
      _<=(R.r*M)*g:=WI (by omega) (by omega)
      _=R.r*g*M:=by ac_rfl
    exact Za e1 M0
   rw[show min (max (N*g / M) g) (R.cap g)=N*g / M by omega] at key
   exact ⟨N,M,⟨V,BN,BM,by omega,by omega⟩,λz V=>key z V⟩
theorem RN.Qh {R:RN}(K:R.Ok){g S:Int}{h:Hd}(G:Gd g)(S0:0<=S)(S1:S<=g){f:Int×Int}(e:R.fac g S h=some f):0 < f.1/\0 < f.2/\Le f.1 600000120/\Le f.2 10000002:=by
 obtain ⟨g0,g1⟩:=G
 have UB:=K.u.toFrB.bd (by decide) (by decide)
 have GB:=K.g.toFrB.bd (by decide) (by decide)
 have h1:=K.u.q0;have h2:=K.u.ab;have h3:=K.g.q0;have h4:=K.g.ab
 unfold RN.fac at e
 split at e
 ·cases e
 ·split at e
  ·cases e;exact ⟨by decide,by decide,.of (by decide) (by decide),.of (by decide) (by decide)⟩
  ·cases e
 ·split at e
  ·cases e
  ·cases e;exact ⟨by show 0 < 2*g - S;omega,by show 0 < 2*g;omega,.of (by show 0<=2*g - S;omega) (by show 2*g - S<=_;omega),.of (by show 0<=2*g;omega) (by show 2*g<=_;omega)⟩
 ·split at e
  ·cases e;exact ⟨by show 0 < R.x;omega,h1,UB.1,UB.2⟩
  ·cases e;exact ⟨by show 0 < R.a;omega,h3,GB.1,GB.2⟩
 ·split at e
  ·cases e
  ·cases e;exact ⟨by show 0 < R.a;omega,h3,GB.1,GB.2⟩
theorem RN.PR {R:RN}(K:R.Ok){g W:Int}{h:Hd}(G:Gd g)(L:Le W 1000000):Bd (R.mvd g W h):=by
 obtain ⟨g0,g1⟩:=G
 have UB:=K.u.toFrB.bd (by decide) (by decide)
 have Lg:Le g 60:=.of (by omega) g1
 have e1:=L.mul UB.2
 have e2:=Lg.mul UB.1
 unfold RN.mvd
 split
 ·split
  ·exact (e1.add e2).mono (by decide)
  ·split
   ·exact (e1.sub e2).mono (by decide)
   ·exact e1.mono (by decide)
 ·exact (e1.add e2).mono (by decide)
def h9:FSp:=λds μ Q=>kcA ds λd ds=>kcI ds λg ds=>kcA ds λwd ds=>kcA ds λsd ds=>kcA ds λe ds=>kcN ds (∃ (R:RN) (W S:Int) (h:Hd),((d=R.toD/\e=h.toD)/\R.Ok/\h.Ok/\Gd g/\(Vl wd W g/\Le W 1000000)/\Vl sd S g/\(0<=S/\S<=g))/\∀ w z,Vl w (R.beh g W S h).1 g->Vl z (R.beh g W S h).2 g->Q (.tup [w,z]) μ)
theorem vS:∀ ds μ Q,h9 ds μ Q->ds.length=5:=λ_ _ _ h=>lcA h λ_ _ h=>lcI h λ_ _ h=>lcA h λ_ _ h=>lcA h λ_ _ h=>lcA h λ_ _ h=>by rw[(ecN h).1];rfl
def rq:STr:=aB (bI (TB (au jq (af (ah 0) (af (ah 4) (aq))))) (aW (bf (af (ah 2) (af (ah 3) (aq))))) (a8)) (aB (aO (au eC (af (ah 0) (af (ah 1) (af (ah 3) (af (ah 4) (aq)))))) (aA 5)) (aB (aO (au gc (af (ah 0) (af (ah 5) (af (ah 4) (aq))))) (aA 6)) (aB (bI (TB (aj rIs (ah 6) (TC .non))) (aW (bf (af (au ml (af (ah 0) (af (ah 1) (af (au md (af (ah 0) (af (ah 2) (af (ah 4) (aq))))) (aq))))) (af (ah 5) (aq))))) (a8)) (aW (bf (af (au ml (af (ah 0) (af (ah 1) (af (au iD (af (ah 2) (af (ah 6) (aq)))) (aq))))) (af (ah 5) (aq))))))))
theorem yr:∀ ds μ Q,h9 ds μ Q->rq { nx:=λ_ μ'=>RT Q .non μ',rt:=RT Q } (ini 7 ds) μ:=by
 intro ds μ Q h
 replace h:=ecA h
 obtain ⟨d,ds,rfl,h⟩:=h
 replace h:=ecI h
 obtain ⟨g,ds,rfl,h⟩:=h
 replace h:=ecA h
 obtain ⟨wd,ds,rfl,h⟩:=h
 replace h:=ecA h
 obtain ⟨sd,ds,rfl,h⟩:=h
 replace h:=ecA h
 obtain ⟨e,ds,rfl,h⟩:=h
 replace h:=ecN h
 obtain ⟨rfl,h⟩:=h
 unfold rq
 walk_at "rd"
 obtain ⟨R,W,S,h,⟨⟨rfl,rfl⟩,K,H,G,⟨VW,LW⟩,VS,S0,S1⟩,k⟩:=h
 have g0:=G.1
 have g1:=G.2
 have Lg:Le g 60:=.of (by omega) g1
 refine ⟨R,h,⟨rfl,rfl⟩,?_⟩
 walk_at "rd"
 unfold RN.beh at k
 split
 ·rename_i hi
  rw[if_pos hi] at k
  exact ⟨_,.refl _,k _ _ VW VS⟩
 ·rename_i hi
  rw[if_neg hi] at k
  refine ⟨R,S,h,⟨⟨rfl,rfl⟩,K,H,G,VS,⟨S0,S1⟩,hi⟩,λz VZ=>?_⟩
  walk_at "rd"
  have sin:=Ki K H hi (by omega) S0 S1
  unfold RN.mv at k
  refine ⟨R,g,_,h,⟨⟨rfl,rfl⟩,K,H,G,VZ,sin,hi⟩,λhf=>?_,λf hf v VF=>?_⟩
  ·rw[hf] at k
   walk_at "rd"
   have y0:=K.u.q0
   refine ⟨R,g,W,h,⟨⟨rfl,rfl⟩,K,G,VW,LW,hi⟩,λw Vw=>?_⟩
   refine ⟨R,_,_,⟨rfl,K,G,Vw,RN.PR K G LW,?_⟩,λw2 Vw2=>?_⟩
   ·exact (Lg.mul (K.u.toFrB.bd (by decide) (by decide)).2).mono (by decide)
   ·walk_at "rd"
    refine ⟨_,.refl _,k _ _ ?_ VZ⟩
    rw[show R.mvd g W h*g / (g*R.y)=R.mvd g W h / R.y by rw[XM g R.y];exact XO _ _ (by omega)] at Vw2
    exact Vw2
  ·rw[hf] at k
   obtain ⟨f1,f2,F1,F2⟩:=RN.Qh K G sin.1 sin.2 hf
   obtain ⟨⟨p,q,rfl,P⟩,b0⟩:=id VF
   walk_at "rd"
   refine ⟨W,g,f.1,f.2,⟨⟨VW,VF⟩,LW.mono (by decide),Lg.mono (by decide),F1.mono (by decide),F2.mono (by decide)⟩,λw Vw=>?_⟩
   refine ⟨R,_,_,⟨rfl,K,G,Vw,(LW.mul F1).mono (by decide),(Lg.mul F2).mono (by decide)⟩,λw2 Vw2=>?_⟩
   walk_at "rd"
   refine ⟨_,.refl _,k _ _ ?_ VZ⟩
   rw[show W*f.1*g / (g*f.2)=W*f.1 / f.2 by rw[XM g f.2];exact XO _ _ (by omega)] at Vw2
   exact Vw2
def T7:=Jn @Ru <| Jn @K6 <| Jn @QT <| Jn @Ni <| Jn @Px <| Jn @Mt <| Jn @RE <| Jn @LQ <| Jn @PC <| Jn @MR <| Jn @QA <| Jn @MG <| Jn @QG <| Jn @NK <| Jn @RF <| Jn @Lo <| Jn @Qr <| Jn @M8 <| Jn @RY <| Jn @LL <| Jn @Mm <| Jn @Im <| Jn @NO <| Jn @IY <| Jn @Me <| Jn @FW <| Jn @Gf <| Jn @MS <| Jn @HA <| Jn @KZ <| Jn @JY <| Jn @VQ <| Jn @RM <| Jn @Nj <| Jn @PM <| Jn @Va <| Jn @QY <| Jn @SJ <| Jn @QN <| Jn @PF <| Jn @Ry <| Jn @MB <| Jn @Sa <| Jn @OX <| Jn @Rv <| Jn @Lv <| Jn @Lc <| Jn @Qw <| Jn @Lz <| Jn @Sf <| Jn @QX <| Jn @RC <| Jn @Rt <| Jn @PD <| Jn @FL <| Jn @PY <| Jn @Qa <| Jn @Uz <| Jn @TR <| Jn @Ra <| Jn @Q7 <| Jn @Se <| Jn @R5 <| Jn @UC <| Jn @Uu <| Jn @Tg <| Jn @Tf <| Jn @TJ <| Jn @SF <| Jn @S5 <| Jn @SG <| Jn @Pf <| Jn @Qk <| Jn @Pe <| Jn @Q4 <| Jn @OV <| Jn @QM <| Jn @Kt <| Jn @L7 <| Jn @MW <| Jn @Kr <| Jn @EM <| Jn @GW <| Jn @MK <| Jn @Km <| Jn @EO <| Jn @DG <| Jn @ES <| Jn @E9 <| Jn @EB <| Jn @Hv <| Jn @F5 <| Jn @J9 <| Jn @JO <| Jn @Ig <| Jn @M3 <| Jn @NT <| Jn @K5 <| Jn @Nd <| Jn @Lu <| Jn @Bz <| Jn @BH <| Jn @BX <| Jn @Nk <| Jn @Nv <| Jn @OS <| Jn @Sh <| Jn @QC <| Jn @PN <| Jn @R0 <| Jn @Ro <| Jn @Ke <| Jn @IK <| Jn @Js <| Jn @Jd <| Jn @GH <| @Sj
def Ft:=Jn @oA <| Jn @r8 <| Jn @nN <| Jn @sI <| @tO
local macro_rules | `(tactic| walk_at "go")=>zzS "↓L3.T7 L3.Ft ↓L3.kZ ↓L3.jo L3.cB L3.b8 L3.cI L3.cy L3.cJ L3.cw L3.c5 L3.cU L3.b7 L3.cA L3.cx L3.cC L3.cz L3.cZ L3.cD L3.cW L3.cF L3.c7 L3.cH L3.cY L3.je L3.zA L3.kA L3.yg L3.ET L3.gR L3.b6 L3.qT L3.fB L3.uX L3.vh L3.lq L3.iG L3.oj L3.nR L3.kM L3.lr L3.kU L3.lu true_and and_true and_self Bool.not_true Bool.not_false decide_true decide_false Bool.or_true Bool.or_false Bool.true_or Bool.false_or Bool.and_false Bool.false_and Bool.and_true Bool.true_and Int.reduceToNat Int.reducePow Int.reduceNeg Int.reduceSub Int.reduceAdd Int.reduceMul Int.reduceEq Int.reduceLT Int.reduceLE Int.reduceBEq L3.iC L3.gi L3.fN L3.fY L3.gf L3.gh L3.fS L3.fO if_true if_false Bool.false_eq_true reduceCtorEq decide_eq_true_eq"
local macro_rules | `(tactic| walk_at "ini")=>`(tactic| simp only[ini,List.map,List.length,List.replicate,Nat.reduceSub,Nat.reduceAdd,Nat.sub_self,List.cons_append,List.nil_append,List.append_nil])
theorem fi {xs:List D}{P:D->Prop}(h:∀ d∈xs,P d){k:Int}(k0:0<=k)(k1:k < xs.length):∃ d,atD xs k=some d/\P d:=by
 obtain ⟨j,rfl⟩:=ZE k0
 rw[bL]
 have hj:j < xs.length:=by omega
 exact ⟨xs[j],by simp[hj],h _ (XB hj)⟩
def IsL (hi:Int)(d:D):Prop:=∃ p q,d=fr p q/\FrL hi p q
def IsI (lo hi:Int)(d:D):Prop:=∃ i:Int,d=.int i/\lo<=i/\i<=hi
theorem eV {P:D->Prop}:∀ d∈([]:List D),P d:=λ_ h=>nomatch h
theorem aH {P:D->Prop}{a:D}{xs:List D}(h:P a)(k:∀ d∈xs,P d):∀ d∈a::xs,P d:=λd hd=>by
 rcases Wx.mp hd with e | e
 ·rw[e];exact h
 ·exact k d e
local macro_rules | `(tactic| walk_at "all")=>`(tactic| repeat' (first | exact eV | refine aH ?_ ?_))
structure pU (b p:Addr) (xs:List D) (μ μ':Mu):Prop where
 box:Box μ' b
 ne:p≠b
 new:μ p=none
 at':μ' p=some (.lst xs)
 oth:∀ a,a≠b->a≠p->μ' a=μ a
theorem pU.mk' {b p:Addr}{xs:List D}{μ:Mu}(hB:Box μ b)(hp:μ p=none):pU b p xs μ (up μ p (.lst xs)):=by
 have ne:p≠b:=λz=>by subst z;obtain ⟨_,_,_,e,_⟩:=hB;rw[hp] at e;cases e
 obtain ⟨g,s,c,e,h⟩:=hB
 exact ⟨⟨g,s,c,by rw[aY ne.symm];exact e,h⟩,ne,hp,aK,λa _ h=>aY h⟩
theorem pU.go {b p:Addr}{xs:List D}{μ μ1 μ2:Mu}(h:pU b p xs μ μ1)(B:sW b μ1 μ2):pU b p xs μ μ2:=
 ⟨B.box,h.ne,h.new,by rw[B.oth p h.ne];exact h.at',λa h1 h2=>by rw[B.oth a h1];exact h.oth a h1 h2⟩
theorem pU.set {b p:Addr}{xs ys:List D}{μ μ1:Mu}(h:pU b p xs μ μ1):pU b p ys μ (up μ1 p (.lst ys)):=by
 obtain ⟨g,s,c,e,hh⟩:=h.box
 exact ⟨⟨g,s,c,by rw[aY h.ne.symm];exact e,hh⟩,h.ne,h.new,aK,λa h1 h2=>by rw[aY h2];exact h.oth a h1 h2⟩
theorem Rc (μ:Mu)(p:Addr):Sub (dn μ p) μ:=λa o e=>by
 unfold dn at e
 split at e
 ·cases e
 ·exact e
theorem pU.fin {b p:Addr}{xs:List D}{μ μ1:Mu}(h:pU b p xs μ μ1):sW b μ (dn μ1 p):=by
 obtain ⟨g,s,c,e,hh⟩:=h.box
 refine ⟨⟨g,s,c,?_,hh⟩,λa ha=>?_⟩
 ·unfold dn;rw[if_neg h.ne.symm];exact e
 ·unfold dn
  split
  ·rename_i z;subst z;exact h.new.symm
  ·rename_i z;exact h.oth a ha z
theorem pU.rt {b p:Addr}{xs:List D}{μ μ1:Mu}{Q:DK}{d:D}(h:pU b p xs μ μ1)(k:∀ μ',sW b μ μ'->Q d μ'):RT Q d μ1:=⟨_,Rc μ1 p,k _ h.fin⟩
abbrev iN (hs:List Hd):List D:=hs.map Hd.toD
theorem kX {p:Addr}{G:GTr}{tt:TTr}{te:ETr}{ρc:ST}{K:Mu->Prop}(P:List D->Mu->Prop)(hnil:∀ μ,P [] μ->K μ)
  (hcons:∀ d r μ (N:Mu->Prop),P (d::r) μ->(∀ μ',P r μ'->N μ')->G d ρc μ λρ1 μ1=>tt ρ1 μ1 λb μ2=>kIf b (te ρ1 μ2 λy μ3=>kL μ3 p λzs=>zs.length < 1000000/\N (up μ3 p (.lst (zs++[y])))) (N μ2)) :
  ∀ (ds:List D) (μ:Mu),P ds μ->fK p G tt te ρc K ds μ
 | [],μ,h=>hnil μ h
 | d::r,μ,h=>hcons d r μ _ h λμ' q=>kX P hnil hcons r μ' q
theorem zE (d0:D)(r:List D)(f:D->Prop):kO (atD (d0::r) 0) f=f d0:=by rw[pJ];rfl
theorem As (d0 d1:D)(r:List D)(f:D->Prop):kO (atD (d0::d1::r) 1) f=f d1:=by rw[yZ];rfl
theorem yY (d0 d1 d2:D)(r:List D)(f:D->Prop):kO (atD (d0::d1::d2::r) 2) f=f d2:=by rw[Ec];rfl
theorem yV (d0 d1 d2 d3:D)(r:List D)(f:D->Prop):kO (atD (d0::d1::d2::d3::r) 3) f=f d3:=by rw[D4];rfl
theorem ya (d0 d1 d2 d3 d4:D)(r:List D)(f:D->Prop):kO (atD (d0::d1::d2::d3::d4::r) 4) f=f d4:=by rw[DY];rfl
theorem Aj (d0 d1 d2 d3 d4 d5:D)(r:List D)(f:D->Prop):kO (atD (d0::d1::d2::d3::d4::d5::r) 5) f=f d5:=by rw[DV];rfl
def tW (G:GTr)(tt:TTr)(te:ETr)(ρc:ST)(ds:List D)(μ:Mu)(Q:DK):Prop:=∀ p,μ p=none->fK p G tt te ρc (λμ'=>kL μ' p λzs=>Q (.ls zs) (dn μ' p)) ds (up μ p (.lst []))
theorem KQ (it:ATr)(G:GTr)(tt:TTr)(te:ETr)(n:Nat)(caps:List Nat)(ρ:ST)(μ:Mu)(Q:DK):bZ it G tt te n caps ρ μ Q=it ρ μ λds μ1=>tW G tt te (fk ρ n caps) ds μ1 Q:=propext Wi
theorem RG (ρ:ST)(μ:Mu)(Q:Bool->Mu->Prop):fe ρ μ Q=Q true μ:=propext Wi
section
variable {G:GTr} {tt:TTr} {te:ETr} {ρc:ST} {ds:List D} {μ:Mu} {Q:DK}
theorem vG (f:D->Option D)(hl:ds.length<=999999)
  (step:∀ d∈ds,∀ μ',Sub μ μ'->∀ (N:Option D->Mu->Prop),N (f d) μ'->G d ρc μ' λρ1 μ1=>tt ρ1 μ1 λb μ2=>kIf b (te ρ1 μ2 λy μ3=>N (some y) μ3) (N none μ2))
  (k:Q (.ls (ds.filterMap f)) μ):tW G tt te ρc ds μ Q:=by
 intro p hp
 refine kX (λr μ'=>∃ done,ds=done++r/\μ'=up μ p (.lst (done.filterMap f))) ?_ ?_ _ _ ⟨[],rfl,rfl⟩
 ·rintro μ' ⟨done,e,rfl⟩
  rw[WS] at e
  subst e
  refine br aK ?_
  rw[oP hp];exact k
 ·rintro d r μ' N ⟨done,e,rfl⟩ hN
  have hd:d∈ds:=by rw[e];simp
  have e':ds=(done++[d])++r:=by rw[e];simp
  have lf:(done.filterMap f).length < 1000000:=by
   have h1:=Yd f done
   have h2:ds.length=done.length+(d::r).length:=by rw[e,Wv]
   rw[WU] at h2;omega
  refine step d hd _ (Sub.new hp) (λoy μ3=>match oy with
   | some y=>kL μ3 p λzs=>zs.length < 1000000/\N (up μ3 p (.lst (zs++[y])))
   | none=>N μ3) ?_
  cases hf:f d with
  | none=>
   refine hN _ ⟨done++[d],e',?_⟩
   rw[Xm];simp[hf]
  | some y=>
   refine br aK ⟨lf,hN _ ⟨done++[d],e',?_⟩⟩
   rw[Xm,iC];simp[hf]
theorem comp_map (f:D->D)(hl:ds.length<=999999)
  (step:∀ d∈ds,∀ μ',Sub μ μ'->∀ (N:DK),N (f d) μ'->G d ρc μ' λρ1 μ1=>te ρ1 μ1 N)
  (k:Q (.ls (ds.map f)) μ):tW G fe te ρc ds μ Q:=by
 refine vG (λd=>some (f d)) hl (λd hd μ' s N n=>?_) (by rw[show (λd=>some (f d))=some ∘ f from rfl,ZX];exact k)
 exact step d hd μ' s (λy μ3=>N (some y) μ3) n
theorem Jw (I:List D->List D->Prop)(h0:I ds [])(hl:ds.length<=999999)
  (step:∀ d r zs μ',Sub μ μ'->I (d::r) zs->∀ (N:Option D->Mu->Prop),(∀ oy,I r (zs++oy.toList)->N oy μ')->G d ρc μ' λρ1 μ1=>tt ρ1 μ1 λb μ2=>kIf b (te ρ1 μ2 λy μ3=>N (some y) μ3) (N none μ2))
  (k:∀ zs,I [] zs->Q (.ls zs) μ):tW G tt te ρc ds μ Q:=by
 intro p hp
 refine kX (λr μ'=>∃ zs,I r zs/\zs.length+r.length<=ds.length/\μ'=up μ p (.lst zs)) ?_ ?_ _ _ ⟨[],h0,by simp,rfl⟩
 ·rintro μ' ⟨zs,hI,_,rfl⟩
  refine br aK ?_
  rw[oP hp];exact k zs hI
 ·rintro d r μ' N ⟨zs,hI,hz,rfl⟩ hN
  rw[WU] at hz
  refine step d r zs _ (Sub.new hp) hI (λoy μ3=>match oy with
   | some y=>kL μ3 p λzs=>zs.length < 1000000/\N (up μ3 p (.lst (zs++[y])))
   | none=>N μ3) ?_
  intro oy hoy
  cases oy with
  | none=>exact hN _ ⟨zs,by simpa using hoy,by omega,rfl⟩
  | some y=>
   refine br aK ⟨by omega,hN _ ⟨zs++[y],hoy,by rw[Wv];simp;omega,?_⟩⟩
   rw[iC]
theorem kf {α:Type}(xs:List α)(t:α->D)(h:α->Option D)(hds:ds=xs.map t)(hl:xs.length<=999999)
  (step:∀ x∈xs,∀ μ',Sub μ μ'->∀ (N:Option D->Mu->Prop),N (h x) μ'->G (t x) ρc μ' λρ1 μ1=>tt ρ1 μ1 λb μ2=>kIf b (te ρ1 μ2 λy μ3=>N (some y) μ3) (N none μ2))
  (k:Q (.ls (xs.filterMap h)) μ):tW G tt te ρc ds μ Q:=by
 subst hds
 refine Jw (λr zs=>∃ a c,xs=a++c/\r=c.map t/\zs=a.filterMap h) ⟨[],xs,rfl,rfl,rfl⟩ (by simpa using hl) ?_ ?_
 ·rintro d r zs μ' sb ⟨a,c,e,er,rfl⟩ N hN
  cases c with
  | nil=>cases er
  | cons x c=>
  cases er
  refine step x (by rw[e];simp) μ' sb N (hN _ ⟨a++[x],c,by rw[e];simp,rfl,?_⟩)
  rw[Xm]
  cases hx:h x<;>simp[hx]
 ·rintro zs ⟨a,c,e,er,rfl⟩
  have:c=[]:=by cases c with | nil=>rfl | cons=>cases er
  subst this
  rw[WS] at e
  subst e;exact k
theorem bV {α:Type}(xs:List α)(t:α->D)(h:α->D)(hds:ds=xs.map t)(hl:xs.length<=999999)
  (step:∀ x∈xs,∀ μ',Sub μ μ'->∀ (N:DK),N (h x) μ'->G (t x) ρc μ' λρ1 μ1=>te ρ1 μ1 N)
  (k:Q (.ls (xs.map h)) μ):tW G fe te ρc ds μ Q:=by
 refine kf xs t (λx=>some (h x)) hds hl (λx hx μ' s N n=>?_) (by rw[show (λx=>some (h x))=some ∘ h from rfl,ZX];exact k)
 exact step x hx μ' s (λy μ3=>N (some y) μ3) n
def DF (a:Addr)(full:List D)(G:GTr)(tt:TTr)(te:ETr)(ρc:ST)(ds:List D)(μ:Mu)(Q:DK):Prop:=∀ p,μ p=none->lW (λμ=>μ a=some (.lst full)) p G tt te ρc (λμ'=>kL μ' p λzs=>Q (.ls zs) (dn μ' p)) ds (up μ p (.lst []))
theorem Gh (To:ETr)(G:GTr)(tt:TTr)(te:ETr)(n:Nat)(caps:List Nat)(ρ:ST)(μ:Mu)(Q:DK):kl To G tt te n caps ρ μ Q=To ρ μ λx μ1=>kObj x λa=>kL μ1 a λds=>DF a ds G tt te (fk ρ n caps) ds μ1 Q:=propext Wi
theorem lY {C:Mu->Prop}{p:Addr}{ρc:ST}{K:Mu->Prop}(P:List D->Mu->Prop)(hC:∀ r μ,P r μ->C μ)(hnil:∀ μ,P [] μ->K μ)
  (hcons:∀ d r μ (N:Mu->Prop),P (d::r) μ->(∀ μ',P r μ'->N μ')->G d ρc μ λρ1 μ1=>tt ρ1 μ1 λb μ2=>kIf b (te ρ1 μ2 λy μ3=>kL μ3 p λzs=>zs.length < 1000000/\N (up μ3 p (.lst (zs++[y])))) (N μ2)) :
  ∀ (ds:List D) (μ:Mu),P ds μ->lW C p G tt te ρc K ds μ
 | [],μ,h=>⟨hC _ _ h,hnil μ h⟩
 | d::r,μ,h=>⟨hC _ _ h,hcons d r μ _ h λμ' q=>lY P hC hnil hcons r μ' q⟩
theorem Kj {a:Addr}{full:List D}(hm:μ a=some (.lst full))(f:D->Option D)(hl:ds.length<=999999)
  (step:∀ d∈ds,∀ μ',Sub μ μ'->∀ (N:Option D->Mu->Prop),N (f d) μ'->G d ρc μ' λρ1 μ1=>tt ρ1 μ1 λb μ2=>kIf b (te ρ1 μ2 λy μ3=>N (some y) μ3) (N none μ2))
  (k:Q (.ls (ds.filterMap f)) μ):DF a full G tt te ρc ds μ Q:=by
 intro p hp
 refine lY (λr μ'=>∃ done,ds=done++r/\μ'=up μ p (.lst (done.filterMap f))) ?_ ?_ ?_ _ _ ⟨[],rfl,rfl⟩
 ·rintro r μ' ⟨done,_,rfl⟩
  exact Sub.new hp _ _ hm
 ·rintro μ' ⟨done,e,rfl⟩
  rw[WS] at e
  subst e
  refine br aK ?_
  rw[oP hp];exact k
 ·rintro d r μ' N ⟨done,e,rfl⟩ hN
  have hd:d∈ds:=by rw[e];simp
  have e':ds=(done++[d])++r:=by rw[e];simp
  have lf:(done.filterMap f).length < 1000000:=by
   have h1:=Yd f done
   have h2:ds.length=done.length+(d::r).length:=by rw[e,Wv]
   rw[WU] at h2;omega
  refine step d hd _ (Sub.new hp) (λoy μ3=>match oy with
   | some y=>kL μ3 p λzs=>zs.length < 1000000/\N (up μ3 p (.lst (zs++[y])))
   | none=>N μ3) ?_
  cases hf:f d with
  | none=>
   refine hN _ ⟨done++[d],e',?_⟩
   rw[Xm];simp[hf]
  | some y=>
   refine br aK ⟨lf,hN _ ⟨done++[d],e',?_⟩⟩
   rw[Xm,iC];simp[hf]
theorem nH {α:Type}{a:Addr}(xs:List α)(t:α->D)(h:α->Option D)(hds:ds=xs.map t)(hm:μ a=some (.lst (xs.map t)))(hl:xs.length<=999999)
  (step:∀ x∈xs,∀ μ',Sub μ μ'->∀ (N:Option D->Mu->Prop),N (h x) μ'->G (t x) ρc μ' λρ1 μ1=>tt ρ1 μ1 λb μ2=>kIf b (te ρ1 μ2 λy μ3=>N (some y) μ3) (N none μ2))
  (k:Q (.ls (xs.filterMap h)) μ):DF a (xs.map t) G tt te ρc ds μ Q:=by
 subst hds
 intro p hp
 refine lY (λr μ'=>∃ b c,xs=b++c/\r=c.map t/\μ'=up μ p (.lst (b.filterMap h))) ?_ ?_ ?_ _ _ ⟨[],xs,rfl,rfl,rfl⟩
 ·rintro r μ' ⟨b,c,_,_,rfl⟩
  exact Sub.new hp _ _ hm
 ·rintro μ' ⟨b,c,e,er,rfl⟩
  have:c=[]:=by cases c with | nil=>rfl | cons=>cases er
  subst this
  rw[WS] at e
  subst e
  refine br aK ?_
  rw[oP hp];exact k
 ·rintro d r μ' N ⟨b,c,e,er,rfl⟩ hN
  cases c with
  | nil=>cases er
  | cons x c=>
  cases er
  have e':xs=(b++[x])++c:=by rw[e];simp
  have lf:(b.filterMap h).length < 1000000:=by
   have h1:=Yd h b
   have h2:xs.length=b.length+(x::c).length:=by rw[e,Wv]
   rw[WU] at h2;omega
  refine step x (by rw[e];simp) _ (Sub.new hp) (λoy μ3=>match oy with
   | some y=>kL μ3 p λzs=>zs.length < 1000000/\N (up μ3 p (.lst (zs++[y])))
   | none=>N μ3) ?_
  cases hf:h x with
  | none=>
   refine hN _ ⟨b++[x],c,e',rfl,?_⟩
   rw[Xm];simp[hf]
  | some y=>
   refine br aK ⟨lf,hN _ ⟨b++[x],c,e',rfl,?_⟩⟩
   rw[Xm,iC];simp[hf]
theorem E2 {a:Addr}{full:List D}(hm:μ a=some (.lst full))(f:D->D)(hl:ds.length<=999999)
  (step:∀ d∈ds,∀ μ',Sub μ μ'->∀ (N:DK),N (f d) μ'->G d ρc μ' λρ1 μ1=>te ρ1 μ1 N)
  (k:Q (.ls (ds.map f)) μ):DF a full G fe te ρc ds μ Q:=by
 refine Kj hm (λd=>some (f d)) hl (λd hd μ' s N n=>?_) (by rw[show (λd=>some (f d))=some ∘ f from rfl,ZX];exact k)
 exact step d hd μ' s (λy μ3=>N (some y) μ3) n
end
def S3:=Jn @KQ <| Jn @Gh <| Jn @RG <| Jn @K9 <| Jn @NV <| Jn @MA <| Jn @Rr <| Jn @LR <| Jn @QZ <| Jn @IW <| Jn @Q8 <| Jn @Mi <| Jn @QE <| Jn @Po <| Jn @Py <| Jn @RK <| Jn @S2 <| Jn @M5 <| Jn @Ph <| @T7
local macro_rules | `(tactic| walk_at "go")=>zzS "↓L3.S3 L3.Ft ↓L3.zE ↓L3.As ↓L3.yY ↓L3.yV ↓L3.ya ↓L3.Aj ↓L3.kZ ↓L3.jo L3.cB L3.b8 L3.cI L3.cy L3.cJ L3.cw L3.c5 L3.cU L3.b7 L3.cA L3.cx L3.cC L3.cz L3.cZ L3.cD L3.cW L3.cF L3.c7 L3.cH L3.cY L3.je L3.fk List.map_cons List.map_nil List.replicate List.cons_append List.nil_append L3.lk L3.zA L3.kA L3.yg L3.ET L3.gR L3.b6 L3.qT L3.fB L3.uX L3.vh L3.lq L3.iG L3.oj L3.nR L3.kM L3.lr L3.kU L3.lu true_and and_true and_self Bool.not_true Bool.not_false decide_true decide_false Bool.or_true Bool.or_false Bool.true_or Bool.false_or Bool.and_false Bool.false_and Bool.and_true Bool.true_and Int.reduceToNat Int.reducePow Int.reduceNeg Int.reduceSub Int.reduceAdd Int.reduceMul Int.reduceEq Int.reduceLT Int.reduceLE Int.reduceBEq L3.iC L3.gi L3.fN L3.fY L3.gf L3.gh L3.fS L3.fO if_true if_false Bool.false_eq_true reduceCtorEq decide_eq_true_eq"
abbrev ks (s:String):L2.Key:=.inr (OF s)
def iH (cs:List Int)(a l g m s:Int):List (L2.Key×D):=[(ks "cells", .ls (cs.map .int)),(ks "at", .int a),(ks "left", .int l),(ks "given", .int g),(ks "many", .int m),(ks "seed", .int s)]
section
variable (cs:List Int) (a l g m s x:Int)
theorem EJ:eI (iH cs a l g m s) (.inr (OF "cells"))=some (.ls (cs.map .int)):=rfl
theorem Pz:eI (iH cs a l g m s) (.inr (OF "at"))=some (.int a):=rfl
theorem Iu:eI (iH cs a l g m s) (.inr (OF "left"))=some (.int l):=rfl
theorem FD:eI (iH cs a l g m s) (.inr (OF "given"))=some (.int g):=rfl
theorem Kf:eI (iH cs a l g m s) (.inr (OF "many"))=some (.int m):=rfl
theorem JI:eI (iH cs a l g m s) (.inr (OF "seed"))=some (.int s):=rfl
theorem Pw:putD (iH cs a l g m s) (.inr (OF "at")) (.int x)=iH cs x l g m s:=rfl
theorem Gq:putD (iH cs a l g m s) (.inr (OF "left")) (.int x)=iH cs a x g m s:=rfl
theorem Fh:putD (iH cs a l g m s) (.inr (OF "given")) (.int x)=iH cs a l x m s:=rfl
theorem Hm:putD (iH cs a l g m s) (.inr (OF "many")) (.int x)=iH cs a l g x s:=rfl
theorem GA:putD (iH cs a l g m s) (.inr (OF "seed")) (.int x)=iH cs a l g m x:=rfl
theorem LU:(iH cs a l g m s).length < 1000000:=by show 6 < 1000000;decide
end
local macro_rules | `(tactic| walk_at "pot")=>zzS "L3.EJ L3.Pz L3.Iu L3.FD L3.Kf L3.JI L3.Pw L3.Gq L3.Fh L3.Hm L3.GA L3.LU true_and L3.qA"
local macro_rules | `(tactic| walk_at "gp")=>`(tactic| (walk_at "go";walk_at "pot";walk_at "go";walk_at "pot";walk_at "go";walk_at "pot";walk_at "go";walk_at "pot";walk_at "go"))
def Pot (μ:Mu)(b:Addr):Prop:=∃ (cs:List Int) (a l g m s:Int),μ b=some (.dct (iH cs a l g m s))/\0<=a
structure dS (b:Addr) (μ μ':Mu):Prop where
 pot:Pot μ' b
 oth:∀ a,a≠b->μ' a=μ a
theorem dS.trans {b:Addr}{μ μ1 μ2:Mu}(x:dS b μ μ1)(y:dS b μ1 μ2):dS b μ μ2:=⟨y.pot,λa h=>(y.oth a h).trans (x.oth a h)⟩
theorem dS.ne {b p:Addr}{μ μ1:Mu}(x:dS b μ μ1)(h:p≠b):μ1 p=μ p:=x.oth p h
theorem Pot.ne {μ:Mu}{b p:Addr}(h:Pot μ b)(hp:μ p=none):p≠b:=λz=>by subst z;obtain ⟨_,_,_,_,_,_,e,_⟩:=h;rw[hp] at e;cases e
theorem Pot.up {μ:Mu}{b p:Addr}{o:MO}(h:Pot μ b)(hp:p≠b):Pot (up μ p o) b:=by
 obtain ⟨cs,a,l,g,m,s,e,h0⟩:=h
 exact ⟨cs,a,l,g,m,s,by rw[aY (WY hp)];exact e,h0⟩
theorem Kz {μ:Mu}{b:Addr}{o:MO}(h:μ b=some o):up μ b o=μ:=by
 funext a;unfold L3.up;split
 ·rename_i e;subst e;exact h.symm
 ·rfl
def Kp (b:Addr)(μ μ':Mu):Prop:=∀ a o,a≠b->μ a=some o->μ' a=some o
theorem Kp.trans {b:Addr}{μ μ1 μ2:Mu}(x:Kp b μ μ1)(y:Kp b μ1 μ2):Kp b μ μ2:=λa o h e=>y a o h (x a o h e)
theorem dS.kp {b:Addr}{μ μ1:Mu}(x:dS b μ μ1):Kp b μ μ1:=λa o h e=>by rw[x.oth a h];exact e
theorem Kp.new {b p:Addr}{μ:Mu}{o:MO}(h:μ p=none):Kp b μ (up μ p o):=λa u _ e=>by rw[aY (λz=>by subst z;rw[h] at e;cases e)];exact e
theorem Kp.put {b p:Addr}{μ μ1:Mu}{o:MO}(x:Kp b μ μ1)(h:μ p=none):Kp b μ (up μ1 p o):=λa u n e=>by rw[aY (λz=>by subst z;rw[h] at e;cases e)];exact x a u n e
theorem Kp.dn {b p:Addr}{μ μ1:Mu}(x:Kp b μ μ1)(h:μ p=none):Kp b μ (dn μ1 p):=λa u n e=>by unfold L3.dn;rw[if_neg (λz=>by subst z;rw[h] at e;cases e)];exact x a u n e
theorem Lq {b:Addr}{μ μ':Mu}{d:D}{Q:DK}(hP:Pot μ' b)(h:Kp b μ μ')(k:∀ μ2,dS b μ μ2->Q d μ2):RT Q d μ':=by
 refine ⟨λa=>if a=b then μ' a else μ a,λa o e=>?_,k _ ⟨?_,λa ha=>by simp only[if_neg ha]⟩⟩
 ·dsimp only at e
  split at e
  ·exact e
  ·rename_i ha;exact h a o ha e
 ·obtain ⟨cs,a,l,g,m,s,e,h0⟩:=hP
  exact ⟨cs,a,l,g,m,s,by simp only[if_pos rfl];exact e,h0⟩
def qw:FSp:=λds μ Q=>kcL ds λxs ds=>kcN ds ((∃ ns:List Int,xs=ns.map .int)/\∀ p μ',μ p=none->Pot μ' p->(∀ a,a≠p->μ' a=μ a)->Q (.obj p) μ')
theorem Hb:∀ ds μ Q,qw ds μ Q->ds.length=1:=λ_ _ _ h=>lcL h λ_ _ h=>by rw[(ecN h).1];rfl
def JA:STr:=aW (Ja [.inr (OF "cells"),.inr (OF "at"),.inr (OF "left"),.inr (OF "given"),.inr (OF "many"),.inr (OF "seed")] (af (au j4 (af (ah 0) (aq))) (af (TC (.int 0)) (af (TC (.int 0)) (af (TC (.int 0)) (af (TC (.int 0)) (af (TC (.int 5)) (aq))))))))
theorem KJ:∀ ds μ Q,qw ds μ Q->JA { nx:=λ_ μ'=>RT Q .non μ',rt:=RT Q } (ini 1 ds) μ:=by
 intro ds μ Q h
 replace h:=ecL h
 obtain ⟨xs,ds,rfl,h⟩:=h
 replace h:=ecN h
 obtain ⟨rfl,h⟩:=h
 walk_at "ini"
 unfold JA
 walk_at "go"
 obtain ⟨⟨ns,rfl⟩,k⟩:=h
 intro p hp
 walk_at "go"
 exact ⟨_,.refl _,k p _ hp ⟨ns,0,0,0,0,5,aK,W6 0⟩ λa ha=>aY ha⟩
def i4:FSp:=λds μ Q=>kcI ds λ_ ds=>kcI ds λ_ ds=>kcN ds (∀ k:Int,Q (.int k) μ)
theorem IQ:∀ ds μ Q,i4 ds μ Q->ds.length=2:=λ_ _ _ h=>lcI h λ_ _ h=>lcI h λ_ _ h=>by rw[(ecN h).1];rfl
def Gi:STr:=aB (aO (aj mN (aj eP (aj aV (aj aV (aj mN (ah 0) (TC (.int 2147483647))) (aj eP (TC (.int 7919)) (ah 1))) (TC (.int 11))) (TC (.int 48271))) (TC (.int 2147483629))) (aA 2)) (aB (aO (aj mN (aj eP (ah 2) (ah 2)) (TC (.int 2147483587))) (aA 3)) (aW (aj mN (aj eP (aj aV (ah 3) (ah 1)) (TC (.int 69621))) (TC (.int 1999999973)))))
theorem MP:∀ ds μ Q,i4 ds μ Q->Gi { nx:=λ_ μ'=>RT Q .non μ',rt:=RT Q } (ini 4 ds) μ:=by
 intro ds μ Q h
 replace h:=ecI h
 obtain ⟨n,ds,rfl,h⟩:=h
 replace h:=ecI h
 obtain ⟨t,ds,rfl,h⟩:=h
 replace h:=ecN h
 obtain ⟨rfl,h⟩:=h
 walk_at "ini"
 unfold Gi
 walk_at "go"
 have s79:S64 7919:=by unfold S64;decide
 have s48:S64 48271:=by unfold S64;decide
 have s69:S64 69621:=by unfold S64;decide
 refine ⟨by decide,.inl (.inl s79),.inl (.inr s48),by decide,?_⟩
 walk_at "go"
 generalize hx:((n.fmod 2147483647+7919*t+11)*48271).fmod 2147483629=x
 have x0:0<=x:=by rw[← hx];exact fm0 (by decide)
 have x1:x < 2147483629:=by rw[← hx];exact fm1 (by decide)
 refine ⟨.inl (.inl (by unfold S64;omega)),by decide,?_⟩
 walk_at "go"
 exact ⟨.inl (.inr s69),by decide,_,.refl _,h _⟩
def aC:FSp:=λds μ Q=>kcO ds λb ds=>kcI ds λn ds=>kcN ds ((Pot μ b/\0 < n/\n < 18446744073709551616)/\∀ k μ',0<=k->k < n->dS b μ μ'->Q (.int k) μ')
theorem aX {μ:Mu}{b:Addr}{n:Int}{Q:DK}(hB:Pot μ b)(h0:0 < n)(h1:n < 18446744073709551616)(h:∀ k μ',0<=k->k < n->dS b μ μ'->Q (.int k) μ'):aC [.obj b,.int n] μ Q:=⟨⟨hB,h0,h1⟩,h⟩
theorem EX:∀ ds μ Q,aC ds μ Q->ds.length=2:=λ_ _ _ h=>lcO h λ_ _ h=>lcI h λ_ _ h=>by rw[(ecN h).1];rfl
def l8:STr:=aB (bI (mG (TB (aj rGt (bP (ah 0) (TC (.str "left"))) (TC (.int 0)))) (TB (aj rLt (bP (ah 0) (TC (.str "given"))) (TC (.int 60))))) (aB (m7 (λm n=>m+n) (ah 0) (TC (.str "given")) (TC (.int 1))) (aB (aO (aj mN (bP (ah 0) (TC (.str "left"))) (ah 1)) (aA 3)) (aB (jC (ah 0) (TC (.str "left")) (aj oa (bP (ah 0) (TC (.str "left"))) (ah 1))) (aW (ah 3))))) (a8)) (aB (jC (ah 0) (TC (.str "seed")) (au i4 (af (bP (ah 0) (TC (.str "seed"))) (af (bP (ah 0) (TC (.str "many"))) (aq))))) (aW (aj mN (aj oa (bP (ah 0) (TC (.str "seed"))) (TC (.int 7))) (ah 1))))
def DX:STr:=aB (m7 (λm n=>m+n) (ah 0) (TC (.str "many")) (TC (.int 1))) (aB (bI (mG (TOr (TB (aj rEq (bP (ah 0) (TC (.str "left"))) (TC (.int 0)))) (TB (aj rEq (bP (ah 0) (TC (.str "given"))) (TC (.int 60))))) (TB (aj rLt (bP (ah 0) (TC (.str "at"))) (au dB (af (bP (ah 0) (TC (.str "cells"))) (aq)))))) (aB (aO (au xr (af (aj L3.rIx (bP (ah 0) (TC (.str "cells"))) (bP (ah 0) (TC (.str "at")))) (aq))) (aA 2)) (aB (m7 (λm n=>m+n) (ah 0) (TC (.str "at")) (TC (.int 1))) (aB (jC (ah 0) (TC (.str "left")) (aj eP (ah 2) (au yJ (af (aj rGe (ah 2) (aj Gu (TC (.int 10)) (TC (.int 18)))) (aq))))) (aB (jC (ah 0) (TC (.str "given")) (TC (.int 0))) (jC (ah 0) (TC (.str "seed")) (au i4 (af (aj aV (bP (ah 0) (TC (.str "seed"))) (ah 2)) (af (bP (ah 0) (TC (.str "many"))) (aq))))))))) (a8)) (l8))
theorem GS:∀ ds μ Q,aC ds μ Q->DX { nx:=λ_ μ'=>RT Q .non μ',rt:=RT Q } (ini 4 ds) μ:=by
 intro ds μ Q h
 replace h:=ecO h
 obtain ⟨b,ds,rfl,h⟩:=h
 replace h:=ecI h
 obtain ⟨n,ds,rfl,h⟩:=h
 replace h:=ecN h
 obtain ⟨rfl,h⟩:=h
 walk_at "ini"
 unfold DX
 obtain ⟨⟨⟨cs,a,l,g,m,s,eb,a0⟩,n0,n1⟩,k⟩:=h
 have nm:gw n:=by unfold gw;omega
 have fin:∀ (μ':Mu) (c a l g m s:Int),0<=c->c < n->0<=a->RT Q (.int c) (up μ b (.dct (iH cs a l g m s))):=λμ' c a l g m s c0 c1 a0=>
  ⟨_,.refl _,k c _ c0 c1 ⟨⟨cs,a,l,g,m,s,aK,a0⟩,λz hz=>aY hz⟩⟩
 have rest:∀ (v2 v3:Option D) (a l g m s:Int),0<=a->l8 { nx:=λ_ μ'=>RT Q .non μ',rt:=RT Q } [some (.obj b),some (.int n),v2,v3] (up μ b (.dct (iH cs a l g m s))):=by
  intro v2 v3 a l g m s a0
  unfold l8
  walk_at "gp"
  refine kif (λh1=>kif (λh2=>?_) λ_=>?_) λ_=>?_
  ·walk_at "gp"
   refine ⟨by omega,?_⟩
   walk_at "gp"
   exact ⟨⟨by omega,nm⟩,fin μ _ a _ _ m s (fm0 n0) (fm1 n0) a0⟩
  all_goals
   intro s2
   walk_at "gp"
   exact ⟨⟨by decide,by unfold gw;decide⟩,by omega,fin μ _ a l g m s2 (fm0 n0) (fm1 n0) a0⟩
 have e0:∀ c:Int,MulOk c (if 1000000000000000000<=c then 1 else 0):=λc=>.inl (.inr (by unfold S64;split<;>decide))
 have e1:sj 10 18:=by unfold sj;decide
 refine (Kz eb).symm ▸ ?_
 walk_at "gp"
 rw[Wf]
 refine kif (λ_=>kif (λh1=>?_) λ_=>rest _ _ _ _ _ _ _ a0) λ_=>kif (λ_=>kif (λh1=>?_) λ_=>rest _ _ _ _ _ _ _ a0) λ_=>rest _ _ _ _ _ _ _ a0
 all_goals
  obtain ⟨z,ez⟩:=Ie a0 h1
  rw[ez]
  walk_at "gp"
  refine ⟨e1,e0 _,?_⟩
  walk_at "gp"
  intro s2
  walk_at "gp"
  exact rest _ _ _ _ _ _ _ (by omega)
def c9:List Str:=[OF "a", OF "aa", OF "ab", OF "b", OF "ba", OF "mid", OF "way", OF "zz", OF "z", OF "long", OF "longer", OF "abcdefgh", OF "x", OF "yz", OF "m", OF "az", OF "c"]
theorem Gk:∀ w∈c9,Wj w=true:=by decide +kernel
theorem Cg:c9.Nodup:=by decide +kernel
theorem Jb:∀ f:Fin 17,∀ s:Fin 16,((WQ 17).map λk=>(f.val+(1+s.val)*k) % 17).Nodup:=by decide +kernel
def nameAt (f s:Nat)(k:Nat):Str:=c9.getD ((f+(1+s)*k) % 17) (OF "")
theorem HR {f s n:Nat}(hf:f < 17)(hs:s < 16)(hn:n<=17):((WQ n).map (nameAt f s)).Nodup:=by
 have h1:((WQ 17).map λk=>(f+(1+s)*k) % 17).Nodup:=Jb ⟨f,hf⟩ ⟨s,hs⟩
 have h2:((WQ n).map λk=>(f+(1+s)*k) % 17).Nodup:=by
  refine List.Nodup.sublist ?_ h1
  refine zem _ ?_
  rw[show WQ 17=WQ n++(WQ (17 - n)).map (n + ·) by rw[← List.range_add];congr 1;omega]
  exact zaV _ _
 have h3:((WQ n).map (nameAt f s))=((WQ n).map λk=>(f+(1+s)*k) % 17).map λj=>c9.getD j (OF ""):=by rw[Wq];rfl
 rw[h3]
 rw[zaB,zaJ]
 rw[zaB] at h2
 refine (zaJ.mp h2 |> λq=>?_)
 rw[zaJ]
 refine q.imp_of_mem ?_
 intro a b ha hb hne e
 refine hne ?_
 have l1:(f+(1+s)*a) % 17 < c9.length:=zcI _ (by decide)
 have l2:(f+(1+s)*b) % 17 < c9.length:=zcI _ (by decide)
 rw[Yr,Yr,Wz l1,Wz l2,Z1,Z1] at e
 exact (zaY Cg).mp e
theorem B8 (f s k:Nat):nameAt f s k∈c9:=by
 unfold nameAt
 have l1:(f+(1+s)*k) % 17 < c9.length:=zcI _ (by decide)
 rw[Yr,Wz l1,Z1]
 exact XB _
def iS:FSp:=λds μ Q=>kcO ds λb ds=>kcI ds λm ds=>kcN ds ((Pot μ b/\0<=m/\m<=17)/\∀ (ws:List Str) μ',(ws.length:Int)=m->ws.Nodup->(∀ w∈ws,w∈c9)->dS b μ μ'->Q (.ls (ws.map .str)) μ')
theorem A4:∀ ds μ Q,iS ds μ Q->ds.length=2:=λ_ _ _ h=>lcO h λ_ _ h=>lcI h λ_ _ h=>by rw[(ecN h).1];rfl
def xC:STr:=aB (aO (fc (af (TC (.str "a")) (af (TC (.str "aa")) (af (TC (.str "ab")) (af (TC (.str "b")) (af (TC (.str "ba")) (af (TC (.str "mid")) (af (TC (.str "way")) (af (TC (.str "zz")) (af (TC (.str "z")) (af (TC (.str "long")) (af (TC (.str "longer")) (af (TC (.str "abcdefgh")) (af (TC (.str "x")) (af (TC (.str "yz")) (af (TC (.str "m")) (af (TC (.str "az")) (aq)))))))))))))))))) (aA 2)) (aB (aO (bf (af (au aC (af (ah 0) (af (TC (.int 17)) (aq)))) (af (aj aV (TC (.int 1)) (au aC (af (ah 0) (af (TC (.int 16)) (aq))))) (aq)))) (de [3,4])) (aW (bZ (fW (ah 1)) (aA 0) (fe) (aj L3.rIx (aj aV (ah 1) (fc (af (TC (.str "c")) (aq)))) (aj mN (aj aV (ah 2) (aj eP (ah 3) (ah 0))) (TC (.int 17)))) 1 [2,3,4])))
theorem Eu:∀ ds μ Q,iS ds μ Q->xC { nx:=λ_ μ'=>RT Q .non μ',rt:=RT Q } (ini 5 ds) μ:=by
 intro ds μ Q h
 replace h:=ecO h
 obtain ⟨b,ds,rfl,h⟩:=h
 replace h:=ecI h
 obtain ⟨m,ds,rfl,h⟩:=h
 replace h:=ecN h
 obtain ⟨rfl,h⟩:=h
 walk_at "ini"
 unfold xC
 walk_at "go"
 obtain ⟨⟨hP,m0,m1⟩,k⟩:=h
 refine ⟨by decide,?_⟩
 refine aX hP (by decide) (by decide) λf μ1 f0 f1 P1=>?_
 walk_at "go"
 refine aX P1.pot (by decide) (by decide) λs μ2 s0 s1 P2=>?_
 walk_at "go"
 refine ⟨⟨by omega,by omega⟩,?_⟩
 have hw:∀ (kk:Nat),atD [D.str "a", D.str "aa", D.str "ab", D.str "b", D.str "ba", D.str "mid", D.str "way", D.str "zz", D.str "z", D.str "long", D.str "longer", D.str "abcdefgh", D.str "x", D.str "yz", D.str "m", D.str "az", D.str "c"] ((f+(1+s)*(kk:Int)).fmod 17)=some (.str (nameAt f.toNat s.toNat kk)):=by
  intro kk
  have e1:(f+(1+s)*(kk:Int)).fmod 17=(((f.toNat+(1+s.toNat)*kk) % 17:Nat):Int):=by
   rw[Int.fmod_eq_emod_of_nonneg _ (by decide)]
   push_cast
   rw[X3 f0,X3 s0]
  rw[e1,bL]
  show (c9.map D.str)[(f.toNat+(1+s.toNat)*kk) % 17]? = _
  have l1:(f.toNat+(1+s.toNat)*kk) % 17 < c9.length:=zcI _ (by decide)
  unfold nameAt
  rw[Xh,Yr,Wz l1];rfl
 refine comp_map (λd=>match d with
  | .int j=>.str (nameAt f.toNat s.toNat j.toNat)
  | _=>.non) (by rw[eG];omega) (λd hd μ' _ N n=>?_) ?_
 ·obtain ⟨j,rfl,j0,j1⟩:=tm hd
  walk_at "go"
  refine ⟨by decide,?_⟩
  walk_at "go"
  refine ⟨.inl (.inl (by unfold S64;omega)),by decide,?_⟩
  have:=hw j.toNat
  rw[X3 (by omega)] at this
  rw[this]
  walk_at "go"
  exact n
 ·refine ⟨_,.refl _,?_⟩
  have e:(cG 0 m.toNat).map (λd=>match d with
   | .int j=>D.str (nameAt f.toNat s.toNat j.toNat)
   | _=>.non)=((WQ m.toNat).map (nameAt f.toNat s.toNat)).map .str:=by
   unfold cG
   rw[Wq,Wq]
   refine WT λi _=>?_
   simp
  rw[e]
  refine k _ _ (by simp;omega) (HR (by omega) (by omega) (by omega)) (λw hw=>?_) (P1.trans P2)
  obtain ⟨i,_,rfl⟩:=Wg.mp hw
  exact B8 _ _ _
section
variable {G:GTr} {tt:TTr} {te:ETr} {ρc:ST} {ds:List D} {μ:Mu} {Q:DK} {b:Addr}
theorem zZ (hP:Pot μ b)(I:List D->List D->Prop)(h0:I ds [])(hl:ds.length<=999999)
  (step:∀ d r zs μ',Pot μ' b->Kp b μ μ'->I (d::r) zs->∀ (N:Option D->Mu->Prop),(∀ oy μ2,I r (zs++oy.toList)->dS b μ' μ2->N oy μ2)->G d ρc μ' λρ1 μ1=>tt ρ1 μ1 λc μ2=>kIf c (te ρ1 μ2 λy μ3=>N (some y) μ3) (N none μ2))
  (k:∀ zs μ',I [] zs->dS b μ μ'->Q (.ls zs) μ'):tW G tt te ρc ds μ Q:=by
 intro p hp
 have pb:=hP.ne hp
 refine kX (λr μ'=>∃ zs,I r zs/\zs.length+r.length<=ds.length/\μ' p=some (.lst zs)/\Pot μ' b/\∀ a,a≠b->a≠p->μ' a=μ a) ?_ ?_ _ _ ⟨[],h0,by simp,aK,hP.up pb,λa _ h=>aY h⟩
 ·rintro μ' ⟨zs,hI,_,e,P,fr⟩
  refine br e (k zs _ hI ⟨?_,λa ha=>?_⟩)
  ·obtain ⟨cs,a,l,g,m,s,e,h0⟩:=P
   exact ⟨cs,a,l,g,m,s,by unfold dn;rw[if_neg (WY pb)];exact e,h0⟩
  ·unfold dn
   split
   ·rename_i z;subst z;exact hp.symm
   ·rename_i z;exact fr a ha z
 ·rintro d r μ' N ⟨zs,hI,hz,e,P,fr⟩ hN
  rw[WU] at hz
  refine step d r zs μ' P (λa o n h=>?_) hI (λoy μ3=>match oy with
   | some y=>kL μ3 p λzs=>zs.length < 1000000/\N (up μ3 p (.lst (zs++[y])))
   | none=>N μ3) ?_
  ·rw[fr a n (λz=>by subst z;rw[hp] at h;cases h)];exact h
  intro oy μ2 hoy P2
  have e2:μ2 p=some (.lst zs):=by rw[P2.oth p pb];exact e
  cases oy with
  | none=>exact hN _ ⟨zs,by simpa using hoy,by omega,e2,P2.pot,λa h1 h2=>(P2.oth a h1).trans (fr a h1 h2)⟩
  | some y=>
   refine br e2 ⟨by omega,hN _ ⟨zs++[y],hoy,by rw[Wv];simp;omega,aK,P2.pot.up pb,λa h1 h2=>?_⟩⟩
   rw[aY h2,P2.oth a h1,fr a h1 h2]
end
theorem Mp {xs:List D}{c:Int}(c0:0<=c):atD xs c=xs[c.toNat]?:=by
 have:=bL c.toNat xs
 rwa [X3 c0] at this
structure Lt where
 nm:Str
 nu:Int
 ag:Int
 hp:Int
 mr:Int
def Lt.toD (x:Lt):D:=.tup [.str x.nm,.int x.nu,.int x.ag,.int x.hp,.int x.mr]
abbrev ltD (ls:List Lt):List D:=ls.map Lt.toD
structure Lt.Ok (x:Lt):Prop where
 a0:0<=x.ag
 a1:x.ag < 30
 h0:0<=x.hp
 h1:x.hp < 6
 m0:0<=x.mr
 m1:x.mr<=1
structure Wy where
 nm:Str
 pc:Int
 rm:Int
 mr:Option Int
 tn:Bool
def dJ:Option Int->D
 | none=>.non
 | some i=>.int i
def zm (b:Bool):Str:=if b then OF "turns" else OF "line"
def Wy.toD (x:Wy):D:=.tup [.str x.nm,.int x.pc,.int x.rm,dJ x.mr,.str (zm x.tn)]
structure Wy.Ok (x:Wy):Prop where
 n:Wj x.nm=true
 p0:1<=x.pc
 p1:x.pc<=20
 r0:1<=x.rm
 r1:x.rm<=60
 m:∀ i,x.mr=some i->0<=i/\i<=60
mutual
def pl:Nat->D->Bool
 | _,.non=>true
 | _,.int _=>true
 | _,.str x=>Wj x
 | n+1,.tup ds=>decide (ds.length<=999999)&&pls n ds
 | n+1,.ls ds=>decide (ds.length<=999999)&&pls n ds
 | _,_=>false
def pls:Nat->List D->Bool
 | _,[]=>true
 | n,d::r=>pl n d&&pls n r
end
def iQ (w:Wy)(x:Lt)(n:Nat):Lt:=match w.mr with
 | none=>x
 | some i=>if (n:Int) < i then x else { x with mr:=1 }
def cE (w:Wy)(p:List Lt×List Lt)(y:Lt):List Lt×List Lt:=if w.rm<=(p.1.length:Int) then (p.1,p.2++[y]) else (p.1++[iQ w y p.1.length],p.2)
def tk (w:Wy)(xs ys:List Lt):List Lt×List Lt:=ys.foldl (cE w) (xs,[])
theorem Rf (a b c d e:D):cutD [a,b,c,d,e] none (some 4)=[a,b,c,d]:=rfl
def fo:FSp:=λds μ Q=>kcA ds λwd ds=>kcA ds λld ds=>kcI ds λn ds=>kcN ds (∃ (w:Wy) (x:Lt) (m:Nat),(wd=w.toD/\ld=x.toD/\n=m)/\Q (iQ w x m).toD μ)
theorem rY:∀ ds μ Q,fo ds μ Q->ds.length=3:=λ_ _ _ h=>lcA h λ_ _ h=>lcA h λ_ _ h=>lcI h λ_ _ h=>by rw[(ecN h).1];rfl
def mI:STr:=aB (bI (TOr (TB (aj rIs (aj L3.rIx (ah 0) (TC (.int 3))) (TC .non))) (TB (aj rLt (ah 2) (aj L3.rIx (ah 0) (TC (.int 3)))))) (aW (ah 1)) (a8)) (aW (aj aV (TSl (ah 1) (ONo) (j8 (TC (.int 4)))) (bf (af (TC (.int 1)) (aq)))))
theorem tZ:∀ ds μ Q,fo ds μ Q->mI { nx:=λ_ μ'=>RT Q .non μ',rt:=RT Q } (ini 3 ds) μ:=by
 intro ds μ Q h
 replace h:=ecA h
 obtain ⟨wd,ds,rfl,h⟩:=h
 replace h:=ecA h
 obtain ⟨ld,ds,rfl,h⟩:=h
 replace h:=ecI h
 obtain ⟨n,ds,rfl,h⟩:=h
 replace h:=ecN h
 obtain ⟨rfl,h⟩:=h
 walk_at "ini"
 unfold mI
 walk_at "go"
 obtain ⟨w,x,m,⟨rfl,rfl,rfl⟩,k⟩:=h
 simp only[Wy.toD]
 walk_at "go"
 unfold iQ at k
 cases hm:w.mr with
 | none=>
  rw[hm] at k
  simp only[dJ]
  walk_at "go"
  exact ⟨_,.refl _,k⟩
 | some i=>
  rw[hm] at k
  simp only[dJ]
  walk_at "go"
  refine kif (λh1=>⟨_,.refl _,?_⟩) λh1=>?_
  ·simp only[if_pos h1] at k;exact k
  ·simp only[if_neg h1] at k
   simp only[Lt.toD]
   walk_at "go"
   rw[Rf]
   walk_at "go"
   exact ⟨by show 5<=1000000;decide,_,.refl _,k⟩
def hU:FSp:=λds μ Q=>kcA ds λwd ds=>kcT ds λst ds=>kcT ds λle ds=>kcN ds (∃ (w:Wy) (xs ys:List Lt),(wd=w.toD/\st=ltD xs/\le=ltD ys/\xs.length+ys.length<=900000)/\Q (.tup [.tup (ltD (tk w xs ys).1),.tup (ltD (tk w xs ys).2)]) μ)
theorem vK:∀ ds μ Q,hU ds μ Q->ds.length=3:=λ_ _ _ h=>lcA h λ_ _ h=>lcT h λ_ _ h=>lcT h λ_ _ h=>by rw[(ecN h).1];rfl
def su:STr:=aB (aO (au jW (af (ah 1) (aq))) (aA 3)) (aB (aO (mT (aq)) (aA 4)) (aB (iq (eL (ah 2)) (aA 5) (bI (TB (aj rGe (au dB (af (ah 3) (aq))) (aj L3.rIx (ah 0) (TC (.int 2))))) (fv (nz (ah 4) (ah 5))) (fv (nz (ah 3) (au fo (af (ah 0) (af (ah 5) (af (au dB (af (ah 3) (aq))) (aq))))))))) (aW (bf (af (au bF (af (ah 3) (aq))) (af (au bF (af (ah 4) (aq))) (aq)))))))
theorem zD:∀ ds μ Q,hU ds μ Q->su { nx:=λ_ μ'=>RT Q .non μ',rt:=RT Q } (ini 6 ds) μ:=by
 intro ds μ Q h
 replace h:=ecA h
 obtain ⟨wd,ds,rfl,h⟩:=h
 replace h:=ecT h
 obtain ⟨st,ds,rfl,h⟩:=h
 replace h:=ecT h
 obtain ⟨le,ds,rfl,h⟩:=h
 replace h:=ecN h
 obtain ⟨rfl,h⟩:=h
 walk_at "ini"
 unfold su
 walk_at "go"
 obtain ⟨w,xs,ys,⟨rfl,rfl,rfl,hl⟩,k⟩:=h
 intro p hp
 walk_at "go"
 intro q hq
 have qp:q≠p:=λz=>by subst z;rw[aK] at hq;cases hq
 have hqn:μ q=none:=by rw[aY qp] at hq;exact hq
 refine bR (λr ρ μ'=>∃ (a b:List Lt) (rs:List Lt) (v5:Option D),r=ltD rs/\ρ=[some w.toD,some (.tup (ltD xs)),some (.tup (ltD ys)),some (.obj p),some (.obj q),v5]/\μ' p=some (.lst (ltD a))/\μ' q=some (.lst (ltD b))/\Sub μ μ'/\rs.foldl (cE w) (a,b)=tk w xs ys/\a.length+b.length+rs.length<=900000) ?_ ?_ _ _ _ ⟨xs,[],ys,_,rfl,rfl,by rw[aY (WY qp),aK],aK,(Sub.new hp).trans (Sub.new hq),rfl,by simpa using hl⟩
 ·rintro ρ μ' ⟨a,b,rs,v5,er,rfl,ep,eq,s,e,_⟩
  have:rs=[]:=by cases rs with | nil=>rfl | cons=>cases er
  subst this
  have e:(a,b)=tk w xs ys:=e
  rw[← e] at k
  walk_at "go"
  refine br ep ?_
  walk_at "go"
  refine br eq ?_
  exact ⟨_,s,k⟩
 ·rintro d r ρ μ' N ⟨a,b,rs,v5,er,rfl,ep,eq,s,e,hz⟩ hN
  cases rs with
  | nil=>cases er
  | cons y rs=>
  cases er
  rw[WU] at hz
  rw[XQ] at e
  unfold cE at e
  simp only[Wy.toD]
  walk_at "go"
  refine br ep ?_
  walk_at "go"
  rw[Wf]
  refine kif (λh1=>?_) λh1=>?_
  ·rw[if_pos h1] at e
   walk_at "go"
   refine br eq ?_
   walk_at "go"
   refine br eq ⟨by simp;omega,hN _ _ ⟨a,b++[y],rs,_,rfl,rfl,by rw[aY (WY qp)];exact ep,by rw[aK];simp[ltD],λz o h=>?_,e,by simp;omega⟩⟩
   rw[aY (λe=>by subst e;rw[hqn] at h;cases h)];exact s z o h
  ·rw[if_neg h1] at e
   walk_at "go"
   refine br ep ?_
   walk_at "go"
   refine br ep ?_
   rw[Wf]
   refine ⟨w,y,a.length,⟨rfl,rfl,rfl⟩,?_⟩
   walk_at "go"
   refine br ep ⟨by simp;omega,hN _ _ ⟨a++[iQ w y a.length],b,rs,_,rfl,rfl,by rw[aK];simp[ltD],by rw[aY qp];exact eq,λz o h=>?_,e,by simp;omega⟩⟩
   rw[aY (λe=>by subst e;rw[hp] at h;cases h)];exact s z o h
theorem V5 (w:Wy)(μ:Mu)(Q:DK):L3.rIx w.toD (.int 0) μ Q=Q (.str w.nm) μ:=propext Wi
theorem UZ (w:Wy)(μ:Mu)(Q:DK):L3.rIx w.toD (.int 1) μ Q=Q (.int w.pc) μ:=propext Wi
theorem UU (w:Wy)(μ:Mu)(Q:DK):L3.rIx w.toD (.int 4) μ Q=Q (.str (zm w.tn)) μ:=propext Wi
theorem lt_0 (x:Lt)(μ:Mu)(Q:DK):L3.rIx x.toD (.int 0) μ Q=Q (.str x.nm) μ:=propext Wi
theorem U3 (x:Lt)(μ:Mu)(Q:DK):L3.rIx x.toD (.int 1) μ Q=Q (.int x.nu) μ:=propext Wi
theorem UP (x:Lt)(μ:Mu)(Q:DK):L3.rIx x.toD (.int 2) μ Q=Q (.int x.ag) μ:=propext Wi
theorem U6 (x:Lt)(μ:Mu)(Q:DK):L3.rIx x.toD (.int 3) μ Q=Q (.int x.hp) μ:=propext Wi
theorem Vg (x:Lt)(μ:Mu)(Q:DK):L3.rIx x.toD (.int 4) μ Q=Q (.int x.mr) μ:=propext Wi
theorem VJ (xs:List D){k:Int}(k0:0<=k):cutD xs none (some k)=xs.take k.toNat:=by
 have:=D5 xs k.toNat
 rwa [X3 k0] at this
theorem U7 (xs:List D){k:Int}(k0:0<=k):cutD xs (some k) none=xs.drop k.toNat:=by
 have:=uY xs k.toNat
 rwa [X3 k0] at this
theorem Nf (ls:List Lt)(n:Nat):(ltD ls).take n=ltD (ls.take n):=by simp[ltD,zd1]
theorem LP (ls:List Lt)(n:Nat):(ltD ls).drop n=ltD (ls.drop n):=by simp[ltD,zcw]
theorem jn {w:Wy}{a b:List Lt}{y:Lt}(h:w.rm<=(a.length:Int)):cE w (a,b) y=(a,b++[y]):=by unfold cE;rw[if_pos h]
theorem tU {w:Wy}{a b:List Lt}{y:Lt}(h:¬ w.rm<=(a.length:Int)):cE w (a,b) y=(a++[iQ w y a.length],b):=by unfold cE;rw[if_neg h]
theorem w4:dJ none=.non:=rfl
theorem wW (i:Int):dJ (some i)=.int i:=rfl
theorem A0 (w:Wy):∀ (ys:List Lt) (a b:List Lt),(ys.foldl (cE w) (a,b)).1.length+(ys.foldl (cE w) (a,b)).2.length=a.length+b.length+ys.length
 | [],a,b=>by simp
 | y::ys,a,b=>by
  rw[XQ]
  by_cases h:w.rm<=(a.length:Int)
  ·rw[jn h,A0 w ys];simp;omega
  ·rw[tU h,A0 w ys];simp;omega
theorem C4 (w:Wy)(y:Lt)(n:Nat):(iQ w y n).nm=y.nm:=by
 unfold iQ
 split
 ·rfl
 ·split<;>rfl
theorem IE (w:Wy)(P:Str->Prop):∀ (ys:List Lt) (a b:List Lt),(∀ x∈a,P x.nm)->(∀ x∈b,P x.nm)->(∀ x∈ys,P x.nm)->(∀ x∈(ys.foldl (cE w) (a,b)).1,P x.nm)/\∀ x∈(ys.foldl (cE w) (a,b)).2,P x.nm
 | [],a,b,h1,h2,_=>⟨h1,h2⟩
 | y::ys,a,b,h1,h2,h3=>by
  rw[XQ]
  have hy:=h3 y Wu
  have hr:∀ x∈ys,P x.nm:=λx hx=>h3 x (WD _ hx)
  by_cases h:w.rm<=(a.length:Int)
  ·rw[jn h]
   refine IE w P ys _ _ h1 (λx hx=>?_) hr
   rcases WZ.mp hx with z | z
   ·exact h2 x z
   ·have:x=y:=by simpa using z
    subst this;exact hy
  ·rw[tU h]
   refine IE w P ys _ _ (λx hx=>?_) h2 hr
   rcases WZ.mp hx with z | z
   ·exact h1 x z
   ·have:x=iQ w y a.length:=by simpa using z
    subst this;rw[C4];exact hy
def Ui:=Jn @V5 <| Jn @UZ <| Jn @UU <| Jn @lt_0 <| Jn @U3 <| Jn @UP <| Jn @U6 <| Jn @Vg <| @S3
local macro_rules | `(tactic| walk_at "go")=>zzS "↓L3.Ui L3.Ft ↓L3.zE ↓L3.As ↓L3.yY ↓L3.yV ↓L3.ya ↓L3.Aj ↓L3.kZ ↓L3.jo L3.cB L3.b8 L3.cI L3.cy L3.cJ L3.cw L3.c5 L3.cU L3.b7 L3.cA L3.cx L3.cC L3.cz L3.cZ L3.cD L3.cW L3.cF L3.c7 L3.cH L3.cY L3.je L3.w4 L3.wW L3.fk List.map_cons List.map_nil List.replicate List.cons_append List.nil_append L3.lk L3.zA L3.kA L3.yg L3.ET L3.gR L3.b6 L3.qT L3.fB L3.uX L3.vh L3.lq L3.iG L3.oj L3.nR L3.kM L3.lr L3.kU L3.lu true_and and_true and_self Bool.not_true Bool.not_false decide_true decide_false Bool.or_true Bool.or_false Bool.true_or Bool.false_or Bool.and_false Bool.false_and Bool.and_true Bool.true_and Int.reduceToNat Int.reducePow Int.reduceNeg Int.reduceSub Int.reduceAdd Int.reduceMul Int.reduceEq Int.reduceLT Int.reduceLE Int.reduceBEq L3.iC L3.gi L3.fN L3.fY L3.gf L3.gh L3.fS L3.fO if_true if_false Bool.false_eq_true reduceCtorEq decide_eq_true_eq"
def pD (ws os:List Str)(l:Str):Option Str:=match (ws.filter λw=>decide (w∈os)).filter λw=>ltS l w with
 | x::_=>some x
 | []=>(ws.filter λw=>decide (w∈os)).head?
theorem zR {ws os:List Str}{l n:Str}(h:pD ws os l=some n):n∈ws/\n∈os:=by
 unfold pD at h
 have hm:n∈ws.filter λw=>decide (w∈os):=by
  split at h
  ·rename_i x r e
   cases h
   have:n∈(ws.filter λw=>decide (w∈os)).filter λw=>ltS l w:=by rw[e];exact Wu
   exact (W0.mp this).1
  ·exact List.mem_of_head? h
 have:=W0.mp hm
 exact ⟨this.1,by simpa using this.2⟩
theorem CJ {ws os:List Str}{l w:Str}(h1:w∈ws)(h2:w∈os):∃ n,pD ws os l=some n:=by
 have hm:w∈ws.filter λw=>decide (w∈os):=W0.mpr ⟨h1,by simpa using h2⟩
 unfold pD
 split
 ·exact ⟨_,rfl⟩
 ·cases e:(ws.filter λw=>decide (w∈os)) with
  | nil=>rw[e] at hm;cases hm
  | cons x r=>exact ⟨x,rfl⟩
theorem wa (w:Str)(os:List Str):inG (.str w) (os.map .str)=decide (w∈os):=by
 unfold inG
 rw[List.any_map]
 induction os with
 | nil=>simp
 | cons o r ih=>
  rw[YX,ih]
  simp only[Function.comp_apply,fB]
  by_cases h:o=w
  ·simp[h]
  ·simp[h,WY h,eq_comm]
theorem C2 {n:Nat}{os:List Str}(h:∀ o∈os,Wj o=true):ck n (os.map .str)=true:=by
 induction os with
 | nil=>rfl
 | cons o r ih=>
  rw[Wr,b6,kA,h o Wu,ih λx hx=>h x (WD _ hx)];rfl
theorem y6 (os:List Str)(p:Str->Bool):(os.map D.str).filterMap (λd=>match d with
  | .str w=>if p w then some (D.str w) else none
  | _=>none)=(os.filter p).map D.str:=by
 induction os with
 | nil=>rfl
 | cons o r ih=>
  rw[Wr,Yh,Xe]
  dsimp only
  cases p o with
  | true=>simp[ih]
  | false=>simp[ih]
def fU:FSp:=λds μ Q=>kcA ds λd ds=>kcL ds λos' ds=>kcS ds λl ds=>kcN ds (∃ (ws os:List Str) (n:Str),((d=.tup (ws.map .str)∨d=.ls (ws.map .str))/\os'=os.map .str/\(∀ w∈ws,Wj w=true)/\(∀ w∈os,Wj w=true)/\ws.length<=900000/\pD ws os l=some n)/\Q (.str n) μ)
theorem uu:∀ ds μ Q,fU ds μ Q->ds.length=3:=λ_ _ _ h=>lcA h λ_ _ h=>lcL h λ_ _ h=>lcS h λ_ _ h=>by rw[(ecN h).1];rfl
def pB:STr:=aB (aO (bZ (eL (ah 0)) (aA 0) (TB (aj (um false) (ah 0) (ah 1))) (ah 0) 1 [1]) (aA 3)) (aB (aO (bZ (eL (ah 3)) (aA 0) (TB (aj Qj (ah 0) (ah 1))) (ah 0) 1 [2]) (aA 4)) (aW (lZ (TB (aj rGt (au dB (af (ah 4) (aq))) (TC (.int 0)))) (aj L3.rIx (ah 4) (TC (.int 0))) (aj L3.rIx (ah 3) (TC (.int 0))))))
theorem xn:∀ ds μ Q,fU ds μ Q->pB { nx:=λ_ μ'=>RT Q .non μ',rt:=RT Q } (ini 5 ds) μ:=by
 intro ds μ Q h
 replace h:=ecA h
 obtain ⟨d,ds,rfl,h⟩:=h
 replace h:=ecL h
 obtain ⟨os',ds,rfl,h⟩:=h
 replace h:=ecS h
 obtain ⟨l,ds,rfl,h⟩:=h
 replace h:=ecN h
 obtain ⟨rfl,h⟩:=h
 walk_at "ini"
 unfold pB
 walk_at "go"
 obtain ⟨ws,os,n,⟨hd,rfl,h1,h2,hl,hn⟩,k⟩:=h
 have go:∀ d,d=.tup (ws.map .str)∨d=.ls (ws.map .str)->∀ f:List D->Prop,f (ws.map .str)->kS d f:=λd h f hf=>by rcases h with rfl | rfl<;>exact hf
 refine go d hd _ ?_
 refine vG (λd=>match d with
  | .str w=>if decide (w∈os) then some (.str w) else none
  | _=>none) (by rw[Wf];omega) (λd hd μ' _ N n=>?_) ?_
 ·obtain ⟨w,hw,rfl⟩:=Wg.mp hd
  walk_at "go"
  rw[C2 h2,wa]
  have:=h1 w hw
  simp only[this,true_and]
  dsimp only at n
  refine kif (λh=>?_) λh=>?_
  ·rw[decide_eq_true h] at n;exact n
  ·rw[decide_eq_false h] at n;exact n
 ·rw[y6 ws λw=>decide (w∈os)]
  generalize hth:(ws.filter λw=>decide (w∈os))=th at *
  have lth:th.length<=900000:=by rw[← hth];exact Xa (Yt _ _) hl
  walk_at "go"
  refine vG (λd=>match d with
   | .str w=>if ltS l w then some (.str w) else none
   | _=>none) (by rw[Wf];omega) (λd hd μ' _ N n=>?_) ?_
  ·obtain ⟨w,hw,rfl⟩:=Wg.mp hd
   walk_at "go"
   dsimp only at n
   refine OI (λh=>?_) λh=>?_
   ·rw[h] at n;exact n
   ·rw[h] at n;exact n
  ·rw[y6 th λw=>ltS l w]
   unfold pD at hn
   rw[hth] at hn
   walk_at "go"
   cases e:th.filter λw=>ltS l w with
   | nil=>
    rw[e] at hn
    have hn:th.head? = some n:=hn
    cases th with
    | nil=>cases hn
    | cons x r=>
    cases hn
    walk_at "go"
    show kIf false _ _
    walk_at "go"
    exact ⟨_,.refl _,k⟩
   | cons x r=>
    rw[e] at hn
    have hn:some x=some n:=hn
    cases hn
    walk_at "go"
    refine cv (by simp) ?_
    exact ⟨_,.refl _,k⟩
def at1 (n:Str)(st:List Lt):Nat:=st.findIdx λx=>decide (x.nm=n)
def ff (ws:List Str)(p:Int):Nat->List Lt->List Lt->Str->List Lt×List Lt×Str
 | 0,st,out,l=>(out,st,l)
 | f+1,st,out,l=>if 0 < st.length/\(out.length:Int) < p then (match pD ws (st.map Lt.nm) l with
   | some n=>(match st[at1 n st]? with
    | some x=>ff ws p f (st.eraseIdx (at1 n st)) (out++[x]) n
    | none=>(out,st,l))
   | none=>(out,st,l)) else (out,st,l)
theorem JW {n:Str}{st:List Lt}(h:n∈st.map Lt.nm):at1 n st < st.length:=by
 obtain ⟨x,hx,rfl⟩:=Wg.mp h
 exact List.findIdx_lt_length_of_exists ⟨x,hx,by simp⟩
theorem u5 {α β:Type}(f:α->β):∀ (l:List α) (i:Nat),(l.map f).eraseIdx i=(l.eraseIdx i).map f
 | [],_=>by simp
 | _::_,0=>rfl
 | a::l,i+1=>by simp[u5 f l i]
theorem QF {n:Str}{st:List Lt}(h:n∈st.map Lt.nm):oq ((st.map Lt.nm).map .str) (.str n)=some (at1 n st):=by
 unfold oq
 have hl:=JW h
 rw[Yu]
 have e1:∀ m (hm:m < ((st.map Lt.nm).map D.str).length),eqD ((st.map Lt.nm).map D.str)[m] (.str n)=decide ((st[m]'(by simpa using hm)).nm=n):=by
  intro m hm
  simp[fB]
 refine ⟨by simpa using hl,?_,λj hj=>?_⟩
 ·rw[e1]
  have hl':(st.findIdx λx=>decide (x.nm=n)) < st.length:=hl
  have:=List.findIdx_getElem (xs:=st) (p:=λx=>decide (x.nm=n)) (w:=hl')
  exact this
 ·rw[e1]
  have:=List.not_of_lt_findIdx (xs:=st) (p:=λx=>decide (x.nm=n)) hj
  simpa using this
theorem AY {ws:List Str}{p:Int}{f:Nat}{st out:List Lt}{l:Str}(h:¬ (0 < st.length/\(out.length:Int) < p)):ff ws p f st out l=(out,st,l):=by
 cases f with
 | zero=>rfl
 | succ f=>unfold ff;rw[if_neg h]
theorem Ks {ws:List Str}{p:Int}{f:Nat}{st out:List Lt}{l n:Str}{x:Lt}(h:0 < st.length/\(out.length:Int) < p)(hn:pD ws (st.map Lt.nm) l=some n)(hx:st[at1 n st]? = some x) :
  ff ws p (f+1) st out l=ff ws p f (st.eraseIdx (at1 n st)) (out++[x]) n:=by
 conv=>lhs;unfold ff
 rw[if_pos h,hn]
 dsimp only
 rw[hx]
theorem MU {n k:Nat}(h:k < n):L2.ixN n (k:Int)=some k:=by rw[NR,if_pos h]
def oi (ws:List Str)(st:List Lt):Prop:=∀ x∈st,x.nm∈ws
def eu:FSp:=λds μ Q=>kcA ds λwd ds=>kcA ds λd ds=>kcT ds λst' ds=>kcS ds λl ds=>kcN ds (∃ (w:Wy) (ws:List Str) (st:List Lt),(wd=w.toD/\(d=.tup (ws.map .str)∨d=.ls (ws.map .str))/\st'=ltD st/\(∀ x∈ws,Wj x=true)/\oi ws st/\ws.length<=900000/\st.length<=900000)/\
   Q (.tup [.tup (ltD (ff ws w.pc st.length st [] l).1),.tup (ltD (ff ws w.pc st.length st [] l).2.1),.str (ff ws w.pc st.length st [] l).2.2]) μ)
theorem nM:∀ ds μ Q,eu ds μ Q->ds.length=4:=λ_ _ _ h=>lcA h λ_ _ h=>lcA h λ_ _ h=>lcT h λ_ _ h=>lcS h λ_ _ h=>by rw[(ecN h).1];rfl
def kj:STr:=aB (aO (au jW (af (ah 2) (aq))) (aA 4)) (aB (aO (mT (aq)) (aA 5)) (aB (aO (ah 3) (aA 6)) (aB (wU (mG (TB (aj rGt (au dB (af (ah 4) (aq))) (TC (.int 0)))) (TB (aj rLt (au dB (af (ah 5) (aq))) (aj L3.rIx (ah 0) (TC (.int 1)))))) (aB (aO (kl (ah 4) (aA 0) (fe) (aj L3.rIx (ah 0) (TC (.int 0))) 1 []) (aA 7)) (aB (aO (au fU (af (ah 1) (af (ah 7) (af (ah 6) (aq))))) (aA 6)) (fv (nz (ah 5) (RJ (ah 4) (CS (ah 7) (ah 6)))))))) (aW (bf (af (au bF (af (ah 5) (aq))) (af (au bF (af (ah 4) (aq))) (af (ah 6) (aq)))))))))
theorem qh:∀ ds μ Q,eu ds μ Q->kj { nx:=λ_ μ'=>RT Q .non μ',rt:=RT Q } (ini 8 ds) μ:=by
 intro ds μ Q h
 replace h:=ecA h
 obtain ⟨wd,ds,rfl,h⟩:=h
 replace h:=ecA h
 obtain ⟨d,ds,rfl,h⟩:=h
 replace h:=ecT h
 obtain ⟨st',ds,rfl,h⟩:=h
 replace h:=ecS h
 obtain ⟨l,ds,rfl,h⟩:=h
 replace h:=ecN h
 obtain ⟨rfl,h⟩:=h
 walk_at "ini"
 unfold kj
 walk_at "go"
 obtain ⟨w,ws,st,⟨rfl,hd,rfl,hw,hs,hl1,hl2⟩,k⟩:=h
 intro p hp
 walk_at "go"
 intro q hq
 have qp:q≠p:=λz=>by subst z;rw[aK] at hq;cases hq
 have hqn:μ q=none:=by rw[aY qp] at hq;exact hq
 walk_at "go"
 refine ⟨λρ μ'=>∃ (a o:List Lt) (n:Str) (v7:Option D) (f:Nat),ρ=[some w.toD,some d,some (.tup (ltD st)),some (.str l),some (.obj p),some (.obj q),some (.str n),v7]/\μ' p=some (.lst (ltD a))/\μ' q=some (.lst (ltD o))/\Sub μ μ'/\ff ws w.pc f a o n=ff ws w.pc st.length st [] l/\a.length<=f/\a.length+o.length<=900000/\oi ws a,
  λ_ μ'=>match μ' p with
   | some (.lst ds)=>ds.length
   | _=>0,⟨st,[],l,_,st.length,rfl,by rw[aY (WY qp),aK],aK,(Sub.new hp).trans (Sub.new hq),rfl,WA _,by simpa using hl2,hs⟩,?_⟩
 rintro ρ μ' ⟨a,o,n,v7,f,rfl,ep,eq,sb,e,hf,hz,ha⟩
 have fin:¬ (0 < a.length/\(o.length:Int) < w.pc)->RT Q (.tup [.tup (ltD o),.tup (ltD a),.str n]) μ':=λhn=>by
  rw[AY hn] at e
  rw[← e] at k
  exact ⟨_,sb,k⟩
 walk_at "go"
 refine br ep ?_
 walk_at "go"
 rw[Wf]
 refine kif (λh1=>?_) λh1=>?_
 rotate_left
 ·refine br eq ?_
  walk_at "go"
  refine br ep ?_
  walk_at "go"
  exact fin λh=>h1 (by have:=h.1;omega)
 walk_at "go"
 refine br eq ?_
 walk_at "go"
 rw[Wf]
 refine kif (λh2=>?_) λh2=>?_
 rotate_left
 ·refine br eq ?_
  walk_at "go"
  refine br ep ?_
  walk_at "go"
  exact fin λh=>h2 h.2
 walk_at "go"
 refine br ep ?_
 refine E2 ep (λd=>match d with
  | .tup (x::_)=>x
  | _=>.non) (by rw[Wf];omega) (λd hd μ2 _ N n=>?_) ?_
 ·obtain ⟨x,hx,rfl⟩:=Wg.mp hd
  walk_at "go"
  exact n
 have em:(ltD a).map (λd=>match d with
  | .tup (x::_)=>x
  | _=>D.non)=(a.map Lt.nm).map .str:=by rw[Wq,Wq];rfl
 rw[em]
 walk_at "go"
 cases a with
 | nil=>simp at h1
 | cons x0 a0=>
 have h0:=ha x0 Wu
 obtain ⟨n2,hn2⟩:=CJ (l:=n) h0 (show x0.nm∈(x0::a0).map Lt.nm from Wu)
 generalize hA:x0::a0=A at *
 have hos:∀ z∈A.map Lt.nm,Wj z=true:=λz hz=>by
  obtain ⟨y,hy,rfl⟩:=Wg.mp hz
  exact hw _ (ha y hy)
 refine ⟨ws,A.map Lt.nm,n2,⟨hd,rfl,hw,hos,hl1,hn2⟩,?_⟩
 walk_at "go"
 have hin:=zR hn2
 have hi:=JW hin.2
 refine br eq ?_
 walk_at "go"
 refine br ep ?_
 walk_at "go"
 rw[C2 hos,hw _ hin.1,QF hin.2]
 simp only[true_and]
 walk_at "go"
 refine ⟨by omega,⟨by omega,by omega⟩,br ep ?_⟩
 rw[Wf,MU hi]
 walk_at "go"
 obtain ⟨x,hx⟩:∃ x,A[at1 n2 A]? = some x:=⟨A[at1 n2 A],Wz hi⟩
 rw[Xh,hx]
 walk_at "go"
 refine br (by rw[aY qp];exact eq) ⟨by simp;omega,?_⟩
 cases f with
 | zero=>omega
 | succ f=>
 rw[Ks ⟨by omega,h2⟩ hn2 hx] at e
 have le:(A.eraseIdx (at1 n2 A)).length=A.length - 1:=List.length_eraseIdx_of_lt hi
 refine ⟨⟨A.eraseIdx (at1 n2 A),o++[x],n2,_,f,rfl,?_,?_,?_,e,by omega,by simp;omega,λy hy=>ha y (List.mem_of_mem_eraseIdx hy)⟩,?_⟩
 ·rw[aY (WY qp),aK,u5]
 ·rw[aK];simp[ltD]
 ·intro z u h
  rw[aY (λe=>by subst e;rw[hqn] at h;cases h),aY (λe=>by subst e;rw[hp] at h;cases h)]
  exact sb z u h
 ·rw[aY (WY qp),aK,ep]
  simp[List.length_eraseIdx,hi]
  omega
def dI (w:Wy)(ws:List Str)(st:List Lt)(l:Str):List Lt×List Lt×Str:=if w.tn then ff ws w.pc st.length st [] l else (st.take w.pc.toNat,st.drop w.pc.toNat,OF "")
theorem Lf (b:Bool):Wj (zm b)=true:=by cases b<;>decide +kernel
theorem Ib:Wj (OF "turns")=true:=by decide +kernel
theorem Qt (b:Bool):decide (zm b=OF "turns")=b:=by cases b<;>decide +kernel
def jt:FSp:=λds μ Q=>kcA ds λwd ds=>kcA ds λd ds=>kcT ds λst' ds=>kcS ds λl ds=>kcN ds (∃ (w:Wy) (ws:List Str) (st:List Lt),(wd=w.toD/\(w.tn=true->(d=.tup (ws.map .str)∨d=.ls (ws.map .str))/\(∀ x∈ws,Wj x=true)/\oi ws st/\ws.length<=900000)/\st'=ltD st/\st.length<=900000/\0<=w.pc)/\
   Q (.tup [.tup (ltD (dI w ws st l).1),.tup (ltD (dI w ws st l).2.1),.str (dI w ws st l).2.2]) μ)
theorem Ac:∀ ds μ Q,jt ds μ Q->ds.length=4:=λ_ _ _ h=>lcA h λ_ _ h=>lcA h λ_ _ h=>lcT h λ_ _ h=>lcS h λ_ _ h=>by rw[(ecN h).1];rfl
def u6:STr:=aB (bI (TB (aj rEq (aj L3.rIx (ah 0) (TC (.int 4))) (TC (.str "turns")))) (aW (au eu (af (ah 0) (af (ah 1) (af (ah 2) (af (ah 3) (aq))))))) (a8)) (aW (bf (af (au bF (af (TSl (ah 2) (ONo) (j8 (aj L3.rIx (ah 0) (TC (.int 1))))) (aq))) (af (au bF (af (TSl (ah 2) (j8 (aj L3.rIx (ah 0) (TC (.int 1)))) (ONo)) (aq))) (af (TC (.str "")) (aq))))))
theorem Bi:∀ ds μ Q,jt ds μ Q->u6 { nx:=λ_ μ'=>RT Q .non μ',rt:=RT Q } (ini 4 ds) μ:=by
 intro ds μ Q h
 replace h:=ecA h
 obtain ⟨wd,ds,rfl,h⟩:=h
 replace h:=ecA h
 obtain ⟨d,ds,rfl,h⟩:=h
 replace h:=ecT h
 obtain ⟨st',ds,rfl,h⟩:=h
 replace h:=ecS h
 obtain ⟨l,ds,rfl,h⟩:=h
 replace h:=ecN h
 obtain ⟨rfl,h⟩:=h
 walk_at "ini"
 unfold u6
 walk_at "go"
 obtain ⟨w,ws,st,⟨rfl,ht,rfl,hl,hp⟩,k⟩:=h
 walk_at "go"
 rw[Lf,Ib,Qt]
 unfold dI at k
 refine ⟨⟨rfl,rfl⟩,?_⟩
 cases e:w.tn with
 | true=>
  rw[e,if_pos rfl] at k
  obtain ⟨h1,h2,h3,h4⟩:=ht e
  walk_at "go"
  exact ⟨w,ws,st,⟨rfl,h1,rfl,h2,h3,h4,hl⟩,_,.refl _,k⟩
 | false=>
  rw[e,if_neg (by decide)] at k
  walk_at "go"
  rw[VJ _ hp,U7 _ hp,Nf,LP]
  exact ⟨_,.refl _,k⟩
def cc:FSp:=λds μ Q=>kcI ds λa ds=>kcI ds λb ds=>kcN ds ((0<=a/\0 < b/\gw b)/\Q (fr (a.fdiv (WV a b)) (b.fdiv (WV a b))) μ)
theorem CG:∀ ds μ Q,cc ds μ Q->ds.length=2:=λ_ _ _ h=>lcI h λ_ _ h=>lcI h λ_ _ h=>by rw[(ecN h).1];rfl
def yq:STr:=aB (qB 2 3 (af (ah 0) (af (ah 1) (aq)))) (aB (wU (TB (aj rGt (ah 3) (TC (.int 0)))) (qB 2 3 (af (ah 3) (af (aj mN (ah 2) (ah 3)) (aq))))) (aW (bf (af (aj oa (ah 0) (ah 2)) (af (aj oa (ah 1) (ah 2)) (aq))))))
theorem EZ:∀ ds μ Q,cc ds μ Q->yq { nx:=λ_ μ'=>RT Q .non μ',rt:=RT Q } (ini 4 ds) μ:=by
 intro ds μ Q h
 replace h:=ecI h
 obtain ⟨a,ds,rfl,h⟩:=h
 replace h:=ecI h
 obtain ⟨b,ds,rfl,h⟩:=h
 replace h:=ecN h
 obtain ⟨rfl,h⟩:=h
 walk_at "ini"
 unfold yq
 walk_at "go"
 obtain ⟨⟨a0,b0,b1⟩,k⟩:=h
 refine ⟨λρ μ'=>μ'=μ/\∃ x y:Int,ρ=[some (.int a),some (.int b),some (.int x),some (.int y)]/\0<=x/\0<=y/\WV x y=WV a b,mz 3,⟨rfl,a,b,rfl,a0,by omega,rfl⟩,?_⟩
 rintro ρ _ ⟨rfl,x,y,rfl,x0,y0,e⟩
 walk_at "go"
 refine kif (λhy=>?_) λhy=>?_
 ·walk_at "go"
  refine ⟨by omega,⟨_,_,rfl,y0,fm0 hy,?_⟩,?_⟩
  ·rw[xZ];exact e
  ·have:=fm1 (a:=x) hy
   have:=fm0 (a:=x) hy
   simp only[mz,lk]
   omega
 ·have hy0:y=0:=by omega
  subst hy0
  rw[zcF] at e
  have hx:x=(WV a b:Int):=by omega
  subst hx
  have gp:0 < WV a b:=Yg a (by omega)
  have gl:(WV a b:Int)<=b:=Int.gcd_le_right a b0
  have dv:kC (WV a b:Int):=⟨by omega,by unfold gw at *;omega⟩
  walk_at "go"
  exact ⟨dv,dv,_,.refl _,k⟩
def cS:FSp:=λds μ Q=>kcO ds λb ds=>kcI ds λlo ds=>kcI ds λhi ds=>kcN ds ((Pot μ b/\0<=lo/\lo<=hi/\hi<=60)/\∀ p q μ',FrB lo hi p q->q<=7->dS b μ μ'->Q (fr p q) μ')
theorem ue:∀ ds μ Q,cS ds μ Q->ds.length=3:=λ_ _ _ h=>lcO h λ_ _ h=>lcI h λ_ _ h=>lcI h λ_ _ h=>by rw[(ecN h).1];rfl
def o7:STr:=aB (aO (aj L3.rIx (fc (af (TC (.int 1)) (af (TC (.int 1)) (af (TC (.int 2)) (af (TC (.int 3)) (af (TC (.int 5)) (af (TC (.int 7)) (aq)))))))) (au aC (af (ah 0) (af (TC (.int 6)) (aq))))) (aA 3)) (aW (au cc (af (aj aV (aj eP (ah 1) (ah 3)) (au aC (af (ah 0) (af (aj aV (aj eP (aj kg (ah 2) (ah 1)) (ah 3)) (TC (.int 1))) (aq))))) (af (ah 3) (aq)))))
theorem vD:∀ ds μ Q,cS ds μ Q->o7 { nx:=λ_ μ'=>RT Q .non μ',rt:=RT Q } (ini 4 ds) μ:=by
 intro ds μ Q h
 replace h:=ecO h
 obtain ⟨b,ds,rfl,h⟩:=h
 replace h:=ecI h
 obtain ⟨lo,ds,rfl,h⟩:=h
 replace h:=ecI h
 obtain ⟨hi,ds,rfl,h⟩:=h
 replace h:=ecN h
 obtain ⟨rfl,h⟩:=h
 walk_at "ini"
 unfold o7
 walk_at "go"
 obtain ⟨⟨hP,l0,l1,l2⟩,k⟩:=h
 refine aX hP (by decide) (by decide) λk1 μ1 k10 k11 P1=>?_
 have al:∀ d∈([.int 1,.int 1,.int 2,.int 3,.int 5,.int 7]:List D),IsI 1 7 d:=aH ⟨_,rfl,by decide,by decide⟩ (aH ⟨_,rfl,by decide,by decide⟩ (aH ⟨_,rfl,by decide,by decide⟩ (aH ⟨_,rfl,by decide,by decide⟩ (aH ⟨_,rfl,by decide,by decide⟩ (aH ⟨_,rfl,by decide,by decide⟩ eV)))))
 obtain ⟨_,e1,m,rfl,m0,m1⟩:=fi al k10 k11
 walk_at "go"
 rw[e1]
 walk_at "go"
 have sm:S64 m:=by unfold S64;omega
 have n1:0<=(hi - lo)*m:=YM (by omega) (by omega)
 have n2:(hi - lo)*m<=60*7:=zdP (by omega) (by omega) (by omega) (by decide)
 refine ⟨.inl (.inr sm),.inl (.inr sm),?_⟩
 refine aX P1.pot (by omega) (by omega) λk2 μ2 k20 k21 P2=>?_
 walk_at "go"
 have n3:0<=lo*m:=YM l0 (by omega)
 have e2:(hi - lo)*m=hi*m - lo*m:=zaI hi lo m
 refine ⟨⟨by omega,by omega,by unfold gw;omega⟩,_,.refl _,k _ _ μ2 (Gy (by omega) (by omega) (by omega) (by omega)) ?_ (P1.trans P2)⟩
 obtain ⟨g,p,q,g0,ea,eb,ep,eq,q0,qb,gg⟩:=kW (a:=lo*m+k2) (show 0 < m by omega)
 rw[eq];omega
theorem Fw (w:Wd)(i:Decidable (w.str=OF "still")):@decide (w.str=OF "still") i=decide (w=.gZ):=by
 have e:(w.str=OF "still")↔w=.gZ:=by cases w<;>simp[Wd.str,dU,dk,d8,dN,dR,dX,eT,eO,dj,dQ,d9,dZ,dW,eS,dY,eX,d7,fb,ef,eQ]
 cases i with
 | isTrue h=>exact (decide_eq_true (e.mp h)).symm
 | isFalse h=>exact (decide_eq_false λz=>h (e.mpr z)).symm
theorem JU (w:Wd)(i:Decidable (w.str=OF "step")):@decide (w.str=OF "step") i=decide (w=.step):=by
 have e:(w.str=OF "step")↔w=.step:=by cases w<;>simp[Wd.str,dU,dk,d8,dN,dR,dX,eT,eO,dj,dQ,d9,dZ,dW,eS,dY,eX,d7,fb,ef,eQ]
 cases i with
 | isTrue h=>exact (decide_eq_true (e.mp h)).symm
 | isFalse h=>exact (decide_eq_false λz=>h (e.mpr z)).symm
theorem Ep (w:Wd)(i:Decidable (w.str=OF "swell")):@decide (w.str=OF "swell") i=decide (w=.jz):=by
 have e:(w.str=OF "swell")↔w=.jz:=by cases w<;>simp[Wd.str,dU,dk,d8,dN,dR,dX,eT,eO,dj,dQ,d9,dZ,dW,eS,dY,eX,d7,fb,ef,eQ]
 cases i with
 | isTrue h=>exact (decide_eq_true (e.mp h)).symm
 | isFalse h=>exact (decide_eq_false λz=>h (e.mpr z)).symm
theorem Il (w:Wd)(i:Decidable (w.str=OF "heed")):@decide (w.str=OF "heed") i=decide (w=.lS):=by
 have e:(w.str=OF "heed")↔w=.lS:=by cases w<;>simp[Wd.str,dU,dk,d8,dN,dR,dX,eT,eO,dj,dQ,d9,dZ,dW,eS,dY,eX,d7,fb,ef,eQ]
 cases i with
 | isTrue h=>exact (decide_eq_true (e.mp h)).symm
 | isFalse h=>exact (decide_eq_false λz=>h (e.mpr z)).symm
theorem PB (w:Wd):Wj w.str=true:=by cases w<;>simp[Wd.str,oA,r8,nN,sI,tO]
theorem Og {lo hi hi' p q:Int}(h:FrB lo hi p q)(hh:hi<=hi'):FrB lo hi' p q:=⟨h.q0,h.q1,h.g,h.ge,by have:=h.le;have:=WI hh (zbs h.q0);omega⟩
def j2:FSp:=λds μ Q=>kcO ds λb ds=>kcI ds λm ds=>kcN ds ((Pot μ b/\1<=m/\m<=60)/\∀ (R:RN) μ',R.Ok->R.r<=m*R.s->dS b μ μ'->Q R.toD μ')
theorem Ej:∀ ds μ Q,j2 ds μ Q->ds.length=2:=λ_ _ _ h=>lcO h λ_ _ h=>lcI h λ_ _ h=>by rw[(ecN h).1];rfl
def lR:STr:=aB (aO (aj aV (TC (.int 1)) (au aC (af (ah 0) (af (TC (.int 5)) (aq))))) (aA 5)) (aB (aO (au cc (af (aj aV (TC (.int 1)) (au aC (af (ah 0) (af (aj eP (TC (.int 2)) (ah 5)) (aq))))) (af (ah 5) (aq)))) (aA 6)) (aB (aO (au cc (af (aj aV (TC (.int 1)) (au aC (af (ah 0) (af (ah 5) (aq))))) (af (aj aV (ah 5) (TC (.int 1))) (aq)))) (aA 7)) (aB (bI (TB (aj rEq (ah 2) (TC (.str "still")))) (aW (bf (af (ah 2) (af (ah 3) (aq))))) (a8)) (aB (bI (TB (aj rEq (ah 2) (TC (.str "step")))) (aW (bf (af (ah 2) (af (ah 3) (af (ah 6) (af (ah 7) (af (ah 4) (aq)))))))) (a8)) (aB (bI (TB (aj rEq (ah 2) (TC (.str "swell")))) (aW (bf (af (ah 2) (af (ah 3) (af (au cc (af (aj aV (aj L3.rIx (ah 6) (TC (.int 0))) (aj L3.rIx (ah 6) (TC (.int 1)))) (af (aj L3.rIx (ah 6) (TC (.int 1))) (aq)))) (af (ah 7) (af (ah 4) (aq)))))))) (a8)) (aB (bI (TB (aj rEq (ah 2) (TC (.str "heed")))) (aW (bf (af (ah 2) (af (ah 3) (af (ah 6) (af (au cc (af (aj aV (TC (.int 1)) (au aC (af (ah 0) (af (ah 5) (aq))))) (af (ah 5) (aq)))) (af (ah 4) (aq)))))))) (a8)) (aB (aO (au aC (af (ah 0) (af (TC (.int 4)) (aq)))) (aA 8)) (aW (bf (af (ah 2) (af (ah 3) (af (ah 6) (af (ah 8) (af (aj aV (ah 8) (au aC (af (ah 0) (af (TC (.int 5)) (aq))))) (af (ah 4) (aq))))))))))))))))
def De:STr:=aB (aO (aj L3.rIx (fc (af (TC (.str "still")) (af (TC (.str "step")) (af (TC (.str "swell")) (af (TC (.str "heed")) (af (TC (.str "calm")) (aq))))))) (au aC (af (ah 0) (af (TC (.int 5)) (aq))))) (aA 2)) (aB (qB 3 4 (af (au cS (af (ah 0) (af (TC (.int 1)) (af (ah 1) (aq))))) (af (au cS (af (ah 0) (af (TC (.int 1)) (af (ah 1) (aq))))) (aq)))) (aB (bI (TB (aj rGt (aj eP (aj L3.rIx (ah 3) (TC (.int 0))) (aj L3.rIx (ah 4) (TC (.int 1)))) (aj eP (aj L3.rIx (ah 4) (TC (.int 0))) (aj L3.rIx (ah 3) (TC (.int 1)))))) (qB 3 4 (af (ah 4) (af (ah 3) (aq)))) (a8)) (lR)))
theorem GL:∀ ds μ Q,j2 ds μ Q->De { nx:=λ_ μ'=>RT Q .non μ',rt:=RT Q } (ini 9 ds) μ:=by
 intro ds μ Q h
 replace h:=ecO h
 obtain ⟨b,ds,rfl,h⟩:=h
 replace h:=ecI h
 obtain ⟨m,ds,rfl,h⟩:=h
 replace h:=ecN h
 obtain ⟨rfl,h⟩:=h
 walk_at "ini"
 unfold De
 walk_at "go"
 obtain ⟨⟨hP,m0,m1⟩,k⟩:=h
 refine aX hP (by decide) (by decide) λk1 μ1 k10 k11 P1=>?_
 have al:∀ d∈([.str "still", .str "step", .str "swell", .str "heed", .str "calm"]:List D),∃ w:Wd,d=.str w.str:=aH ⟨.gZ,rfl⟩ (aH ⟨.step,rfl⟩ (aH ⟨.jz,rfl⟩ (aH ⟨.lS,rfl⟩ (aH ⟨.calm,rfl⟩ eV))))
 obtain ⟨_,e1,wd,rfl⟩:=fi al k10 k11
 walk_at "go"
 rw[e1]
 walk_at "go"
 refine ⟨⟨P1.pot,by decide,by omega,by omega⟩,λp q μ2 F1 q7 P2=>?_⟩
 walk_at "go"
 refine ⟨⟨P2.pot,by decide,by omega,by omega⟩,λr s μ3 F2 s7 P3=>?_⟩
 have sq:S64 q:=by have:=F1.q0;unfold S64;omega
 have ss:S64 s:=by have:=F2.q0;unfold S64;omega
 simp only[fr]
 walk_at "go"
 refine ⟨.inl (.inr ss),.inl (.inr sq),?_⟩
 have big:∀ (p q r s:Int) (μ3:Mu) (v5 v6 v7 v8:Option D),dS b μ μ3->FrB 1 m p q->FrB 1 m r s->p*s<=r*q->
   lR { nx:=λ_ μ'=>RT Q .non μ',rt:=RT Q } [some (.obj b),some (.int m),some (.str wd.str),some (.tup [.int p,.int q]),some (.tup [.int r,.int s]),v5,v6,v7,v8] μ3:=by
  intro p q r s μ3 v5 v6 v7 v8 P3 F1 F2 wt
  have F1':FrB 1 60 p q:=Og F1 m1
  have F2':FrB 1 60 r s:=Og F2 m1
  have rs:r<=m*s:=F2.le
  have ps:p<=m*q:=F1.le
  unfold lR
  walk_at "go"
  refine aX P3.pot (by decide) (by decide) λn μ4 n0 n1 P4=>?_
  walk_at "go"
  refine ⟨.inl (.inl (by unfold S64;decide)),?_⟩
  refine aX P4.pot (by omega) (by omega) λu μ5 u0 u1 P5=>?_
  walk_at "go"
  refine ⟨⟨by omega,by omega,by unfold gw;omega⟩,?_⟩
  have U:=HU (lo:=0) (hi:=2) (a:=1+u) (b:=1+n) (by omega) (by omega) (by omega) (by omega)
  generalize (1+u).fdiv (WV (1+u) (1+n))=x at *
  generalize (1+n).fdiv (WV (1+u) (1+n))=y at *
  have y0:=U.q0
  have yb:=U.q1
  have xb:=U.le
  have x0:0 < x:=by have:=U.ab;omega
  have U60:FrA 0 60 x y:=⟨⟨U.q0,U.q1,U.g,U.ge,by omega⟩,U.ab⟩
  walk_at "go"
  refine aX P5.pot (by omega) (by omega) λw μ6 w0 w1 P6=>?_
  walk_at "go"
  refine ⟨⟨by omega,by omega,by unfold gw;omega⟩,?_⟩
  have G:=Tj (hi:=1) (a:=1+w) (b:=1+n+1) (by omega) (by omega) (by omega) (by omega)
  generalize (1+w).fdiv (WV (1+w) (1+n+1))=a at *
  generalize (1+n+1).fdiv (WV (1+w) (1+n+1))=c at *
  have G1:=TH G
  have G2:a < c:=by have:=G.be;omega
  have P36:=P3.trans (P4.trans (P5.trans P6))
  walk_at "go"
  simp only[Fw,JU,Ep,Il,PB]
  walk_at "go"
  cases wd with
  | gZ=>
   simp only[reduceCtorEq,decide_true,decide_false]
   walk_at "go"
   have R:RN.Ok ⟨.gZ,p,q,1,1,1,1,0,0,p,q⟩:=⟨F1',F1',W6 _,j7 (by decide) (by decide),nofun,j7 (by decide) (by decide),(λz=>by rcases z with z | z<;>cases z),W6 0,W6 0,(show (0:Int)<=60 by decide),λ_=>⟨rfl,rfl⟩⟩
   exact ⟨_,.refl _,k _ μ6 R ps P36⟩
  | step=>
   simp only[reduceCtorEq,decide_true,decide_false]
   walk_at "go"
   have R:RN.Ok ⟨.step,p,q,x,y,a,c,0,0,r,s⟩:=⟨F1',F2',wt,U60,nofun,G1,λ_=>G2,W6 0,W6 0,(show (0:Int)<=60 by decide),nofun⟩
   exact ⟨_,.refl _,k _ μ6 R rs P36⟩
  | jz=>
   simp only[reduceCtorEq,decide_true,decide_false,fr]
   walk_at "go"
   refine ⟨⟨by omega,y0,by unfold gw;omega⟩,?_⟩
   have V:=HU (lo:=1) (hi:=60) (a:=x+y) (b:=y) y0 yb (by omega) (by omega)
   generalize (x+y).fdiv (WV (x+y) y)=x2 at *
   generalize y.fdiv (WV (x+y) y)=y2 at *
   have v1:=V.ab
   have vq:=V.q0
   have V2:FrA 0 60 x2 y2:=⟨⟨V.q0,V.q1,V.g,by omega,V.le⟩,by omega⟩
   have R:RN.Ok ⟨.jz,p,q,x2,y2,a,c,0,0,r,s⟩:=⟨F1',F2',wt,V2,λ_=>(by show y2 < x2;omega),G1,λ_=>G2,W6 0,W6 0,(show (0:Int)<=60 by decide),nofun⟩
   walk_at "go"
   exact ⟨_,.refl _,k _ μ6 R rs P36⟩
  | lS=>
   simp only[reduceCtorEq,decide_true,decide_false]
   walk_at "go"
   refine aX P6.pot (by omega) (by omega) λz μ7 z0 z1 P7=>?_
   walk_at "go"
   refine ⟨⟨by omega,by omega,by unfold gw;omega⟩,?_⟩
   have V:=HU (lo:=0) (hi:=1) (a:=1+z) (b:=1+n) (by omega) (by omega) (by omega) (by omega)
   generalize (1+z).fdiv (WV (1+z) (1+n))=a2 at *
   generalize (1+n).fdiv (WV (1+z) (1+n))=c2 at *
   have R:RN.Ok ⟨.lS,p,q,x,y,a2,c2,0,0,r,s⟩:=⟨F1',F2',wt,U60,nofun,V,(λz=>by rcases z with z | z<;>cases z),W6 0,W6 0,(show (0:Int)<=60 by decide),nofun⟩
   walk_at "go"
   exact ⟨_,.refl _,k _ μ7 R rs (P36.trans P7)⟩
  | calm=>
   simp only[reduceCtorEq,decide_true,decide_false]
   walk_at "go"
   refine aX P6.pot (by decide) (by decide) λz μ7 z0 z1 P7=>?_
   walk_at "go"
   refine aX P7.pot (by decide) (by decide) λz2 μ8 z20 z21 P8=>?_
   walk_at "go"
   have R:RN.Ok ⟨.calm,p,q,x,y,1,1,z,z+z2,r,s⟩:=⟨F1',F2',wt,U60,nofun,j7 (by decide) (by decide),(λz=>by rcases z with z | z<;>cases z),z0,(by show z<=z+z2;omega),(by show z+z2<=60;omega),nofun⟩
   exact ⟨_,.refl _,k _ μ8 R rs (P36.trans (P7.trans P8))⟩
 have P13:=P1.trans (P2.trans P3)
 refine kif (λh1=>?_) λh1=>?_
 ·walk_at "go"
  exact big r s p q μ3 _ _ _ _ P13 F2 F1 (by omega)
 ·exact big p q r s μ3 _ _ _ _ P13 F1 F2 (by omega)
abbrev wyD (ws:List Wy):List D:=ws.map Wy.toD
structure Sn where
 nm:Str
 rd:List Str
 bt:Int
 bg:Int
 mn:Option Int
 rl:RN
def Sn.toD (x:Sn):D:=.tup [.str x.nm,.tup (x.rd.map .str),.int x.bt,.int x.bg,dJ x.mn,x.rl.toD]
abbrev snD (ss:List Sn):List D:=ss.map Sn.toD
structure Sn.Ok (wn:List Str) (m:Int) (x:Sn):Prop where
 n:Wj x.nm=true
 r0:x.rd≠[]
 r:x.rd.Sublist wn
 b0:1<=x.bt
 b1:x.bt<=8
 g0:0<=x.bg
 g1:x.bg<=1000000
 mm:∀ i,x.mn=some i->0<=i/\i<=1000000
 k:x.rl.Ok
 l:x.rl.r<=m*x.rl.s
structure Pn where
 g:Int
 ws:List Wy
 ss:List Sn
def Pn.toD (p:Pn):D:=.tup [.int p.g,.tup (wyD p.ws),.tup (snD p.ss)]
abbrev Pn.wn (p:Pn):List Str:=p.ws.map Wy.nm
abbrev Pn.sn (p:Pn):List Str:=p.ss.map Sn.nm
structure Pn.Ok (m:Int) (p:Pn):Prop where
 g:Gd p.g
 w0:0 < p.ws.length
 w1:p.ws.length<=6
 wd:p.wn.Nodup
 w:∀ x∈p.ws,x.Ok
 s1:p.ss.length<=8
 sd:p.sn.Pairwise λa b=>ltS a b=true
 s:∀ x∈p.ss,x.Ok p.wn m
theorem NI {a b:Str}(h:a.cps.toList=b.cps.toList):a=b:=by
 cases a with | mk x=>cases b with | mk y=>
 congr 1
 exact Array.toList_inj.mp h
theorem Qx {a b:Str}(h1:ltS b a=false)(h2:a≠b):ltS a b=true:=by
 unfold ltS at *
 rw[decide_eq_false_iff_not,zdq] at h1
 rw[decide_eq_true_eq]
 refine Decidable.byContradiction λh3=>h2 (NI (List.le_antisymm h1 ?_))
 exact zdq.mp h3
theorem pw_strict {l:List Str}(h:l.Pairwise λa b=>ltS b a=false)(hn:l.Nodup):l.Pairwise λa b=>ltS a b=true:=by
 induction h with
 | nil=>exact .nil
 | @cons a l h1 h2 ih=>
  rw[W9] at hn
  exact .cons (λb hb=>Qx (h1 b hb) λe=>hn.1 (e ▸ hb)) (ih hn.2)
def mM:FSp:=λds μ Q=>kcO ds λb ds=>kcL ds λns' ds=>kcN ds (∃ ns:List Str,(Pot μ b/\ns'=ns.map .str/\(∀ n∈ns,n∈c9)/\ns.length<=17)/\∀ (ws:List Wy) μ',ws.map Wy.nm=ns->(∀ w∈ws,w.Ok)->dS b μ μ'->Q (.tup (wyD ws)) μ')
theorem E1:∀ ds μ Q,mM ds μ Q->ds.length=2:=λ_ _ _ h=>lcO h λ_ _ h=>lcL h λ_ _ h=>by rw[(ecN h).1];rfl
def Dm:STr:=aB (aO (mT (aq)) (aA 2)) (aB (iq (eL (ah 1)) (aA 3) (aB (aO (aj L3.rIx (fc (af (TC (.int 1)) (af (TC (.int 1)) (af (TC (.int 2)) (af (TC (.int 3)) (af (aj aV (TC (.int 1)) (au aC (af (ah 0) (af (TC (.int 20)) (aq))))) (aq))))))) (au aC (af (ah 0) (af (TC (.int 5)) (aq))))) (aA 4)) (aB (aO (aj L3.rIx (fc (af (aj aV (TC (.int 1)) (au aC (af (ah 0) (af (TC (.int 3)) (aq))))) (af (aj aV (TC (.int 2)) (au aC (af (ah 0) (af (TC (.int 8)) (aq))))) (af (aj aV (TC (.int 5)) (au aC (af (ah 0) (af (TC (.int 56)) (aq))))) (aq))))) (au aC (af (ah 0) (af (TC (.int 3)) (aq))))) (aA 5)) (aB (aO (aj L3.rIx (fc (af (TC .non) (af (au aC (af (ah 0) (af (aj aV (ah 5) (TC (.int 1))) (aq)))) (af (au aC (af (ah 0) (af (TC (.int 61)) (aq)))) (aq))))) (au aC (af (ah 0) (af (TC (.int 3)) (aq))))) (aA 6)) (fv (nz (ah 2) (bf (af (ah 3) (af (ah 4) (af (ah 5) (af (ah 6) (af (aj L3.rIx (fc (af (TC (.str "line")) (af (TC (.str "turns")) (aq)))) (au aC (af (ah 0) (af (TC (.int 2)) (aq))))) (aq))))))))))))) (aW (au bF (af (ah 2) (aq)))))
theorem Gx:∀ ds μ Q,mM ds μ Q->Dm { nx:=λ_ μ'=>RT Q .non μ',rt:=RT Q } (ini 7 ds) μ:=by
 intro ds μ Q h
 replace h:=ecO h
 obtain ⟨b,ds,rfl,h⟩:=h
 replace h:=ecL h
 obtain ⟨ns',ds,rfl,h⟩:=h
 replace h:=ecN h
 obtain ⟨rfl,h⟩:=h
 walk_at "ini"
 unfold Dm
 walk_at "go"
 obtain ⟨ns,⟨hP,rfl,hn,hl⟩,k⟩:=h
 intro p hp
 have pb:=hP.ne hp
 walk_at "go"
 refine bR (λr ρ μ'=>∃ (ws:List Wy) (rs:List Str) (v3 v4 v5 v6:Option D),r=rs.map .str/\ρ=[some (.obj b),some (.ls (ns.map .str)),some (.obj p),v3,v4,v5,v6]/\μ' p=some (.lst (wyD ws))/\Pot μ' b/\Kp b μ μ'/\(∀ w∈ws,w.Ok)/\ws.map Wy.nm++rs=ns) ?_ ?_ _ _ _ ⟨[],ns,_,_,_,_,rfl,rfl,aK,hP.up pb,Kp.new hp,(λ_ h=>nomatch h),rfl⟩
 ·rintro ρ μ' ⟨ws,rs,v3,v4,v5,v6,er,rfl,ep,P',kp,hw,e⟩
  have:rs=[]:=by cases rs with | nil=>rfl | cons=>cases er
  subst this
  rw[WS] at e
  walk_at "go"
  exact br ep (Lq P' kp λμ2 P2=>k ws μ2 e hw P2)
 ·rintro d r ρ μ' N ⟨ws,rs,v3,v4,v5,v6,er,rfl,ep,P',kp,hw,e⟩ hN
  cases rs with
  | nil=>cases er
  | cons n rs=>
  cases er
  have hnn:n∈c9:=hn n (by rw[← e];simp)
  have hlen:ws.length<=17:=by have:=congrArg X5 e;simp at this;omega
  walk_at "go"
  refine aX P' (by decide) (by decide) λk1 μ1 k10 k11 P1=>?_
  walk_at "go"
  refine aX P1.pot (by decide) (by decide) λk2 μ2 k20 k21 P2=>?_
  have al:∀ d∈([.int 1,.int 1,.int 2,.int 3,.int (1+k1)]:List D),IsI 1 20 d:=aH ⟨_,rfl,by decide,by decide⟩ (aH ⟨_,rfl,by decide,by decide⟩ (aH ⟨_,rfl,by decide,by decide⟩ (aH ⟨_,rfl,by decide,by decide⟩ (aH ⟨_,rfl,by omega,by omega⟩ eV))))
  obtain ⟨_,e1,pc,rfl,pc0,pc1⟩:=fi al k20 k21
  walk_at "go"
  rw[e1]
  walk_at "go"
  refine aX P2.pot (by decide) (by decide) λk3 μ3 k30 k31 P3=>?_
  walk_at "go"
  refine aX P3.pot (by decide) (by decide) λk4 μ4 k40 k41 P4=>?_
  walk_at "go"
  refine aX P4.pot (by decide) (by decide) λk5 μ5 k50 k51 P5=>?_
  walk_at "go"
  refine aX P5.pot (by decide) (by decide) λk6 μ6 k60 k61 P6=>?_
  have al2:∀ d∈([.int (1+k3),.int (2+k4),.int (5+k5)]:List D),IsI 1 60 d:=aH ⟨_,rfl,by omega,by omega⟩ (aH ⟨_,rfl,by omega,by omega⟩ (aH ⟨_,rfl,by omega,by omega⟩ eV))
  obtain ⟨_,e2,rm,rfl,rm0,rm1⟩:=fi al2 k60 k61
  walk_at "go"
  rw[e2]
  walk_at "go"
  refine aX P6.pot (by omega) (by omega) λk7 μ7 k70 k71 P7=>?_
  walk_at "go"
  refine aX P7.pot (by decide) (by decide) λk8 μ8 k80 k81 P8=>?_
  walk_at "go"
  refine aX P8.pot (by decide) (by decide) λk9 μ9 k90 k91 P9=>?_
  have al3:∀ d∈([.non,.int k7,.int k8]:List D),∃ o:Option Int,d=dJ o/\∀ i,o=some i->0<=i/\i<=60:=aH ⟨none,rfl,nofun⟩ (aH ⟨some _,rfl,λi e=>by cases e;omega⟩ (aH ⟨some _,rfl,λi e=>by cases e;omega⟩ eV))
  obtain ⟨_,e3,o,rfl,ho⟩:=fi al3 k90 k91
  walk_at "go"
  rw[e3]
  walk_at "go"
  have P19:=P1.trans (P2.trans (P3.trans (P4.trans (P5.trans (P6.trans (P7.trans (P8.trans P9)))))))
  have ep9:μ9 p=some (.lst (wyD ws)):=by rw[P19.oth p pb];exact ep
  refine br ep9 ?_
  refine aX P9.pot (by decide) (by decide) λk11 μ10 k110 k111 P10=>?_
  have al4:∀ d∈([.str "line", .str "turns"]:List D),∃ t:Bool,d=.str (zm t):=aH ⟨false,rfl⟩ (aH ⟨true,rfl⟩ eV)
  obtain ⟨_,e4,tn,rfl⟩:=fi al4 k110 k111
  walk_at "go"
  rw[e4]
  walk_at "go"
  have ep10:μ10 p=some (.lst (wyD ws)):=by rw[P10.oth p pb];exact ep9
  refine br ep10 ⟨by simp;omega,hN _ _ ⟨ws++[⟨n,pc,rm,o,tn⟩],rs,_,_,_,_,rfl,rfl,?_,P10.pot.up pb,((kp.trans P19.kp).trans P10.kp).put hp,?_,?_⟩⟩
  ·rw[aK];simp[wyD,Wy.toD]
  ·intro x hx
   rcases WZ.mp hx with z | z
   ·exact hw x z
   ·have:x=⟨n,pc,rm,o,tn⟩:=by simpa using z
    subst this
    exact ⟨Gk _ hnn,pc0,pc1,rm0,rm1,ho⟩
  ·rw[← e];simp
theorem sub_snoc {α:Type}{a b:List α}(h:a.Sublist b)(x:α):(a++[x]).Sublist (b++[x]):=h.append (zc1 _)
def jm:FSp:=λds μ Q=>kcO ds λb ds=>kcS ds λn ds=>kcT ds λws' ds=>kcI ds λm ds=>kcN ds (∃ ws:List Wy,(Pot μ b/\n∈c9/\ws'=wyD ws/\(0 < ws.length/\ws.length<=17)/\1<=m/\m<=60)/\∀ (x:Sn) μ',x.Ok (ws.map Wy.nm) m->x.nm=n->dS b μ μ'->Q x.toD μ')
theorem yO:∀ ds μ Q,jm ds μ Q->ds.length=4:=λ_ _ _ h=>lcO h λ_ _ h=>lcS h λ_ _ h=>lcT h λ_ _ h=>lcI h λ_ _ h=>by rw[(ecN h).1];rfl
def jr:STr:=aB (aO (aj L3.rIx (fc (af (TC (.int 1)) (af (TC (.int 1)) (af (TC (.int 2)) (af (TC (.int 3)) (af (aj aV (TC (.int 1)) (au aC (af (ah 0) (af (TC (.int 8)) (aq))))) (aq))))))) (au aC (af (ah 0) (af (TC (.int 5)) (aq))))) (aA 5)) (aB (aO (aj L3.rIx (fc (af (TC .non) (af (TC .non) (af (au aC (af (ah 0) (af (TC (.int 4)) (aq)))) (af (au aC (af (ah 0) (af (TC (.int 40)) (aq)))) (aq)))))) (au aC (af (ah 0) (af (TC (.int 4)) (aq))))) (aA 6)) (aW (bf (af (ah 1) (af (ah 4) (af (ah 5) (af (aj L3.rIx (fc (af (TC (.int 0)) (af (TC (.int 0)) (af (au aC (af (ah 0) (af (TC (.int 3)) (aq)))) (af (au aC (af (ah 0) (af (TC (.int 12)) (aq)))) (aq)))))) (au aC (af (ah 0) (af (TC (.int 4)) (aq))))) (af (ah 6) (af (au j2 (af (ah 0) (af (ah 3) (aq)))) (aq))))))))))
def uS:STr:=aB (aO (au bF (af (bZ (eL (ah 2)) (aA 0) (TB (aj rEq (au aC (af (ah 1) (af (TC (.int 2)) (aq)))) (TC (.int 0)))) (aj L3.rIx (ah 0) (TC (.int 0))) 1 [0]) (aq))) (aA 4)) (aB (bI (TB (aj rEq (au dB (af (ah 4) (aq))) (TC (.int 0)))) (aO (bf (af (aj L3.rIx (aj L3.rIx (ah 2) (au aC (af (ah 0) (af (au dB (af (ah 2) (aq))) (aq))))) (TC (.int 0))) (aq))) (aA 4)) (a8)) (jr))
theorem Bw:∀ ds μ Q,jm ds μ Q->uS { nx:=λ_ μ'=>RT Q .non μ',rt:=RT Q } (ini 7 ds) μ:=by
 intro ds μ Q h
 replace h:=ecO h
 obtain ⟨b,ds,rfl,h⟩:=h
 replace h:=ecS h
 obtain ⟨n,ds,rfl,h⟩:=h
 replace h:=ecT h
 obtain ⟨ws',ds,rfl,h⟩:=h
 replace h:=ecI h
 obtain ⟨m,ds,rfl,h⟩:=h
 replace h:=ecN h
 obtain ⟨rfl,h⟩:=h
 walk_at "ini"
 unfold uS
 walk_at "go"
 obtain ⟨ws,⟨hP,hn,rfl,⟨w0,w1⟩,m0,m1⟩,k⟩:=h
 have rest:∀ (rd:List Str) (μ1:Mu) (v5 v6:Option D),dS b μ μ1->rd≠[]->rd.Sublist (ws.map Wy.nm)->jr { nx:=λ_ μ'=>RT Q .non μ',rt:=RT Q } [some (.obj b),some (.str n),some (.tup (wyD ws)),some (.int m),some (.tup (rd.map .str)),v5,v6] μ1:=by
  intro rd μ0 v5 v6 P0 rd0 rds
  unfold jr
  walk_at "go"
  refine aX P0.pot (by decide) (by decide) λk1 μ1 k10 k11 P1=>?_
  walk_at "go"
  refine aX P1.pot (by decide) (by decide) λk2 μ2 k20 k21 P2=>?_
  have al:∀ d∈([.int 1,.int 1,.int 2,.int 3,.int (1+k1)]:List D),IsI 1 8 d:=aH ⟨_,rfl,by decide,by decide⟩ (aH ⟨_,rfl,by decide,by decide⟩ (aH ⟨_,rfl,by decide,by decide⟩ (aH ⟨_,rfl,by decide,by decide⟩ (aH ⟨_,rfl,by omega,by omega⟩ eV))))
  obtain ⟨_,e1,bt,rfl,bt0,bt1⟩:=fi al k20 k21
  walk_at "go"
  rw[e1]
  walk_at "go"
  refine aX P2.pot (by decide) (by decide) λk3 μ3 k30 k31 P3=>?_
  walk_at "go"
  refine aX P3.pot (by decide) (by decide) λk4 μ4 k40 k41 P4=>?_
  walk_at "go"
  refine aX P4.pot (by decide) (by decide) λk5 μ5 k50 k51 P5=>?_
  have al3:∀ d∈([.non,.non,.int k3,.int k4]:List D),∃ o:Option Int,d=dJ o/\∀ i,o=some i->0<=i/\i<=1000000:=aH ⟨none,rfl,nofun⟩ (aH ⟨none,rfl,nofun⟩ (aH ⟨some _,rfl,λi e=>by cases e;omega⟩ (aH ⟨some _,rfl,λi e=>by cases e;omega⟩ eV)))
  obtain ⟨_,e3,o,rfl,ho⟩:=fi al3 k50 k51
  walk_at "go"
  rw[e3]
  walk_at "go"
  refine aX P5.pot (by decide) (by decide) λk6 μ6 k60 k61 P6=>?_
  walk_at "go"
  refine aX P6.pot (by decide) (by decide) λk7 μ7 k70 k71 P7=>?_
  walk_at "go"
  refine aX P7.pot (by decide) (by decide) λk8 μ8 k80 k81 P8=>?_
  have al4:∀ d∈([.int 0,.int 0,.int k6,.int k7]:List D),IsI 0 1000000 d:=aH ⟨_,rfl,by decide,by decide⟩ (aH ⟨_,rfl,by decide,by decide⟩ (aH ⟨_,rfl,by omega,by omega⟩ (aH ⟨_,rfl,by omega,by omega⟩ eV)))
  obtain ⟨_,e4,bg,rfl,bg0,bg1⟩:=fi al4 k80 k81
  walk_at "go"
  rw[e4]
  walk_at "go"
  refine ⟨⟨P8.pot,m0,m1⟩,λR μ9 K L P9=>?_⟩
  walk_at "go"
  exact ⟨_,.refl _,k ⟨n,rd,bt,bg,o,R⟩ μ9 ⟨Gk _ hn,rd0,rds,bt0,bt1,bg0,bg1,ho,K,L⟩ rfl (P0.trans (P1.trans (P2.trans (P3.trans (P4.trans (P5.trans (P6.trans (P7.trans (P8.trans P9)))))))))⟩
 refine zZ hP (λr zs=>∃ (rd:List Str) (a c:List Wy),zs=rd.map .str/\r=wyD c/\a++c=ws/\rd.Sublist (a.map Wy.nm)) ⟨[],[],ws,rfl,rfl,rfl,zc1 _⟩ (by simp;omega) ?_ ?_
 ·rintro d r zs μ' P' _ ⟨rd,a,c,rfl,er,ea,hs⟩ N hN
  cases c with
  | nil=>cases er
  | cons x c=>
  cases er
  walk_at "go"
  refine aX P' (by decide) (by decide) λk1 μ2 k10 k11 P2=>?_
  walk_at "go"
  refine kif (λ_=>hN (some (.str x.nm)) μ2 ⟨rd++[x.nm],a++[x],c,by simp,rfl,by simp[ea],?_⟩ P2) λ_=>hN none μ2 ⟨rd,a++[x],c,by simp,rfl,by simp[ea],?_⟩ P2
  ·rw[W2];exact sub_snoc hs _
  ·rw[W2];exact hs.trans (zaV _ _)
 ·rintro zs μ1 ⟨rd,a,c,rfl,er,ea,hs⟩ P1
  have:c=[]:=by cases c with | nil=>rfl | cons=>cases er
  subst this
  rw[WS] at ea
  subst ea
  walk_at "go"
  rw[Wf]
  refine kif (λh0=>?_) λh0=>?_
  ·walk_at "go"
   rw[Wf]
   refine aX P1.pot (by omega) (by omega) λk2 μ2 k20 k21 P2=>?_
   have hc:k2.toNat < a.length:=by omega
   walk_at "go"
   rw[Mp k20,Xh,Wz hc]
   walk_at "go"
   simp only[zbC]
   walk_at "go"
   exact rest [a[k2.toNat].nm] μ2 _ _ (P1.trans P2) (by simp) (List.singleton_sublist.mpr (Wg.mpr ⟨_,XB hc,rfl⟩))
  ·exact rest rd μ1 _ _ P1 (λz=>h0 (by rw[z];rfl)) hs
def mZ:FSp:=λds μ Q=>kcO ds λb ds=>kcN ds (Pot μ b/\∀ (p:Pn) (m:Int) μ',p.Ok m->(1<=m/\m<=60)->dS b μ μ'->Q p.toD μ')
theorem EK:∀ ds μ Q,mZ ds μ Q->ds.length=1:=λ_ _ _ h=>lcO h λ_ _ h=>by rw[(ecN h).1];rfl
def DS:STr:=aB (aO (aj L3.rIx (fc (af (TC (.int 1)) (af (TC (.int 2)) (af (TC (.int 3)) (af (aj aV (TC (.int 1)) (au aC (af (ah 0) (af (TC (.int 60)) (aq))))) (aq)))))) (au aC (af (ah 0) (af (TC (.int 4)) (aq))))) (aA 1)) (aB (aO (au mM (af (ah 0) (af (au iS (af (ah 0) (af (aj L3.rIx (fc (af (TC (.int 1)) (af (TC (.int 1)) (af (TC (.int 2)) (af (TC (.int 2)) (af (TC (.int 3)) (af (TC (.int 6)) (aq)))))))) (au aC (af (ah 0) (af (TC (.int 6)) (aq))))) (aq)))) (aq)))) (aA 2)) (aB (aO (aj L3.rIx (fc (af (TC (.int 2)) (af (TC (.int 4)) (af (TC (.int 12)) (af (TC (.int 12)) (af (TC (.int 60)) (aq))))))) (au aC (af (ah 0) (af (TC (.int 5)) (aq))))) (aA 3)) (aB (aO (au iS (af (ah 0) (af (aj L3.rIx (fc (af (TC (.int 0)) (af (TC (.int 1)) (af (TC (.int 1)) (af (TC (.int 2)) (af (TC (.int 2)) (af (TC (.int 3)) (af (TC (.int 3)) (af (TC (.int 8)) (aq)))))))))) (au aC (af (ah 0) (af (TC (.int 8)) (aq))))) (aq)))) (aA 4)) (aW (bf (af (ah 1) (af (ah 2) (af (au bF (af (bZ (eL (au Az (af (ah 4) (aq)))) (aA 0) (fe) (au jm (af (ah 1) (af (ah 0) (af (ah 2) (af (ah 3) (aq)))))) 1 [0,2,3]) (aq))) (aq)))))))))
theorem Gr:∀ ds μ Q,mZ ds μ Q->DS { nx:=λ_ μ'=>RT Q .non μ',rt:=RT Q } (ini 5 ds) μ:=by
 intro ds μ Q h
 replace h:=ecO h
 obtain ⟨b,ds,rfl,h⟩:=h
 replace h:=ecN h
 obtain ⟨rfl,h⟩:=h
 walk_at "ini"
 unfold DS
 walk_at "go"
 obtain ⟨hP,k⟩:=h
 refine aX hP (by decide) (by decide) λk1 μ1 k10 k11 P1=>?_
 walk_at "go"
 refine aX P1.pot (by decide) (by decide) λk2 μ2 k20 k21 P2=>?_
 have al:∀ d∈([.int 1,.int 2,.int 3,.int (1+k1)]:List D),IsI 1 60 d:=aH ⟨_,rfl,by decide,by decide⟩ (aH ⟨_,rfl,by decide,by decide⟩ (aH ⟨_,rfl,by decide,by decide⟩ (aH ⟨_,rfl,by omega,by omega⟩ eV)))
 obtain ⟨_,e1,g,rfl,g0,g1⟩:=fi al k20 k21
 walk_at "go"
 rw[e1]
 walk_at "go"
 refine aX P2.pot (by decide) (by decide) λk3 μ3 k30 k31 P3=>?_
 have al2:∀ d∈([.int 1,.int 1,.int 2,.int 2,.int 3,.int 6]:List D),IsI 1 6 d:=aH ⟨_,rfl,by decide,by decide⟩ (aH ⟨_,rfl,by decide,by decide⟩ (aH ⟨_,rfl,by decide,by decide⟩ (aH ⟨_,rfl,by decide,by decide⟩ (aH ⟨_,rfl,by decide,by decide⟩ (aH ⟨_,rfl,by decide,by decide⟩ eV)))))
 obtain ⟨_,e2,nw,rfl,nw0,nw1⟩:=fi al2 k30 k31
 walk_at "go"
 rw[e2]
 walk_at "go"
 refine ⟨⟨P3.pot,by omega,by omega⟩,λns μ4 ln nd nw' P4=>?_⟩
 walk_at "go"
 refine ⟨ns,⟨P4.pot,rfl,nw',by omega⟩,λws μ5 ew hw P5=>?_⟩
 have lw:(ws.length:Int)=nw:=by have:=congrArg X5 ew;simp at this;omega
 walk_at "go"
 refine aX P5.pot (by decide) (by decide) λk6 μ6 k60 k61 P6=>?_
 have al3:∀ d∈([.int 2,.int 4,.int 12,.int 12,.int 60]:List D),IsI 1 60 d:=aH ⟨_,rfl,by decide,by decide⟩ (aH ⟨_,rfl,by decide,by decide⟩ (aH ⟨_,rfl,by decide,by decide⟩ (aH ⟨_,rfl,by decide,by decide⟩ (aH ⟨_,rfl,by decide,by decide⟩ eV))))
 obtain ⟨_,e3,m,rfl,m0,m1⟩:=fi al3 k60 k61
 walk_at "go"
 rw[e3]
 walk_at "go"
 refine aX P6.pot (by decide) (by decide) λk7 μ7 k70 k71 P7=>?_
 have al4:∀ d∈([.int 0,.int 1,.int 1,.int 2,.int 2,.int 3,.int 3,.int 8]:List D),IsI 0 8 d:=aH ⟨_,rfl,by decide,by decide⟩ (aH ⟨_,rfl,by decide,by decide⟩ (aH ⟨_,rfl,by decide,by decide⟩ (aH ⟨_,rfl,by decide,by decide⟩ (aH ⟨_,rfl,by decide,by decide⟩ (aH ⟨_,rfl,by decide,by decide⟩ (aH ⟨_,rfl,by decide,by decide⟩ (aH ⟨_,rfl,by decide,by decide⟩ eV)))))))
 obtain ⟨_,e4,n8,rfl,n80,n81⟩:=fi al4 k70 k71
 walk_at "go"
 rw[e4]
 walk_at "go"
 refine ⟨⟨P7.pot,by omega,by omega⟩,λsn μ8 ls sd sw P8=>?_⟩
 walk_at "go"
 refine ⟨sn,⟨rfl,by omega⟩,λsn' hp hs=>?_⟩
 have ls':sn'.length=sn.length:=hp.length_eq
 have sd':=pw_strict hs (hp.nodup_iff.mpr sd)
 walk_at "go"
 refine zZ P8.pot (λr zs=>∃ (xs:List Sn) (rs:List Str),zs=snD xs/\r=rs.map .str/\xs.map Sn.nm++rs=sn'/\∀ x∈xs,x.Ok (ws.map Wy.nm) m) ⟨[],sn',rfl,rfl,rfl,λ_ h=>nomatch h⟩ (by rw[Wf];omega) ?_ ?_
 ·rintro d r zs μ' P' _ ⟨xs,rs,rfl,er,ex,hx⟩ N hN
  cases rs with
  | nil=>cases er
  | cons n rs=>
  cases er
  have hn:n∈c9:=sw n (hp.mem_iff.mp (by rw[← ex];simp))
  walk_at "go"
  refine ⟨ws,⟨P',hn,rfl,⟨by omega,by omega⟩,m0,m1⟩,λx μ2 X en P2=>hN (some x.toD) μ2 ⟨xs++[x],rs,by simp[snD],rfl,by rw[← ex];simp[en],λy hy=>?_⟩ P2⟩
  rcases WZ.mp hy with z | z
  ·exact hx y z
  ·have:y=x:=by simpa using z
   subst this;exact X
 ·rintro zs μ9 ⟨xs,rs,rfl,er,ex,hx⟩ P9
  have:rs=[]:=by cases rs with | nil=>rfl | cons=>cases er
  subst this
  rw[WS] at ex
  have lx:xs.length=sn.length:=by have:=congrArg X5 ex;simp at this;omega
  walk_at "go"
  exact ⟨_,.refl _,k ⟨g,ws,xs⟩ m μ9 ⟨⟨g0,g1⟩,(by show 0 < ws.length;omega),(by show ws.length<=6;omega),(by show (ws.map Wy.nm).Nodup;rw[ew];exact nd),hw,(by show xs.length<=8;omega),(by show (xs.map Sn.nm).Pairwise _;rw[ex];exact sd'),hx⟩ ⟨m0,m1⟩ (P1.trans (P2.trans (P3.trans (P4.trans (P5.trans (P6.trans (P7.trans (P8.trans P9))))))))⟩
def fP (a b:Int):D:=fr (a.fdiv (WV a b)) (b.fdiv (WV a b))
theorem Qu (a:Int){b:Int}(b0:0 < b):Vl (fP a b) a b:=QO a b0
theorem Kh {d:D}{a b:Int}(h:Vl d a b):d=fP a b:=h.uniq (Qu a h.b0)
theorem Qq {g:Int}(g0:0 < g):fP 0 g=fr 0 1:=by
 unfold fP
 rw[Int.gcd_zero_left,Int.zero_fdiv]
 have:((g.natAbs:Nat):Int)=g:=by omega
 rw[this,km g0,Int.ediv_self (by omega)]
abbrev di (ns:List Int):List D:=ns.map .int
structure Ws where
 cm:List Lt
 st:List Lt
 la:Str
def Ws.toD (x:Ws):D:=.tup [.tup (ltD x.cm),.tup (ltD x.st),.str x.la]
abbrev wsD (xs:List Ws):List D:=xs.map Ws.toD
structure Ss where
 nm:Str
 du:Option Int
 W:Int
 S:Int
 nx:Int
 lf:Option Int
 ag:List Int
 lo:List Int
 gd:Int
 mk':Int
 wt:Int
def Ss.toD (g:Int)(x:Ss):D:=.tup [.str x.nm,dJ x.du,fP x.W g,fP x.S g,.int x.nx,dJ x.lf,.tup (di x.ag),.tup (di x.lo),.int x.gd,.int x.mk',.int x.wt]
abbrev ssD (g:Int)(xs:List Ss):List D:=xs.map (Ss.toD g)
structure St' where
 ws:List Ws
 ss:List Ss
def St'.toD (g:Int)(x:St'):D:=.tup [.tup (wsD x.ws),.tup (ssD g x.ss)]
def Sn.beg (g:Int)(x:Sn):Ss:=⟨x.nm,some x.bg,x.rl.p*g / x.rl.q,0,0,x.mn,[],[],0,0,0⟩
def Pn.beg (p:Pn):St':=⟨p.ws.map λ_=>⟨[],[],OF ""⟩,p.ss.map (Sn.beg p.g)⟩
theorem UN (x:Sn)(μ:Mu)(Q:DK):L3.rIx x.toD (.int 0) μ Q=Q (.str x.nm) μ:=propext Wi
theorem UJ (x:Sn)(μ:Mu)(Q:DK):L3.rIx x.toD (.int 1) μ Q=Q (.tup (x.rd.map .str)) μ:=propext Wi
theorem U8 (x:Sn)(μ:Mu)(Q:DK):L3.rIx x.toD (.int 2) μ Q=Q (.int x.bt) μ:=propext Wi
theorem Vh (x:Sn)(μ:Mu)(Q:DK):L3.rIx x.toD (.int 3) μ Q=Q (.int x.bg) μ:=propext Wi
theorem Vr (x:Sn)(μ:Mu)(Q:DK):L3.rIx x.toD (.int 4) μ Q=Q (dJ x.mn) μ:=propext Wi
theorem Vu (x:Sn)(μ:Mu)(Q:DK):L3.rIx x.toD (.int 5) μ Q=Q (x.rl.toD) μ:=propext Wi
theorem U4 (x:Pn)(μ:Mu)(Q:DK):L3.rIx x.toD (.int 0) μ Q=Q (.int x.g) μ:=propext Wi
theorem Vq (x:Pn)(μ:Mu)(Q:DK):L3.rIx x.toD (.int 1) μ Q=Q (.tup (wyD x.ws)) μ:=propext Wi
theorem VL (x:Pn)(μ:Mu)(Q:DK):L3.rIx x.toD (.int 2) μ Q=Q (.tup (snD x.ss)) μ:=propext Wi
theorem UT (x:Ws)(μ:Mu)(Q:DK):L3.rIx x.toD (.int 0) μ Q=Q (.tup (ltD x.cm)) μ:=propext Wi
theorem VA (x:Ws)(μ:Mu)(Q:DK):L3.rIx x.toD (.int 1) μ Q=Q (.tup (ltD x.st)) μ:=propext Wi
theorem Vd (x:Ws)(μ:Mu)(Q:DK):L3.rIx x.toD (.int 2) μ Q=Q (.str x.la) μ:=propext Wi
theorem UW (g:Int)(x:Ss)(μ:Mu)(Q:DK):L3.rIx (x.toD g) (.int 0) μ Q=Q (.str x.nm) μ:=propext Wi
theorem VO (g:Int)(x:Ss)(μ:Mu)(Q:DK):L3.rIx (x.toD g) (.int 1) μ Q=Q (dJ x.du) μ:=propext Wi
theorem Vx (g:Int)(x:Ss)(μ:Mu)(Q:DK):L3.rIx (x.toD g) (.int 2) μ Q=Q (fP x.W g) μ:=propext Wi
theorem US (g:Int)(x:Ss)(μ:Mu)(Q:DK):L3.rIx (x.toD g) (.int 3) μ Q=Q (fP x.S g) μ:=propext Wi
theorem UM (g:Int)(x:Ss)(μ:Mu)(Q:DK):L3.rIx (x.toD g) (.int 4) μ Q=Q (.int x.nx) μ:=propext Wi
theorem V0 (g:Int)(x:Ss)(μ:Mu)(Q:DK):L3.rIx (x.toD g) (.int 5) μ Q=Q (dJ x.lf) μ:=propext Wi
theorem UQ (g:Int)(x:Ss)(μ:Mu)(Q:DK):L3.rIx (x.toD g) (.int 6) μ Q=Q (.tup (di x.ag)) μ:=propext Wi
theorem V4 (g:Int)(x:Ss)(μ:Mu)(Q:DK):L3.rIx (x.toD g) (.int 7) μ Q=Q (.tup (di x.lo)) μ:=propext Wi
theorem Vn (g:Int)(x:Ss)(μ:Mu)(Q:DK):L3.rIx (x.toD g) (.int 8) μ Q=Q (.int x.gd) μ:=propext Wi
theorem VP (g:Int)(x:Ss)(μ:Mu)(Q:DK):L3.rIx (x.toD g) (.int 9) μ Q=Q (.int x.mk') μ:=propext Wi
theorem Sr (g:Int)(x:Ss)(μ:Mu)(Q:DK):L3.rIx (x.toD g) (.int 10) μ Q=Q (.int x.wt) μ:=propext Wi
theorem Vi (g:Int)(x:St')(μ:Mu)(Q:DK):L3.rIx (x.toD g) (.int 0) μ Q=Q (.tup (wsD x.ws)) μ:=propext Wi
theorem V8 (g:Int)(x:St')(μ:Mu)(Q:DK):L3.rIx (x.toD g) (.int 1) μ Q=Q (.tup (ssD g x.ss)) μ:=propext Wi
def Tz:=Jn @UN <| Jn @UJ <| Jn @U8 <| Jn @Vh <| Jn @Vr <| Jn @Vu <| Jn @U4 <| Jn @Vq <| Jn @VL <| Jn @UT <| Jn @VA <| Jn @Vd <| Jn @UW <| Jn @VO <| Jn @Vx <| Jn @US <| Jn @UM <| Jn @V0 <| Jn @UQ <| Jn @V4 <| Jn @Vn <| Jn @VP <| Jn @Sr <| Jn @Vi <| Jn @V8 <| @Ui
local macro_rules | `(tactic| walk_at "go")=>zzS "↓L3.Tz L3.Ft ↓L3.zE ↓L3.As ↓L3.yY ↓L3.yV ↓L3.ya ↓L3.Aj ↓L3.kZ ↓L3.jo L3.cB L3.b8 L3.cI L3.cy L3.cJ L3.cw L3.c5 L3.cU L3.b7 L3.cA L3.cx L3.cC L3.cz L3.cZ L3.cD L3.cW L3.cF L3.c7 L3.cH L3.cY L3.je L3.w4 L3.wW L3.fk List.map_cons List.map_nil List.replicate List.cons_append List.nil_append L3.lk L3.zA L3.kA L3.yg L3.ET L3.gR L3.b6 L3.qT L3.fB L3.uX L3.vh L3.lq L3.iG L3.oj L3.nR L3.kM L3.lr L3.kU L3.lu true_and and_true and_self Bool.not_true Bool.not_false decide_true decide_false Bool.or_true Bool.or_false Bool.true_or Bool.false_or Bool.and_false Bool.false_and Bool.and_true Bool.true_and Int.reduceToNat Int.reducePow Int.reduceNeg Int.reduceSub Int.reduceAdd Int.reduceMul Int.reduceEq Int.reduceLT Int.reduceLE Int.reduceBEq L3.iC L3.gi L3.fN L3.fY L3.gf L3.gh L3.fS L3.fO if_true if_false Bool.false_eq_true reduceCtorEq decide_eq_true_eq"
def ig:FSp:=λds μ Q=>kcA ds λd ds=>kcI ds λg ds=>kcN ds (∃ R:RN,(d=R.toD/\R.Ok/\Gd g)/\Q (.tup [fP (R.p*g / R.q) g,fP 0 g]) μ)
theorem wm:∀ ds μ Q,ig ds μ Q->ds.length=2:=λ_ _ _ h=>lcA h λ_ _ h=>lcI h λ_ _ h=>by rw[(ecN h).1];rfl
def sQ:STr:=aW (bf (af (au fj (af (aj L3.rIx (ah 0) (TC (.int 1))) (af (ah 1) (aq)))) (af (TC (.tup [.int 0,.int 1])) (aq))))
theorem yI:∀ ds μ Q,ig ds μ Q->sQ { nx:=λ_ μ'=>RT Q .non μ',rt:=RT Q } (ini 2 ds) μ:=by
 intro ds μ Q h
 replace h:=ecA h
 obtain ⟨d,ds,rfl,h⟩:=h
 replace h:=ecI h
 obtain ⟨g,ds,rfl,h⟩:=h
 replace h:=ecN h
 obtain ⟨rfl,h⟩:=h
 walk_at "ini"
 unfold sQ
 walk_at "go"
 obtain ⟨R,⟨rfl,K,g0,g1⟩,k⟩:=h
 obtain ⟨xs,e,e0,e1,e3,e4⟩:=R.tup K.st
 have WB:=K.w.bd (by decide) (by decide)
 rw[e]
 walk_at "go"
 rw[yZ,e1]
 walk_at "go"
 refine ⟨R.p,R.q,⟨jf K.w,WB.1.mono (by decide),WB.2.mono (by decide),by omega,by omega⟩,λw V=>?_⟩
 walk_at "go"
 rw[Kh V]
 rw[Qq (show 0 < g by omega)] at k
 exact ⟨_,.refl _,k⟩
def eE:FSp:=λds μ Q=>kcI ds λg ds=>kcA ds λd ds=>kcN ds (∃ x:Sn,(d=x.toD/\x.rl.Ok/\Gd g)/\Q ((x.beg g).toD g) μ)
theorem nZ:∀ ds μ Q,eE ds μ Q->ds.length=2:=λ_ _ _ h=>lcI h λ_ _ h=>lcA h λ_ _ h=>by rw[(ecN h).1];rfl
def jN:STr:=aB (aO (au ig (af (aj L3.rIx (ah 1) (TC (.int 5))) (af (ah 0) (aq)))) (aA 2)) (aW (bf (af (aj L3.rIx (ah 1) (TC (.int 0))) (af (aj L3.rIx (ah 1) (TC (.int 3))) (af (aj L3.rIx (ah 2) (TC (.int 0))) (af (aj L3.rIx (ah 2) (TC (.int 1))) (af (TC (.int 0)) (af (aj L3.rIx (ah 1) (TC (.int 4))) (af (bf (aq)) (af (bf (aq)) (af (TC (.int 0)) (af (TC (.int 0)) (af (TC (.int 0)) (aq))))))))))))))
theorem qd:∀ ds μ Q,eE ds μ Q->jN { nx:=λ_ μ'=>RT Q .non μ',rt:=RT Q } (ini 3 ds) μ:=by
 intro ds μ Q h
 replace h:=ecI h
 obtain ⟨g,ds,rfl,h⟩:=h
 replace h:=ecA h
 obtain ⟨d,ds,rfl,h⟩:=h
 replace h:=ecN h
 obtain ⟨rfl,h⟩:=h
 walk_at "ini"
 unfold jN
 walk_at "go"
 obtain ⟨x,⟨rfl,K,G⟩,k⟩:=h
 walk_at "go"
 refine ⟨x.rl,⟨rfl,K,G⟩,?_⟩
 walk_at "go"
 exact ⟨_,.refl _,k⟩
def nB:FSp:=λds μ Q=>kcA ds λd ds=>kcN ds (∃ p:Pn,(d=p.toD/\(∀ x∈p.ss,x.rl.Ok)/\Gd p.g/\p.ws.length<=900000/\p.ss.length<=900000)/\Q (p.beg.toD p.g) μ)
theorem Fn:∀ ds μ Q,nB ds μ Q->ds.length=1:=λ_ _ _ h=>lcA h λ_ _ h=>by rw[(ecN h).1];rfl
def Dg:STr:=aB (aO (au bF (af (bZ (eL (aj L3.rIx (ah 0) (TC (.int 1)))) (aA 0) (fe) (bf (af (bf (aq)) (af (bf (aq)) (af (TC (.str "")) (aq))))) 1 []) (aq))) (aA 1)) (aW (bf (af (ah 1) (af (au bF (af (bZ (eL (aj L3.rIx (ah 0) (TC (.int 2)))) (aA 0) (fe) (au eE (af (aj L3.rIx (ah 1) (TC (.int 0))) (af (ah 0) (aq)))) 1 [0]) (aq))) (aq)))))
theorem Gs:∀ ds μ Q,nB ds μ Q->Dg { nx:=λ_ μ'=>RT Q .non μ',rt:=RT Q } (ini 2 ds) μ:=by
 intro ds μ Q h
 replace h:=ecA h
 obtain ⟨d,ds,rfl,h⟩:=h
 replace h:=ecN h
 obtain ⟨rfl,h⟩:=h
 walk_at "ini"
 unfold Dg
 walk_at "go"
 obtain ⟨p,⟨rfl,K,G,l1,l2⟩,k⟩:=h
 walk_at "go"
 refine comp_map (λ_=>.tup [.tup [],.tup [],.str ""]) (by rw[Wf];omega) (λd hd μ' _ N n=>?_) ?_
 ·walk_at "go"
  exact n
 ·walk_at "go"
  refine bV p.ss Sn.toD (λx=>(x.beg p.g).toD p.g) rfl (by omega) (λx hx μ' _ N n=>?_) ?_
  ·walk_at "go"
   exact ⟨x,⟨rfl,K x hx,G⟩,n⟩
  ·walk_at "go"
   refine ⟨_,.refl _,?_⟩
   have e1:(wyD p.ws).map (λ_=>D.tup [.tup [],.tup [],.str ""])=wsD p.beg.ws:=by simp[Pn.beg,wsD,wyD,Ws.toD,zc2]
   have e2:p.ss.map (λx=>(x.beg p.g).toD p.g)=ssD p.g p.beg.ss:=by simp[Pn.beg,ssD,zc2]
   rw[e1,e2];exact k
section
open PySem PySem.Spec PyProof.Rows L2
section
variable {prog:WX} {w:Xb} {A:Xn} {E:We->Wh->Prop} {s:Wh}
abbrev Gm (a c:Int)(acc:Array We)(n:Nat):Prop:=ItemsOf (λi v=>∃ t,v=.int (a+i*c) t) acc n
abbrev Kept (s:Wh)(g:Heap):Prop:=∀ b o,s.heap.get? b=some o->g.get? b=some o
structure Rg (s:Wh) (r:Addr) (a b c:Int) (n:Nat):Prop where
 at':∃ t u v,IsRange s.heap r a b c t u v
 sm:zeg a b c=true
 sz:Zy a b c=n
 le:n<=1048576
theorem run_plain {id:String}{bi:ZP}{args:Args}{R:zc9->Wh->Prop}(hp:plainId id=true)(he:entryFor table id=some bi)
  (h:WJ (WM prog w) A.in1 (bi args) (λfin s'=>match fin with | .done f=>R (.ok f) s' | .again c'=>c'.quiet=true/\Y1 (WM prog w) A c' R s') (λe s'=>R (.error e) s') s):Y1 (WM prog w) A (.builtin id args) R s:=
 zbD he (by rw[Z8 hp];exact h)
theorem lV {R:zc9->Wh->Prop}{r:Addr}{a b c:Int}{n:Nat}(hh:A.handled=none)(G:Rg s r a b c n)
  (hR:∀ (g:Heap) (tk:Nat) (acc:Array We) (e:Nat),Kept s g->g.get? s.heap.objs.size=some { cls:=.type "list", dict:=none,data:=.seq acc e,slots:=#[] }->Gm a c acc n->R (.ok (.ret (.ref s.heap.objs.size))) { s with heap:=g,toks:=tk }) :
  Y1 (WM prog w) A (.builtin "proto.collect" ⟨[.ref r],[]⟩) R s:=by
 obtain ⟨⟨t,u,v,hr⟩,sm,sz,le⟩:=G
 have l24:n<=2 ^ 24:=by omega
 have ext:=λh0=>wpAny_extend_range (prog:=prog) (w:=w) (A:=A) (R:=R) (s:={ s with heap:=s.heap.push { cls:=.type "list", data:=.seq #[] } }) hh (Wc _ hr) sm sz l24 s.heap.objs.size (.ref s.heap.objs.size) 0 h0 λg tk acc e kp new its=>
  hR g tk acc e (λb o q=>kp b o (WO (WC q)) (Wc _ q)) new its
 exact run_plain F.plain_proto_collect F.entry_proto_collect (Wb (Xp (Wn ⟨YH zc3 _,run_plain zc3 F.entry_list_iadd (ext (WE _ rfl))⟩)))
theorem uh {Q:List We->Wh->Prop}{r:Addr}{a b c:Int}{n:Nat}(hh:A.handled=none)(G:Rg s r a b c n)
  (hQ:∀ (g:Heap) (tk:Nat) (acc:Array We),Kept s g->Gm a c acc n->Q acc.toList { s with heap:=g,toks:=tk }):WJ (WM prog w) A (collect (.ref r)) Q E s:=by
 unfold collect
 exact Wb (wpAny_runValue (lV hh G λg tk acc e kp new its=>Wb (wpAny_load new (Wn (hQ g tk acc kp its)))))
theorem nW {Q:We->Wh->Prop}{r:Addr}{a b c:Int}{n:Nat}(hh:A.handled=none)(G:Rg s r a b c n)
  (hQ:∀ (g:Heap) (tk:Nat) (acc:Array We),Kept s g->Gm a c acc n->Q (.ref g.objs.size) { s with heap:=g.push { cls:=.type "tuple", data:=.seq acc },toks:=tk }) :
  WJ (WM prog w) A (zcb (.type "tuple") [.ref r]) Q E s:=by
 have isr:s.TypeIs (.ref r) "range" := let ⟨t,u,v,hr⟩:=G.at';⟨_,hr,rfl⟩
 have fit:n<=sizeLine:=by have:=G.le;rw[zbN];omega
 have made:Y1 (WM prog w) A.in1 (.call (.builtin "tuple.__new__") ⟨[.type "tuple", .ref r],[]⟩) (wants (λobj s₁=>s₁.TypeIs obj "tuple" /\ Q obj s₁) E) s:=by
  refine codeAny_of_tree (Wb (zdm (F.newCall_tuple_1 _) (Wn ⟨YH zc4 _,run_plain zc4 F.entry_tuple_new ?_⟩)))
  have u1:=sub_tuple_self
  have u2:=init_tuple_lookup
  have u3:=madeHere_tuple
  wp_walk using wpAny_typeOf isr,uh (A:=A.in1.in1) hh G
  intro g tk acc kp its
  have whole:acc.toList.toArray=acc:=zbZ
  have few:acc.toList.toArray.size<=sizeLine:=by rw[whole,its.1];exact fit
  have end':WJ (WM prog w) A.in1.in1 (Xt acc.toList.toArray) (λv s'=>wants (λobj s₁=>s₁.TypeIs obj "tuple" /\ Q obj s₁) E (.ok (.ret v)) s') (λe s'=>wants (λobj s₁=>s₁.TypeIs obj "tuple" /\ Q obj s₁) E (.error e) s') { s with heap:=g,toks:=tk }:=by
   unfold Xt;exact Xp (by rw[whole];exact ⟨⟨_,WE _ rfl,rfl⟩,hQ g tk acc kp its⟩) few
  exact (show WJ _ _ (Xt acc.toList.toArray >>= λv=>ret v) _ _ _ from Wb (Xu end' (λv s' h=>Wn h) λ_ _ h=>h))
 exact callType_codes zb0 (F.typeCall_tuple_1 _) F.entry_object_init made λobj s₁ h₁=>⟨h₁.1,zb1 obj _,object_init_meets zb0.init.lookup zb0.made (by decide) prog w A.in1 _ s₁ ⟨h₁.1,rfl,h₁.2⟩⟩
end
section
variable {X:Cx} {ea eb:WR} {Ta Tb:ETr} {p p2 pos rpos:Pos}
def SO (t:TA):TE:=λσ H Q=>t σ H λvs H1=>∃ i j:Int,vs=[.int i,.int j]/\(-(2 ^ 62)<=i/\i < 2 ^ 62/\-(2 ^ 62)<=j/\j < 2 ^ 62/\(j - i).toNat<=1000000)/\∀ z,H1 z=none->Q (.ref z) (L2.upd H1 z (.tup ((WQ (j - i).toNat).map λ(k:Nat)=>V.int (i+(k:Int)))))
theorem lK:∀ {us:List We} {vs:List V},us.length=vs.length->(∀ (j:Nat) u v,us[j]? = some u->vs[j]? = some v->RelV v u)->Vals vs us
 | [],[],_,_=>.nil
 | u::us,v::vs,hl,h=>.cons (h 0 u v rfl rfl) (lK (by simpa using hl) λj a b h1 h2=>h (j+1) a b h1 h2)
theorem NB {t:TA}(hc:X.calm=true)(hg:Gl X "tuple")(hm:X.mg "tuple" = none)(hgr:Gl X "range")(hmr:X.mg "range" = none)(ha:PA X [ea,eb] t)(hs:Ww [ea,eb] X.env=[(false,Xw ea X.env),(false,Xw eb X.env)]:=by rfl)(hs2:Ww [eb] X.env=[(false,Xw eb X.env)]:=by rfl)
  (hs0:Ww [.Call (.Name "range" p2) [ea,eb] [] rpos] X.env=(false,Xw (.Call (.Name "range" p2) [ea,eb] [] rpos) X.env)::Ww [] X.env:=by rfl) :
  PE X (.Call (.Name "tuple" p) [.Call (.Name "range" p2) [ea,eb] [] rpos] [] pos) (SO t):=by
 intro pins s σ H Q I h
 refine Call_ (kn I hg hm boot_tuple (Xv ?_ hs0 rfl))
 rw[hs0]
 show WJ _ _ (spliced ((false,Xw _ X.env)::XA pos (Ww [] X.env))) _ _ s
 refine zcz (Call_ (kn I hgr hmr boot_range (Xv (thn (ha rpos pins s σ H _ I h) λus s1 ⟨vs,H1,I1,r1,q1⟩=>?_) (by rw[hs,hs2]) (by rw[hs2];rfl))))
 obtain ⟨i,j,e,⟨h1,h2,h3,h4,h5⟩,q⟩:=q1
 subst e
 cases r1 with | cons r rr=>cases rr with | cons r' rr=>
 cases rr
 obtain ⟨t1,rfl⟩:=r
 obtain ⟨t2,rfl⟩:=r'
 refine call_range_2 (zcM ?_)
 have e2:Zy i j 1=((j - i).toNat:Nat):=by rw[rangeSize_one];split<;>omega
 refine nW (n:=(j - i).toNat) (I1.ok.hd hc) ⟨⟨_,_,_,zec ..⟩,small_one h1 h2 h3 h4,e2,by omega⟩ λh' tk acc hk hacc=>?_
 have I2:Inv X pins σ H1 { s1 with heap:=h',toks:=tk }:=I1.kept (t':=tk) λb o e=>hk b o (Wc _ e)
 refine ⟨.ref h'.objs.size,_,I2.laid (t':=tk) (o:=.tup ((WQ (j - i).toNat).map λ(k:Nat)=>V.int (i+(k:Int)))) (λb o e=>Wc _ e) (WA _) ⟨?_,acc.toList,lK ?_ λm u v hu hv=>?_,?_⟩,rfl,q _ (I2.hok.fresh (WA _))⟩
 ·rw[Wf,zaK];exact big (by omega)
 ·rw[Wf,zaK,Zl,hacc.1]
 ·have hu':acc[m]? = some u:=by simpa using hu
  obtain ⟨t3,rfl⟩:=hacc.2 m u hu'
  have hm:m < (j - i).toNat:=by
   have:=(Array.getElem?_eq_some_iff.mp hu').1
   exact hacc.1 ▸ this
  rw[Xh,zce hm] at hv
  cases hv
  exact ⟨t3,by simp⟩
 ·rw[zbZ];exact xo.new h' acc
def JR (Ta Tb:ETr):ETr:=λρ μ Q=>Ta ρ μ λx μ1=>Tb ρ μ1 λy μ2=>kI x λi=>kI y λj=>((-4611686018427387904<=i/\i < 4611686018427387904)/\(-4611686018427387904<=j/\j < 4611686018427387904)/\(j - i).toNat<=1000000)/\Q (.tup (cG i (j - i).toNat)) μ2
theorem FF {K:Wa}{H:Hp}(i:Int)(n:Nat):DpL K H ((WQ n).map λ(k:Nat)=>V.int (i+(k:Int))) (cG i n):=by
 unfold cG
 generalize WQ n=l
 induction l with
 | nil=>exact .nil
 | cons a l ih=>exact .cons (.int _) ih
theorem Ny (hc:X.calm=true)(hg:Gl X "tuple")(hm:X.mg "tuple" = none)(hgr:Gl X "range")(hmr:X.mg "range" = none)(ha:LE X ea Ta)(hb:LE X eb Tb)(hs:Ww [ea,eb] X.env=[(false,Xw ea X.env),(false,Xw eb X.env)]:=by rfl)(hs2:Ww [eb] X.env=[(false,Xw eb X.env)]:=by rfl)
  (hs0:Ww [.Call (.Name "range" p2) [ea,eb] [] rpos] X.env=(false,Xw (.Call (.Name "range" p2) [ea,eb] [] rpos) X.env)::Ww [] X.env:=by rfl) :
  LE X (.Call (.Name "tuple" p) [.Call (.Name "range" p2) [ea,eb] [] rpos] [] pos) (JR Ta Tb):=by
 obtain ⟨ta,pa,sa⟩:=ha.ex
 obtain ⟨tb,pb,sb⟩:=hb.ex
 refine ⟨_,NB hc hg hm hgr hmr (ft pa (ft pb i9 hs2) (by rw[hs,hs2])) hs hs2 hs0,λσ H ρ μ Q Q' rl h k=>sa σ H ρ μ _ _ rl h λx H1 d μ1 t1 m1 p1 h1=>sb σ H1 ρ μ1 _ _ (rl.go t1 m1) h1 λy H2 d2 μ2 t2 m2 p2 h2=>?_⟩
 cases p1 with
 | int i=>
  cases p2 with
  | int j=>
   obtain ⟨⟨⟨h3,h4⟩,⟨h5,h6⟩,h7⟩,h8⟩:=h2
   refine ⟨i,j,rfl,⟨by simpa using h3,by simpa using h4,by simpa using h5,by simpa using h6,h7⟩,λz hz=>?_⟩
   have tn:Tk H2 (L2.upd H2 z (.tup ((WQ (j - i).toNat).map λ(k:Nat)=>V.int (i+(k:Int))))):=.new hz
   exact k _ _ _ μ2 ((t1.trans t2).trans tn) (dh m2 hz) (.tup (SqT.of aQ) (FF i _)) h8
  | _=>exact Wm h2
 | _=>exact Wm h2
end
end
section
open PySem PySem.Spec PyProof.Rows L2
section
variable {prog:WX} {w:Xb} {A:Xn} {E:We->Wh->Prop} {s:Wh}
theorem sortedHeap_at {g:Heap}{vs:List We}{out:Array We}{k:Nat}(e:(g.push (zak "list" vs.toArray k)).get? g.objs.size=some (zak "list" vs.toArray k)):(∃ n,(zdQ (g.push (zak "list" vs.toArray k)) g.objs.size vs out).get? g.objs.size=some (zak "list" out n))/\∀ b o,g.get? b=some o->(zdQ (g.push (zak "list" vs.toArray k)) g.objs.size vs out).get? b=some o:=by
 have lt:g.objs.size < (g.push (zak "list" vs.toArray k)).objs.size:=by rw[size_push'];omega
 unfold zdQ
 constructor
 ·have e1:=get?_update_seq e λ_=>#[]
  have e2:∀ o1 o2:Obj,((((g.push (zak "list" vs.toArray k)).update g.objs.size (zbn λ_=>#[])).push o1).push o2).get? g.objs.size=_:=λo1 o2=>Wc _ (Wc _ e1)
  exact ⟨_,get?_update_seq (e2 _ _) λ_=>out⟩
 ·intro b o hb
  have nb:g.objs.size≠b:=WY (WO (WC hb))
  exact (Xr _ _ nb).trans (Wc _ (Wc _ ((Xr _ _ nb).trans (Wc _ hb))))
theorem Bt {tp:Addr}{vs:List We}{ns:List Int}{Q:We->Wh->Prop}(hl:zdj s.heap tp vs.toArray)(hI:Zo vs ns)(few:vs.length < 64)
  (h:∀ (g g1:Heap) (out:Array We) (n:Nat) (ns':List Int),Kept s g->(∀ b o,g.get? b=some o->g1.get? b=some o)->g1.get? g.objs.size=some (zak "list" out n)->Zo out.toList ns'->ns'.Perm ns->ns'.Pairwise (·<=·)->Q (.ref g.objs.size) { s with heap:=g1 }) :
  WJ (WM prog w) A (zcb (.builtin "sorted") [.ref tp]) Q E s:=by
 obtain ⟨ob,e1,e2,ne,e3⟩:=hl
 have fits:vs.toArray.size<=sizeLine:=by rw[WG,zbN];omega
 have rest:∀ g:Heap,(∀ b o,s.heap.get? b=some o->g.get? b=some o)->WJ (WM prog w) A.in1 (do let z ← newList vs;let _ ← zbg [z] (zcb (.builtin "list.sort") [z]);ret z) (λfin s'=>∃ v,fin=.done (.ret v)/\Q v s') E { s with heap:=g }:=λg kp=>by
  have at':(g.push (zak "list" vs.toArray 0)).get? g.objs.size=some (zak "list" vs.toArray 0):=WE _ rfl
  have done:=λout ns' (a1:Zo out.toList ns') (a2:ns'.Perm ns) (a3:ns'.Pairwise (·<=·))=>let ⟨⟨m,e⟩,old⟩:=sortedHeap_at (out:=out) at';h g _ out m ns' kp old e a1 a2 a3
  exact Wb (wpAny_newList (Wb (YV (XW slot_list_sort ⟨_,at',rfl⟩ entry_list_sort (list_sort_tree at' hI few λout ns' a1 a2 a3=>⟨_,rfl,Wn ⟨_,rfl,done out ns' a1 a2 a3⟩⟩) (args_list_sort _)))))
 refine Calls.call_function_entry (b:=ZP.«sorted») kind_sorted plain_sorted entry_sorted (args_sorted1 _) ?_
 show WJ _ _ (do checkCount "sorted" 1 1 1;let xs ← collect (.ref tp);let z ← newList xs;let _ ← zbg [z] (zcb (.builtin "list.sort") [z]);ret z) _ _ s
 exact Wb (Wn (Wb (wpAny_collect_seq tp (.inr rfl) e1 e2 e3 (λg kp=>rest g kp) fits)))
end
def O4 (K:Wa):List V->Hp->VK->Prop:=λxs H Q=>∃ (p:Addr) (ns:List Int),xs=[.ref p]/\(SqL K H p (ns.map V.int)∨SqT K H p (ns.map V.int))/\ns.length < 64/\∀ ns':List Int,ns'.Perm ns->ns'.Pairwise (·<=·)->∀ z,H z=none->Q (.ref z) (L2.upd H z (.lst (ns'.map V.int)))
theorem AW {X:Cx}:cM X (.builtin "sorted") (O4 X.K):=λpins s σ H xs us Q I rx ⟨p,ns,e1,sq,hl,q⟩=>by
 rcases sq with sq | sq
 ·exact Cy pins s σ H xs us Q I rx ⟨p,ns,e1,sq,hl,q⟩
 subst e1
 obtain ⟨u,rfl,ru⟩:=vals1 rx
 cases ru
 obtain ⟨its,rv,pl,hz⟩:=I.tuple sq
 have hi:Zo its ns:=intsAre_of rv
 have hlen:its.length < 64:=by rw[hi.length];exact hl
 refine Bt pl hi hlen λg g1 out n ns' kp old e a1 a2 a3=>?_
 have I2:Inv X pins σ H { s with heap:=g }:=I.kept (t':=s.toks) kp
 refine ⟨.ref g.objs.size,_,I2.laid (t':=s.toks) (o:=.lst (ns'.map V.int)) old (WA _) ?_,rfl,q ns' a2 a3 _ (I2.hok.fresh (WA _))⟩
 have z1:ns'.length=ns.length:=a2.length_eq
 exact ⟨by rw[Wf,z1];exact ZH (WK hl (by decide)),out.toList,n,jh a1,by simpa[zak] using e⟩
def tj:FSp:=λds μ Q=>match ds with
 | [x]=>kS x λxs=>∃ ns:List Int,(xs=ns.map .int/\ns.length < 64)/\∀ ns':List Int,ns'.Perm ns->ns'.Pairwise (·<=·)->Q (.ls (ns'.map .int)) μ
 | _=>False
theorem zJ {X:Cx}{e:WR}{x:Str}{p pos:Pos}{At:ATr}(hg:Gl X x)(hm:X.mg x=none)(hv:Yi x=some (.builtin "sorted"))(ha:LA X [e] At)(hn:x ≠ "__name__" := by decide)(hdb:(x == ("__debug__" : Str))=false:=by decide)
  (h1:Ww [e] X.env=(false,Xw e X.env)::Ww [] X.env:=by rfl) (h2:(XA pos (Ww [] X.env)).any (·.1)=false:=by rfl):LE X (.Call (.Name x p) [e] [] pos) (au tj At):=by
 obtain ⟨ta,pa,sa⟩:=ha.ex
 refine ⟨_,jY (qE AW hg hm hv pa hn hdb h1 h2),λσ H ρ μ Q Q' rl h k=>sa σ H ρ μ _ _ rl h λxs H1 ds μ1 t1 m1 p1 h1=>?_⟩
 unfold tj at h1
 split at h1
 ·cases p1 with | cons p1 p2=>
  cases p2
  cases p1 with
  | @ls q xs ds sq l=>
   obtain ⟨ns,⟨rfl,hl⟩,h2⟩:=h1
   have ex:=l.ints_of
   subst ex
   exact ⟨q,ns,rfl,.inl sq.sq,hl,λns' a2 a3 z hz=>gS m1 (DpL.ints ns') (h2 ns' a2 a3) (k.go t1) hz⟩
  | @tup q xs ds sq l=>
   obtain ⟨ns,⟨rfl,hl⟩,h2⟩:=h1
   have ex:=l.ints_of
   subst ex
   exact ⟨q,ns,rfl,.inr sq,hl,λns' a2 a3 z hz=>gS m1 (DpL.ints ns') (h2 ns' a2 a3) (k.go t1) hz⟩
  | _=>exact Wm h1
 ·exact h1.elim
theorem Ew {X:Cx}(hc:X.calm=true):cM X (.builtin "sum") (λxs H Q=>∃ (p:Addr) (ns:List Int),xs=[.ref p]/\SqL X.K H p (ns.map V.int)/\Q (.int ns.sum) H):=λpins s σ H xs us Q I rx ⟨p,ns,e1,sq,q⟩=>by
 subst e1
 obtain ⟨u,rfl,ru⟩:=vals1 rx
 cases ru
 obtain ⟨its,rv,pl,_⟩:=I.list sq
 obtain ⟨ps,rfl,rfl⟩:=ij (intsAre_of rv)
 have il:s.heap.IsList p (zac ps.toArray):=by
  have:=pl.isList
  simpa[zac] using this
 refine sum_intListG (I.ok.hd hc) il λh' tk t' hk=>?_
 have e:preSum (zdo ps.toArray) ps.toArray.size=(ps.map zdN).sum:=by
  rw[preSum_eq,Yj (by simp)]
 rw[e]
 exact ⟨.int _,H,I.kept hk,⟨t',rfl⟩,q⟩
def Ee:FSp:=λds μ Q=>match ds with
 | [.ls xs]=>∃ ns:List Int,xs=ns.map .int/\Q (.int ns.sum) μ
 | _=>False
theorem JG {K:Wa}:mh K (λxs H Q=>∃ (p:Addr) (ns:List Int),xs=[.ref p]/\SqL K H p (ns.map V.int)/\Q (.int ns.sum) H) Ee:=λH μ xs ds Q Q' m p h k=>by
 unfold Ee at h
 split at h
 ·obtain ⟨ns,rfl,h⟩:=h
  cases p with | cons p1 p2=>
  cases p2
  cases p1 with
  | @ls q xs ds sq l=>
   have ex:=l.ints_of
   subst ex
   exact ⟨q,ns,rfl,sq.sq,k _ H _ μ (.refl H) m (.int _) h⟩
 ·exact h.elim
end
section
open PySem PySem.Spec PyProof.Rows L2
section
variable {prog:WX} {w:Xb} {A:Xn} {E:We->Wh->Prop} {s:Wh}
theorem FU {tp:Bool}{e it a:Addr}{i:Nat}{xs:Array We}{x old:We}{Q:Option We->Wh->Prop}(en:zbv s.heap e it i old)(li:iJ tp s.heap it a i)(se:fX tp s.heap a xs)(hx:xs[i]? = some x)(ne:e≠it)
  (q:∀ g,IsEnumOut g e it ((i:Int)+1) x s.heap.objs.size->iJ tp g it a (i+1)->g.get? s.heap.objs.size=some { cls:=.type "tuple", data:=.seq #[.int i s.toks,x] }->
   (∀ c o,c≠e->c≠it->s.heap.get? c=some o->g.get? c=some o)->Q (some (.ref s.heap.objs.size)) { s with heap:=g,toks:=s.toks+1 }):WJ (WM prog w) A (Zs (.ref e)) Q E s:=by
 have ty:s.TypeIs (.ref e) "enumerate" := ⟨_,en,rfl⟩
 unfold Zs
 refine Wb (zaT (Xo (name:=OF "__next__") ty YZ (XW YZ ty zbw ?_ (zbb _))))
 refine Wb (m:=zbR (.ref e) 2) (Xg en rfl (x:=.ref it) rfl (Wb (m:=WW (.ref it)) (qr li se hx λg1 li1 k1=>?_)))
 have en1:zbv g1 e it i old:=(k1.2 e ne).trans en
 refine Wb (m:=zbR (.ref e) 3) (Xg (s:={ s with heap:=g1 }) en1 rfl (x:=zav i) rfl (Wb (m:=zbR (.ref e) 4) (Xg (s:={ s with heap:=g1 }) en1 rfl (x:=.none) rfl (Wb (m:=mkInt i) (wpAny_mkInt ?_)))))
 refine Wb (m:=setField (.ref e) 3 (zav ((i:Int)+1))) (Xk en1 (by simp) λg2 en2 k2=>?_)
 have en2:zbv g2 e it ((i:Int)+1) old:=en2
 refine Wb (m:=setField (.ref e) 4 .none) (Xk en2 (by simp) λg3 en3 k3=>?_)
 have en3:zbv g3 e it ((i:Int)+1) old:=en3
 refine Wb (m:=newTuple [.int i s.toks,x]) (wpAny_newTuple ?_)
 have sz:g3.objs.size=s.heap.objs.size:=by rw[k3.1,k2.1,k1.1]
 have en4:zbv (g3.push { cls:=.type "tuple", data:=.seq #[.int i s.toks,x] }) e it ((i:Int)+1) old:=Wc _ en3
 have elt:e < g3.objs.size:=WC en3
 refine Wb (m:=Xc (.ref e)) ?_
 delta Xc
 refine Wb (Xg (s:={ s with heap:=g3.push { cls:=.type "tuple", data:=.seq #[.int i s.toks,x] },toks:=s.toks+1 }) en4 rfl (x:=.none) rfl (Wn ?_))
 simp only[if_true]
 refine Wb (YO (Wb (Xg en4 rfl (x:=old) rfl (Wb (Xk en4 (by simp) λg5 en5 k5=>?_)))))
 have en5:zbv g5 e it ((i:Int)+1) x:=en5
 refine Wb (m:=XE (.ref e) (.ref g3.objs.size)) ?_
 delta XE
 refine Wb (Xk en5 (by simp) λg6 en6 k6=>?_)
 have en6:IsEnumOut g6 e it ((i:Int)+1) x g3.objs.size:=en6
 refine Xk en6 (by simp) λg7 en7 k7=>?_
 have en7:IsEnumOut g7 e it ((i:Int)+1) x g3.objs.size:=en7
 have up3:∀ c o,c≠e->g3.get? c=some o->g7.get? c=some o:=λc o c1 h=>(k7.2 c c1).trans ((k6.2 c c1).trans ((k5.2 c c1).trans (Wc _ h)))
 have new:g7.get? g3.objs.size=some { cls:=.type "tuple", data:=.seq #[.int i s.toks,x] }:=(k7.2 _ (YR elt)).trans ((k6.2 _ (YR elt)).trans ((k5.2 _ (YR elt)).trans (WE _ rfl)))
 rw[sz] at en7 new
 have fin:=q g7 en7 (li1.at λo h=>up3 it o (WY ne) ((k3.2 it (WY ne)).trans ((k2.2 it (WY ne)).trans h))) new λc o c1 c2 h=>up3 c o c1 ((k3.2 c c1).trans ((k2.2 c c1).trans ((k1.2 c c2).trans h)))
 rw[← sz] at fin
 exact Wb (Y6 (Wn ⟨_,rfl,Wn fin⟩))
theorem Mf {tp:Bool}{e it a:Addr}{i:Nat}{xs:Array We}{old:We}{Q:Option We->Wh->Prop}(hh:A.handled=none)(en:zbv s.heap e it i old)(li:iJ tp s.heap it a i)(se:fX tp s.heap a xs)(hx:xs[i]? = none)
  (q:∀ g,zdl it s.heap g->Q none { s with heap:=g }):WJ (WM prog w) A (Zs (.ref e)) Q E s:=by
 have ty:s.TypeIs (.ref e) "enumerate" := ⟨_,en,rfl⟩
 unfold Zs
 refine Wb (zaT (Xo (name:=OF "__next__") ty YZ (XW YZ ty zbw ?_ (zbb _))))
 refine Wb (m:=zbR (.ref e) 2) (Xg en rfl (x:=.ref it) rfl (Wb (m:=WW (.ref it)) (Ce hh li se hx λg z kp sz=>?_)))
 obtain ⟨o,ho,hc⟩:=sz
 exact Wb (wpAny_isInstance (T := "StopIteration") (b:=true) ⟨o,ho,hc⟩ isSubtype_stop (Wn (q _ kp)))
theorem GO (tp:Bool)(a:Addr)(xs:Array We):Meets (ZP.«enumerate.__new__» ⟨[.type "enumerate", .ref a],[]⟩) (λ_ R s=>fX tp s.heap a xs/\
   R (.ok (.ret (.ref (s.heap.push (itO tp a)).objs.size))) { s with heap:=(s.heap.push (itO tp a)).push { cls:=.type "enumerate", data:=.fields #[.none,.bool false,.ref s.heap.objs.size,zav 0,.none,.none] } }):=
 .of_wp λprog w A R s h=>by
  rcases s with ⟨hp,g,d,tk,os⟩
  obtain ⟨h1,h⟩:=h
  have hs0:=sub_enumerate
  have H1:fX tp (zdn ⟨hp,g,d,tk,os⟩) a xs:=h1
  wp_walk
  refine wpAny_stack_any λstk=>Wn ?_
  split
  ·rename_i c _ _ _ _ _
   cases (c == zeh "enumerate")<;>(wp_walk using M7 H1;exact ⟨_,rfl,h⟩)
  ·wp_walk using M7 H1
   exact ⟨_,rfl,h⟩
theorem A5 {tp:Bool}{a:Addr}{xs:Array We}{Q:We->Wh->Prop}(h1:fX tp s.heap a xs)
  (q:∀ g,zbv g (s.heap.objs.size+1) s.heap.objs.size 0 .none->iJ tp g s.heap.objs.size a 0->(∀ c o,s.heap.get? c=some o->g.get? c=some o)->Q (.ref (s.heap.objs.size+1)) { s with heap:=g }) :
  WJ (WM prog w) A (zcb (.type "enumerate") [.ref a]) Q E s:=by
 refine callType_new F.called_enumerate (by decide) (F.typeCall_enumerate_1 _) (F.newCall_enumerate_1 _) (λobj=>zb1 obj _) F.entry_enumerate_new (GO tp a xs) ⟨h1,?_⟩
 have s1:(s.heap.push (itO tp a)).objs.size=s.heap.objs.size+1:=Y7 ..
 have new:zbv ((s.heap.push (itO tp a)).push { cls:=.type "enumerate", data:=.fields #[.none,.bool false,.ref s.heap.objs.size,zav 0,.none,.none] }) (s.heap.push (itO tp a)).objs.size s.heap.objs.size 0 .none:=WE _ rfl
 refine ⟨⟨_,new,rfl⟩,?_⟩
 rw[s1] at new ⊢
 refine q _ new ?_ λc o h=>Wc _ (Wc _ h)
 have z:=Wc { cls:=.type "enumerate", data:=.fields #[.none,.bool false,.ref s.heap.objs.size,zav 0,.none,.none] } (WE s.heap (o:=itO tp a) (by cases tp<;>rfl))
 cases tp<;>exact ⟨_,z,rfl,rfl⟩
end
def Itn (tp:Bool)(K:Wa)(a:Addr):It:=
 ⟨λi H=>∃ xs x,Sq tp K H a xs/\xs[i]? = some x,
  λi H v H'=>∃ x p,(∀ xs,Sq tp K H a xs->xs[i]? = some x)/\v=.ref p/\H p=none/\H'=L2.upd H p (.tup [.int i,x]),
  λi H=>∃ xs,Sq tp K H a xs/\xs.length<=i⟩
structure NAt (tp:Bool) (h:Heap) (e it a:Addr) (k:Nat):Prop where
 en:∃ old,zbv h e it k old
 li:iJ tp h it a k
theorem F0 {P:WX}{w:Xb}{K:Wa}{es:List WR}{ek:Nat}{ep:Pos}{tp:Bool}{e it a:Addr}(n1:e≠it) :
  Turn P w K (.Tuple es ek ep) (Itn tp K a) [e,it] e (λk h=>NAt tp h e it a k) where
 mem:=by simp
 obj:=λk h S c hc=>by
  obtain ⟨⟨old,en⟩,li⟩:=S
  simp only[Wx,W7,or_false] at hc
  rcases hc with rfl | rfl
  ·exact ⟨_,en,λv y=>by cases y⟩
  ·obtain ⟨o,ho,vs,hd⟩:=li.ex;exact ⟨o,ho,λv y=>by rw[hd] at y;cases y⟩
 keep:=λk h g S kp=>by
  obtain ⟨⟨old,en⟩,li⟩:=S
  exact ⟨⟨old,kp e (by simp) _ en⟩,li.at λo q=>kp it (by simp) o q⟩
 item:=by
  intro X hP hw hK hc k pins s σ H E I hf S hg
  subst hP hw hK
  obtain ⟨xs,x,qa,ex⟩:=hg
  obtain ⟨⟨old,en⟩,li⟩:=S
  obtain ⟨ia,ra,sa⟩:=Inv.sq I qa
  obtain ⟨ux,hux,rx⟩:=ra.get ex
  have elt:e < s.heap.objs.size:=WC en
  have fr:H s.heap.objs.size=none:=I.hok.fresh (WA _)
  refine FU en li sa (x:=ux) (by simpa using hux) n1 λg eo li2 new al=>⟨_,rfl,wpAny_letOwnedTupleGo_enum eo λg2 en2 k2=>?_⟩
  have k2:Zb e g g2:=k2
  have all:∀ c o,c ∉ [e,it]->s.heap.get? c=some o->g2.get? c=some o:=λc o hc q=>by
   simp only[Wx,W7,or_false,not_or] at hc
   exact (k2.2 c hc.1).trans (al c o hc.1 hc.2 q)
  have new2:g2.get? s.heap.objs.size=some { cls:=.type "tuple", data:=.seq #[.int k s.toks,ux] }:=(k2.2 _ (YR elt)).trans new
  have nfp:∀ c u,H c=some u->c ∉ [e,it]:=λc u q hc=>by rw[(hf c hc).1] at q;cases q
  refine ⟨.ref s.heap.objs.size,L2.upd H s.heap.objs.size (.tup [.int k,x]),?_,rfl,⟨x,_,λxs' q=>by rw[Inv.BG I q qa];exact ex,rfl,fr,rfl⟩,⟨⟨_,en2⟩,li2.at λo q=>(k2.2 it (WY n1)).trans q⟩,λc hc=>?_⟩
  ·refine L2.Inv.step (s:=s) (H:=H) (H':=L2.upd H s.heap.objs.size (.tup [.int k,x])) (g':=s.gens) (d':=s.drawn) (t':=s.toks+1) (h':=g2) (ch:=[e,it]) I (λc hc=>⟨(hf c hc).2.2.2.1,(hf c hc).2.1,(hf c hc).2.2.2.2.1,(hf c hc).2.2.2.2.2⟩) (λc o _ _ hc q _=>all c o hc q) (λc o _ _ hc q _=>⟨o.slots,all c o hc q⟩) (λc o hc q n=>?_) (λc o hc q=>⟨o,all c o hc q⟩)
    (λc xs q=>?_) (λc o u q=>?_) (λc ps q=>⟨#[],?_⟩) (λm hm=>?_) (λc u q=>?_) I.bare
   ·rw[aP (WO (WC q))];exact n
   ·rw[aP (bo q fr)];exact q
   ·rw[aP (bo q fr)];exact q
   ·rw[aP (bo q fr),q];simp
   ·obtain ⟨o,es',ep',ho,r⟩:=hm
    exact ⟨o,es',ep',all _ o (λhc=>(hf _ hc).2.1 rfl) ho,r⟩
   ·by_cases hcT:c=s.heap.objs.size
    ·subst hcT
     rw[aQ] at q;cases q
     exact ⟨by show 2<=sizeLine;decide,[.int k s.toks,ux],.cons ⟨s.toks,rfl⟩ (.cons rx .nil),⟨_,new2⟩⟩
    ·rw[aP hcT] at q
     refine (I.hok c u q).lD (λc' v hc' z=>all c' v ?_ z) (λc' z=>by rw[aP (bo z fr)];exact z) λc' xs z=>by rw[aP (bo z fr)];exact z
     rcases hc' with rfl | hc'
     ·exact nfp _ _ q
     ·exact nfp _ _ hc'
  ·have hcl:c≠s.heap.objs.size:=by
    simp only[Wx,W7,or_false] at hc
    rcases hc with rfl | rfl
    ·exact WO elt
    ·obtain ⟨o,q,_⟩:=li.ex;exact WO (WC q)
   rw[aP hcl];exact (hf c hc).1
 done:=by
  intro X hP hw hK hc k pins s σ H E I hf S hg
  subst hP hw hK
  obtain ⟨xs,qa,he⟩:=hg
  obtain ⟨⟨old,en⟩,li⟩:=S
  obtain ⟨ia,ra,sa⟩:=Inv.sq I qa
  have la:=ra.length
  obtain ⟨f0,f1,f2,f3,f4,f5⟩:=hf it (by simp)
  exact Mf (I.ok.hd hc) en li sa (by simp;omega) λg eb=>⟨rfl,I.turned (t':=s.toks) (λb o hb q=>eb b o hb q) f0 f1 f3 f4 f5⟩
 self:=λ_ _ _ _ _ S h=>by
  obtain ⟨⟨old,en⟩,_⟩:=S
  exact zc5 en h
def Vk (K:Wa)(t:TA):TI:=λσ H R=>t σ H λvs H1=>∃ (tp:Bool) (a:Addr),vs=[.ref a]/\(∃ xs,Sq tp K H1 a xs)/\R (Itn tp K a) H1
section
variable {X:Cx} {ea:WR} {es:List WR} {ek:Nat} {ep p pos:Pos}
theorem Pa {t:TA}(hg:Gl X "enumerate")(hm:X.mg "enumerate" = none)(ha:PA X [ea] t)(hs:Ww [ea] X.env=[(false,Xw ea X.env)]:=by rfl) :
  PI X (.Tuple es ek ep) (.Call (.Name "enumerate" p) [ea] [] pos) (Vk X.K t):=by
 intro pins s σ H R I h
 refine Call_ (kn I hg hm boot_enumerate (Xv (thn (ha pos pins s σ H _ I h) λus s1 ⟨vs,H1,I1,r1,q1⟩=>?_) (by rw[hs];rfl) rfl))
 obtain ⟨tp,a,e,⟨xs,qa⟩,q⟩:=q1
 subst e
 cases r1 with | cons r rr=>
 cases rr
 cases (show _=W5 a from r)
 obtain ⟨ia,ra,sa⟩:=Inv.sq I1 qa
 refine A5 sa λg en li kp=>zc5 en ?_
 refine ⟨s1.heap.objs.size+1,[s1.heap.objs.size+1,s1.heap.objs.size],_,_,H1,rfl,I1.kept (t':=s1.toks) kp,F0 (tp:=tp) (a:=a) (Nat.succ_ne_self _),⟨⟨_,en⟩,li⟩,λc hc=>?_,q⟩
 have hc':s1.heap.objs.size<=c:=by
  simp only[Wx,W7,or_false] at hc
  rcases hc with rfl | rfl
  ·exact Z6 _
  ·exact WA _
 exact I1.FJ hc' (I1.hok.fresh hc')
def zB (t:ATr):ATr:=λρ μ Q=>t ρ μ λvs μ1=>match vs with
 | [x]=>kS x λds=>Q (gJ ds) μ1
 | _=>False
theorem vT {At:ATr}(hg:Gl X "enumerate")(hm:X.mg "enumerate" = none)(ha:LA X [ea] At)(hs:Ww [ea] X.env=[(false,Xw ea X.env)]:=by rfl) :
  LI X (.Tuple es ek ep) (.Call (.Name "enumerate" p) [ea] [] pos) (zB At):=by
 obtain ⟨t,pt,st⟩:=ha.ex
 refine ⟨_,Pa hg hm pt hs,λσ H ρ μ Q R rl h k=>st σ H ρ μ _ _ rl h λvs H1 ds μ1 t1 m1 p1 h1=>?_⟩
 split at h1
 case h_2=>exact Wm h1
 cases p1 with | cons pa p2=>
 cases p2
 obtain ⟨tp,a,xs,dx,rfl,qa,la,h2⟩:=CA pa h1
 obtain ⟨a',xs',dx',ea',qa',la',h2⟩:=Cu pa h2
 cases ea'
 refine ⟨tp,a,rfl,⟨xs',qa'⟩,k _ H1 _ μ1 t1 m1 ⟨λi H' tk hi=>?_,λi H' v H'' tk hi yv=>?_,λi H' tk hi=>?_⟩ h2⟩
 ·have l1:=la'.length
  rw[vo] at hi
  exact ⟨xs',xs'[i],tk.sq qa',by simp[show i < xs'.length by omega]⟩
 ·obtain ⟨x,q,fx,rfl,fr,rfl⟩:=yv
  have ex:=fx _ (tk.sq qa')
  obtain ⟨d,ed,pd⟩:=la'.get' ex
  have tn:Tk H' (L2.upd H' q (.tup [.int i,x])):=.new fr
  exact ⟨tn,⟨.tup [.int i,d],by rw[u9,ed];rfl,.tup (SqT.of aQ) (.cons (.int _) (.cons ((pd.mono tk).mono tn) .nil))⟩,λμ' m'=>dh m' fr⟩
 ·rw[vo] at hi
  exact ⟨xs',tk.sq qa',by rw[la'.length];exact hi⟩
end
end
section
open PySem PySem.Spec PyProof PyProof.Rows L2
section
variable {w:Xb} {prog:WX} {A:Xn} {E:We->Wh->Prop}
abbrev Ub (g:Heap)(b:Addr)(xs:Array We):Prop:=∃ n,g.get? b=some { cls:=.type "list", dict:=none,data:=.seq xs n,slots:=#[] }
section
variable {R:zc9->Wh->Prop} {I:Addr} {fp wr:List Addr} {n:Nat} {P:Nat->We->Prop} {St:Nat->Heap->Prop}
theorem Nx (W:Walks prog w A.in1 I fp wr n P St){bt:Nat->Nat->Bool}(cm:CmpOf prog w A.in1 .Gt P bt){S:Addr}(hS:S ∉ fp)(kw:List (Str×We)) :
  ∀ (m:Nat) (j:Nat) (s:Wh) (vb:We),j+1+m=n->St (j+1) s.heap->P (ZR bt j) vb->Ub s.heap S #[vb,vb]->
  (∀ v g tk,P (ZR bt (n - 1)) v->(∀ c o,c ∉ wr->c≠S->s.heap.get? c=some o->g.get? c=some o)->R (.ok (.ret v)) { s with heap:=g,toks:=tk })->
  Y1 (WM prog w) A (.builtin "max.loop" ⟨[.ref I,.none,.ref S],kw⟩) R s:=by
 have sw:S ∉ wr:=λh=>hS (W.sub _ h)
 have nm:(toString "max" ++ toString ".loop" : String) = "max.loop" := by decide
 intro m
 induction m with
 | zero=>
  intro j s vb en st pb ⟨ep,at'⟩ fin
  refine run_plain Yo zbc ?_
  show WJ (WM prog w) A.in1 (zb9 (.ref S) >>= _) _ _ s
  refine Wb (Xy at' rfl ?_)
  show WJ (WM prog w) A.in1 (tryCatch (Zs (.ref I)) _ >>= _) _ _ s
  refine Wb (Y9 (W.done s _ _ (by rw[← en];exact st) λg tk kp=>?_))
  have at1:=kp S _ sw at'
  show WJ (WM prog w) A.in1 (updateSeq S (λ_=>#[]) >>= _) _ _ _
  refine Wb ?_
  refine Zq at1 rfl ?_;refine Wb (Y6 (Wn ?_))
  exact fin vb _ tk (by rw[show n - 1=j by omega];exact pb) λc o c1 c2 e=>(Xr _ _ (WY c2)).trans (kp c o c1 e)
 | succ m ih=>
  intro j s vb en st pb ⟨ep,at'⟩ fin
  refine run_plain Yo zbc ?_
  show WJ (WM prog w) A.in1 (zb9 (.ref S) >>= _) _ _ s
  refine Wb (Xy at' rfl ?_)
  show WJ (WM prog w) A.in1 (tryCatch (Zs (.ref I)) _ >>= _) _ _ s
  refine Wb (Y9 (W.item (j+1) s _ _ (by omega) st λv g tk pv st1 kp=>?_))
  have at1:=kp S _ sw at'
  show WJ (WM prog w) A.in1 (tryCatch (zbg [v,v] (richCompare .Gt v vb >>= _)) _ >>= _) _ _ _
  refine Wb (Y9 (YV (Wb (cm (j+1) (ZR bt j) v vb _ _ _ pv pb ?_))))
  refine Wb (YV (YA (Wb (Y6 (Wn ?_)))))
  cases better:bt (j+1) (ZR bt j) with
  | true=>
   rw[if_pos rfl]
   have bst:ZR bt (j+1)=j+1:=by rw[ZR,if_pos better]
   refine Wb ?_
   refine Zq at1 rfl ?_
   refine Wb (Y6 ?_)
   rw[nm]
   refine Wn ⟨YH Yo _,ih (j+1) _ v (by omega) (W.frame _ _ _ st1 λc hc o e=>(Xr _ _ (λz:S=c=>hS (by rw[z];exact hc))).trans e) (by rw[bst];exact pv) ⟨_,ZV _ at1 rfl⟩ λv' g' tk' p' kp'=>?_⟩
   exact fin v' g' tk' p' λc o c1 c2 e=>kp' c o c1 c2 ((Xr _ _ (WY c2)).trans (kp c o c1 e))
  | false=>
   rw[if_neg YQ]
   have bst:ZR bt (j+1)=ZR bt j:=by rw[ZR,if_neg (by rw[better];exact YQ)]
   refine Wb (Y6 ?_)
   rw[nm]
   exact Wn ⟨YH Yo _,ih (j+1) _ vb (by omega) st1 (by rw[bst];exact pb) ⟨_,at1⟩ λv' g' tk' p' kp'=>fin v' g' tk' p' λc o c1 c2 e=>kp' c o c1 c2 (kp c o c1 e)⟩
theorem J4 (W:Walks prog w A.in1 I fp wr n P St){bt:Nat->Nat->Bool}(cm:CmpOf prog w A.in1 .Gt P bt){S:Addr}(hS:S ∉ fp){s:Wh}{nm':Str}{d:We}(st:St 0 s.heap)(at0:Ub s.heap S #[])
  (f0:n=0->∀ g tk,(∀ c o,c ∉ wr->c≠S->s.heap.get? c=some o->g.get? c=some o)->R (.ok (.ret d)) { s with heap:=g,toks:=tk })
  (f1:∀ v g tk,0 < n->P (ZR bt (n - 1)) v->(∀ c o,c ∉ wr->c≠S->s.heap.get? c=some o->g.get? c=some o)->R (.ok (.ret v)) { s with heap:=g,toks:=tk }) :
  Y1 (WM prog w) A (.builtin "max.loop" ⟨[.ref I,.none,.ref S],[(nm',d)]⟩) R s:=by
 have sw:S ∉ wr:=λh=>hS (W.sub _ h)
 have nm:(toString "max" ++ toString ".loop" : String) = "max.loop" := by decide
 obtain ⟨ep,at'⟩:=at0
 refine run_plain Yo zbc ?_
 show WJ (WM prog w) A.in1 (zb9 (.ref S) >>= _) _ _ s
 refine Wb (Xy at' rfl ?_)
 show WJ (WM prog w) A.in1 (tryCatch (Zs (.ref I)) _ >>= _) _ _ s
 rcases Nat.eq_zero_or_pos n with hn | hn
 ·refine Wb (Y9 (W.done s _ _ (by rw[hn];exact st) λg tk kp=>?_))
  show WJ (WM prog w) A.in1 (rule _ >>= _) _ _ _
  exact Wb (YO (Wn (f0 hn g tk λc o c1 c2 e=>kp c o c1 e)))
 ·refine Wb (Y9 (W.item 0 s _ _ hn st λv g tk pv st1 kp=>?_))
  have at1:=kp S _ sw at'
  show WJ (WM prog w) A.in1 (updateSeq S (λ_=>#[v,v]) >>= _) _ _ _
  refine Wb ?_
  refine Zq at1 rfl ?_
  rw[nm]
  refine Wn ⟨YH Yo _,Nx W cm hS _ (n - 1) 0 _ v (by omega) (W.frame _ _ _ st1 λc hc o e=>(Xr _ _ (λz:S=c=>hS (by rw[z];exact hc))).trans e) pv ⟨_,ZV _ at1 rfl⟩ λv' g' tk' p' kp'=>?_⟩
  exact f1 v' g' tk' hn p' λc o c1 c2 e=>kp' c o c1 c2 ((Xr _ _ (WY c2)).trans (kp c o c1 e))
end
variable {s:Wh}
theorem EN (a d:We):argsOk "max" ⟨[a],[(OF "default", d)]⟩:=by unfold argsOk;kernel_rfl
theorem FG (d:We):zar "max" ["key", "default"] 0 ⟨[],[(OF "default", d)]⟩=pure [none,some d]:=by kernel_rfl
theorem MQ {id:String}{bi:ZP}{a:Args}{Q:We->Wh->Prop}(hk:builtinKind id=none)(hp:plainId id=true)(hb:entryFor table id=some bi)(ha:argsOk id a)
  (h:WJ (WM prog w) A.in1 (bi a) (λfin s'=>match fin with
   | .done f=>(match (Except.ok f:zc9) with | .ok (.ret v)=>Q v s' | .ok _=>False | .error e=>E e s') | .again c'=>c'.quiet=true/\Y1 (WM prog w) A c' (λr s'=>match r with | .ok (.ret v)=>Q v s' | .ok _=>False | .error e=>E e s') s') E s):WJ (WM prog w) A (zcb (.builtin id) a.pos a.kw) Q E s:=by
 refine wpAny_call (codeAny_call_builtin hp hb ?_);simp only[checkBuiltinCall,hk]
 unfold argsOk at ha
 split<;>rename_i sg
 ·rw[sg] at ha
  have ha':Bind.checkArgs id _ a=pure ():=ha
  rw[show (⟨a.pos,a.kw⟩:Args)=a from rfl,ha']
  exact Wn h
 ·exact Wn h
theorem EV {l:Addr}{xs:Array (Int×Tok)}{d:We}{Q:We->Wh->Prop}(hh:A.handled=none)(hl:s.heap.IsList l (zac xs))
  (f0:xs.size=0->∀ g tk,Kept s g->Q d { s with heap:=g,toks:=tk })
  (f1:∀ v g tk,0 < xs.size->(zac xs)[ZR (λi j=>decide (zdo xs i > zdo xs j)) (xs.size - 1)]? = some v->Kept s g->Q v { s with heap:=g,toks:=tk }) :
  WJ (WM prog w) A (zcb (.builtin "max") [.ref l] [(OF "default", d)]) Q E s:=by
 have nm:(toString "max" ++ toString ".loop" : String) = "max.loop" := by decide
 refine MQ (a:=⟨[.ref l],[(OF "default", d)]⟩) F.kind_max F.plain_max F.entry_max (EN _ _) ?_
 show WJ (WM prog w) A.in1 (zar "max" ["key", "default"] 0 ⟨[],[(OF "default", d)]⟩ >>= _) _ _ s
 refine Wb (zdm (FG d) ?_)
 refine Wb (Wn ?_)
 refine Wb (iter_intList hl λs₂ e st hfp hlI=>?_)
 subst e
 refine Wb (Xp ?_);rw[nm]
 have W:=zek (prog:=prog) (w:=w) (A:=A.in1) hh _ l hlI (zac xs)
 have n1:(zac xs).size=xs.size:=by simp[zac]
 have S0:(s.heap.push { cls:=.type "list_iterator", data:=.fields #[.ref l,.int 0 0] }).objs.size ∉ [s.heap.objs.size,l]:=λhm=>Ym _ (hfp _ hm)
 have old:∀ g,(∀ c o,c ∉ [s.heap.objs.size]->c≠(s.heap.push { cls:=.type "list_iterator", data:=.fields #[.ref l,.int 0 0] }).objs.size->((s.heap.push { cls:=.type "list_iterator", data:=.fields #[.ref l,.int 0 0] }).push { cls:=.type "list", data:=.seq ([]:List We).toArray }).get? c=some o->g.get? c=some o)->Kept s g:=λg kp c o e=>by
  have lt:=WC e
  exact kp c o (λh=>by rw[XS.mp h] at lt;exact Ym _ lt) (by rw[Y7];exact WO (Nat.lt_succ_of_lt lt)) (Wc _ (Wc _ e))
 refine Wn ⟨YH Yo _,J4 W (CmpOf.ints_gt (zdo xs) λ_ _=>intItems_at) S0 (W.frame _ _ _ st λc _ o e=>Wc _ e) ⟨_,WE _ rfl⟩ (λz g tk kp=>?_) λv g tk hn pv kp=>?_⟩
 ·exact f0 (by rw[← n1];exact z) g tk (old g kp)
 ·rw[n1] at hn pv
  exact f1 v g tk hn pv (old g kp)
end
section
variable {X:Cx} {e d:WR} {p pos kp:Pos} {Te Td:ETr}
def Uv (K:Wa)(xs:List V)(zs:List V)(H:Hp)(Q:VK):Prop:=∃ (p:Addr) (ns:List Int) (z:V),xs=[.ref p]/\zs=[z]/\SqL K H p (ns.map V.int)/\(ns=[]->Q z H)/\(ns≠[]->∀ M,M∈ns->(∀ a∈ns,a<=M)->Q (.int M) H)
theorem Mb {t tk:TA}(hc:X.calm=true)(hg:Gl X "max")(hm:X.mg "max" = none)(ha:PA X [e] t)(hkw:PK X [⟨some (OF "default"),d,kp⟩] tk)(he:XA pos (Ww [e] X.env)=(false,Xw e X.env)::XA pos (Ww [] X.env):=by rfl)(hpl:(XA pos (Ww [e] X.env)).any (·.1)=false:=by rfl) :
  PE X (.Call (.Name "max" p) [e] [⟨some (OF "default"),d,kp⟩] pos) (λσ H Q=>t σ H λxs H1=>tk σ H1 λzs H2=>Uv X.K xs zs H2 Q):=by
 intro pins s σ H Q I h
 refine Zu (kn I hg hm (u:=.builtin "max") (by rfl) ?_)
 refine callWith_kw (thn (ha pos pins s σ H _ I h) λus s1 ⟨vs,H1,I1,r1,q1⟩=>thn (hkw pos pins s1 σ H1 _ I1 q1) λws s2 ⟨zs,H2,I2,rz,q2⟩=>?_) he hpl rfl rfl
 obtain ⟨q,ns,z,rfl,rfl,sq,k0,k1⟩:=q2
 obtain ⟨u,rfl,ru⟩:=vals1 r1
 cases ru
 obtain ⟨u,rfl,rz1⟩:=vals1 rz
 obtain ⟨its,rv,pl,_⟩:=I2.list sq
 obtain ⟨ps,rfl,rfl⟩:=ij (intsAre_of rv)
 have il:s2.heap.IsList q (zac ps.toArray):=by
  have:=pl.isList
  simpa[zac] using this
 have hs:ps.toArray.size=ps.length:=by simp
 refine EV (I2.ok.hd hc) il (λz0 g tk kp=>?_) λv g tk hn hv hk=>?_
 ·exact ⟨z,H2,I2.kept kp,rz1,k0 (by rw[hs] at z0;cases ps with | nil=>rfl | cons=>cases z0)⟩
 ·rcases intItems_at hv with ⟨t,rfl⟩
  obtain ⟨b1,b2⟩:=argBest_gt (zdo ps.toArray) (ps.toArray.size - 1)
  generalize ZR (λi j=>decide (zdo ps.toArray i > zdo ps.toArray j)) (ps.toArray.size - 1)=m at hv b1 b2
  rw[hs] at b1 b2 hn
  have hk':m < (ps.map zdN).length:=by rw[Wf];omega
  refine ⟨.int _,H2,I2.kept hk,⟨t,rfl⟩,k1 (λz=>by rw[zao.mp z] at hn;cases hn) _ ?_ λa ha=>?_⟩
  ·rw[sF,Wz hk']
   exact XB hk'
  ·obtain ⟨j,hj,rfl⟩:=X4 ha
   have:=b2 j (by rw[Wf] at hj;omega)
   rw[sF ps j,Wz hj] at this
   exact this
def CY (Te Td:ETr):ETr:=λρ μ Q=>Te ρ μ λx μ1=>Td ρ μ1 λy μ2=>match x with
 | .ls xs=>∃ ns:List Int,xs=ns.map .int/\(ns=[]->Q y μ2)/\(ns≠[]->∀ M,M∈ns->(∀ a∈ns,a<=M)->Q (.int M) μ2)
 | _=>False
theorem DQ (hc:X.calm=true)(hg:Gl X "max")(hm:X.mg "max" = none)(ha:LE X e Te)(hd:LE X d Td)(h1:Ww [e] X.env=(false,Xw e X.env)::Ww [] X.env:=by rfl)(he:XA pos (Ww [e] X.env)=(false,Xw e X.env)::XA pos (Ww [] X.env):=by rfl)(hpl:(XA pos (Ww [e] X.env)).any (·.1)=false:=by rfl) :
  LE X (.Call (.Name "max" p) [e] [⟨some (OF "default"),d,kp⟩] pos) (CY Te Td):=by
 obtain ⟨te,pe,se⟩:=ha.ex
 obtain ⟨td,pd,sd⟩:=hd.ex
 refine ⟨_,Mb hc hg hm (ft pe i9 h1) (LF pd Sg) he hpl,λσ H ρ μ Q Q' rl h k=>se σ H ρ μ _ _ rl h λx H1 dx μ1 t1 m1 p1 h1=>sd σ H1 ρ μ1 _ _ (rl.go t1 m1) h1 λy H2 dy μ2 t2 m2 p2 h2=>?_⟩
 cases (p1.mono t2) with
 | @ls q xs ds sq l=>
  obtain ⟨ns,rfl,k0,k1⟩:=h2
  have ex:=l.ints_of
  subst ex
  exact ⟨q,ns,y,rfl,rfl,sq.sq,λz=>k _ H2 _ μ2 (t1.trans t2) m2 p2 (k0 z),λz M h3 h4=>k _ H2 _ μ2 (t1.trans t2) m2 (.int _) (k1 z M h3 h4)⟩
 | _=>exact Wm h2
end
end
section
open PySem PySem.Spec PyProof.Rows L2
def vN (It':ATr)(G:GTr)(tt:TTr)(te:ETr)(n:Nat)(caps:List Nat):ETr:=λρ μ Q=>It' ρ μ λds μ1=>∀ p,μ1 p=none->fK p G tt te (fk ρ n caps) (λμ'=>Q (.obj p) μ') ds (up μ1 p (.lst []))
theorem GJ {X:Cx}{tg iter elt:WR}{ifs:List WR}{scope:Scope}{pos spos py:Pos}{y:Str}{iy:Nat}{wi:TI}{g:TG}{tt:TT}{te:TE}{Nc:List Str}{n:Nat}{caps:List Nat}
  (hxe:X.xe=λ_ _=>False) (hcalm:X.calm=true) (hi:PI X tg iter wi)
  (hbody:∀ (cl:List (Str×Addr)) (C:Addr) (s₀:Wh) (H₀:Hp) (ex:List Addr),PG (bh X scope Nc cl C s₀ H₀ ex) tg g/\xt (bh X scope Nc cl C s₀ H₀ ex) ifs tt/\PE (bh X scope Nc cl C s₀ H₀ ex) elt te)
  (hfree:∀ y∈scope.names,y.2=.free->X.env.kindOf y.1=some .cell) (hcell:∀ y∈scope.names,y.2≠.cell) (gu:scope.kind=.function)
  (hnames:∀ y∈scope.names,y.2=.local->scope.names.lookup y.1=some .local) (hlen:Nc.length=n+caps.length)
  (hcap:∀ (j k:Nat),caps[j]? = some k->∃ x,Nc[n+j]? = some x/\X.N[k]? = some x/\scope.names.lookup x=some .free)
  (pgy:PG X (.Name y py) (nj iy))
  (hsw:YJ (.ListComp elt [⟨tg,iter,ifs,0⟩] scope pos) (some (.Name y py)) spos.line X.env=pure true)
  (hs:∀ x,Xf iter X.env x=pure x:=by intro _;rfl) :
  PS X (.Assign [.Name y py] (.ListComp elt [⟨tg,iter,ifs,0⟩] scope pos) spos) (GX (lE wi g tt te n caps) (nj iy)):=
 y9 (Z:=id) hxe hcalm hi hbody hfree hcell gu hnames hlen hcap pgy hsw (λσ H Q h=>⟨_,h,λpins D H5 s5 I5 q=>⟨H5,λ_ h=>h,I5,q⟩⟩) hs
theorem FO {K:Wa}{wi:TI}{It':ATr}{G:GTr}{Tt:TTr}{Te:ETr}{n:Nat}{caps:List Nat}(si:Pc K wi It'):Sim K (lE wi (nC K n G) (liftT K Tt) (mP K Te) n caps) (vN It' G Tt Te n caps):=by
 intro σ H ρ μ Q Q' rl h k
 refine si σ H ρ μ _ _ rl h λJ H1 ds μ1 t1 m1 Y h1 D hD=>?_
 have hp:=h1 D (m1.free hD)
 have tD:Tk H1 (L2.upd H1 D (.lst [])):=.new hD
 have mD:bQ K (L2.upd H1 D (.lst [])) (up μ1 D (.lst [])):=λa o e=>by
  by_cases ha:a=D
  ·subst ha
   rw[aK] at e;cases e
   exact ⟨[],aQ,.nil⟩
  ·rw[aY ha] at e
   exact dh m1 hD a o e
 refine ⟨λi m ys H2=>m=ds.length - i/\i<=ds.length/\Tk H1 H2/\∃ μ2,bQ K H2 μ2/\fK D G Tt Te (fk ρ n caps) (λμ'=>Q (.obj D) μ') (ds.drop i) μ2,
  ⟨ds.length,by simp,Xx _,tD,_,mD,by simpa using hp⟩,?_⟩
 rintro i m ys H2 ⟨rfl,hi,t12,μ2,m2,h2⟩
 by_cases hlt:i < ds.length
 ·refine .inr ⟨Y.go i H2 t12 hlt,λys' H'=>Tk H1 H'/\∃ μ',bQ K H' μ'/\fK D G Tt Te (fk ρ n caps) (λμ'=>Q (.obj D) μ') (ds.drop (i+1)) μ',λys' H' ⟨t',μ',m',h'⟩=>⟨ds.length - (i+1),by omega,rfl,hlt,t',μ',m',h'⟩,λx H3 y=>?_⟩
  obtain ⟨t23,⟨d,ed,pd⟩,mk⟩:=Y.yld i H2 x H3 t12 hlt y
  have e:ds.drop i=d::ds.drop (i+1):=by
   refine (X6 hlt).trans ?_
   congr 1
   rw[Wz hlt] at ed
   exact W4 ed
  rw[e] at h2
  have t13:=t12.trans t23
  have r3:Rl K (lC σ n caps) H3 (fk ρ n caps) μ2:=qm (rl.go (t1.trans t13) (mk _ m2)) n caps
  refine ⟨_,_,d,_,r3,pd,h2,λσ4 H4 ρ4 μ4 t4 r4 kp h4=>⟨⟨kp.1.symm,λj v ej=>?_⟩,_,_,_,r4,h4,λb H5 μ5 t5 m5 h5=>?_⟩⟩
  ·by_cases hj:n<=j
   ·rw[kp.2 j hj];exact ej
   ·obtain ⟨j',k',e1,_⟩:=kJ ej
    omega
  ·have t15:=t13.trans (t4.trans t5)
   cases b with
   | false=>exact rE ⟨t15,μ5,m5,h5⟩
   | true=>
    refine qS ⟨_,_,_,r4.go t5 m5,h5,λv H6 d6 μ6 t6 m6 p6 h6=>?_⟩
    obtain ⟨zs,ez,lz,h7⟩:=bT h6
    obtain ⟨xs,ex,lx⟩:=m6 D _ ez
    have t67:Tk H6 (L2.upd H6 D (.lst (xs++[v]))):=.upd (λys z=>by rw[ex] at z;cases z) λo' u z=>by rw[ex] at z;cases z
    refine ⟨xs,ex,by rw[lx.length];exact WK lz (by decide),(t15.trans t6).trans t67,up μ6 D (.lst (zs++[d6])),λa o ea=>?_,h7⟩
    by_cases ha:a=D
    ·subst ha
     rw[aK] at ea;cases ea
     exact ⟨_,aQ,(lx.append (.cons p6 .nil)).mono t67⟩
    ·rw[aY ha] at ea
     exact (m6 a _ ea).ne t67 ha
 ·have e:i=ds.length:=by omega
  subst e
  rw[Yn] at h2
  exact .inl ⟨Y.stop _ H2 t12 (WA _),k _ _ _ μ2 (t1.trans t12) m2 (.obj _) h2⟩
theorem IB {X:Cx}{tg elt iter:WR}{Te:ETr}{Tt:TTr}{pos spos py:Pos}{y:Str}{It':ATr}{G:GTr}{ifs:List WR}{scope fsc:Scope}(iy:Nat)(hN:X.N.Nodup)(XN Nc:List Str)(n:Nat)(caps:List Nat)(hxe:X.xe=λ_ _=>False)(hcalm:X.calm=true)(hi:LI X tg iter It')
  (hbody:∀ (cl:List (Str×Addr)) (C:Addr) (s₀:Wh) (H₀:Hp) (ex:List Addr),LGc (bh X scope Nc cl C s₀ H₀ ex) n tg G/\zL (bh X scope Nc cl C s₀ H₀ ex) ifs Tt/\LE (bh X scope Nc cl C s₀ H₀ ex) elt Te)
  (hsc:X.env.scope=fsc) (hXN:X.N=XN) (hok:iB fsc.names XN scope Nc n caps=true)
  (hiy:X.N[iy]? = some y:=by rfl) (hx:Loc X.env.scope y:=by first | exact ZM rfl | exact ZN rfl) (hf:X.fn y=true∨X.env.scope.names.lookup y=some .local:=by first | exact .inl rfl | exact .inr rfl | assumption)
  (hsw:YJ (.ListComp elt [⟨tg,iter,ifs,0⟩] scope pos) (some (.Name y py)) spos.line X.env=pure true:=by rfl)
  (hs:∀ x,Xf iter X.env x=pure x:=by intro _;rfl) :
  LS X (.Assign [.Name y py] (.ListComp elt [⟨tg,iter,ifs,0⟩] scope pos) spos) (aO (vN It' G Tt Te n caps) (aA iy)):=by
 unfold iB at hok
 simp only[Xd,Zf] at hok
 obtain ⟨⟨⟨h1,h2⟩,h3⟩,h4⟩:=hok
 obtain ⟨wi,pi,si⟩:=hi.ex
 refine ⟨_,GJ (g:=nC X.K n G) (tt:=liftT X.K Tt) (te:=mP X.K Te) hxe hcalm pi (λcl C s₀ H₀ ex=>let ⟨h1,h2,h3⟩:=hbody cl C s₀ H₀ ex;⟨h1.pe,h2.pe,h3.pe⟩) (λy hy hf=>?_) (λy hy hf=>?_) (by simpa using h2) (λy hy hf=>?_) (by simpa using h3) (λj k hj=>?_) (ji hN hiy hx hf) hsw hs,λσ H ρ μ E E' rl h k=>FO si σ H ρ μ _ _ rl h λv H' d μ' t' m' p' h'=>iI iy σ H' ρ μ' v d _ _ (rl.go t' m') p' h' (k.go t').nx⟩
 ·have:=(h1 y hy).1.1
  show X.env.scope.names.lookup y.1=_
  rw[hsc]
  simpa[hf] using this
 ·have:=(h1 y hy).1.2
  simp[hf] at this
 ·have:=(h1 y hy).2
  simpa[hf] using this
 ·have hl:j < caps.length:=(WL.mp hj).1
  have:=h4 j (YI.mpr hl)
  rw[hj] at this
  dsimp only at this
  rw[hXN]
  cases e:XN[k]? with
  | none=>rw[e] at this;cases this
  | some x=>
   rw[e] at this
   dsimp only at this
   rw[Xd] at this
   exact ⟨x,by simpa using this.1,rfl,by simpa using this.2⟩
section
variable {X:Cx} {o i:WR} {To Ti:ETr} {apos cpos:Pos}
end
end
section
open PySem PySem.Spec PyProof.Rows L2
section
variable {X:Cx} {o i:WR} {To Ti:ETr} {apos cpos:Pos}
theorem BD (l:Addr)(its:Array We)(n:Nat)(q:Addr)(its2:Array We)(n2:Nat)(dd:Option Addr)(sl:Array (Option We))(h0:¬ (!its.isEmpty&&XI (its.size+its2.size))=true)(h1:its.size<=sizeLine)(h2:its.size+its2.size<=sizeLine+1) :
  Meets (ZP.«list.extend» ⟨[.ref l,.ref q],[]⟩) (λ_ R s=>s.heap.get? l=some { cls:=.type "list", dict:=none,data:=.seq its n,slots:=#[] }/\s.heap.get? q=some { cls:=.type "tuple", dict:=dd,data:=.seq its2 n2,slots:=sl }/\
   R (.ok (.ret YD)) { s with heap:=s.heap.update l (zbn λx=>x++its2) }):=
 .of_wp λprog w A R s h=>by
  rcases s with ⟨hp,g,d,tk,os⟩
  obtain ⟨hl,hb,h⟩:=h
  have z1:=zbu
  have z2:=Z2
  have z3:=zal
  have z4:=Z9
  have z5:=zaa
  have hz':(its++its2).size<=sizeLine+1:=by rw[zc0];omega
  wp_walk using (Zq hl rfl (hz:=h1) (_hz':=hz')),zam hl,zam hb
  exact ⟨_,rfl,h⟩
def TF (K:Wa):V->List V->Hp->VK->Prop:=λx vs H Q=>∃ l b xs zs,x=.ref l/\vs=[.ref b]/\H l=some (.lst xs)/\(SqL K H b zs∨SqT K H b zs)/\xs.length+zs.length<=sizeLine/\Q .non (L2.upd H l (.lst (xs++zs)))
theorem L6:MtM X "list.extend" (TF X.K):=by
 intro pins s σ H x vs v us Q I rx rv h
 obtain ⟨l,q,xs,zs,rfl,rfl,hH,hB,hz,qq⟩:=h
 rcases hB with hB | hB
 ·exact OT pins s σ H _ _ v us Q I rx rv ⟨l,q,xs,zs,rfl,rfl,hH,hB,hz,qq⟩
 cases (show v=W5 l from rx)
 obtain ⟨u,rfl,ru⟩:=rv.one
 cases (show u=W5 q from ru)
 obtain ⟨z,its,n,r,hl,e⟩:=I.Mx hH
 obtain ⟨its2,r2,⟨o,e2,c2,n2,dat2⟩,_⟩:=I.tuple hB
 have e2':s.heap.get? q=some ⟨.type "tuple", o.dict,.seq its2.toArray n2,o.slots⟩:=by
  rw[e2];obtain ⟨c',dd,dt,sl⟩:=o;simp only at c2 dat2;subst c2 dat2;rfl
 have hl2:=r2.length
 have hs2:its.toArray.size+its2.toArray.size<=sizeLine:=by rw[WG,WG];omega
 have Ka:¬ (!its.toArray.isEmpty&&XI (its.toArray.size+its2.toArray.size))=true:=by
  rw[zG hs2,zbV];decide
 refine Z0 zcH ⟨_,e,rfl⟩ zcf (zbW _ _) (BD l its.toArray n q its2.toArray n2 o.dict o.slots Ka (by omega) (by omega)) ⟨e,e2',?_⟩
 refine ⟨.non,_,I.Mv (its':=its++its2) hH e (by simp) (r.append r2) ?_,rfl,qq⟩
 rw[Wv];omega
def yf (To Ti:ETr):ETr:=λρ μ Q=>To ρ μ λx μ1=>kObj x λa=>kL μ1 a λ_=>Ti ρ μ1 λy μ2=>EH μ2 y λes=>kL μ2 a λds=>ds.length+es.length<=1000000/\Q .non (up μ2 a (.lst (ds++es)))
theorem GQ {K:Wa}{H:Hp}{μ:Mu}{x:V}{dx:D}{f:List D->Prop}(m:bQ K H μ)(p:Dp K H x dx)(h:EH μ dx f):∃ q xs ds,x=.ref q/\(SqL K H q xs∨SqT K H q xs)/\DpL K H xs ds/\f ds:=by
 cases p with
 | tup sq l=>exact ⟨_,_,_,rfl,.inr sq,l,h⟩
 | ls sq l=>exact ⟨_,_,_,rfl,.inl sq.sq,l,h⟩
 | obj q=>
  obtain ⟨ds,e0,h⟩:=bT (show kL μ q _ from h)
  obtain ⟨xs,ex,l⟩:=m q _ e0
  exact ⟨q,xs,ds,rfl,.inl (SqL.of ex),l,h⟩
 | _=>exact Wm h
theorem vX (ho:LE X o To)(hi:LE X i Ti)
  (hbase:YW o "extend" X.env (Xw o X.env)=Xw o X.env:=by rfl)
  (hfew:((XA cpos (Ww [i] X.env)).all (λx=>!x.1)&&(Z4 cpos (YN [] X.env)).all (λx=>x.1.isSome)
   && decide (([i]:List WR).length+([]:List YS).length+(if ([]:List YS).isEmpty then 0 else 1) < 30))=true:=by rfl)
  (hline:(apos.endLine == cpos.line)=true:=by rfl) (hs:Ww [i] X.env=(false,Xw i X.env)::Ww [] X.env:=by rfl) (hplain:(XA cpos (Ww [] X.env)).any (·.1)=false:=by rfl) :
  LE X (.Call (.Attribute o "extend" apos) [i] [] cpos) (yf To Ti):=by
 obtain ⟨to,po,so⟩:=ho.ex
 obtain ⟨ti,pi,si⟩:=hi.ex
 refine ⟨_,D9 YL PySem.F.slot_list_extend PySem.F.type_list_extend L6 po (ft pi i9 hs) hbase hfew hline hs hplain,λσ H ρ μ Q Q' rl h k=>so σ H ρ μ _ _ rl h λx H1 dx μ1 t1 m1 p1 h1=>?_⟩
 obtain ⟨q,rfl,h1⟩:=iE p1 h1
 obtain ⟨ds0,e0,h1⟩:=bT h1
 obtain ⟨xs0,ex0,_⟩:=m1 q _ e0
 refine ⟨.inl ⟨rfl,_,SqL.of ex0⟩,si σ H1 ρ μ1 _ _ (rl.go t1 m1) h1 λy H2 dy μ2 t2 m2 p2 h2=>?_⟩
 obtain ⟨q',ys,es,rfl,sq,l',h2⟩:=GQ m2 p2 h2
 obtain ⟨ds,e2,hz,h2⟩:=bT h2
 obtain ⟨xs,ex,l⟩:=m2 q _ e2
 exact ⟨q,q',xs,ys,rfl,rfl,ex,sq,by rw[l.length,l'.length];exact big hz,k _ _ _ _ ((t1.trans t2).trans (l6 ex)) (IT m2 ex (l.append l')) .non h2⟩
end
end
theorem NP (a b:ETr)(ρ:ST)(μ:Mu)(Q:DK):JR a b ρ μ Q=a ρ μ λx μ1=>b ρ μ1 λy μ2=>kI x λi=>kI y λj=>((-4611686018427387904<=i/\i < 4611686018427387904)/\(-4611686018427387904<=j/\j < 4611686018427387904)/\(j - i).toNat<=1000000)/\Q (.tup (cG i (j - i).toNat)) μ2:=propext Wi
def Qe (x y:D)(μ:Mu)(Q:DK):Prop:=match x with
 | .ls xs=>∃ ns:List Int,xs=ns.map .int/\(ns=[]->Q y μ)/\(ns≠[]->∀ M,M∈ns->(∀ a∈ns,a<=M)->Q (.int M) μ)
 | _=>False
theorem KH (a b:ETr)(ρ:ST)(μ:Mu)(Q:DK):CY a b ρ μ Q=a ρ μ λx μ1=>b ρ μ1 λy μ2=>Qe x y μ2 Q:=propext Wi
theorem K7 (a b:ETr)(ρ:ST)(μ:Mu)(Q:DK):yf a b ρ μ Q=a ρ μ λx μ1=>kObj x λa=>kL μ1 a λ_=>b ρ μ1 λy μ2=>EH μ2 y λes=>kL μ2 a λds=>ds.length+es.length<=1000000/\Q .non (up μ2 a (.lst (ds++es))):=propext Wi
theorem OR (μ:Mu)(ds:List D)(f:List D->Prop):EH μ (.tup ds) f=f ds:=propext Wi
theorem QL (μ:Mu)(ds:List D)(f:List D->Prop):EH μ (.ls ds) f=f ds:=propext Wi
def ENM (vs:List D)(μ:Mu)(Q:List D->Mu->Prop):Prop:=match vs with
 | [x]=>kS x λds=>Q (gJ ds) μ
 | _=>False
theorem MJ (t:ATr)(ρ:ST)(μ:Mu)(Q:List D->Mu->Prop):zB t ρ μ Q=t ρ μ λvs μ1=>ENM vs μ1 Q:=propext Wi
theorem S7 (x:D)(μ:Mu)(Q:List D->Mu->Prop):ENM [x] μ Q=kS x λds=>Q (gJ ds) μ:=propext Wi
def NY (G:GTr)(tt:TTr)(te:ETr)(ρc:ST)(ds:List D)(μ:Mu)(Q:DK):Prop:=∀ p,μ p=none->fK p G tt te ρc (λμ'=>Q (.obj p) μ') ds (up μ p (.lst []))
theorem F3 (it:ATr)(G:GTr)(tt:TTr)(te:ETr)(n:Nat)(caps:List Nat)(ρ:ST)(μ:Mu)(Q:DK):vN it G tt te n caps ρ μ Q=it ρ μ λds μ1=>NY G tt te (fk ρ n caps) ds μ1 Q:=propext Wi
theorem J6 (xs:List D)(μ:Mu)(Q:DK):jJ tj [.tup xs] μ Q = ∃ ns:List Int,(xs=ns.map .int/\ns.length < 64)/\∀ ns':List Int,ns'.Perm ns->ns'.Pairwise (·<=·)->Q (.ls (ns'.map .int)) μ:=propext Wi
theorem KG (xs:List D)(μ:Mu)(Q:DK):jJ Ee [.ls xs] μ Q = ∃ ns:List Int,xs=ns.map .int/\Q (.int ns.sum) μ:=propext Wi
theorem Uo (o:Option Int)(μ Q):rIs (dJ o) .non μ Q=Q (.bl (decide (o=none))) μ:=by cases o<;>simp[rIs,dJ]
def dO (ns:List Int):List Int:=ns.mergeSort (λa b=>decide (a<=b))
theorem iX (ns:List Int):(dO ns).Perm ns:=List.mergeSort_perm ..
theorem IG (ns:List Int):(dO ns).Pairwise (·<=·):=by
 have:=List.pairwise_mergeSort (le:=λa b:Int=>decide (a<=b)) (λa b c h1 h2=>by simp at *;omega) (λa b=>by simp;omega) ns
 exact this.imp λh=>by simpa using h
theorem oW:∀ {a b:List Int},a.Perm b->a.Pairwise (·<=·)->b.Pairwise (·<=·)->a=b
 | [],b,h,_,_=>(List.nil_perm.mp h).symm
 | x::a,[],h,_,_=>absurd h (by simp)
 | x::a,y::b,h,ha,hb=>by
  have ha':=Zx.mp ha
  have hb':=Zx.mp hb
  have hx:x∈y::b:=h.mem_iff.mp Wu
  have hy:y∈x::a:=h.mem_iff.mpr Wu
  have e:x=y:=by
   rcases Wx.mp hx with e | e
   ·exact e
   ·rcases Wx.mp hy with e' | e'
    ·exact e'.symm
    ·have h1:=ha'.1 y e'
     have h2:=hb'.1 x e
     omega
  subst e
  rw[oW ((List.perm_cons x).mp h) ha'.2 hb'.2]
theorem zQ {a ns:List Int}(h:a.Perm ns)(s:a.Pairwise (·<=·)):a=dO ns:=oW (h.trans (iX ns).symm) s (IG ns)
theorem oE (ns:List Int):(dO ns).length=ns.length:=(iX ns).length_eq
def own (n:Str)(ls:List Lt):List Lt:=ls.filter λl=>decide (l.nm=n)
def St'.und (x:St')(n:Str):Int:=(x.ws.map λw=>((own n (w.cm++w.st)).length:Int)).sum
def iK (lf:Option Int)(places:Int):Int:=match lf with
 | none=>places
 | some l=>min places l
def rgI (a:Int)(n:Nat):List Int:=(WQ n).map λ(i:Nat)=>a+(i:Int)
theorem SI (a:Int)(n:Nat):cG a n=(rgI a n).map .int:=by unfold cG rgI;rw[Wq];rfl
def Ss.fill (x:Ss)(pl:Nat):Ss×List Int:=
 let c:=iK x.lf ((pl:Int) - ((x.ag.take pl).length:Int))
 (⟨x.nm,x.du,x.W,x.S,x.nx+c,x.lf.map (· - c),x.ag.drop (x.ag.take pl).length,x.lo,x.gd,x.mk',x.wt⟩,x.ag.take pl++rgI x.nx c.toNat)
def Ss.hd (x:Ss):Hd:=⟨x.gd,x.mk',x.lo.length,x.wt⟩
def Ss.rdy (g:Int)(R:RN)(x:Ss):Ss:=⟨x.nm,x.du,(R.beh g x.W x.S x.hd).1,(R.beh g x.W x.S x.hd).2,x.nx,x.lf,dO (x.ag++x.lo),[],0,0,0⟩
def Ss.bt (g:Int)(s:Sn)(x:Ss)(u:Int):Ss×List Int:=if x.du=some 0 then (x.rdy g s.rl).fill (max 0 ((s.rl.beh g x.W x.S x.hd).1 / g - u)).toNat else (x,[])
def da (ns:List (List Int)):Nat:=(ns.map X5).foldr max 0
def jM (ss:List Sn)(ns:List (List Int)):List (Str×Lt):=
 (WQ (da ns)).flatMap λt=>(Wl ss ns).filterMap λp=>p.2[t]?.map λn=>(p.1.rd.headD (OF ""),⟨p.1.nm,n,0,0,0⟩)
def sdD (x:Str×Lt):D:=.tup [.str x.1,x.2.toD]
structure Wt where
 ca:List Lt
 lo:List Lt
 ou:List Lt
 st:List Lt
 la:Str
def Wt.toD (x:Wt):D:=.tup [.tup (ltD x.ca),.tup (ltD x.lo),.tup (ltD x.ou),.tup (ltD x.st),.str x.la]
def pass (w:Wy)(ns:List Str)(k:Ws)(aJ:List (Str×Lt)):Wt:=
 let ca:=k.cm++(aJ.filter λx=>decide (x.1=w.nm)).map (·.2)
 let h:=tk w k.st ca
 let t:=dI w ns h.1 k.la
 ⟨ca,h.2,t.1,t.2.1,t.2.2⟩
def lB (ss:List Sn):List (L2.Key×D):=ss.map λs=>(.inr s.nm,.tup (s.rd.map .str))
def road (ss:List Sn)(n:Str):List Str:=((ss.find? λs=>decide (s.nm=n)).map Sn.rd).getD []
def bU (ss:List Sn)(l:Lt):Option Str:=(road ss l.nm)[l.hp.toNat+1]?
def xT:Option Str->D
 | none=>.non
 | some s=>.str s
structure Ev where
 wd:Str
 nm:Str
 nu:Int
 wy:Str
def Ev.toD (x:Ev):D:=.tup [.str x.wd,.str x.nm,.int x.nu,.str x.wy]
abbrev evD (xs:List Ev):List D:=xs.map Ev.toD
def evs (ss:List Sn)(w:Wy)(x:Wt):List Ev:=
 (x.ca.zipIdx.map λp=>⟨if (p.2:Int) < (x.ca.length:Int) - x.lo.length then OF "in" else OF "lost", p.1.nm,p.1.nu,w.nm⟩) ++
 x.ou.map λl=>⟨if bU ss l=none then OF "taken" else OF "out", l.nm,l.nu,w.nm⟩
def Lt.jI (x:Lt)(h:Int):Lt:=⟨x.nm,x.nu,x.ag+1,x.hp+h,x.mr⟩
def nS (ss:List Sn)(w:Wy)(x:Wt)(out:List Lt):Ws:=⟨(out.filter λl=>decide (bU ss l=some w.nm)).map (·.jI 1),x.st.map (·.jI 0),x.la⟩
def EU (s:Sn)(d:Option Int):Option Int:=d.map λi=>if i=0 then s.bt - 1 else i - 1
def qR (d:Int):List Int->Int
 | []=>d
 | a::r=>(a::r).tail.foldl max a
def jg (s:Sn)(x:Ss)(a9 taken:List Lt):Ss:=
 let o:=own s.nm taken
 let m:=(o.map Lt.mr).sum
 ⟨x.nm,EU s x.du,x.W,x.S,x.nx,x.lf,x.ag,dO (x.lo++(own s.nm a9).map Lt.nu),x.gd+o.length - m,x.mk'+m,max x.wt (qR 0 (o.map λl=>l.ag - l.hp))⟩
def Pn.bD (p:Pn)(st:St'):List (Ss×List Int):=Xj (λs k=>k.bt p.g s (st.und k.nm)) p.ss st.ss
def Pn.aJ (p:Pn)(st:St'):List (Str×Lt):=jM p.ss ((p.bD st).map (·.2))
def Pn.bJ (p:Pn)(st:St'):List Wt:=Xj (λw k=>pass w p.sn k (p.aJ st)) p.ws st.ws
def Pn.a9 (p:Pn)(st:St'):List Lt:=(p.bJ st).flatMap Wt.lo
def Pn.out (p:Pn)(st:St'):List Lt:=(p.bJ st).flatMap Wt.ou
def Pn.taken (p:Pn)(st:St'):List Lt:=(p.out st).filter λl=>decide (bU p.ss l=none)
def Pn.step (p:Pn)(st:St'):St':=⟨Xj (λw x=>nS p.ss w x (p.out st)) p.ws (p.bJ st),Xj (λs b=>jg s b.1 (p.a9 st) (p.taken st)) p.ss (p.bD st)⟩
def Pn.evs (p:Pn)(st:St'):List Ev:=(p.aJ st).map (λx=>⟨OF "sent", x.2.nm,x.2.nu,x.1⟩)++(Xj (λw x=>L3.evs p.ss w x) p.ws (p.bJ st)).flatten
theorem UO (x:Wt)(μ:Mu)(Q:DK):L3.rIx x.toD (.int 0) μ Q=Q (.tup (ltD x.ca)) μ:=propext Wi
theorem U9 (x:Wt)(μ:Mu)(Q:DK):L3.rIx x.toD (.int 1) μ Q=Q (.tup (ltD x.lo)) μ:=propext Wi
theorem VE (x:Wt)(μ:Mu)(Q:DK):L3.rIx x.toD (.int 2) μ Q=Q (.tup (ltD x.ou)) μ:=propext Wi
theorem UR (x:Wt)(μ:Mu)(Q:DK):L3.rIx x.toD (.int 3) μ Q=Q (.tup (ltD x.st)) μ:=propext Wi
theorem V6 (x:Wt)(μ:Mu)(Q:DK):L3.rIx x.toD (.int 4) μ Q=Q (.str x.la) μ:=propext Wi
theorem TX (i0 i1:Nat)(x:Str×Lt)(ρ:ST)(μ:Mu)(k:ST->Mu->Prop):de [i0,i1] (sdD x) ρ μ k=de [i0,i1] (.tup [.str x.1,x.2.toD]) ρ μ k:=propext Wi
def RN.sh1 (R:RN)(g S:Int)(h:Hd):Int:=if R.idle h then S else R.shr g S h
theorem Ll (R:RN)(g W S:Int)(h:Hd):(R.beh g W S h).2=R.sh1 g S h:=by
 unfold RN.beh RN.sh1;split<;>rfl
theorem QH {R:RN}(k:R.Ok){g S:Int}{h:Hd}(H:h.Ok)(g0:0 < g)(S0:0<=S)(S1:S<=g):0<=R.sh1 g S h/\R.sh1 g S h<=g:=by
 unfold RN.sh1
 split
 ·exact ⟨S0,S1⟩
 ·rename_i hn;exact Ki k H hn g0 S0 S1
theorem Na {R:RN}(K:R.Ok){g:Int}(g0:0 < g)(x:Int):g<=R.clip g x/\R.clip g x<=R.cap g:=by
 have c2:=HH K (g:=g) g0
 unfold RN.clip;omega
def S4:=Jn @NP <| Jn @KH <| Jn @K7 <| Jn @OR <| Jn @QL <| Jn @MJ <| Jn @S7 <| Jn @F3 <| Jn @J6 <| Jn @KG <| Jn @Uo <| Jn @UO <| Jn @U9 <| Jn @VE <| Jn @UR <| Jn @V6 <| Jn @TX <| @Tz
local macro_rules | `(tactic| walk_at "go")=>zzS "↓L3.S4 L3.Ft ↓L3.zE ↓L3.As ↓L3.yY ↓L3.yV ↓L3.ya ↓L3.Aj ↓L3.kZ ↓L3.jo L3.cB L3.b8 L3.cI L3.cy L3.cJ L3.cw L3.c5 L3.cU L3.b7 L3.cA L3.cx L3.cC L3.cz L3.cZ L3.cD L3.cW L3.cF L3.c7 L3.cH L3.cY L3.je L3.w4 L3.wW L3.fk List.map_cons List.map_nil List.replicate List.cons_append List.nil_append L3.lk L3.zA L3.kA L3.yg L3.ET L3.gR L3.b6 L3.qT L3.fB L3.uX L3.vh L3.lq L3.iG L3.oj L3.nR L3.kM L3.lr L3.kU L3.lu true_and and_true and_self Bool.not_true Bool.not_false decide_true decide_false Bool.or_true Bool.or_false Bool.true_or Bool.false_or Bool.and_false Bool.false_and Bool.and_true Bool.true_and Int.reduceToNat Int.reducePow Int.reduceNeg Int.reduceSub Int.reduceAdd Int.reduceMul Int.reduceEq Int.reduceLT Int.reduceLE Int.reduceBEq L3.iC L3.gi L3.fN L3.fY L3.gf L3.gh L3.fS L3.fO if_true if_false Bool.false_eq_true reduceCtorEq decide_eq_true_eq"
theorem eJ {α β:Type}(p:α->Prop) [DecidablePred p] (f:α->β):∀ xs:List α,xs.filterMap (λx=>if p x then some (f x) else none)=(xs.filter λx=>decide (p x)).map f
 | []=>rfl
 | x::r=>by by_cases h:p x<;>simp[h,eJ p f r]
theorem HP {μ:Mu}{Q:DK}(ls:List Lt)(n:Str)(hl:ls.length<=900000)(ok:∀ x∈ls,Wj x.nm=true)(hn:Wj n=true)(k:Q (.ls (ltD (own n ls))) μ) :
  tW (aA 0) (TB (aj rEq (aj rIx (ah 0) (TC (.int 0))) (ah 1))) (ah 0) [none,some (.str n)] (ltD ls) μ Q:=by
 refine kf ls Lt.toD (λx=>if x.nm=n then some x.toD else none) rfl (by omega) (λx hx μ' _ N nn=>?_) ?_
 ·walk_at "go"
  refine ⟨⟨ok x hx,hn⟩,kif (λh=>?_) (λh=>?_)⟩
  ·rw[if_pos h] at nn;exact nn
  ·rw[if_neg h] at nn;exact nn
 ·rw[eJ (λx:Lt=>x.nm=n) Lt.toD];exact k
def Ua (ls:List Lt):Prop:=∀ x∈ls,Wj x.nm=true
structure Ws.Ok (w:Ws):Prop where
 n:Ua (w.cm++w.st)
 l:w.cm.length+w.st.length<=900000
def f9:FSp:=λds μ Q=>kcA ds λd ds=>kcS ds λn ds=>kcN ds (∃ (g:Int) (x:St'),(d=x.toD g/\(∀ w∈x.ws,w.Ok)/\Wj n=true)/\Q (.int (x.und n)) μ)
theorem uf:∀ ds μ Q,f9 ds μ Q->ds.length=2:=λ_ _ _ h=>lcA h λ_ _ h=>lcS h λ_ _ h=>by rw[(ecN h).1];rfl
def pA:STr:=aB (aO (TC (.int 0)) (aA 2)) (aB (iq (eL (aj L3.rIx (ah 0) (TC (.int 0)))) (aA 3) (KN (λm n=>m+n) 2 (au dB (af (bZ (eL (aj aV (aj L3.rIx (ah 3) (TC (.int 0))) (aj L3.rIx (ah 3) (TC (.int 1))))) (aA 0) (TB (aj rEq (aj L3.rIx (ah 0) (TC (.int 0))) (ah 1))) (ah 0) 1 [1]) (aq))))) (aW (ah 2)))
theorem xq:∀ ds μ Q,f9 ds μ Q->pA { nx:=λ_ μ'=>RT Q .non μ',rt:=RT Q } (ini 4 ds) μ:=by
 intro ds μ Q h
 replace h:=ecA h
 obtain ⟨d,ds,rfl,h⟩:=h
 replace h:=ecS h
 obtain ⟨n,ds,rfl,h⟩:=h
 replace h:=ecN h
 obtain ⟨rfl,h⟩:=h
 walk_at "ini"
 unfold pA
 walk_at "go"
 obtain ⟨g,x,⟨rfl,hw,hn⟩,k⟩:=h
 walk_at "go"
 refine bR (λr ρ μ'=>∃ (a c:List Ws) (v3:Option D),r=wsD c/\ρ=[some (x.toD g),some (.str n),some (.int (a.map λw=>((own n (w.cm++w.st)).length:Int)).sum),v3]/\μ'=μ/\a++c=x.ws) ?_ ?_ _ _ _ ⟨[],x.ws,_,rfl,rfl,rfl,rfl⟩
 ·rintro ρ μ' ⟨a,c,v3,er,rfl,rfl,e⟩
  have:c=[]:=by cases c with | nil=>rfl | cons=>cases er
  subst this
  rw[WS] at e
  subst e
  walk_at "go"
  exact ⟨_,.refl _,k⟩
 ·rintro d r ρ μ' N ⟨a,c,v3,er,rfl,rfl,e⟩ hN
  cases c with
  | nil=>cases er
  | cons w c=>
  cases er
  have ho:=hw w (by rw[← e];simp)
  walk_at "go"
  have hl:=ho.l
  refine ⟨by simp;omega,?_⟩
  rw[← W2]
  refine HP (w.cm++w.st) n (by simp;omega) ho.n hn ?_
  walk_at "go"
  refine hN _ _ ⟨a++[w],c,some w.toD,rfl,?_,rfl,by rw[← e];simp⟩
  simp
def gL:FSp:=λds μ Q=>kcA ds λd ds=>kcI ds λn ds=>kcN ds (∃ (g:Int) (x:Ss),d=x.toD g/\Q (.int (iK x.lf n)) μ)
theorem w6:∀ ds μ Q,gL ds μ Q->ds.length=2:=λ_ _ _ h=>lcA h λ_ _ h=>lcI h λ_ _ h=>by rw[(ecN h).1];rfl
def sJ:STr:=aW (lZ (TB (aj rIs (aj L3.rIx (ah 0) (TC (.int 5))) (TC .non))) (ah 1) (au vm (af (ah 1) (af (aj L3.rIx (ah 0) (TC (.int 5))) (aq)))))
theorem Ap:∀ ds μ Q,gL ds μ Q->sJ { nx:=λ_ μ'=>RT Q .non μ',rt:=RT Q } (ini 2 ds) μ:=by
 intro ds μ Q h
 replace h:=ecA h
 obtain ⟨d,ds,rfl,h⟩:=h
 replace h:=ecI h
 obtain ⟨n,ds,rfl,h⟩:=h
 replace h:=ecN h
 obtain ⟨rfl,h⟩:=h
 walk_at "ini"
 unfold sJ
 walk_at "go"
 obtain ⟨g,x,rfl,k⟩:=h
 walk_at "go"
 unfold iK at k
 cases e:x.lf with
 | none=>rw[e] at k;exact cv (by simp) ⟨_,.refl _,k⟩
 | some l=>
  rw[e] at k
  refine dq (by simp) ?_
  show jJ vm [.int n,.int l] μ _
  walk_at "go"
  exact ⟨_,.refl _,k⟩
theorem LM (g:Int)(x:Ss):cutD [.str x.nm,dJ x.du,fP x.W g,fP x.S g,.int x.nx,dJ x.lf,.tup (di x.ag),.tup (di x.lo),.int x.gd,.int x.mk',.int x.wt] none (some 4)=[.str x.nm,dJ x.du,fP x.W g,fP x.S g]:=rfl
theorem Mw (g:Int)(x:Ss):cutD [.str x.nm,dJ x.du,fP x.W g,fP x.S g,.int x.nx,dJ x.lf,.tup (di x.ag),.tup (di x.lo),.int x.gd,.int x.mk',.int x.wt] (some 7) none=[.tup (di x.lo),.int x.gd,.int x.mk',.int x.wt]:=rfl
theorem Om (g:Int)(x:Ss)(lo hi:Option Int)(μ:Mu)(Q:DK):rSl (x.toD g) lo hi μ Q=Q (.tup (cutD [.str x.nm,dJ x.du,fP x.W g,fP x.S g,.int x.nx,dJ x.lf,.tup (di x.ag),.tup (di x.lo),.int x.gd,.int x.mk',.int x.wt] lo hi)) μ:=propext Wi
def gH:FSp:=λds μ Q=>kcA ds λd ds=>kcI ds λn ds=>kcN ds (∃ (g:Int) (x:Ss) (m:Nat),(d=x.toD g/\n=m/\m<=1000/\(-4000000000000000000<=x.nx/\x.nx<=4000000000000000000)/\x.ag.length<=1000/\(∀ l,x.lf=some l->0<=l))/\Q (.tup [(x.fill m).1.toD g,.tup (di (x.fill m).2)]) μ)
theorem vV:∀ ds μ Q,gH ds μ Q->ds.length=2:=λ_ _ _ h=>lcA h λ_ _ h=>lcI h λ_ _ h=>by rw[(ecN h).1];rfl
def tM:STr:=aB (aO (TSl (aj L3.rIx (ah 0) (TC (.int 6))) (ONo) (j8 (ah 1))) (aA 2)) (aB (aO (au gL (af (ah 0) (af (aj kg (ah 1) (au dB (af (ah 2) (aq)))) (aq)))) (aA 3)) (aB (aO (aj L3.rIx (ah 0) (TC (.int 4))) (aA 4)) (aB (aO (lZ (TB (aj rIs (aj L3.rIx (ah 0) (TC (.int 5))) (TC .non))) (TC .non) (aj kg (aj L3.rIx (ah 0) (TC (.int 5))) (ah 3))) (aA 5)) (aB (aO (aj aV (aj aV (TSl (ah 0) (ONo) (j8 (TC (.int 4)))) (bf (af (aj aV (ah 4) (ah 3)) (af (ah 5) (af (TSl (aj L3.rIx (ah 0) (TC (.int 6))) (j8 (au dB (af (ah 2) (aq)))) (ONo)) (aq)))))) (TSl (ah 0) (j8 (TC (.int 7))) (ONo))) (aA 6)) (aW (bf (af (ah 6) (af (aj aV (ah 2) (JR (ah 4) (aj aV (ah 4) (ah 3)))) (aq)))))))))
theorem zd:∀ ds μ Q,gH ds μ Q->tM { nx:=λ_ μ'=>RT Q .non μ',rt:=RT Q } (ini 7 ds) μ:=by
 intro ds μ Q h
 replace h:=ecA h
 obtain ⟨d,ds,rfl,h⟩:=h
 replace h:=ecI h
 obtain ⟨n,ds,rfl,h⟩:=h
 replace h:=ecN h
 obtain ⟨rfl,h⟩:=h
 walk_at "ini"
 unfold tM
 walk_at "go"
 obtain ⟨g,x,m,⟨rfl,rfl,hm,⟨n0,n1⟩,ha,hl⟩,k⟩:=h
 simp only[↓Om]
 have c1:cutD (di x.ag) none (some (m:Int))=di (x.ag.take m):=by rw[D5];exact zd1.symm
 have c2:∀ L:Nat,cutD (di x.ag) (some (L:Int)) none=di (x.ag.drop L):=λL=>by rw[uY];exact zcw.symm
 walk_at "go"
 simp only[c1,LM,Mw,Wf,c2]
 refine ⟨g,x,rfl,?_⟩
 have tl:(x.ag.take m).length<=m:=by simp;omega
 have e1:(x.fill m).1.toD g=.tup ([.str x.nm,dJ x.du,fP x.W g,fP x.S g]++[.int (x.nx+iK x.lf ((m:Int) - ((x.ag.take m).length:Int))),dJ (x.lf.map (· - iK x.lf ((m:Int) - ((x.ag.take m).length:Int)))),.tup (di (x.ag.drop (x.ag.take m).length))]++[.tup (di x.lo),.int x.gd,.int x.mk',.int x.wt]):=rfl
 have e2:di (x.fill m).2=di (x.ag.take m)++cG x.nx (iK x.lf ((m:Int) - ((x.ag.take m).length:Int))).toNat:=by rw[SI,← W2];rfl
 rw[e1,e2] at k
 have c0:0<=iK x.lf ((m:Int) - ((x.ag.take m).length:Int))/\iK x.lf ((m:Int) - ((x.ag.take m).length:Int))<=1000:=by
  unfold iK
  cases e:x.lf with
  | none=>simp only;omega
  | some l=>have:=hl l e;simp only;omega
 generalize iK x.lf ((m:Int) - ((x.ag.take m).length:Int))=c at *
 have e3:(x.nx+c - x.nx).toNat=c.toNat:=by congr 1;omega
 walk_at "go"
 rw[e3]
 cases e:x.lf with
 | none=>
  rw[e] at k
  refine cv rfl ⟨by simp,by simp,⟨⟨by omega,by omega⟩,⟨by omega,by omega⟩,by omega⟩,?_,_,.refl _,k⟩
  rw[eG];omega
 | some l=>
  rw[e] at k
  refine dq nofun ?_
  walk_at "go"
  refine ⟨by simp,by simp,⟨⟨by omega,by omega⟩,⟨by omega,by omega⟩,by omega⟩,?_,_,.refl _,k⟩
  rw[eG];omega
structure Ss.Ok (g:Int) (R:RN) (x:Ss):Prop where
 n:Wj x.nm=true
 w0:g<=x.W
 w1:x.W<=R.cap g
 s0:0<=x.S
 s1:x.S<=g
 h:x.hd.Ok
 n0:-4000000000000000000<=x.nx
 n1:x.nx<=4000000000000000000
 a:x.ag.length+x.lo.length<=60
 l:∀ i,x.lf=some i->0<=i
theorem SK (st:St')(n:Str):0<=st.und n:=by
 unfold St'.und
 generalize st.ws=l
 induction l with
 | nil=>simp
 | cons a l ih=>simp only[Wr,W8];omega
theorem MZ (o:Option Int):eqD (dJ o) (.int 0)=decide (o=some 0):=by cases o<;>simp[dJ,eqD]
theorem Hs {R:RN}(K:R.Ok){g W S:Int}(g0:0 < g)(h:Hd)(w0:g<=W)(w1:W<=R.cap g):g<=(R.beh g W S h).1/\(R.beh g W S h).1<=R.cap g:=by
 unfold RN.beh
 split
 ·exact ⟨w0,w1⟩
 ·exact Na K g0 _
def ly:FSp:=λds μ Q=>kcI ds λg ds=>kcA ds λsd ds=>kcA ds λkd ds=>kcA ds λtd ds=>kcN ds (∃ (s:Sn) (x:Ss) (st:St'),((sd=s.toD/\kd=x.toD g/\td=st.toD g)/\s.rl.Ok/\Gd g/\x.Ok g s.rl/\∀ w∈st.ws,w.Ok)/\Q (.tup [(x.bt g s (st.und x.nm)).1.toD g,.tup (di (x.bt g s (st.und x.nm)).2)]) μ)
theorem B0:∀ ds μ Q,ly ds μ Q->ds.length=4:=λ_ _ _ h=>lcI h λ_ _ h=>lcA h λ_ _ h=>lcA h λ_ _ h=>lcA h λ_ _ h=>by rw[(ecN h).1];rfl
def zH:STr:=aB (bI (TB (aj rNe (aj L3.rIx (ah 2) (TC (.int 1))) (TC (.int 0)))) (aW (bf (af (ah 2) (af (bf (aq)) (aq))))) (a8)) (aB (aO (bf (af (aj L3.rIx (ah 2) (TC (.int 8))) (af (aj L3.rIx (ah 2) (TC (.int 9))) (af (au dB (af (aj L3.rIx (ah 2) (TC (.int 7))) (aq))) (af (aj L3.rIx (ah 2) (TC (.int 10))) (aq)))))) (aA 4)) (aB (aO (au h9 (af (aj L3.rIx (ah 1) (TC (.int 5))) (af (ah 0) (af (aj L3.rIx (ah 2) (TC (.int 2))) (af (aj L3.rIx (ah 2) (TC (.int 3))) (af (ah 4) (aq))))))) (aA 5)) (aB (aO (au bF (af (au tj (af (aj aV (aj L3.rIx (ah 2) (TC (.int 6))) (aj L3.rIx (ah 2) (TC (.int 7)))) (aq))) (aq))) (aA 6)) (aB (aO (bf (af (aj L3.rIx (ah 2) (TC (.int 0))) (af (aj L3.rIx (ah 2) (TC (.int 1))) (af (aj L3.rIx (ah 5) (TC (.int 0))) (af (aj L3.rIx (ah 5) (TC (.int 1))) (af (aj L3.rIx (ah 2) (TC (.int 4))) (af (aj L3.rIx (ah 2) (TC (.int 5))) (af (ah 6) (af (bf (aq)) (af (TC (.int 0)) (af (TC (.int 0)) (af (TC (.int 0)) (aq))))))))))))) (aA 7)) (aW (au gH (af (ah 7) (af (au vA (af (TC (.int 0)) (af (aj kg (au gX (af (aj L3.rIx (ah 5) (TC (.int 0))) (aq))) (au f9 (af (ah 3) (af (aj L3.rIx (ah 2) (TC (.int 0))) (aq))))) (aq)))) (aq)))))))))
theorem Er:∀ ds μ Q,ly ds μ Q->zH { nx:=λ_ μ'=>RT Q .non μ',rt:=RT Q } (ini 8 ds) μ:=by
 intro ds μ Q h
 replace h:=ecI h
 obtain ⟨g,ds,rfl,h⟩:=h
 replace h:=ecA h
 obtain ⟨sd,ds,rfl,h⟩:=h
 replace h:=ecA h
 obtain ⟨kd,ds,rfl,h⟩:=h
 replace h:=ecA h
 obtain ⟨td,ds,rfl,h⟩:=h
 replace h:=ecN h
 obtain ⟨rfl,h⟩:=h
 walk_at "ini"
 unfold zH
 walk_at "go"
 obtain ⟨s,x,st,⟨⟨rfl,rfl,rfl⟩,K,G,X,hw⟩,k⟩:=h
 obtain ⟨g0,g1⟩:=id G
 have gp:0 < g:=by omega
 walk_at "go"
 refine ⟨by cases x.du<;>rfl,?_⟩
 rw[MZ]
 unfold Ss.bt at k
 refine U5 (λhd=>?_) (λhd=>?_)
 ·rw[if_neg hd] at k
  exact ⟨_,.refl _,k⟩
 rw[if_pos hd] at k
 have cl:=HC K gp
 have xa:=X.a;have w1:=X.w1;have w0:=X.w0
 rw[Wf]
 refine ⟨s.rl,x.W,x.S,x.hd,⟨⟨rfl,rfl⟩,K,X.h,G,⟨Qu _ gp,.of (by omega) (by omega)⟩,Qu _ gp,⟨X.s0,X.s1⟩⟩,λw z Vw Vz=>?_⟩
 have bi:=Hs K gp x.hd (S:=x.S) w0 w1
 have e1:=Kh Vw
 have e2:=Kh Vz
 walk_at "go"
 refine ⟨by simp;omega,x.ag++x.lo,⟨by rw[W2],by simp;omega⟩,λns' pm so=>?_⟩
 have e3:=zQ pm so
 walk_at "go"
 refine ⟨_,_,⟨Vw,.of (by omega) (by omega)⟩,?_⟩
 walk_at "go"
 refine ⟨g,st,⟨rfl,hw,X.n⟩,?_⟩
 walk_at "go"
 have u0:=SK st x.nm
 have d60:(s.rl.beh g x.W x.S x.hd).1 / g<=60:=YY gp (by omega)
 have hm:max 0 ((s.rl.beh g x.W x.S x.hd).1 / g - st.und x.nm)=((max 0 ((s.rl.beh g x.W x.S x.hd).1 / g - st.und x.nm)).toNat:Int):=by omega
 rw[hm,e1,e2,e3]
 refine ⟨g,x.rdy g s.rl,_,⟨rfl,rfl,by omega,⟨X.n0,X.n1⟩,?_,X.l⟩,⟨_,.refl _,k⟩⟩
 show (dO (x.ag++x.lo)).length<=1000
 rw[oE,Wv];omega
theorem Dx {ns:List (List Int)}{n:List Int}(h:n∈ns):n.length<=da ns:=by
 unfold da
 induction ns with
 | nil=>cases h
 | cons a r ih=>
  rcases Wx.mp h with rfl | h
  ·simp only[Wr,zbF];omega
  ·have:=ih h;simp only[Wr,zbF];omega
theorem D2 {ns:List (List Int)}{k:Nat}(h:∀ n∈ns,n.length<=k):da ns<=k:=by
 unfold da
 induction ns with
 | nil=>simp
 | cons a r ih=>
  have h1:=h a Wu
  have h2:=ih λn hn=>h n (WD _ hn)
  simp only[Wr,zbF];omega
theorem NN {ns:List (List Int)}{M:Int}(h:M∈ns.map λn=>(n.length:Int))(g:∀ a∈ns.map λn=>(n.length:Int),a<=M):M=da ns:=by
 obtain ⟨n,hn,rfl⟩:=Wg.mp h
 have h1:=Dx hn
 have h2:da ns<=n.length:=D2 λm hm=>by have:=g _ (Wg.mpr ⟨m,hm,rfl⟩);omega
 omega
def cL (t:Nat)(p:Sn×List Int):Option (Str×Lt):=p.2[t]?.map λn=>(p.1.rd.headD (OF ""),⟨p.1.nm,n,0,0,0⟩)
theorem jR (ss:List Sn)(ns:List (List Int)):jM ss ns=(WQ (da ns)).flatMap λt=>(Wl ss ns).filterMap (cL t):=rfl
abbrev nsD (ns:List (List Int)):List D:=ns.map λn=>.tup (di n)
def dz:FSp:=λds μ Q=>kcA ds λsd ds=>kcL ds λnd ds=>kcN ds (∃ (ss:List Sn) (ns:List (List Int)),((sd=.tup (snD ss)/\nd=nsD ns)/\ss.length<=100/\ns.length<=100/\(∀ n∈ns,n.length<=1000)/\∀ s∈ss,s.rd≠[])/\Q (.ls ((jM ss ns).map sdD)) μ)
theorem FV {ns:List (List Int)}{μ:Mu}{Q:DK}(k:Q (.int (da ns:Nat)) μ):Qe (.ls (ns.map λn=>.int (n.length:Int))) (.int 0) μ Q:=by
 refine ⟨ns.map λn=>(n.length:Int),by rw[Wq];rfl,λe=>?_,λ_ M h1 h2=>by rw[NN h1 h2];exact k⟩
 rw[zao.mp e] at k
 exact k
theorem Ey (ss:List Sn)(ns:List (List Int)):Xj (λd e=>D.tup [d,e]) (snD ss) (nsD ns)=(Wl ss ns).map λp=>.tup [p.1.toD,.tup (di p.2)]:=by
 simp only[snD,nsD,Wl,zdf,zbd]
theorem mJ:∀ ds μ Q,dz ds μ Q->ds.length=2:=λ_ _ _ h=>lcA h λ_ _ h=>lcL h λ_ _ h=>by rw[(ecN h).1];rfl
def jA:STr:=aB (aO (mT (aq)) (aA 2)) (aB (iq (fW (CY (bZ (eL (ah 1)) (aA 0) (fe) (au dB (af (ah 0) (aq))) 1 []) (TC (.int 0)))) (aA 3) (iq (kr (af (ah 0) (af (ah 1) (aq)))) (de [4,5]) (bI (TB (aj rLt (ah 3) (au dB (af (ah 5) (aq))))) (fv (nz (ah 2) (bf (af (aj L3.rIx (aj L3.rIx (ah 4) (TC (.int 1))) (TC (.int 0))) (af (bf (af (aj L3.rIx (ah 4) (TC (.int 0))) (af (aj L3.rIx (ah 5) (ah 3)) (af (TC (.int 0)) (af (TC (.int 0)) (af (TC (.int 0)) (aq))))))) (aq)))))) (a8)))) (aW (uj (ah 2))))
theorem nF:∀ ds μ Q,dz ds μ Q->jA { nx:=λ_ μ'=>RT Q .non μ',rt:=RT Q } (ini 6 ds) μ:=by
 intro ds μ Q h
 replace h:=ecA h
 obtain ⟨sd,ds,rfl,h⟩:=h
 replace h:=ecL h
 obtain ⟨nd,ds,rfl,h⟩:=h
 replace h:=ecN h
 obtain ⟨rfl,h⟩:=h
 walk_at "ini"
 unfold jA
 walk_at "go"
 obtain ⟨ss,ns,⟨⟨rfl,rfl⟩,hs,hn,h1000,hrd⟩,k⟩:=h
 intro p hp
 walk_at "go"
 refine bV ns (λn=>.tup (di n)) (λn=>.int (n.length:Int)) rfl (by omega) (λn hn μ' _ N nn=>?_) ?_
 ·walk_at "go"
  rw[Wf]
  exact nn
 have m1:da ns<=1000:=D2 h1000
 walk_at "go"
 refine FV ?_
 walk_at "go"
 refine ⟨⟨by omega,by omega⟩,?_⟩
 rw[show ((da ns:Int)).toNat=da ns from rfl]
 refine bR (λr ρ μ'=>∃ (t:Nat) (acc:List (Str×Lt)) (v3 v4 v5:Option D),r=cG t (da ns - t)/\t<=da ns/\ρ=[some (.tup (snD ss)),some (.ls (nsD ns)),some (.obj p),v3,v4,v5]/\acc=(WQ t).flatMap (λt=>(Wl ss ns).filterMap (cL t))/\acc.length<=t*100/\μ'=up μ p (.lst (acc.map sdD))) ?_ ?_ _ _ _ ⟨0,[],_,_,_,rfl,by omega,rfl,rfl,by simp,rfl⟩
 ·rintro ρ μ' ⟨t,acc,v3,v4,v5,er,ht,rfl,rfl,_,rfl⟩
  have et:t=da ns:=by
   cases e:da ns - t with
   | zero=>omega
   | succ n=>rw[e,oT] at er;cases er
  subst et
  walk_at "go"
  rw[← jR,oP hp]
  exact ⟨_,.refl _,k⟩
 ·rintro d r ρ μ' N ⟨t,acc,v3,v4,v5,er,ht,rfl,ea,la,rfl⟩ hN
  cases e:da ns - t with
  | zero=>rw[e] at er;cases er
  | succ n=>
  rw[e,oT] at er
  cases er
  walk_at "go"
  rw[Ey]
  have lz:(Wl ss ns).length<=100:=by simp;omega
  refine bR (λr ρ μ'=>∃ (a c:List (Sn×List Int)) (v4 v5:Option D),r=c.map (λp=>.tup [p.1.toD,.tup (di p.2)])/\a++c=Wl ss ns/\ρ=[some (.tup (snD ss)),some (.ls (nsD ns)),some (.obj p),some (.int t),v4,v5]/\μ'=up μ p (.lst ((acc++a.filterMap (cL t)).map sdD))) ?_ ?_ _ _ _ ⟨[],Wl ss ns,_,_,rfl,rfl,rfl,by simp⟩
  ·rintro ρ μ' ⟨a,c,v4,v5,er,ez,rfl,rfl⟩
   have:c=[]:=by cases c with | nil=>rfl | cons=>cases er
   subst this
   rw[WS] at ez
   subst ez
   refine hN _ _ ⟨t+1,_,_,_,_,?_,by omega,rfl,?_,?_,rfl⟩
   ·congr 1
    ·omega
   ·rw[Zr,XG,← ea];simp
   ·have:=Yd (cL t) (Wl ss ns)
    rw[Wv];omega
  ·rintro d r ρ μ' N ⟨a,c,v4,v5,er,ez,rfl,rfl⟩ hN
   cases c with
   | nil=>cases er
   | cons x c=>
   cases er
   obtain ⟨s,own⟩:=x
   have hx:(s,own)∈Wl ss ns:=by rw[← ez];simp
   have hs':s∈ss:=(Wo hx).1
   walk_at "go"
   rw[Wf]
   obtain ⟨fw,rw',erd⟩:∃ fw rw',s.rd=fw::rw':=by
    cases e:s.rd with
    | nil=>exact absurd e (hrd s hs')
    | cons a b=>exact ⟨a,b,rfl⟩
   refine kif (λhc=>?_) (λhc=>?_)
   ·have hc':t < own.length:=by omega
    have g1:(za5 D.str s.rd)[0]? = some (.str fw):=by rw[erd];rfl
    have g2:atD (di own) (t:Int)=some (.int own[t]):=by rw[bL];simp[hc']
    have la':=Yd (cL t) a
    have az:a.length<=100:=by have:=congrArg X5 ez;simp at this;omega
    walk_at "go"
    rw[pJ,g1]
    walk_at "go"
    rw[g2]
    walk_at "go"
    refine ⟨by simp;omega,hN _ _ ⟨a++[(s,own)],c,_,_,rfl,by rw[← ez];simp,rfl,?_⟩⟩
    have e3:cL t (s,own)=some (fw,⟨s.nm,own[t],0,0,0⟩):=by unfold cL;simp[hc',erd]
    rw[Xm,show [(s,own)].filterMap (cL t)=[(fw,⟨s.nm,own[t],0,0,0⟩)] by simp[e3]]
    simp[sdD,Lt.toD]
   ·have e3:cL t (s,own)=none:=by unfold cL;simp;omega
    refine hN _ _ ⟨a++[(s,own)],c,_,_,rfl,by rw[← ez];simp,rfl,?_⟩
    rw[Xm,show [(s,own)].filterMap (cL t)=[] by simp[e3],WS]
def kT:FSp:=λds μ Q=>kcA ds λwd ds=>kcT ds λnd ds=>kcA ds λkd ds=>kcL ds λsd ds=>kcN ds (∃ (w:Wy) (ns:List Str) (k:Ws) (aJ:List (Str×Lt)),((wd=w.toD/\nd=ns.map .str/\kd=k.toD/\sd=aJ.map sdD)/\(Wj w.nm=true/\∀ x∈aJ,Wj x.1=true)/\0<=w.pc/\(∀ n∈ns,Wj n=true)/\(∀ l∈k.cm++k.st++aJ.map (·.2),l.nm∈ns)/\k.cm.length+k.st.length+aJ.length<=900000/\ns.length<=900000)/\Q (pass w ns k aJ).toD μ)
theorem E3 {μ:Mu}{Q:DK}(aJ:List (Str×Lt)){w:Wy}(hl:aJ.length<=900000)(ok:∀ x∈aJ,Wj x.1=true)(hn:Wj w.nm=true)(k:Q (.ls (ltD ((aJ.filter λx=>decide (x.1=w.nm)).map (·.2)))) μ) :
  tW (de [0,1]) (TB (aj rEq (ah 0) (aj rIx (ah 2) (TC (.int 0))))) (ah 1) [none,none,some w.toD] (aJ.map sdD) μ Q:=by
 refine kf aJ sdD (λx=>if x.1=w.nm then some x.2.toD else none) rfl (by omega) (λx hx μ' _ N nn=>?_) ?_
 ·walk_at "go"
  refine ⟨⟨ok x hx,hn⟩,kif (λh=>?_) (λh=>?_)⟩
  ·rw[if_pos h] at nn;exact nn
  ·rw[if_neg h] at nn;exact nn
 ·rw[eJ (λx:Str×Lt=>x.1=w.nm) (λx=>x.2.toD)];unfold ltD at k;rw[Wq] at k;exact k
theorem Cf:∀ ds μ Q,kT ds μ Q->ds.length=4:=λ_ _ _ h=>lcA h λ_ _ h=>lcT h λ_ _ h=>lcA h λ_ _ h=>lcL h λ_ _ h=>by rw[(ecN h).1];rfl
def yy:STr:=aB (aO (aj aV (aj L3.rIx (ah 2) (TC (.int 0))) (au bF (af (bZ (eL (ah 3)) (de [0,1]) (TB (aj rEq (ah 0) (aj L3.rIx (ah 2) (TC (.int 0))))) (ah 1) 2 [0]) (aq)))) (aA 4)) (aB (aO (au hU (af (ah 0) (af (aj L3.rIx (ah 2) (TC (.int 1))) (af (ah 4) (aq))))) (aA 5)) (aB (aO (au jt (af (ah 0) (af (ah 1) (af (aj L3.rIx (ah 5) (TC (.int 0))) (af (aj L3.rIx (ah 2) (TC (.int 2))) (aq)))))) (aA 6)) (aW (bf (af (ah 4) (af (aj L3.rIx (ah 5) (TC (.int 1))) (af (aj L3.rIx (ah 6) (TC (.int 0))) (af (aj L3.rIx (ah 6) (TC (.int 1))) (af (aj L3.rIx (ah 6) (TC (.int 2))) (aq))))))))))
theorem EL:∀ ds μ Q,kT ds μ Q->yy { nx:=λ_ μ'=>RT Q .non μ',rt:=RT Q } (ini 7 ds) μ:=by
 intro ds μ Q h
 replace h:=ecA h
 obtain ⟨wd,ds,rfl,h⟩:=h
 replace h:=ecT h
 obtain ⟨nd,ds,rfl,h⟩:=h
 replace h:=ecA h
 obtain ⟨kd,ds,rfl,h⟩:=h
 replace h:=ecL h
 obtain ⟨sd,ds,rfl,h⟩:=h
 replace h:=ecN h
 obtain ⟨rfl,h⟩:=h
 walk_at "ini"
 unfold yy
 walk_at "go"
 obtain ⟨w,ns,x,aJ,⟨⟨rfl,rfl,rfl,rfl⟩,⟨hw,hs⟩,pc,hn,hl,len,len2⟩,k⟩:=h
 walk_at "go"
 refine E3 aJ (by omega) hs hw ?_
 walk_at "go"
 have lf:=Yt (λx:Str×Lt=>decide (x.1=w.nm)) aJ
 refine ⟨by simp only[Wf];omega,?_⟩
 rw[← W2]
 generalize hca:x.cm++(aJ.filter λx=>decide (x.1=w.nm)).map (·.2)=ca
 have lca:ca.length<=x.cm.length+aJ.length:=by rw[← hca];simp only[Wv,Wf];omega
 have nca:∀ l∈ca,l.nm∈ns:=λl h=>by
  rw[← hca] at h
  rcases WZ.mp h with h | h
  ·exact hl l (by simp[h])
  ·obtain ⟨y,hy,rfl⟩:=Wg.mp h
   exact hl y.2 (WN _ (Wg.mpr ⟨y,(W0.mp hy).1,rfl⟩))
 refine ⟨w,x.st,ca,⟨rfl,rfl,rfl,by omega⟩,?_⟩
 walk_at "go"
 have ln:=A0 w ca x.st []
 have nn:=IE w (λn=>n∈ns) ca x.st [] (λl h=>hl l (by simp[h])) (λl h=>nomatch h) nca
 refine ⟨w,ns,(tk w x.st ca).1,⟨rfl,λ_=>⟨.inl rfl,hn,nn.1,len2⟩,rfl,?_,pc⟩,?_⟩
 ·unfold tk;simp only[zag] at ln;omega
 ·walk_at "go"
  subst hca
  exact ⟨_,.refl _,k⟩
theorem Ij {ss:List Sn}{n:Str}(h:n∈ss.map Sn.nm):eI (lB ss) (.inr n)=some (.tup ((road ss n).map .str)):=by
 unfold eI lB road
 induction ss with
 | nil=>cases h
 | cons s r ih=>
  by_cases e:s.nm=n
  ·simp[e]
  ·have h':n∈r.map Sn.nm:=by
    rcases Wx.mp h with z | z
    ·exact absurd z.symm e
    ·exact z
   have:=ih h'
   simp only[Wr,Xs]
   have e1:decide ((ZG s.nm:L2.Key)=ZG n)=false:=by simp[e]
   have e2:decide (s.nm=n)=false:=by simp[e]
   rw[e1,e2]
   exact this
def dg:FSp:=λds μ Q=>kcO ds λr ds=>kcA ds λld ds=>kcN ds (∃ (ss:List Sn) (l:Lt),(ld=l.toD/\μ r=some (.dct (lB ss))/\l.nm∈ss.map Sn.nm/\0<=l.hp)/\Q (xT (bU ss l)) μ)
theorem rJ:∀ ds μ Q,dg ds μ Q->ds.length=2:=λ_ _ _ h=>lcO h λ_ _ h=>lcA h λ_ _ h=>by rw[(ecN h).1];rfl
def nh:STr:=aB (aO (bP (ah 0) (aj L3.rIx (ah 1) (TC (.int 0)))) (aA 2)) (aW (lZ (TB (aj rLt (aj aV (aj L3.rIx (ah 1) (TC (.int 3))) (TC (.int 1))) (au dB (af (ah 2) (aq))))) (aj L3.rIx (ah 2) (aj aV (aj L3.rIx (ah 1) (TC (.int 3))) (TC (.int 1)))) (TC .non)))
theorem uq:∀ ds μ Q,dg ds μ Q->nh { nx:=λ_ μ'=>RT Q .non μ',rt:=RT Q } (ini 3 ds) μ:=by
 intro ds μ Q h
 replace h:=ecO h
 obtain ⟨r,ds,rfl,h⟩:=h
 replace h:=ecA h
 obtain ⟨ld,ds,rfl,h⟩:=h
 replace h:=ecN h
 obtain ⟨rfl,h⟩:=h
 walk_at "ini"
 unfold nh
 walk_at "go"
 obtain ⟨ss,l,⟨rfl,er,hl,h0⟩,k⟩:=h
 walk_at "go"
 refine SW er (jy (Ij hl) ?_)
 obtain ⟨h,eh⟩:=ZE h0
 have e1:bU ss l=(road ss l.nm)[h+1]?:=by unfold bU;rw[eh];rfl
 rw[e1] at k
 walk_at "go"
 rw[Wf]
 refine kif (λhc=>?_) (λhc=>?_)
 ·have hc':h+1 < (road ss l.nm).length:=by omega
  rw[Wz hc'] at k
  refine jy (d:=.str (road ss l.nm)[h+1]) ?_ ⟨_,.refl _,k⟩
  rw[eh,show ((h:Int)+1)=((h+1:Nat):Int) by omega,bL]
  simp[hc']
 ·rw[List.getElem?_eq_none (by omega)] at k
  exact ⟨_,.refl _,k⟩
theorem Nq (ls:List Lt):gJ (ltD ls)=ls.zipIdx.map λp=>.tup [.int (p.2:Nat),p.1.toD]:=by
 refine List.ext_getElem? λi=>?_
 rw[u9]
 simp[List.getElem?_zipIdx]
 cases ls[i]? <;> rfl
theorem Di (o:Option Str)(μ:Mu)(Q:DK):rIs (xT o) .non μ Q=Q (.bl (decide (o=none))) μ:=by cases o<;>simp[rIs,xT]
def evA (w:Wy)(n:Int)(p:Lt×Nat):Ev:=⟨if (p.2:Int) < n then OF "in" else OF "lost", p.1.nm,p.1.nu,w.nm⟩
def evB (ss:List Sn)(w:Wy)(l:Lt):Ev:=⟨if bU ss l=none then OF "taken" else OF "out", l.nm,l.nu,w.nm⟩
theorem QJ (ss:List Sn)(w:Wy)(x:Wt):evs ss w x=x.ca.zipIdx.map (evA w ((x.ca.length:Int) - x.lo.length))++x.ou.map (evB ss w):=rfl
def fM:FSp:=λds μ Q=>kcA ds λwd ds=>kcO ds λr ds=>kcA ds λtd ds=>kcN ds (∃ (w:Wy) (ss:List Sn) (x:Wt),((wd=w.toD/\td=x.toD)/\μ r=some (.dct (lB ss))/\(∀ l∈x.ou,l.nm∈ss.map Sn.nm/\0<=l.hp)/\x.ca.length+x.ou.length<=900000)/\Q (.ls (evD (evs ss w x))) μ)
theorem ui:∀ ds μ Q,fM ds μ Q->ds.length=3:=λ_ _ _ h=>lcA h λ_ _ h=>lcO h λ_ _ h=>lcA h λ_ _ h=>by rw[(ecN h).1];rfl
def oH:STr:=aB (aO (mT (aq)) (aA 3)) (aB (iq (zB (af (aj L3.rIx (ah 2) (TC (.int 0))) (aq))) (de [4,5]) (aB (aO (lZ (TB (aj rLt (ah 4) (aj kg (au dB (af (aj L3.rIx (ah 2) (TC (.int 0))) (aq))) (au dB (af (aj L3.rIx (ah 2) (TC (.int 1))) (aq)))))) (TC (.str "in")) (TC (.str "lost"))) (aA 6)) (fv (nz (ah 3) (bf (af (ah 6) (af (aj L3.rIx (ah 5) (TC (.int 0))) (af (aj L3.rIx (ah 5) (TC (.int 1))) (af (aj L3.rIx (ah 0) (TC (.int 0))) (aq)))))))))) (aB (iq (eL (aj L3.rIx (ah 2) (TC (.int 2)))) (aA 5) (aB (aO (lZ (TB (aj rIs (au dg (af (ah 1) (af (ah 5) (aq)))) (TC .non))) (TC (.str "taken")) (TC (.str "out"))) (aA 6)) (fv (nz (ah 3) (bf (af (ah 6) (af (aj L3.rIx (ah 5) (TC (.int 0))) (af (aj L3.rIx (ah 5) (TC (.int 1))) (af (aj L3.rIx (ah 0) (TC (.int 0))) (aq)))))))))) (aW (uj (ah 3)))))
theorem xg:∀ ds μ Q,fM ds μ Q->oH { nx:=λ_ μ'=>RT Q .non μ',rt:=RT Q } (ini 7 ds) μ:=by
 intro ds μ Q h
 replace h:=ecA h
 obtain ⟨wd,ds,rfl,h⟩:=h
 replace h:=ecO h
 obtain ⟨r,ds,rfl,h⟩:=h
 replace h:=ecA h
 obtain ⟨td,ds,rfl,h⟩:=h
 replace h:=ecN h
 obtain ⟨rfl,h⟩:=h
 walk_at "ini"
 unfold oH
 walk_at "go"
 obtain ⟨w,ss,x,⟨⟨rfl,rfl⟩,er,ho,hl⟩,k⟩:=h
 intro p hp
 have npr:r≠p:=λz=>by rw[z,hp] at er;cases er
 walk_at "go"
 rw[Nq]
 refine bR (λrr ρ μ'=>∃ (a c:List (Lt×Nat)) (v4 v5 v6:Option D),rr=c.map (λp=>.tup [.int (p.2:Nat),p.1.toD])/\a++c=x.ca.zipIdx/\ρ=[some w.toD,some (.obj r),some x.toD,some (.obj p),v4,v5,v6]/\μ'=up μ p (.lst (evD (a.map (evA w ((x.ca.length:Int) - x.lo.length)))))) ?_ ?_ _ _ _ ⟨[],x.ca.zipIdx,_,_,_,rfl,rfl,rfl,rfl⟩
 ·rintro ρ μ' ⟨a,c,v4,v5,v6,er',ez,rfl,rfl⟩
  have:c=[]:=by cases c with | nil=>rfl | cons=>cases er'
  subst this
  rw[WS] at ez
  subst ez
  walk_at "go"
  refine bR (λrr ρ μ'=>∃ (a c:List Lt) (v4 v5 v6:Option D),rr=ltD c/\a++c=x.ou/\ρ=[some w.toD,some (.obj r),some x.toD,some (.obj p),v4,v5,v6]/\μ'=up μ p (.lst (evD (x.ca.zipIdx.map (evA w ((x.ca.length:Int) - x.lo.length))++a.map (evB ss w))))) ?_ ?_ _ _ _ ⟨[],x.ou,_,_,_,rfl,rfl,rfl,by simp⟩
  ·rintro ρ μ' ⟨a,c,v4,v5,v6,er',ez,rfl,rfl⟩
   have:c=[]:=by cases c with | nil=>rfl | cons=>cases er'
   subst this
   rw[WS] at ez
   subst ez
   walk_at "go"
   rw[oP hp,← QJ]
   exact ⟨_,.refl _,k⟩
  ·rintro d rr ρ μ' N ⟨a,c,v4,v5,v6,er',ez,rfl,rfl⟩ hN
   cases c with
   | nil=>cases er'
   | cons l c=>
   cases er'
   have hl':=ho l (by rw[← ez];simp)
   have la:a.length<=x.ou.length:=by rw[← ez];simp
   walk_at "go"
   refine ⟨ss,l,⟨rfl,by rw[aY npr];exact er,hl'.1,hl'.2⟩,?_⟩
   walk_at "go"
   rw[Di]
   walk_at "go"
   have fin:∀ wd,wd=(if bU ss l=none then OF "taken" else OF "out")->(evD (x.ca.zipIdx.map (evA w ((x.ca.length:Int) - x.lo.length))++a.map (evB ss w))).length < 1000000/\N [some w.toD,some (.obj r),some x.toD,some (.obj p),v4,some l.toD,some (.str wd)] (up μ p (.lst (evD (x.ca.zipIdx.map (evA w ((x.ca.length:Int) - x.lo.length))++a.map (evB ss w))++[.tup [.str wd,.str l.nm,.int l.nu,.str w.nm]]))):=λwd e=>by
    refine ⟨by simp;omega,hN _ _ ⟨a++[l],c,_,_,_,rfl,by rw[← ez];simp,rfl,?_⟩⟩
    simp[evB,Ev.toD,e]
   refine kif (λh=>?_) (λh=>?_)
   ·walk_at "go"
    exact fin _ (by rw[if_pos h])
   ·walk_at "go"
    exact fin _ (by rw[if_neg h])
 ·rintro d rr ρ μ' N ⟨a,c,v4,v5,v6,er',ez,rfl,rfl⟩ hN
  cases c with
  | nil=>cases er'
  | cons y c=>
  cases er'
  obtain ⟨l,i⟩:=y
  have la:a.length<=x.ca.length:=by have:=congrArg X5 ez;simp at this;omega
  walk_at "go"
  simp only[Wf]
  have fin:∀ wd,wd=(if (i:Int) < (x.ca.length:Int) - x.lo.length then OF "in" else OF "lost")->(evD (a.map (evA w ((x.ca.length:Int) - x.lo.length)))).length < 1000000/\N [some w.toD,some (.obj r),some x.toD,some (.obj p),some (.int i),some l.toD,some (.str wd)] (up μ p (.lst (evD (a.map (evA w ((x.ca.length:Int) - x.lo.length)))++[.tup [.str wd,.str l.nm,.int l.nu,.str w.nm]]))):=λwd e=>by
   refine ⟨by simp;omega,hN _ _ ⟨a++[(l,i)],c,_,_,_,rfl,by rw[← ez];simp,rfl,?_⟩⟩
   simp[evA,Ev.toD,e]
  refine kif (λh=>?_) (λh=>?_)
  ·walk_at "go"
   have:=fin _ (by rw[if_pos h])
   simpa using this
  ·walk_at "go"
   have:=fin _ (by rw[if_neg h])
   simpa using this
def mj:FSp:=λds μ Q=>kcA ds λld ds=>kcI ds λh ds=>kcN ds (∃ l:Lt,ld=l.toD/\Q (l.jI h).toD μ)
theorem Hy:∀ ds μ Q,mj ds μ Q->ds.length=2:=λ_ _ _ h=>lcA h λ_ _ h=>lcI h λ_ _ h=>by rw[(ecN h).1];rfl
def II:STr:=aW (bf (af (aj L3.rIx (ah 0) (TC (.int 0))) (af (aj L3.rIx (ah 0) (TC (.int 1))) (af (aj aV (aj L3.rIx (ah 0) (TC (.int 2))) (TC (.int 1))) (af (aj aV (aj L3.rIx (ah 0) (TC (.int 3))) (ah 1)) (af (aj L3.rIx (ah 0) (TC (.int 4))) (aq)))))))
theorem Mj:∀ ds μ Q,mj ds μ Q->II { nx:=λ_ μ'=>RT Q .non μ',rt:=RT Q } (ini 2 ds) μ:=by
 intro ds μ Q h
 replace h:=ecA h
 obtain ⟨ld,ds,rfl,h⟩:=h
 replace h:=ecI h
 obtain ⟨h0,ds,rfl,h⟩:=h
 replace h:=ecN h
 obtain ⟨rfl,h⟩:=h
 walk_at "ini"
 unfold II
 walk_at "go"
 obtain ⟨l,rfl,k⟩:=h
 walk_at "go"
 exact ⟨_,.refl _,k⟩
theorem ND (o:Option Str)(n:Str):eqD (xT o) (.str n)=decide (o=some n):=by cases o<;>simp[xT,eqD]
theorem K3 (o:Option Str)(h:∀ n,o=some n->Wj n=true):okD 40 (xT o)=true:=by
 cases o with
 | none=>rfl
 | some n=>simpa[xT,okD] using h n rfl
def fL:FSp:=λds μ Q=>kcA ds λwd ds=>kcO ds λr ds=>kcA ds λtd ds=>kcO ds λo ds=>kcN ds (∃ (w:Wy) (ss:List Sn) (x:Wt) (out:List Lt),((wd=w.toD/\td=x.toD)/\(μ r=some (.dct (lB ss))/\μ o=some (.lst (ltD out)))/\(∀ l∈out,l.nm∈ss.map Sn.nm/\0<=l.hp)/\(Wj w.nm=true/\∀ s∈ss,∀ n∈s.rd,Wj n=true)/\out.length<=900000/\x.st.length<=900000)/\Q (nS ss w x out).toD μ)
theorem KW {ss:List Sn}(h:∀ s∈ss,∀ n∈s.rd,Wj n=true){l:Lt}{n:Str}(e:bU ss l=some n):Wj n=true:=by
 unfold bU road at e
 cases f:ss.find? λs=>decide (s.nm=l.nm) with
 | none=>rw[f] at e;simp at e
 | some s=>
  rw[f] at e
  exact h s (Zk f) n (Xi e)
theorem tV:∀ ds μ Q,fL ds μ Q->ds.length=4:=λ_ _ _ h=>lcA h λ_ _ h=>lcO h λ_ _ h=>lcA h λ_ _ h=>lcO h λ_ _ h=>by rw[(ecN h).1];rfl
def oV:STr:=aB (aO (kl (ah 3) (aA 0) (TB (aj rEq (au dg (af (ah 1) (af (ah 0) (aq)))) (aj L3.rIx (ah 2) (TC (.int 0))))) (au mj (af (ah 0) (af (TC (.int 1)) (aq)))) 1 [1,0]) (aA 4)) (aW (bf (af (au bF (af (ah 4) (aq))) (af (au bF (af (bZ (eL (aj L3.rIx (ah 2) (TC (.int 3)))) (aA 0) (fe) (au mj (af (ah 0) (af (TC (.int 0)) (aq)))) 1 []) (aq))) (af (aj L3.rIx (ah 2) (TC (.int 4))) (aq))))))
theorem wg:∀ ds μ Q,fL ds μ Q->oV { nx:=λ_ μ'=>RT Q .non μ',rt:=RT Q } (ini 5 ds) μ:=by
 intro ds μ Q h
 replace h:=ecA h
 obtain ⟨wd,ds,rfl,h⟩:=h
 replace h:=ecO h
 obtain ⟨r,ds,rfl,h⟩:=h
 replace h:=ecA h
 obtain ⟨td,ds,rfl,h⟩:=h
 replace h:=ecO h
 obtain ⟨o,ds,rfl,h⟩:=h
 replace h:=ecN h
 obtain ⟨rfl,h⟩:=h
 walk_at "ini"
 unfold oV
 walk_at "go"
 obtain ⟨w,ss,x,out,⟨⟨rfl,rfl⟩,⟨er,eo⟩,ho,⟨hw,hs⟩,l1,l2⟩,k⟩:=h
 refine br eo ?_
 refine nH out Lt.toD (λl=>if bU ss l=some w.nm then some (l.jI 1).toD else none) rfl eo (by omega) (λl hl μ' sb N nn=>?_) ?_
 ·walk_at "go"
  refine ⟨ss,l,⟨rfl,sb _ _ er,(ho l hl).1,(ho l hl).2⟩,?_⟩
  walk_at "go"
  rw[ND]
  refine ⟨⟨K3 _ λn e=>KW hs e,hw⟩,kif (λh=>?_) (λh=>?_)⟩
  ·rw[if_pos h] at nn
   exact ⟨l,rfl,nn⟩
  ·rw[if_neg h] at nn;exact nn
 ·rw[eJ (λl:Lt=>bU ss l=some w.nm) (λl=>(l.jI 1).toD)]
  walk_at "go"
  refine bV x.st Lt.toD (λl=>(l.jI 0).toD) rfl (by omega) (λl hl μ' sb N nn=>?_) ?_
  ·walk_at "go"
   exact ⟨l,rfl,nn⟩
  ·walk_at "go"
   refine ⟨_,.refl _,?_⟩
   unfold nS Ws.toD ltD at k
   simp only[Wq] at k
   exact k
def fV:FSp:=λds μ Q=>kcA ds λsd ds=>kcA ds λd ds=>kcN ds (∃ (s:Sn) (o:Option Int),(sd=s.toD/\d=dJ o)/\Q (dJ (EU s o)) μ)
theorem uw:∀ ds μ Q,fV ds μ Q->ds.length=2:=λ_ _ _ h=>lcA h λ_ _ h=>lcA h λ_ _ h=>by rw[(ecN h).1];rfl
def oJ:STr:=aB (bI (TB (aj rIs (ah 1) (TC .non))) (aW (TC .non)) (a8)) (aW (lZ (TB (aj rEq (ah 1) (TC (.int 0)))) (aj kg (aj L3.rIx (ah 0) (TC (.int 2))) (TC (.int 1))) (aj kg (ah 1) (TC (.int 1)))))
theorem xi:∀ ds μ Q,fV ds μ Q->oJ { nx:=λ_ μ'=>RT Q .non μ',rt:=RT Q } (ini 2 ds) μ:=by
 intro ds μ Q h
 replace h:=ecA h
 obtain ⟨sd,ds,rfl,h⟩:=h
 replace h:=ecA h
 obtain ⟨d,ds,rfl,h⟩:=h
 replace h:=ecN h
 obtain ⟨rfl,h⟩:=h
 walk_at "ini"
 unfold oJ
 obtain ⟨s,o,⟨rfl,rfl⟩,k⟩:=h
 cases o with
 | none=>
  simp only[dJ]
  walk_at "go"
  exact ⟨_,.refl _,k⟩
 | some i=>
  simp only[dJ]
  walk_at "go"
  by_cases h:i=0
  ·refine cv h ⟨_,.refl _,?_⟩
   have e:EU s (some i)=some (s.bt - 1):=by simp[EU,h]
   rw[e] at k;exact k
  ·refine dq h ⟨_,.refl _,?_⟩
   have e:EU s (some i)=some (i - 1):=by simp[EU,h]
   rw[e] at k;exact k
theorem yi {d M:Int}{ns:List Int}(ne:ns≠[])(h:M∈ns)(g:∀ a∈ns,a<=M):qR d ns=M:=by
 have key:∀ (l:List Int) (a:Int),(∀ b∈a::l,b<=M)->M∈a::l->l.foldl max a=M:=by
  intro l
  induction l with
  | nil=>intro a h1 h2;simp at h2;exact h2.symm
  | cons b l ih=>
   intro a h1 h2
   rw[XQ]
   refine ih (max a b) (λc hc=>?_) ?_
   ·rcases Wx.mp hc with rfl | hc
    ·have:=h1 a (by simp);have:=h1 b (by simp);omega
    ·exact h1 c (by simp[hc])
   ·have ha:=h1 a (by simp);have hb:=h1 b (by simp)
    rcases Wx.mp h2 with e | h2
    ·have:max a b=M:=by omega
     rw[this];simp
    ·rcases Wx.mp h2 with e | h2
     ·have:max a b=M:=by omega
      rw[this];simp
     ·simp[h2]
 cases ns with
 | nil=>exact absurd rfl ne
 | cons a l=>exact key l a g h
theorem PH {ns:List Int}{μ:Mu}{Q:DK}(k:Q (.int (qR 0 ns)) μ):Qe (.ls (ns.map .int)) (.int 0) μ Q:=by
 refine ⟨ns,rfl,λe=>?_,λne M h1 h2=>by rw[yi ne h1 h2] at k;exact k⟩
 rw[e] at k;exact k
theorem I0 (g:Int)(x:Ss):cutD [.str x.nm,dJ x.du,fP x.W g,fP x.S g,.int x.nx,dJ x.lf,.tup (di x.ag),.tup (di x.lo),.int x.gd,.int x.mk',.int x.wt] (some 2) (some 7)=[fP x.W g,fP x.S g,.int x.nx,dJ x.lf,.tup (di x.ag)]:=rfl
def eg:FSp:=λds μ Q=>kcA ds λsd ds=>kcA ds λkd ds=>kcO ds λlo ds=>kcL ds λtk ds=>kcN ds (∃ (g:Int) (s:Sn) (x:Ss) (a9 taken:List Lt),((sd=s.toD/\kd=x.toD g/\tk=ltD taken)/\μ lo=some (.lst (ltD a9))/\(Wj s.nm=true/\(∀ l∈a9,Wj l.nm=true)/\∀ l∈taken,Wj l.nm=true)/\(a9.length<=900000/\taken.length<=900000)/\x.lo.length+(own s.nm a9).length < 64)/\Q ((jg s x a9 taken).toD g) μ)
theorem oF:∀ ds μ Q,eg ds μ Q->ds.length=4:=λ_ _ _ h=>lcA h λ_ _ h=>lcA h λ_ _ h=>lcO h λ_ _ h=>lcL h λ_ _ h=>by rw[(ecN h).1];rfl
def j5:STr:=aB (aO (kl (ah 2) (aA 0) (TB (aj rEq (aj L3.rIx (ah 0) (TC (.int 0))) (aj L3.rIx (ah 1) (TC (.int 0))))) (aj L3.rIx (ah 0) (TC (.int 1))) 1 [0]) (aA 4)) (aB (aO (bZ (eL (ah 3)) (aA 0) (TB (aj rEq (aj L3.rIx (ah 0) (TC (.int 0))) (aj L3.rIx (ah 1) (TC (.int 0))))) (ah 0) 1 [0]) (aA 5)) (aB (aO (au Ee (af (bZ (eL (ah 5)) (aA 0) (fe) (aj L3.rIx (ah 0) (TC (.int 4))) 1 []) (aq))) (aA 6)) (aB (aO (CY (bZ (eL (ah 5)) (aA 0) (fe) (aj kg (aj L3.rIx (ah 0) (TC (.int 2))) (aj L3.rIx (ah 0) (TC (.int 3)))) 1 []) (TC (.int 0))) (aA 7)) (aB (aO (bf (af (aj kg (aj aV (aj L3.rIx (ah 1) (TC (.int 8))) (au dB (af (ah 5) (aq)))) (ah 6)) (af (aj aV (aj L3.rIx (ah 1) (TC (.int 9))) (ah 6)) (af (au vA (af (aj L3.rIx (ah 1) (TC (.int 10))) (af (ah 7) (aq)))) (aq))))) (aA 8)) (aB (aO (bf (af (aj L3.rIx (ah 1) (TC (.int 0))) (af (au fV (af (ah 0) (af (aj L3.rIx (ah 1) (TC (.int 1))) (aq)))) (aq)))) (aA 9)) (aW (aj aV (aj aV (aj aV (ah 9) (TSl (ah 1) (j8 (TC (.int 2))) (j8 (TC (.int 7))))) (bf (af (au bF (af (au tj (af (aj aV (aj L3.rIx (ah 1) (TC (.int 7))) (au bF (af (ah 4) (aq)))) (aq))) (aq))) (aq)))) (ah 8))))))))
theorem pM:∀ ds μ Q,eg ds μ Q->j5 { nx:=λ_ μ'=>RT Q .non μ',rt:=RT Q } (ini 10 ds) μ:=by
 intro ds μ Q h
 replace h:=ecA h
 obtain ⟨sd,ds,rfl,h⟩:=h
 replace h:=ecA h
 obtain ⟨kd,ds,rfl,h⟩:=h
 replace h:=ecO h
 obtain ⟨lo,ds,rfl,h⟩:=h
 replace h:=ecL h
 obtain ⟨tk,ds,rfl,h⟩:=h
 replace h:=ecN h
 obtain ⟨rfl,h⟩:=h
 walk_at "ini"
 unfold j5
 walk_at "go"
 obtain ⟨g,s,x,a9,taken,⟨⟨rfl,rfl,rfl⟩,el,⟨hn,h1,h2⟩,⟨l1,l2⟩,h64⟩,k⟩:=h
 refine br el ?_
 refine nH a9 Lt.toD (λl=>if l.nm=s.nm then some (.int l.nu) else none) rfl el (by omega) (λl hl μ' sb N nn=>?_) ?_
 ·walk_at "go"
  refine ⟨⟨h1 l hl,hn⟩,kif (λh=>?_) (λh=>?_)⟩
  ·rw[if_pos h] at nn;exact nn
  ·rw[if_neg h] at nn;exact nn
 rw[eJ (λl:Lt=>l.nm=s.nm) (λl=>D.int l.nu)]
 walk_at "go"
 refine kf taken Lt.toD (λl=>if l.nm=s.nm then some l.toD else none) rfl (by omega) (λl hl μ' sb N nn=>?_) ?_
 ·walk_at "go"
  refine ⟨⟨h2 l hl,hn⟩,kif (λh=>?_) (λh=>?_)⟩
  ·rw[if_pos h] at nn;exact nn
  ·rw[if_neg h] at nn;exact nn
 rw[eJ (λl:Lt=>l.nm=s.nm) Lt.toD]
 have lo2:=Yt (λl:Lt=>decide (l.nm=s.nm)) taken
 walk_at "go"
 refine bV (own s.nm taken) Lt.toD (λl=>.int l.mr) rfl (by unfold own;omega) (λl hl μ' sb N nn=>?_) ?_
 ·walk_at "go"
  exact nn
 walk_at "go"
 refine ⟨(own s.nm taken).map Lt.mr,by rw[Wq];rfl,?_⟩
 walk_at "go"
 refine bV (own s.nm taken) Lt.toD (λl=>.int (l.ag - l.hp)) rfl (by unfold own;omega) (λl hl μ' sb N nn=>?_) ?_
 ·walk_at "go"
  exact nn
 walk_at "go"
 rw[show (own s.nm taken).map (λl=>D.int (l.ag - l.hp))=((own s.nm taken).map λl=>l.ag - l.hp).map .int by rw[Wq];rfl]
 refine PH ?_
 simp only[↓Om]
 walk_at "go"
 simp only[I0]
 refine ⟨s,x.du,⟨rfl,rfl⟩,?_⟩
 unfold own at h64
 have eo:(zb2 (λx:Lt=>decide (x.nm=s.nm)) a9).map (λl=>D.int l.nu)=((own s.nm a9).map Lt.nu).map .int:=by unfold own;rw[Wq];rfl
 refine ⟨by simp,by simp only[Wf];omega,x.lo++(own s.nm a9).map Lt.nu,⟨by rw[eo,W2],by unfold own;rw[Wv,Wf];exact h64⟩,λns' pm so=>?_⟩
 rw[zQ pm so]
 refine ⟨by simp,by simp,_,.refl _,?_⟩
 have e:(jg s x a9 taken).toD g=_:=rfl
 unfold jg Ss.toD own at k
 simp only[Wf]
 exact k
theorem Iy {kvs:List (L2.Key×D)}{k:L2.Key}{d:D}(h:k ∉ kvs.map (·.1)):putD kvs k d=kvs++[(k,d)]:=by
 unfold putD
 refine if_neg λz=>?_
 obtain ⟨x,hx,e⟩:=zba.mp z
 exact h (Wg.mpr ⟨x,hx,by simpa using e⟩)
theorem ve:∀ (more kvs:List (L2.Key×D)),((kvs++more).map (·.1)).Nodup->jZ kvs more=kvs++more
 | [],kvs,_=>by simp[jZ]
 | (k,d)::r,kvs,h=>by
  have h1:k ∉ kvs.map (·.1):=λz=>by
   rw[W2,Wr,zcZ] at h
   exact h.2.2 k z k (by simp) rfl
  show jZ (putD kvs k d) r=_
  rw[Iy h1,ve r _ (by simpa using h)]
  simp
theorem Fs {ss:List Sn}(h:(ss.map Sn.nm).Nodup):jZ [] (lB ss)=lB ss:=by
 refine ve _ [] ?_
 rw[XJ]
 unfold lB
 rw[Wq]
 have:(ss.map ((λx:L2.Key×D=>x.1) ∘ λs=>((.inr s.nm,.tup (s.rd.map .str)):L2.Key×D)))=(ss.map Sn.nm).map ZG:=by rw[Wq];rfl
 rw[this]
 exact zaL _ (λa b (hab:a≠b) (z:ZG a=ZG b)=>hab (zeb z)) h
theorem oI {α β:Type}(f:α->D)(g:β->D)(xs:List α)(ys:List β):Xj (λd e=>D.tup [d,e]) (xs.map f) (ys.map g)=(Wl xs ys).map λy=>.tup [f y.1,g y.2]:=by
 simp only[Wl,zdf,zbd]
theorem Bl {α:Type}{G:GTr}{te:ETr}{ρc:ST}{ds:List D}{μ:Mu}{Q:DK}(xs:List α)(t:α->D)(h:α->D)(hds:ds=xs.map t)(hl:xs.length<=999999)
  (step:∀ x∈xs,∀ μ',Sub μ μ'->∀ (N:DK),N (h x) μ'->G (t x) ρc μ' λρ1 μ1=>te ρ1 μ1 N)
  (k:∀ p,μ p=none->Q (.obj p) (up μ p (.lst (xs.map h)))):NY G fe te ρc ds μ Q:=by
 subst hds
 intro p hp
 suffices go:∀ (r done:List α),done++r=xs->fK p G fe te ρc (λμ'=>Q (.obj p) μ') (r.map t) (up μ p (.lst (done.map h))) from go xs [] rfl
 intro r
 induction r with
 | nil=>
  intro done e
  rw[WS] at e;subst e
  exact k p hp
 | cons d r ih=>
  intro done e
  have hd:d∈xs:=by rw[← e];simp
  have lf:(done.map h).length < 1000000:=by
   have:=congrArg X5 e
   simp at this ⊢;omega
  refine step d hd _ (Sub.new hp) _ (br aK ⟨lf,?_⟩)
  rw[iC]
  have:=ih (done++[d]) (by rw[← e];simp)
  rw[W2] at this
  exact this
theorem wZ {β:Type}(f:Wt->List β)(zs:List (Wy×Wt)):(zs.flatMap λy=>f y.2)=(zs.map (·.2)).flatMap f:=by rw[zdg]
def btD (g:Int)(b:Ss×List Int):D:=.tup [b.1.toD g,.tup (di b.2)]
theorem bC {α β γ:Type}(f:α->β->γ)(xs:List α)(ys:List β):Xj f xs ys=(Wl xs ys).map λp=>f p.1 p.2:=by
 simp[Wl,zbd]
structure Rm (p:Pn) (st:St'):Prop where
 g:Gd p.g
 sd:p.sn.Nodup
 sl:p.ss.length<=100
 wl:p.ws.length<=100
 sn:∀ n∈p.sn,Wj n=true
 rl:∀ s∈p.ss,s.rl.Ok/\s.rd≠[]/\∀ n∈s.rd,Wj n=true
 wy:∀ w∈p.ws,Wj w.nm=true/\0<=w.pc
 ws:∀ w∈st.ws,w.Ok
 ss:∀ y∈Wl p.ss st.ss,y.2.Ok p.g y.1.rl
 nb:∀ b∈p.bD st,b.2.length<=1000
 se:∀ x∈p.aJ st,Wj x.1=true/\x.2.nm∈p.sn
 sz:(p.aJ st).length<=100000
 wz:∀ w∈st.ws,(∀ l∈w.cm++w.st,l.nm∈p.sn)/\w.cm.length+w.st.length<=700000
 go:∀ x∈p.bJ st,x.ca.length+x.ou.length<=900000/\x.st.length<=900000
 ou:∀ l∈p.out st,l.nm∈p.sn/\0<=l.hp
 lo:∀ l∈p.a9 st,l.nm∈p.sn
 oz:(p.out st).length<=900000
 lz:(p.a9 st).length<=900000
 ez:(p.evs st).length<=900000
 lt:∀ y∈Wl p.ss (p.bD st),y.2.1.lo.length+(own y.1.nm (p.a9 st)).length < 64
def i6:FSp:=λds μ Q=>kcA ds λpd ds=>kcA ds λsd ds=>kcN ds (∃ (p:Pn) (st:St'),((pd=p.toD/\sd=st.toD p.g)/\Rm p st)/\Q (.tup [(p.step st).toD p.g,.ls (evD (p.evs st))]) μ)
theorem xU:∀ ds μ Q,i6 ds μ Q->ds.length=2:=λ_ _ _ h=>lcA h λ_ _ h=>lcA h λ_ _ h=>by rw[(ecN h).1];rfl
def uQ:STr:=aB (aO (aj L3.rIx (ah 0) (TC (.int 2))) (aA 2)) (aB (aO (au bF (af (bZ (eL (ah 2)) (aA 0) (fe) (aj L3.rIx (ah 0) (TC (.int 0))) 1 []) (aq))) (aA 3)) (aB (aO (au D7 (af (bZ (eL (ah 2)) (aA 0) (fe) (bf (af (aj L3.rIx (ah 0) (TC (.int 0))) (af (aj L3.rIx (ah 0) (TC (.int 1))) (aq)))) 1 []) (aq))) (aA 4)) (aB (aO (bZ (kr (af (ah 2) (af (aj L3.rIx (ah 1) (TC (.int 1))) (aq)))) (de [0,1]) (fe) (au ly (af (aj L3.rIx (ah 3) (TC (.int 0))) (af (ah 0) (af (ah 1) (af (ah 2) (aq)))))) 2 [1,0]) (aA 5)) (aB (aO (au dz (af (ah 2) (af (bZ (eL (ah 5)) (de [0,1]) (fe) (ah 1) 2 []) (aq)))) (aA 6)) (aB (aO (bZ (kr (af (aj L3.rIx (ah 0) (TC (.int 1))) (af (aj L3.rIx (ah 1) (TC (.int 0))) (aq)))) (de [0,1]) (fe) (au kT (af (ah 0) (af (ah 2) (af (ah 1) (af (ah 3) (aq)))))) 2 [3,6]) (aA 7)) (aB (aO (vN (eL (ah 6)) (de [0,1]) (fe) (bf (af (TC (.str "sent")) (af (aj L3.rIx (ah 1) (TC (.int 0))) (af (aj L3.rIx (ah 1) (TC (.int 1))) (af (ah 0) (aq)))))) 2 []) (aA 8)) (aB (aO (mT (aq)) (aA 9)) (aB (aO (mT (aq)) (aA 10)) (aB (iq (kr (af (aj L3.rIx (ah 0) (TC (.int 1))) (af (ah 7) (aq)))) (de [11,12]) (aB (fv (yf (ah 8) (au fM (af (ah 11) (af (ah 4) (af (ah 12) (aq))))))) (aB (fv (yf (ah 9) (aj L3.rIx (ah 12) (TC (.int 1))))) (fv (yf (ah 10) (aj L3.rIx (ah 12) (TC (.int 2)))))))) (aB (aO (kl (ah 10) (aA 0) (TB (aj rIs (au dg (af (ah 1) (af (ah 0) (aq)))) (TC .non))) (ah 0) 1 [4]) (aA 13)) (aB (aO (bZ (kr (af (aj L3.rIx (ah 0) (TC (.int 1))) (af (ah 7) (aq)))) (de [0,1]) (fe) (au fL (af (ah 0) (af (ah 2) (af (ah 1) (af (ah 3) (aq)))))) 2 [4,10]) (aA 14)) (aB (aO (bZ (kr (af (ah 2) (af (ah 5) (aq)))) (de [0,1]) (fe) (au eg (af (ah 0) (af (aj L3.rIx (ah 1) (TC (.int 0))) (af (ah 2) (af (ah 3) (aq)))))) 2 [9,13]) (aA 15)) (aW (bf (af (bf (af (au bF (af (ah 14) (aq))) (af (au bF (af (ah 15) (aq))) (aq)))) (af (uj (ah 8)) (aq)))))))))))))))))
theorem Ci:∀ ds μ Q,i6 ds μ Q->uQ { nx:=λ_ μ'=>RT Q .non μ',rt:=RT Q } (ini 16 ds) μ:=by
 intro ds μ Q h
 replace h:=ecA h
 obtain ⟨pd,ds,rfl,h⟩:=h
 replace h:=ecA h
 obtain ⟨sd,ds,rfl,h⟩:=h
 replace h:=ecN h
 obtain ⟨rfl,h⟩:=h
 walk_at "ini"
 unfold uQ
 walk_at "go"
 obtain ⟨p,st,⟨⟨rfl,rfl⟩,R⟩,k⟩:=h
 have sl:=R.sl
 walk_at "go"
 refine bV p.ss Sn.toD (λs=>.str s.nm) rfl (by omega) (λs hs μ' sb N nn=>?_) ?_
 ·walk_at "go"
  exact nn
 walk_at "go"
 refine bV p.ss Sn.toD (λs=>.tup [.str s.nm,.tup (s.rd.map .str)]) rfl (by omega) (λs hs μ' sb N nn=>?_) ?_
 ·walk_at "go"
  exact nn
 walk_at "go"
 refine ⟨lB p.ss,by unfold lB;rw[Wq];rfl,by unfold lB;rw[Wf];omega,λr hr=>?_⟩
 rw[Fs R.sd]
 walk_at "go"
 rw[oI]
 have lz:∀ {α β:Type} (xs:List α) (ys:List β),(Wl xs ys).length<=xs.length:=λxs ys=>by simp;omega
 refine bV (Wl p.ss st.ss) (λy=>.tup [y.1.toD,y.2.toD p.g]) (λy=>btD p.g (y.2.bt p.g y.1 (st.und y.2.nm))) rfl (by have:=lz p.ss st.ss;omega) (λy hy μ' sb N nn=>?_) ?_
 ·walk_at "go"
  exact ⟨y.1,y.2,st,⟨⟨rfl,rfl,rfl⟩,(R.rl _ (Wo hy).1).1,R.g,R.ss y hy,R.ws⟩,nn⟩
 have eb:(Wl p.ss st.ss).map (λy=>btD p.g (y.2.bt p.g y.1 (st.und y.2.nm)))=(p.bD st).map (btD p.g):=by unfold Pn.bD;rw[bC,Wq];rfl
 have lb:(p.bD st).length<=100:=by unfold Pn.bD;rw[XF];omega
 rw[eb]
 walk_at "go"
 refine bV (p.bD st) (btD p.g) (λb=>.tup (di b.2)) rfl (by omega) (λb hb μ' sb N nn=>?_) ?_
 ·unfold btD
  walk_at "go"
  exact nn
 walk_at "go"
 refine ⟨p.ss,(p.bD st).map (·.2),⟨⟨rfl,by unfold nsD;rw[Wq];rfl⟩,sl,by rw[Wf];exact lb,λn hn=>?_,λs hs=>(R.rl s hs).2.1⟩,?_⟩
 ·obtain ⟨b,hb,rfl⟩:=Wg.mp hn
  exact R.nb b hb
 rw[show jM p.ss ((p.bD st).map (·.2))=p.aJ st from rfl]
 have sz:=R.sz
 have wl:=R.wl
 walk_at "go"
 rw[oI]
 refine bV (Wl p.ws st.ws) (λy=>.tup [y.1.toD,y.2.toD]) (λy=>(pass y.1 p.sn y.2 (p.aJ st)).toD) rfl (by have:=lz p.ws st.ws;omega) (λy hy μ' sb N nn=>?_) ?_
 ·walk_at "go"
  have hw:=R.wy _ (Wo hy).1
  have hk:=R.wz _ (Wo hy).2
  have len2:p.sn.length<=900000:=by unfold Pn.sn;rw[Wf];omega
  refine ⟨y.1,p.sn,y.2,p.aJ st,⟨⟨rfl,by unfold Pn.sn;rw[Wq];rfl,rfl,rfl⟩,⟨hw.1,λx hx=>(R.se x hx).1⟩,hw.2,R.sn,λl hl=>?_,by have:=hk.2;omega,len2⟩,nn⟩
  rcases WZ.mp hl with hl | hl
  ·exact hk.1 l hl
  ·obtain ⟨x,hx,rfl⟩:=Wg.mp hl
   exact (R.se x hx).2
 have ew:(Wl p.ws st.ws).map (λy=>(pass y.1 p.sn y.2 (p.aJ st)).toD)=(p.bJ st).map Wt.toD:=by unfold Pn.bJ;rw[bC,Wq];rfl
 rw[ew]
 walk_at "go"
 refine Bl (p.aJ st) sdD (λx=>(⟨OF "sent", x.2.nm,x.2.nu,x.1⟩:Ev).toD) rfl (by omega) (λx hx μ' sb N nn=>?_) (λe he=>?_)
 ·walk_at "go"
  exact nn
 walk_at "go"
 intro l hl o ho
 walk_at "go"
 rw[oI]
 have er0:up μ r (.dct (lB p.ss)) r=some (.dct (lB p.ss)):=aK
 generalize hμr:up μ r (.dct (lB p.ss))=μr at *
 have nre:r≠e:=λz=>by rw[← z,er0] at he;cases he
 have nel:e≠l:=λz=>by rw[← z,aK] at hl;cases hl
 have nlo:l≠o:=λz=>by rw[← z,aK] at ho;cases ho
 have hl':μr l=none:=by rw[aY (WY nel)] at hl;exact hl
 have ho1:up μr e (.lst ((p.aJ st).map λx=>(⟨OF "sent", x.2.nm,x.2.nu,x.1⟩:Ev).toD)) o=none:=by rw[aY (WY nlo)] at ho;exact ho
 have neo:e≠o:=λz=>by rw[← z,aK] at ho1;cases ho1
 have ho':μr o=none:=by rw[aY (WY neo)] at ho1;exact ho1
 have nrl:r≠l:=λz=>by rw[← z,er0] at hl';cases hl'
 have nro:r≠o:=λz=>by rw[← z,er0] at ho';cases ho'
 have og:=R.go;have oe:=R.ez;have oz:=R.oz;have olz:=R.lz
 have TN:∀ {a},a∈Wl p.ws (p.bJ st)->a.2∈p.bJ st:=λh=>(Wo h).2
 have lw:(p.bJ st).length<=p.ws.length:=by unfold Pn.bJ;rw[XF];omega
 have zw:(Wl p.ws (p.bJ st)).map (·.2)=p.bJ st:=by
  rw[List.map_snd_zip];exact lw
 refine bR (λrr ρ μ'=>∃ (a c:List (Wy×Wt)) (v11 v12 v13 v14 v15:Option D),rr=c.map (λy=>.tup [y.1.toD,y.2.toD])/\a++c=Wl p.ws (p.bJ st)/\
  ρ=[some p.toD,some (st.toD p.g),some (.tup (snD p.ss)),some (.tup (p.ss.map λs=>.str s.nm)),some (.obj r),some (.ls ((p.bD st).map (btD p.g))),some (.ls ((p.aJ st).map sdD)),some (.ls ((p.bJ st).map Wt.toD)),some (.obj e),some (.obj l),some (.obj o),v11,v12,v13,v14,v15]/\
  (μ' e=some (.lst (evD ((p.aJ st).map (λx=>⟨OF "sent", x.2.nm,x.2.nu,x.1⟩)++a.flatMap λy=>evs p.ss y.1 y.2)))/\μ' l=some (.lst (ltD (a.flatMap λy=>y.2.lo)))/\μ' o=some (.lst (ltD (a.flatMap λy=>y.2.ou))))/\∀ b,b≠e->b≠l->b≠o->μ' b=μr b) ?_ ?_ _ _ _
  ⟨[],Wl p.ws (p.bJ st),_,_,_,_,_,rfl,rfl,rfl,⟨?_,?_,?_⟩,λb h1 h2 h3=>?_⟩
 rotate_left 2
 ·rw[aY neo,aY nel,aK];simp
 ·rw[aY nlo,aK];rfl
 ·rw[aK];rfl
 ·rw[aY h3,aY h2,aY h1]
 ·rintro ρ μ' ⟨a,c,v11,v12,v13,v14,v15,er',ez,rfl,⟨ee,el,eo⟩,eq⟩
  have:c=[]:=by cases c with | nil=>rfl | cons=>cases er'
  subst this
  rw[WS] at ez
  subst ez
  have el':μ' l=some (.lst (ltD (p.a9 st))):=by rw[el,wZ,zw];rfl
  have eo':μ' o=some (.lst (ltD (p.out st))):=by rw[eo,wZ,zw];rfl
  have ee':μ' e=some (.lst (evD (p.evs st))):=by rw[ee];unfold Pn.evs;rw[bC];congr 3
  have er1:μ' r=some (.dct (lB p.ss)):=by rw[eq r nre nrl nro];exact er0
  have hnm:∀ {n},n∈p.sn->n∈p.ss.map Sn.nm:=λh=>h
  walk_at "go"
  refine br eo' ?_
  refine nH (p.out st) Lt.toD (λl=>if bU p.ss l=none then some l.toD else none) rfl eo' (by omega) (λy hy μ2 sb N nn=>?_) ?_
  ·walk_at "go"
   refine ⟨p.ss,y,⟨rfl,sb _ _ er1,hnm (R.ou y hy).1,(R.ou y hy).2⟩,?_⟩
   show rIs (xT (bU p.ss y)) .non μ2 _
   rw[Di]
   walk_at "go"
   refine kif (λh=>?_) (λh=>?_)
   ·rw[if_pos h] at nn;exact nn
   ·rw[if_neg h] at nn;exact nn
  rw[eJ (λl:Lt=>bU p.ss l=none) Lt.toD]
  rw[show (p.out st).filter (λl=>decide (bU p.ss l=none))=p.taken st from rfl]
  walk_at "go"
  rw[oI]
  refine bV (Wl p.ws (p.bJ st)) (λy=>.tup [y.1.toD,y.2.toD]) (λy=>(nS p.ss y.1 y.2 (p.out st)).toD) rfl (by have:=lz p.ws (p.bJ st);omega) (λy hy μ2 sb N nn=>?_) ?_
  ·walk_at "go"
   have h1:=R.wy _ (Wo hy).1
   exact ⟨y.1,p.ss,y.2,p.out st,⟨⟨rfl,rfl⟩,⟨sb _ _ er1,sb _ _ eo'⟩,λx hx=>⟨hnm (R.ou x hx).1,(R.ou x hx).2⟩,⟨h1.1,λs hs=>(R.rl s hs).2.2⟩,R.oz,(R.go _ (TN hy)).2⟩,nn⟩
  have e1:(Wl p.ws (p.bJ st)).map (λy=>(nS p.ss y.1 y.2 (p.out st)).toD)=wsD (p.step st).ws:=by unfold Pn.step wsD;simp only;rw[bC,Wq];rfl
  rw[e1]
  walk_at "go"
  rw[oI]
  have lt1:(p.taken st).length<=900000:=by have:=Yt (λl:Lt=>decide (bU p.ss l=none)) (p.out st);unfold Pn.taken;omega
  refine bV (Wl p.ss (p.bD st)) (λy=>.tup [y.1.toD,btD p.g y.2]) (λy=>(jg y.1 y.2.1 (p.a9 st) (p.taken st)).toD p.g) rfl (by have:=lz p.ss (p.bD st);omega) (λy hy μ2 sb N nn=>?_) ?_
  ·unfold btD
   walk_at "go"
   have hs:=(Wo hy).1
   refine ⟨p.g,y.1,y.2.1,p.a9 st,p.taken st,⟨⟨rfl,rfl,rfl⟩,sb _ _ el',⟨R.sn _ (Wg.mpr ⟨_,hs,rfl⟩),λx hx=>R.sn _ (R.lo x hx),λx hx=>R.sn _ (R.ou x (W0.mp hx).1).1⟩,⟨R.lz,lt1⟩,R.lt y hy⟩,nn⟩
  have e2:(Wl p.ss (p.bD st)).map (λy=>(jg y.1 y.2.1 (p.a9 st) (p.taken st)).toD p.g)=ssD p.g (p.step st).ss:=by unfold Pn.step ssD;simp only;rw[bC,Wq];rfl
  rw[e2]
  walk_at "go"
  refine br ee' ?_
  refine ⟨μ,λb ob hb=>?_,k⟩
  have nb:∀ z,μr z=none->b≠z:=λz hz w=>by
   rw[w] at hb
   rw[← hμr] at hz
   by_cases hzr:z=r
   ·rw[hzr,hr] at hb;cases hb
   ·rw[aY hzr,hb] at hz;cases hz
  have n1:=nb e he
  have n2:=nb l hl'
  have n3:=nb o ho'
  unfold dn
  rw[if_neg n1,eq b n1 n2 n3,← hμr,aY (λw=>by rw[w,hr] at hb;cases hb)]
  exact hb
 ·rintro d rr ρ μ' N ⟨a,c,v11,v12,v13,v14,v15,er',ez,rfl,⟨ee,el,eo⟩,eq⟩ hN
  cases c with
  | nil=>cases er'
  | cons y c=>
  cases er'
  have hy:y∈Wl p.ws (p.bJ st):=by rw[← ez];simp
  have hyw:=TN hy
  have er1:μ' r=some (.dct (lB p.ss)):=by rw[eq r nre nrl nro];exact er0
  walk_at "go"
  refine br ee ?_
  have hou:∀ x∈y.2.ou,x.nm∈p.ss.map Sn.nm/\0<=x.hp:=λx hx=>R.ou x (XY.mpr ⟨_,hyw,hx⟩)
  refine ⟨y.1,p.ss,y.2,⟨⟨rfl,rfl⟩,er1,hou,(og _ hyw).1⟩,?_⟩
  walk_at "go"
  have za:a++y::c=Wl p.ws (p.bJ st):=ez
  have le1:(evD ((p.aJ st).map (λx=>⟨OF "sent", x.2.nm,x.2.nu,x.1⟩)++a.flatMap λy=>evs p.ss y.1 y.2)).length+(evD (evs p.ss y.1 y.2)).length<=1000000:=by
   have:(p.evs st).length=(p.aJ st).length+((a++y::c).flatMap λy=>evs p.ss y.1 y.2).length:=by
    unfold Pn.evs;rw[bC,za,Wv,Wf];rfl
   rw[XG,YC,Wv,Wv] at this
   simp only[Wf,Wv];omega
  have ll1:(ltD (a.flatMap λy=>y.2.lo)).length+(ltD y.2.lo).length<=1000000:=by
   have:(p.a9 st).length=((a++y::c).flatMap λy=>y.2.lo).length:=by unfold Pn.a9;rw[za,wZ,zw]
   rw[XG,YC,Wv,Wv] at this
   simp only[Wf];omega
  have lo1:(ltD (a.flatMap λy=>y.2.ou)).length+(ltD y.2.ou).length<=1000000:=by
   have:(p.out st).length=((a++y::c).flatMap λy=>y.2.ou).length:=by unfold Pn.out;rw[za,wZ,zw]
   rw[XG,YC,Wv,Wv] at this
   simp only[Wf];omega
  refine br ee ⟨le1,?_⟩
  walk_at "go"
  refine br (by rw[aY (WY nel)];exact el) (br (by rw[aY (WY nel)];exact el) ⟨ll1,?_⟩)
  walk_at "go"
  refine br (by rw[aY (WY nlo),aY (WY neo)];exact eo) (br (by rw[aY (WY nlo),aY (WY neo)];exact eo) ⟨lo1,?_⟩)
  refine hN _ _ ⟨a++[y],c,_,_,_,_,_,rfl,by rw[← ez];simp,rfl,⟨?_,?_,?_⟩,λb h1 h2 h3=>?_⟩
  ·rw[aY neo,aY nel,aK,XG];simp
  ·rw[aY nlo,aK,XG];simp
  ·rw[aK,XG];simp
  ·rw[aY h3,aY h2,aY h1,eq b h1 h2 h3]
theorem qQ {α:Type}{f g:α->Nat}:∀ {l:List α},(∀ x∈l,f x<=g x)->(l.map f).sum<=(l.map g).sum
 | [],_=>WA _
 | a::r,h=>by
  have h1:=h a Wu
  have h2:=qQ (l:=r) λx hx=>h x (WD _ hx)
  simp only[Wr,W8];omega
theorem a5 {α:Type}(f g:α->Nat):∀ l:List α,(l.map λx=>f x+g x).sum=(l.map f).sum+(l.map g).sum
 | []=>rfl
 | a::r=>by have:=a5 f g r;simp only[Wr,W8];omega
theorem kR {α:Type}{f:α->Nat}{k:Nat}:∀ {l:List α},(∀ x∈l,f x<=k)->(l.map f).sum<=l.length*k
 | [],_=>by simp
 | a::r,h=>by
  have h1:=h a Wu
  have h2:=kR (l:=r) λx hx=>h x (WD _ hx)
  simp only[Wr,W8,WU,Nat.succ_mul];omega
theorem b5 {α:Type}{f:α->Nat}:∀ {l:List α} {x:α},x∈l->f x<=(l.map f).sum
 | a::r,x,h=>by
  simp only[Wr,W8]
  rcases Wx.mp h with rfl | h
  ·omega
  ·have:=b5 (f:=f) h;omega
theorem nV {κ:Type} [DecidableEq κ] (a:κ):∀ {ks:List κ},ks.Nodup->(ks.map λk=>if a=k then 1 else 0).sum<=1
 | [],_=>by simp
 | k::r,h=>by
  have h':=W9.mp h
  simp only[Wr,W8]
  by_cases e:a=k
  ·have:(r.map λk=>if a=k then 1 else 0).sum=0:=by
    have:∀ l:List κ,a ∉ l->(l.map λk=>if a=k then 1 else 0).sum=0:=by
     intro l
     induction l with
     | nil=>intro _;rfl
     | cons b l ih=>
      intro hl
      simp only[Wx,not_or] at hl
      simp[hl.1,ih hl.2]
    exact this r (by rw[e];exact h'.1)
   rw[if_pos e,this];exact WA 1
  ·rw[if_neg e];have:=nV a h'.2;omega
theorem split_le {α κ:Type} [DecidableEq κ] (f:α->κ){ks:List κ}(nd:ks.Nodup):∀ xs:List α,(ks.map λk=>(xs.filter λx=>decide (f x=k)).length).sum<=xs.length
 | []=>by
  have:∀ l:List κ,(l.map λ_=>0).sum=0:=λl=>by induction l<;>simp_all
  simpa using this ks
 | x::r=>by
  have h1:=split_le f nd r
  have h2:=nV (f x) nd
  have e:(ks.map λk=>((x::r).filter λx=>decide (f x=k)).length)=ks.map λk=>(if f x=k then 1 else 0)+(r.filter λx=>decide (f x=k)).length:=by
   refine WT λk _=>?_
   by_cases z:f x=k<;>simp[z];omega
  rw[e,a5,WU];omega
theorem AZ (ns:List Str):∀ ls:List Lt,(∀ l∈ls,l.nm∈ns)->ls.length<=(ns.map λn=>(own n ls).length).sum
 | [],_=>by simp
 | x::r,h=>by
  have h1:=AZ ns r λl hl=>h l (WD _ hl)
  have hx:=h x Wu
  have e:(ns.map λn=>(own n (x::r)).length)=ns.map λn=>(if x.nm=n then 1 else 0)+(own n r).length:=by
   refine WT λk _=>?_
   unfold own
   by_cases z:x.nm=k<;>simp[z];omega
  have h2:1<=(ns.map λn=>if x.nm=n then 1 else 0).sum:=by
   have:=b5 (f:=λn=>if x.nm=n then 1 else 0) hx
   simpa using this
  rw[e,a5,WU];omega
theorem wb (n:Str)(ls:List Lt):(own n ls).length=(ls.map Lt.nm).count n:=by
 unfold own
 induction ls with
 | nil=>rfl
 | cons x r ih=>by_cases z:x.nm=n<;>simp[z,ih]
theorem ql (n:Str)(a b:List Lt):(own n (a++b)).length=(own n a).length+(own n b).length:=by unfold own;simp
theorem tu:∀ {l:List Lt} {i:Nat} (h:i < l.length),([l[i]]++l.eraseIdx i).Perm l
 | x::r,0,_=>.refl _
 | x::r,i+1,h=>by
  have:=tu (l:=r) (i:=i) (by simpa using h)
  simp only[List.getElem_cons_succ,List.eraseIdx_cons_succ]
  exact (List.Perm.swap x _ _).trans (this.cons x)
theorem qF (ws:List Str)(p:Int):∀ (f:Nat) (st out:List Lt) (l:Str),((ff ws p f st out l).1++(ff ws p f st out l).2.1).Perm (out++st)
 | 0,st,out,l=>.refl _
 | f+1,st,out,l=>by
  unfold ff
  split
  ·split
   ·rename_i n _
    split
    ·rename_i x e
     refine (qF ws p f _ _ _).trans ?_
     obtain ⟨hi,rfl⟩:=WL.mp e
     rw[Y3]
     exact zbJ _ (tu hi)
    ·exact .refl _
   ·exact .refl _
  ·exact .refl _
theorem fz (w:Wy)(ws:List Str)(st:List Lt)(l:Str):((dI w ws st l).1++(dI w ws st l).2.1).Perm st:=by
 unfold dI
 split
 ·exact qF ..
 ·simp only[ZY];exact .refl _
theorem qo (w:Wy):∀ (ys a b:List Lt),(((ys.foldl (cE w) (a,b)).1++(ys.foldl (cE w) (a,b)).2).map Lt.nm).Perm ((a++b++ys).map Lt.nm)
 | [],a,b=>by simp
 | y::r,a,b=>by
  rw[XQ]
  by_cases h:w.rm<=(a.length:Int)
  ·rw[jn h]
   refine (qo w r a (b++[y])).trans (by simp)
  ·rw[tU h]
   refine (qo w r (a++[iQ w y a.length]) b).trans ?_
   simp only[W2,Wr,Yb,C4,Y3]
   refine zbJ _ ?_
   exact (List.perm_middle (l₁:=za5 Lt.nm b)).symm
def Lt.In (sn:List Str)(l:Lt):Prop:=l.nm∈sn/\0<=l.hp/\0<=l.mr/\l.mr<=1
theorem LH {sn:List Str}{w:Wy}{x:Lt}(n:Nat)(h:x.In sn):(iQ w x n).In sn:=by
 unfold iQ
 split
 ·exact h
 ·split
  ·exact h
  ·exact ⟨h.1,h.2.1,(show (0:Int)<=1 by decide),W6 1⟩
theorem A8 {sn:List Str}(w:Wy):∀ (ys a b:List Lt),(∀ l∈a,l.In sn)->(∀ l∈b,l.In sn)->(∀ l∈ys,l.In sn)->(∀ l∈(ys.foldl (cE w) (a,b)).1,l.In sn)/\∀ l∈(ys.foldl (cE w) (a,b)).2,l.In sn
 | [],a,b,h1,h2,_=>⟨h1,h2⟩
 | y::r,a,b,h1,h2,h3=>by
  rw[XQ]
  have hy:=h3 y Wu
  have hr:∀ l∈r,l.In sn:=λl hl=>h3 l (WD _ hl)
  by_cases h:w.rm<=(a.length:Int)
  ·rw[jn h]
   refine A8 w r a (b++[y]) h1 (λl hl=>?_) hr
   rcases WZ.mp hl with hl | hl
   ·exact h2 l hl
   ·rw[XS.mp hl];exact hy
  ·rw[tU h]
   refine A8 w r _ b (λl hl=>?_) h2 hr
   rcases WZ.mp hl with hl | hl
   ·exact h1 l hl
   ·rw[XS.mp hl];exact LH _ hy
theorem FP (w:Wy)(ns:List Str)(k:Ws)(aJ:List (Str×Lt))(n:Str):(own n (pass w ns k aJ).lo).length+(own n (pass w ns k aJ).ou).length+(own n (pass w ns k aJ).st).length=(own n (pass w ns k aJ).ca).length+(own n k.st).length:=by
 have h1:=(qo w (pass w ns k aJ).ca k.st []).count_eq n
 have h2:=((fz w ns (tk w k.st (pass w ns k aJ).ca).1 k.la).map Lt.nm).count_eq n
 simp only[W2,XH,← wb] at h1 h2
 have e1:(pass w ns k aJ).lo=(tk w k.st (pass w ns k aJ).ca).2:=rfl
 have e2:(pass w ns k aJ).ou=(dI w ns (tk w k.st (pass w ns k aJ).ca).1 k.la).1:=rfl
 have e3:(pass w ns k aJ).st=(dI w ns (tk w k.st (pass w ns k aJ).ca).1 k.la).2.1:=rfl
 rw[e1,e2,e3]
 unfold tk at *
 have:(own n ([]:List Lt)).length=0:=rfl
 omega
theorem Jf (w:Wy)(ns:List Str)(k:Ws)(aJ:List (Str×Lt)):(pass w ns k aJ).lo.length+(pass w ns k aJ).ou.length+(pass w ns k aJ).st.length=(pass w ns k aJ).ca.length+k.st.length:=by
 have h1:=(qo w (pass w ns k aJ).ca k.st []).length_eq
 have h2:=(fz w ns (tk w k.st (pass w ns k aJ).ca).1 k.la).length_eq
 simp only[Wf,Wv,zag] at h1 h2
 have e1:(pass w ns k aJ).lo=(tk w k.st (pass w ns k aJ).ca).2:=rfl
 have e2:(pass w ns k aJ).ou=(dI w ns (tk w k.st (pass w ns k aJ).ca).1 k.la).1:=rfl
 have e3:(pass w ns k aJ).st=(dI w ns (tk w k.st (pass w ns k aJ).ca).1 k.la).2.1:=rfl
 rw[e1,e2,e3]
 unfold tk at *
 omega
theorem KS {sn:List Str}{w:Wy}{ns:List Str}{k:Ws}{aJ:List (Str×Lt)}(hk:∀ l∈k.cm++k.st,l.In sn)(hs:∀ x∈aJ,x.2.In sn):(∀ l∈(pass w ns k aJ).ca,l.In sn)/\(∀ l∈(pass w ns k aJ).lo,l.In sn)/\(∀ l∈(pass w ns k aJ).ou,l.In sn)/\∀ l∈(pass w ns k aJ).st,l.In sn:=by
 have hca:∀ l∈(pass w ns k aJ).ca,l.In sn:=λl hl=>by
  rcases WZ.mp (show l∈k.cm++(aJ.filter λx=>decide (x.1=w.nm)).map (·.2) from hl) with hl | hl
  ·exact hk l (by simp[hl])
  ·obtain ⟨x,hx,rfl⟩:=Wg.mp hl
   exact hs x (W0.mp hx).1
 have ht:=A8 w (pass w ns k aJ).ca k.st [] (λl hl=>hk l (by simp[hl])) (λl hl=>nomatch hl) hca
 have hp:=fz w ns (tk w k.st (pass w ns k aJ).ca).1 k.la
 refine ⟨hca,ht.2,λl hl=>ht.1 l (hp.mem_iff.mp (XU _ hl)),λl hl=>ht.1 l (hp.mem_iff.mp (WN _ hl))⟩
theorem L8 {lf:Option Int}{k:Int}(k0:0<=k)(hl:∀ i,lf=some i->0<=i):0<=iK lf k/\iK lf k<=k/\∀ i,lf.map (· - iK lf k)=some i->0<=i:=by
 cases lf with
 | none=>exact ⟨k0,W6 _,λi h=>by cases h⟩
 | some l=>
  have:=hl l rfl
  refine ⟨?_,?_,λi h=>?_⟩
  ·show 0<=min k l;omega
  ·show min k l<=k;omega
  ·have e:l - min k l=i:=by simpa[iK] using h
   omega
theorem Lx (a:Int)(n:Nat):(rgI a n).length=n:=by unfold rgI;simp
structure Fills (x:Ss) (pl:Nat) (b:Ss×List Int):Prop where
 same:b.1.nm=x.nm/\b.1.du=x.du/\b.1.W=x.W/\b.1.S=x.S/\b.1.lo=x.lo/\b.1.gd=x.gd/\b.1.mk'=x.mk'/\b.1.wt=x.wt
 few:b.2.length<=pl
 all:b.1.ag.length+b.2.length<=max x.ag.length pl
 n0:x.nx<=b.1.nx
 n1:b.1.nx<=x.nx+pl
 l:∀ i,b.1.lf=some i->0<=i
theorem L5 {x:Ss}(pl:Nat)(hl:∀ i,x.lf=some i->0<=i):Fills x pl (x.fill pl):=by
 have tl:(x.ag.take pl).length=min pl x.ag.length:=Zc
 obtain ⟨c0,c1,c2⟩:=L8 (lf:=x.lf) (k:=(pl:Int) - ((x.ag.take pl).length:Int)) (by omega) hl
 have e1:(x.fill pl).1.ag.length=x.ag.length - (x.ag.take pl).length:=by show (x.ag.drop _).length=_;rw[Ze]
 have e2:(x.fill pl).2.length=(x.ag.take pl).length+(iK x.lf ((pl:Int) - ((x.ag.take pl).length:Int))).toNat:=by show (x.ag.take pl++rgI _ _).length=_;rw[Wv,Lx]
 have e3:(x.fill pl).1.nx=x.nx+iK x.lf ((pl:Int) - ((x.ag.take pl).length:Int)):=rfl
 refine ⟨⟨rfl,rfl,rfl,rfl,rfl,rfl,rfl,rfl⟩,by omega,by omega,by omega,by omega,c2⟩
structure SsI (g:Int) (R:RN) (n:Nat) (x:Ss):Prop where
 w0:g<=x.W
 w1:x.W<=R.cap g
 s0:0<=x.S
 s1:x.S<=g
 g0:0<=x.gd
 g1:x.gd<=60*n
 m0:0<=x.mk'
 m1:x.mk'<=60*n
 t0:0<=x.wt
 n0:0<=x.nx
 n1:x.nx<=60*n
 l:∀ i,x.lf=some i->0<=i
theorem SsI.ok {g:Int}{R:RN}{n:Nat}{x:Ss}(h:SsI g R n x)(hn:n<=10000)(nm:Wj x.nm=true)(a:x.ag.length+x.lo.length<=60):x.Ok g R:=by
 have:=h.g1;have:=h.m1;have:=h.n1
 exact ⟨nm,h.w0,h.w1,h.s0,h.s1,⟨h.g0,(show x.gd<=1000000 by omega),h.m0,(show x.mk'<=1000000 by omega),(show (0:Int)<=(x.lo.length:Int) by omega),(show (x.lo.length:Int)<=1000000 by omega),h.t0⟩,by have:=h.n0;omega,by omega,a,h.l⟩
structure DE (g:Int) (R:RN) (n:Nat) (u:Int) (x:Ss) (b:Ss×List Int):Prop where
 nm:b.1.nm=x.nm
 i:SsI g R (n+1) b.1
 g:b.1.gd<=60*n
 m:b.1.mk'<=60*n
 few:b.2.length<=60
 all:u+(b.2.length:Int)+(b.1.ag.length:Int)+(b.1.lo.length:Int)<=60
theorem SH {p:Int}{s:Sn}{n:Nat}{x:Ss}{u:Int}(K:s.rl.Ok)(g0:0 < p)(h:SsI p s.rl n x)(hd:x.hd.Ok)(u0:0<=u)(a:u+(x.ag.length:Int)+(x.lo.length:Int)<=60):DE p s.rl n u x (x.bt p s u):=by
 unfold Ss.bt
 have i:=h
 split
 ·have bi:=Hs K g0 x.hd (S:=x.S) h.w0 h.w1
  have bs:=QH K hd g0 h.s0 h.s1
  rw[← Ll s.rl p x.W x.S x.hd] at bs
  have cl:=HC K g0
  have d60:(s.rl.beh p x.W x.S x.hd).1 / p<=60:=YY g0 (by omega)
  generalize hpl:(max 0 ((s.rl.beh p x.W x.S x.hd).1 / p - u)).toNat=pl
  have F:=L5 (x:=x.rdy p s.rl) pl h.l
  have la:(x.rdy p s.rl).ag.length=x.ag.length+x.lo.length:=by show (dO _).length=_;rw[oE,Wv]
  obtain ⟨e1,e2,e3,e4,e5,e6,e7,e8⟩:=F.same
  have f1:=F.few;have f2:=F.all;have f3:=F.n0;have f4:=F.n1
  have ex:(x.rdy p s.rl).nx=x.nx:=rfl
  have elo:((x.rdy p s.rl).fill pl).1.lo.length=0:=by rw[e5];rfl
  have:=h.n0;have:=h.n1
  have z6:((x.rdy p s.rl).fill pl).1.gd=0:=e6
  have z7:((x.rdy p s.rl).fill pl).1.mk'=0:=e7
  have z8:((x.rdy p s.rl).fill pl).1.wt=0:=e8
  refine ⟨e1,⟨?_,?_,?_,?_,by omega,by omega,by omega,by omega,by omega,by omega,by omega,F.l⟩,by omega,by omega,by omega,by omega⟩
  ·rw[e3];exact bi.1
  ·rw[e3];exact bi.2
  ·rw[e4];exact bs.1
  ·rw[e4];exact bs.2
 ·have:=h.g1;have:=h.m1;have:=h.n1
  exact ⟨rfl,⟨h.w0,h.w1,h.s0,h.s1,h.g0,(show x.gd<=60*((n+1:Nat):Int) by omega),h.m0,(show x.mk'<=60*((n+1:Nat):Int) by omega),h.t0,h.n0,(show x.nx<=60*((n+1:Nat):Int) by omega),h.l⟩,h.g1,h.m1,by simp,by simpa using a⟩
theorem xQ {ss:List Sn}{ns:List (List Int)}{x:Str×Lt}(h:x∈jM ss ns):∃ s∈ss,∃ n,x=(s.rd.headD (OF ""),⟨s.nm,n,0,0,0⟩):=by
 rw[jR] at h
 obtain ⟨t,_,h⟩:=XY.mp h
 obtain ⟨y,hy,e⟩:=Zt.mp h
 unfold cL at e
 cases q:y.2[t]? with
 | none=>rw[q] at e;cases e
 | some n=>
  rw[q] at e
  cases e
  exact ⟨y.1,(Wo hy).1,n,rfl⟩
theorem Al (n:Str)(t:Nat):∀ zs:List (Sn×List Int),(own n ((zs.filterMap (cL t)).map (·.2))).length<=(zs.map λy=>if n=y.1.nm then 1 else 0).sum
 | []=>by simp[own]
 | y::r=>by
  have ih:=Al n t r
  simp only[Wr,W8]
  cases e:cL t y with
  | none=>rw[zaW e];omega
  | some z=>
   rw[zaX e,Wr]
   have ez:z.2.nm=y.1.nm:=by
    unfold cL at e
    cases q:y.2[t]? with
    | none=>rw[q] at e;cases e
    | some k=>rw[q] at e;cases e;rfl
   unfold own at *
   by_cases h:n=y.1.nm
   ·rw[if_pos h]
    rw[Xe]
    split
    ·rw[WU];omega
    ·omega
   ·rw[if_neg h,zbe (by rw[ez];simp;exact λz=>h z.symm)];omega
theorem va (n:Str)(t L:Nat)(hL:L<=t):∀ zs:List (Sn×List Int),(∀ y∈zs,y.1.nm=n->y.2.length<=L)->(own n ((zs.filterMap (cL t)).map (·.2))).length=0
 | [],_=>rfl
 | y::r,h=>by
  have ih:=va n t L hL r λy hy=>h y (WD _ hy)
  cases e:cL t y with
  | none=>rw[zaW e];exact ih
  | some z=>
   rw[zaX e,Wr]
   unfold cL at e
   cases q:y.2[t]? with
   | none=>rw[q] at e;cases e
   | some k=>
    rw[q] at e;cases e
    have hlt:=(WL.mp q).1
    have ne:¬ y.1.nm=n:=λz=>by have:=h y Wu z;omega
    unfold own at *
    rw[zbe (by simpa using ne)]
    exact ih
theorem mx {α:Type}(n:Str)(f:α->List Lt):∀ xs:List α,(own n (xs.flatMap f)).length=(xs.map λx=>(own n (f x)).length).sum
 | []=>rfl
 | x::r=>by rw[YC,ql,mx n f r];rfl
theorem Nn (L:Nat):∀ M:Nat,((WQ M).map λt=>if t < L then 1 else 0).sum<=L
 | 0=>by simp
 | M+1=>by
  have key:∀ M:Nat,((WQ M).map λt=>if t < L then 1 else 0).sum=min M L:=by
   intro M
   induction M with
   | zero=>simp
   | succ M ih=>
    rw[Zr,W2,List.sum_append,ih]
    simp only[Wr,Yb,W8,List.sum_nil]
    split<;>omega
  rw[key];omega
theorem qy {α β:Type}:∀ (xs:List α) (ys:List β),((Wl xs ys).map (·.1)) <+: xs
 | [],_=>by simp
 | x::r,[]=>by simp
 | x::r,y::s=>by simpa using qy r s
theorem IP {ss:List Sn}{ns:List (List Int)}(nd:(ss.map Sn.nm).Nodup)(n:Str)(L:Nat)(h:∀ y∈Wl ss ns,y.1.nm=n->y.2.length<=L):(own n ((jM ss ns).map (·.2))).length<=L:=by
 rw[jR,zdh,mx]
 refine Xa (qQ (g:=λt=>if t < L then 1 else 0) λt _=>?_) (Nn L _)
 split
 ·refine Xa (Al n t _) ?_
  have e:((Wl ss ns).map λy=>if n=y.1.nm then 1 else 0)=((Wl ss ns).map (·.1.nm)).map λk=>if n=k then 1 else 0:=by rw[Wq];rfl
  rw[e]
  refine nV n ?_
  have e2:(Wl ss ns).map (·.1.nm)=((Wl ss ns).map (·.1)).map Sn.nm:=by rw[Wq];rfl
  rw[e2]
  exact nd.sublist (((qy ss ns).sublist).map Sn.nm)
 ·rw[va n t L (by omega) _ h];exact WA 0
def St'.j3 (x:St')(n:Str):Nat:=(x.ws.map λw=>(own n (w.cm++w.st)).length).sum
theorem TY (x:St')(n:Str):x.und n=(x.j3 n:Int):=by
 unfold St'.und St'.j3
 induction x.ws with
 | nil=>rfl
 | cons a l ih=>simp only[Wr,W8,ih];omega
structure cR (p:Pn) (m:Int) (n:Nat) (st:St'):Prop where
 K:p.Ok m
 lw:st.ws.length=p.ws.length
 nm:st.ss.map Ss.nm=p.sn
 lt:∀ w∈st.ws,∀ l∈w.cm++w.st,l.In p.sn
 ss:∀ y∈Wl p.ss st.ss,SsI p.g y.1.rl n y.2
 cn:∀ x∈st.ss,(st.j3 x.nm:Int)+(x.ag.length:Int)+(x.lo.length:Int)<=60
theorem Fy {ns:List Str}(h:ns.Pairwise λa b=>ltS a b=true):ns.Nodup:=h.imp λ{a b} h e=>by
 subst e
 have:¬ a.cps.toList < a.cps.toList:=List.lt_irrefl _
 simp[ltS,this] at h
theorem rK {α β:Type}{f:α->List β}{k:Nat}{l:List α}(h:∀ x∈l,(f x).length<=k):(l.flatMap f).length<=l.length*k:=by
 rw[List.length_flatMap];exact kR h
theorem nY {α β:Type}{f:α->β}{a b:α}:∀ {l:List α},(l.map f).Nodup->a∈l->b∈l->f a=f b->a=b
 | x::r,h,ha,hb,e=>by
  have h':=W9.mp h
  rcases Wx.mp ha with ea | ha
  ·rcases Wx.mp hb with eb | hb
   ·rw[ea,eb]
   ·exact absurd (Wg.mpr ⟨b,hb,by rw[← e,ea]⟩:f x∈r.map f) h'.1
  ·rcases Wx.mp hb with eb | hb
   ·exact absurd (Wg.mpr ⟨a,ha,by rw[e,eb]⟩:f x∈r.map f) h'.1
   ·exact nY h'.2 ha hb e
section
variable {p:Pn} {m:Int} {n:Nat} {st:St'} (I:cR p m n st)
include I
theorem cR.sd:p.sn.Nodup:=Fy I.K.sd
theorem cR.ls:st.ss.length=p.ss.length:=by have:=congrArg X5 I.nm;simpa using this
theorem cR.znm {y:Sn×Ss}(h:y∈Wl p.ss st.ss):y.2.nm=y.1.nm:=by
 obtain ⟨i,hi,e⟩:=X4 h
 have h1:i < p.ss.length:=by simp at hi;omega
 have h2:i < st.ss.length:=by simp at hi;omega
 have e1:=congrArg (λl=>l[i]?) I.nm
 simp[h1,h2] at e1
 rw[← e]
 simpa using e1
theorem cR.snm {a:Str}(h:a∈p.sn):∃ x∈st.ss,x.nm=a:=by rw[← I.nm] at h;obtain ⟨x,hx,e⟩:=Wg.mp h;exact ⟨x,hx,e⟩
theorem cR.UH {a:Str}(h:a∈p.sn):st.j3 a<=60:=by
 obtain ⟨x,hx,rfl⟩:=I.snm h
 have:=I.cn x hx;omega
theorem cR.snl:p.sn.length<=8:=by unfold Pn.sn;rw[Wf];exact I.K.s1
theorem cR.MX {w:Ws}(h:w∈st.ws):w.cm.length+w.st.length<=480:=by
 have h1:=AZ p.sn (w.cm++w.st) λl hl=>(I.lt w h l hl).1
 have h2:(p.sn.map λa=>(own a (w.cm++w.st)).length).sum<=p.sn.length*60:=kR λa ha=>by
  have:=I.UH ha
  have:=b5 (f:=λw:Ws=>(own a (w.cm++w.st)).length) h
  unfold St'.j3 at *;omega
 have:=I.snl
 rw[Wv] at h1;omega
theorem cR.sok {a:Str}(h:a∈p.sn):Wj a=true:=by
 obtain ⟨s,hs,rfl⟩:=Wg.mp h
 exact (I.K.s s hs).n
theorem cR.xok (hn:n<=10000){y:Sn×Ss}(h:y∈Wl p.ss st.ss):y.2.Ok p.g y.1.rl:=by
 have hx:=(Wo h).2
 have c:=I.cn _ hx
 refine (I.ss y h).ok hn (I.sok ?_) (by omega)
 rw[I.znm h];exact Wg.mpr ⟨_,(Wo h).1,rfl⟩
theorem cR.bt (hn:n<=10000){y:Sn×Ss}(h:y∈Wl p.ss st.ss):DE p.g y.1.rl n (st.j3 y.2.nm) y.2 (y.2.bt p.g y.1 (st.und y.2.nm)):=by
 have hx:=(Wo h).2
 have hs:=(Wo h).1
 have c:=I.cn _ hx
 rw[TY]
 exact SH (I.K.s _ hs).k (by have:=I.K.g.1;omega) (I.ss y h) (I.xok hn h).h (by omega) c
theorem cR.VD (hn:n<=10000){b:Ss×List Int}(h:b∈p.bD st):∃ y∈Wl p.ss st.ss,b=y.2.bt p.g y.1 (st.und y.2.nm)/\DE p.g y.1.rl n (st.j3 y.2.nm) y.2 b:=by
 unfold Pn.bD at h
 rw[bC] at h
 obtain ⟨y,hy,rfl⟩:=Wg.mp h
 exact ⟨y,hy,rfl,I.bt hn hy⟩
theorem cR.nb (hn:n<=10000){b:Ss×List Int}(h:b∈p.bD st):b.2.length<=60:=by obtain ⟨y,_,_,B⟩:=I.VD hn h;exact B.few
theorem cR.zb {y:Sn×(Ss×List Int)}(h:y∈Wl p.ss (p.bD st)):∃ x,(y.1,x)∈Wl p.ss st.ss/\y.2=x.bt p.g y.1 (st.und x.nm):=by
 obtain ⟨i,hi,e⟩:=X4 h
 have h1:i < p.ss.length:=by simp at hi;omega
 have h2:i < st.ss.length:=by have:=I.ls;omega
 refine ⟨st.ss[i],?_,?_⟩
 ·have:i < (Wl p.ss st.ss).length:=by simp;omega
  have hm:=XB this
  rw[Zg] at hm
  rw[← e];simpa using hm
 ·rw[← e]
  simp[Pn.bD]
theorem cR.zs {y:Sn×List Int}(h:y∈Wl p.ss ((p.bD st).map (·.2))):∃ b,(y.1,b)∈Wl p.ss (p.bD st)/\y.2=b.2:=by
 rw[X8] at h
 obtain ⟨z,hz,rfl⟩:=Wg.mp h
 exact ⟨z.2,hz,rfl⟩
theorem cR.Oh (hn:n<=10000){x:Ss}{s:Sn}(h:(s,x)∈Wl p.ss st.ss):(own s.nm ((p.aJ st).map (·.2))).length<=(x.bt p.g s (st.und x.nm)).2.length:=by
 refine IP I.sd s.nm _ λy hy e=>?_
 obtain ⟨b,hb,e2⟩:=I.zs hy
 obtain ⟨x',hx',e3⟩:=I.zb hb
 have e3':b=x'.bt p.g y.1 (st.und x'.nm):=e3
 have es:y.1=s:=nY (f:=Sn.nm) I.sd (Wo hx').1 (Wo h).1 e
 have ex:x'=x:=by
  refine nY (f:=Ss.nm) (by rw[I.nm];exact I.sd) (Wo hx').2 (Wo h).2 ?_
  have n1:x'.nm=y.1.nm:=I.znm hx'
  have n2:x.nm=s.nm:=I.znm h
  rw[n1,n2];exact e
 rw[e2,e3',es,ex]
 exact WA _
theorem cR.RS {s:Sn}(h:s∈p.ss):∃ x,(s,x)∈Wl p.ss st.ss:=by
 obtain ⟨i,hi,e⟩:=X4 h
 have h2:i < st.ss.length:=by have:=I.ls;omega
 have:i < (Wl p.ss st.ss).length:=by simp;omega
 have hm:=XB this
 rw[Zg] at hm
 exact ⟨_,by rw[← e];exact hm⟩
theorem cR.wY {x:Str×Lt}(h:x∈p.aJ st):x.2.In p.sn/\Wj x.1=true:=by
 obtain ⟨s,hs,k,rfl⟩:=xQ h
 have hk:=I.K.s s hs
 refine ⟨⟨Wg.mpr ⟨s,hs,rfl⟩,W6 0,W6 0,(show (0:Int)<=1 by decide)⟩,?_⟩
 cases e:s.rd with
 | nil=>exact absurd e hk.r0
 | cons a r=>
  have:a∈p.wn:=hk.r.subset (by rw[e];simp)
  obtain ⟨w,hw,rfl⟩:=Wg.mp this
  exact (I.K.w w hw).n
theorem cR.NX (hn:n<=10000):(p.aJ st).length<=480:=by
 have h1:=AZ p.sn ((p.aJ st).map (·.2)) λl hl=>by obtain ⟨x,hx,rfl⟩:=Wg.mp hl;exact (I.wY hx).1.1
 have h2:(p.sn.map λa=>(own a ((p.aJ st).map (·.2))).length).sum<=p.sn.length*60:=kR λa ha=>by
  obtain ⟨s,hs,rfl⟩:=Wg.mp ha
  obtain ⟨x,hx⟩:=I.RS hs
  exact Xa (I.Oh hn hx) (I.bt hn hx).few
 have:=I.snl
 rw[Wf] at h1;omega
theorem cR.Ia {x:Wt}(h:x∈p.bJ st):∃ y∈Wl p.ws st.ws,x=pass y.1 p.sn y.2 (p.aJ st):=by
 unfold Pn.bJ at h
 rw[bC] at h
 obtain ⟨y,hy,rfl⟩:=Wg.mp h
 exact ⟨y,hy,rfl⟩
theorem cR.Cz {x:Wt}(h:x∈p.bJ st):(∀ l∈x.ca,l.In p.sn)/\(∀ l∈x.lo,l.In p.sn)/\(∀ l∈x.ou,l.In p.sn)/\∀ l∈x.st,l.In p.sn:=by
 obtain ⟨y,hy,rfl⟩:=I.Ia h
 exact KS (I.lt _ (Wo hy).2) λx hx=>(I.wY hx).1
theorem cR.C0 (hn:n<=10000){x:Wt}(h:x∈p.bJ st):x.ca.length<=960/\x.lo.length+x.ou.length+x.st.length<=1440:=by
 obtain ⟨y,hy,rfl⟩:=I.Ia h
 have h1:=I.MX (Wo hy).2
 have h2:=I.NX hn
 have h3:=Jf y.1 p.sn y.2 (p.aJ st)
 have h4:(pass y.1 p.sn y.2 (p.aJ st)).ca.length<=y.2.cm.length+(p.aJ st).length:=by
  show (y.2.cm++((p.aJ st).filter λx=>decide (x.1=y.1.nm)).map (·.2)).length<=_
  rw[Wv,Wf]
  have:=Yt (λx:Str×Lt=>decide (x.1=y.1.nm)) (p.aJ st)
  omega
 omega
theorem cR.wl:(p.bJ st).length<=6:=by unfold Pn.bJ;rw[XF];have:=I.K.w1;omega
end
theorem nJ {α:Type}(a b:α->Bool)(l:List α):(l.filter a).filter b=(l.filter b).filter a:=by
 rw[YT,YT];congr 1;funext x;exact Bool.and_comm ..
theorem Nl (n:Str)(q:Str×Lt->Bool)(l:List (Str×Lt)):(own n ((l.filter q).map (·.2))).length=((l.filter λx=>decide (x.2.nm=n)).filter q).length:=by
 unfold own
 rw[zan,Wf,← nJ]
 rfl
theorem xK (n:Str)(h:Int)(l:List Lt):(own n (l.map (·.jI h))).length=(own n l).length:=by
 rw[wb,wb,Wq];rfl
theorem df {α β γ:Type}(P:α×β->γ):∀ (xs:List α) (ys:List β),Wl xs ((Wl xs ys).map P)=(Wl xs ys).map λy=>(y.1,P y)
 | [],_=>by simp
 | x::r,[]=>by simp
 | x::r,y::s=>by simp[df P r s]
theorem mU {α β:Type}:∀ {xs:List α} {ys:List β},xs.length<=ys.length->(Wl xs ys).map (·.1)=xs
 | [],_,_=>by simp
 | x::r,[],h=>by simp at h
 | x::r,y::s,h=>by simp[mU (xs:=r) (ys:=s) (by simpa using h)]
theorem nc {α β:Type}:∀ {xs:List α} {ys:List β},ys.length<=xs.length->(Wl xs ys).map (·.2)=ys
 | _,[],_=>by simp
 | [],y::s,h=>by simp at h
 | x::r,y::s,h=>by simp[nc (xs:=r) (ys:=s) (by simpa using h)]
theorem Es (q:Lt->Bool)(n:Str)(l:List Lt):(own n (l.filter q)).length+(own n (l.filter λx=>!q x)).length=(own n l).length:=by
 unfold own
 induction l with
 | nil=>rfl
 | cons x r ih=>by_cases h1:q x<;>by_cases h2:x.nm=n<;>simp[h1,h2] at ih ⊢ <;> omega
theorem Jj {p:Pn}{st:St'}(nd:p.wn.Nodup)(lw:st.ws.length=p.ws.length)(a:Str) :
  (p.step st).j3 a+(own a (p.taken st)).length+(own a (p.a9 st)).length<=st.j3 a+(own a ((p.aJ st).map (·.2))).length:=by
 generalize hZ:Wl p.ws st.ws=Z
 have z1:Z.map (·.1)=p.ws:=by rw[← hZ];exact mU (by omega)
 have z2:Z.map (·.2)=st.ws:=by rw[← hZ];exact nc (by omega)
 let P:Wy×Ws->Wt:=λy=>pass y.1 p.sn y.2 (p.aJ st)
 have ew:p.bJ st=Z.map P:=by unfold Pn.bJ;rw[bC,hZ]
 have el:(own a (p.a9 st)).length=(Z.map λy=>(own a (P y).lo).length).sum:=by unfold Pn.a9;rw[mx,ew,Wq];rfl
 have eo:(own a (p.out st)).length=(Z.map λy=>(own a (P y).ou).length).sum:=by unfold Pn.out;rw[mx,ew,Wq];rfl
 have e3:(Z.map λy=>(own a (P y).lo).length).sum+(Z.map λy=>(own a (P y).ou).length).sum+(Z.map λy=>(own a (P y).st).length).sum=(Z.map λy=>(own a (P y).ca).length).sum+(Z.map λy=>(own a y.2.st).length).sum:=by
  rw[← a5,← a5,← a5]
  congr 1
  exact WT λy _=>FP y.1 p.sn y.2 (p.aJ st) a
 have e4:(Z.map λy=>(own a (P y).ca).length).sum<=(Z.map λy=>(own a y.2.cm).length).sum+(own a ((p.aJ st).map (·.2))).length:=by
  have:(Z.map λy=>(own a (P y).ca).length)=Z.map λy=>(own a y.2.cm).length+(((p.aJ st).filter λx=>decide (x.2.nm=a)).filter λx=>decide (x.1=y.1.nm)).length:=by
   refine WT λy _=>?_
   show (own a (y.2.cm++((p.aJ st).filter λx=>decide (x.1=y.1.nm)).map (·.2))).length=_
   rw[ql,Nl]
  rw[this,a5]
  have h2:=split_le (f:=λx:Str×Lt=>x.1) nd ((p.aJ st).filter λx=>decide (x.2.nm=a))
  have h3:(Z.map λy=>(((p.aJ st).filter λx=>decide (x.2.nm=a)).filter λx=>decide (x.1=y.1.nm)).length)=(p.wn.map λk=>(((p.aJ st).filter λx=>decide (x.2.nm=a)).filter λx=>decide (x.1=k)).length):=by
   unfold Pn.wn;rw[← z1,Wq,Wq];rfl
  rw[h3]
  have h4:(own a ((p.aJ st).map (·.2))).length=((p.aJ st).filter λx=>decide (x.2.nm=a)).length:=by
   unfold own;rw[zan,Wf];rfl
  omega
 have e5:st.j3 a=(Z.map λy=>(own a y.2.cm).length).sum+(Z.map λy=>(own a y.2.st).length).sum:=by
  unfold St'.j3
  rw[← z2,Wq,← a5]
  congr 1
  exact WT λy _=>ql ..
 have e6:(p.step st).j3 a=(Z.map λy=>(own a ((p.out st).filter λl=>decide (bU p.ss l=some y.1.nm))).length).sum+(Z.map λy=>(own a (P y).st).length).sum:=by
  unfold St'.j3 Pn.step
  simp only
  rw[bC,ew,← hZ,df,hZ,Wq,Wq,← a5]
  congr 1
  refine WT λy _=>?_
  show (own a (((p.out st).filter λl=>decide (bU p.ss l=some y.1.nm)).map (·.jI 1)++(P y).st.map (·.jI 0))).length=_
  rw[ql,xK,xK]
 have e7:(Z.map λy=>(own a ((p.out st).filter λl=>decide (bU p.ss l=some y.1.nm))).length).sum<=(own a ((p.out st).filter λl=>!decide (bU p.ss l=none))).length:=by
  have nd2:(p.wn.map some).Nodup:=zaL _ (λa b (h:a≠b) (z:some a=some b)=>h (W4 z)) nd
  have h2:=split_le (f:=bU p.ss) nd2 (own a ((p.out st).filter λl=>!decide (bU p.ss l=none)))
  rw[Wq] at h2
  have h3:(Z.map λy=>(own a ((p.out st).filter λl=>decide (bU p.ss l=some y.1.nm))).length)=p.wn.map ((λk=>((own a ((p.out st).filter λl=>!decide (bU p.ss l=none))).filter λx=>decide (bU p.ss x=k)).length) ∘ some):=by
   unfold Pn.wn
   rw[← z1,Wq,Wq]
   refine WT λy _=>?_
   unfold own
   simp only[Function.comp,YT]
   congr 2
   funext x
   by_cases h1:x.nm=a<;>cases h:bU p.ss x<;>simp[h1]
  rw[h3];exact h2
 have e8:=Es (λl=>decide (bU p.ss l=none)) a (p.out st)
 have e9:(own a (p.taken st)).length=(own a ((p.out st).filter λl=>decide (bU p.ss l=none))).length:=rfl
 omega
theorem uK:∀ {l:List Lt},(∀ x∈l,0<=x.mr/\x.mr<=1)->0<=(l.map Lt.mr).sum/\(l.map Lt.mr).sum<=(l.length:Int)
 | [],_=>by simp
 | x::r,h=>by
  have h1:=h x Wu
  have h2:=uK (l:=r) λx hx=>h x (WD _ hx)
  simp only[Wr,W8,WU];omega
section
variable {p:Pn} {m:Int} {n:Nat} {st:St'} (I:cR p m n st) (hn:n<=10000)
include I
theorem cR.Eg {l:Lt}(h:l∈p.out st):l.In p.sn:=by
 obtain ⟨x,hx,hl⟩:=XY.mp h
 exact (I.Cz hx).2.2.1 l hl
theorem cR.Rw {l:Lt}(h:l∈p.a9 st):l.In p.sn:=by
 obtain ⟨x,hx,hl⟩:=XY.mp h
 exact (I.Cz hx).2.1 l hl
include hn
theorem cR.cons {s:Sn}{b:Ss×List Int}(h:(s,b)∈Wl p.ss (p.bD st)):b.1.nm=s.nm/\SsI p.g s.rl (n+1) b.1/\b.1.gd<=60*n/\b.1.mk'<=60*n/\
  ((p.step st).j3 s.nm:Int)+((own s.nm (p.taken st)).length:Int)+((own s.nm (p.a9 st)).length:Int)+(b.1.ag.length:Int)+(b.1.lo.length:Int)<=60:=by
 obtain ⟨x,hx,e⟩:=I.zb h
 have e':b=x.bt p.g s (st.und x.nm):=e
 have B:DE p.g s.rl n (st.j3 x.nm) x (x.bt p.g s (st.und x.nm)):=I.bt hn hx
 have nm:x.nm=s.nm:=I.znm hx
 have c:=Jj (p:=p) (st:=st) I.K.wd I.lw s.nm
 have d:(own s.nm ((p.aJ st).map (·.2))).length<=(x.bt p.g s (st.und x.nm)).2.length:=I.Oh hn hx
 have a:=B.all
 rw[← e'] at B d a
 rw[nm] at a
 exact ⟨B.nm.trans nm,B.i,B.g,B.m,by omega⟩
theorem cR.rd:Rm p st:=by
 have w1:=I.K.w1;have s1:=I.K.s1
 have wl:=I.wl
 have sl:=I.NX hn
 have lo:=rK (f:=Wt.lo) (k:=1440) (l:=p.bJ st) λx hx=>by have:=(I.C0 hn hx).2;omega
 have ou:=rK (f:=Wt.ou) (k:=1440) (l:=p.bJ st) λx hx=>by have:=(I.C0 hn hx).2;omega
 refine ⟨I.K.g,I.sd,by omega,by omega,λa ha=>I.sok ha,λs hs=>⟨(I.K.s s hs).k,(I.K.s s hs).r0,λa ha=>?_⟩,λw hw=>⟨(I.K.w w hw).n,by have:=(I.K.w w hw).p0;omega⟩,λw hw=>⟨λl hl=>I.sok (I.lt w hw l hl).1,by have:=I.MX hw;omega⟩,
  λy hy=>I.xok hn hy,λb hb=>by have:=I.nb hn hb;omega,λx hx=>⟨(I.wY hx).2,(I.wY hx).1.1⟩,by omega,λw hw=>⟨λl hl=>(I.lt w hw l hl).1,by have:=I.MX hw;omega⟩,λx hx=>by have:=I.C0 hn hx;omega,
  λl hl=>⟨(I.Eg hl).1,(I.Eg hl).2.1⟩,λl hl=>(I.Rw hl).1,?_,?_,?_,λy hy=>?_⟩
 ·have:a∈p.wn:=(I.K.s s hs).r.subset ha
  obtain ⟨w,hw,rfl⟩:=Wg.mp this
  exact (I.K.w w hw).n
 ·show ((p.bJ st).flatMap Wt.ou).length<=_;omega
 ·show ((p.bJ st).flatMap Wt.lo).length<=_;omega
 ·unfold Pn.evs
  rw[Wv,Wf,bC]
  have h2:(Wl p.ws (p.bJ st)).length<=6:=by simp;omega
  have h3:=rK (f:=λy:Wy×Wt=>evs p.ss y.1 y.2) (k:=2400) (l:=Wl p.ws (p.bJ st)) λy hy=>by
   have:=I.C0 hn (Wo hy).2
   show (y.2.ca.zipIdx.map _++y.2.ou.map _).length<=_
   rw[Wv,Wf,Wf,zcJ];omega
  rw[List.flatMap_def] at h3
  omega
 ·have:=(I.cons hn (s:=y.1) (b:=y.2) hy).2.2.2.2
  omega
theorem cR.next:cR p m (n+1) (p.step st):=by
 have lwt:(p.bJ st).length=p.ws.length:=by unfold Pn.bJ;rw[XF];have:=I.lw;omega
 have lb:(p.bD st).length=p.ss.length:=by unfold Pn.bD;rw[XF];have:=I.ls;omega
 have es:(p.step st).ss=(Wl p.ss (p.bD st)).map λy=>jg y.1 y.2.1 (p.a9 st) (p.taken st):=by unfold Pn.step;simp only;rw[bC]
 have key:∀ y∈Wl p.ss (p.bD st),(jg y.1 y.2.1 (p.a9 st) (p.taken st)).nm=y.1.nm:=λy hy=>(I.cons hn (s:=y.1) (b:=y.2) hy).1
 refine ⟨I.K,?_,?_,λw hw l hl=>?_,λy hy=>?_,λx hx=>?_⟩
 ·unfold Pn.step;simp only;rw[XF];omega
 ·rw[es,Wq]
  have:(Wl p.ss (p.bD st)).map (Ss.nm ∘ λy=>jg y.1 y.2.1 (p.a9 st) (p.taken st))=(Wl p.ss (p.bD st)).map (Sn.nm ∘ (·.1)):=WT λy hy=>key y hy
  rw[this,← Wq,mU (by omega)]
 ·unfold Pn.step at hw
  simp only at hw
  rw[bC] at hw
  obtain ⟨y,hy,rfl⟩:=Wg.mp hw
  rcases WZ.mp hl with hl | hl
  ·obtain ⟨z,hz,rfl⟩:=Wg.mp (show l∈((p.out st).filter λl=>decide (bU p.ss l=some y.1.nm)).map (·.jI 1) from hl)
   have h:=I.Eg (W0.mp hz).1
   exact ⟨h.1,(show 0<=z.hp+1 by have:=h.2.1;omega),h.2.2⟩
  ·obtain ⟨z,hz,rfl⟩:=Wg.mp (show l∈y.2.st.map (·.jI 0) from hl)
   have h:=(I.Cz (Wo hy).2).2.2.2 z hz
   exact ⟨h.1,(show 0<=z.hp+0 by have:=h.2.1;omega),h.2.2⟩
 ·rw[es,df] at hy
  obtain ⟨z,hz,rfl⟩:=Wg.mp hy
  obtain ⟨h1,h2,h3,h4,h5⟩:=I.cons hn (s:=z.1) (b:=z.2) hz
  have mk:=uK (l:=own z.1.nm (p.taken st)) λl hl=>by
   have:=I.Eg (W0.mp (W0.mp hl).1).1
   exact this.2.2
  have g0:=h2.g0;have m0:=h2.m0;have t0:=h2.t0
  refine ⟨h2.w0,h2.w1,h2.s0,h2.s1,?_,?_,?_,?_,?_,h2.n0,h2.n1,h2.l⟩
  ·show 0<=z.2.1.gd+((own z.1.nm (p.taken st)).length:Int) - ((own z.1.nm (p.taken st)).map Lt.mr).sum;omega
  ·show z.2.1.gd+((own z.1.nm (p.taken st)).length:Int) - ((own z.1.nm (p.taken st)).map Lt.mr).sum<=60*((n+1:Nat):Int);omega
  ·show 0<=z.2.1.mk'+((own z.1.nm (p.taken st)).map Lt.mr).sum;omega
  ·show z.2.1.mk'+((own z.1.nm (p.taken st)).map Lt.mr).sum<=60*((n+1:Nat):Int);omega
  ·show 0<=max z.2.1.wt _;omega
 ·rw[es] at hx
  obtain ⟨z,hz,rfl⟩:=Wg.mp hx
  obtain ⟨h1,h2,h3,h4,h5⟩:=I.cons hn (s:=z.1) (b:=z.2) hz
  rw[key z hz]
  have e:(jg z.1 z.2.1 (p.a9 st) (p.taken st)).lo.length=z.2.1.lo.length+(own z.1.nm (p.a9 st)).length:=by
   show (dO (z.2.1.lo++(own z.1.nm (p.a9 st)).map Lt.nu)).length=_
   rw[oE,Wv,Wf]
  have e2:(jg z.1 z.2.1 (p.a9 st) (p.taken st)).ag=z.2.1.ag:=rfl
  rw[e,e2];omega
end
theorem KD {p:Pn}{m:Int}(K:p.Ok m):cR p m 0 p.beg:=by
 have g1:=K.g.1
 have nm:∀ s:Sn,(Sn.beg p.g s).nm=s.nm:=λs=>rfl
 have und:∀ a,p.beg.j3 a=0:=λa=>by
  unfold St'.j3 Pn.beg
  simp only[Wq]
  have:∀ l:List Wy,(l.map λ_=>0).sum=0:=λl=>by induction l<;>simp_all
  exact this p.ws
 refine ⟨K,by simp[Pn.beg],by unfold Pn.beg;simp only[Wq];rfl,λw hw l hl=>?_,λy hy=>?_,λx hx=>?_⟩
 ·unfold Pn.beg at hw
  obtain ⟨_,_,rfl⟩:=Wg.mp hw
  cases hl
 ·have hy':y∈Wl p.ss (p.ss.map (Sn.beg p.g)):=hy
  rw[X8] at hy'
  obtain ⟨z,hz,rfl⟩:=Wg.mp hy'
  have e:z.2=z.1:=by
   have:∀ (l:List Sn) (z:Sn×Sn),z∈Wl l l->z.2=z.1:=by
    intro l
    induction l with
    | nil=>intro z hz;simp at hz
    | cons a l ih=>
     intro z hz
     rcases Wx.mp (by simpa using hz) with e | h
     ·rw[e]
     ·exact ih z h
   exact this _ z hz
  have hk:=K.s z.1 (Wo hz).1
  have R:=hk.k
  have q0:=R.w.q0;have s0:=R.t.q0
  show SsI p.g z.1.rl 0 (Sn.beg p.g z.2)
  rw[e]
  refine ⟨?_,?_,W6 0,(show (0:Int)<=p.g by omega),W6 0,W6 0,W6 0,W6 0,W6 0,W6 0,W6 0,λi hi=>(hk.mm i hi).1⟩
  ·show p.g<=z.1.rl.p*p.g / z.1.rl.q
   rw[X2 q0]
   have:=WI R.w.ge (show 0<=p.g by omega)
   rw[zbX,XM z.1.rl.q] at this
   exact this
  ·show z.1.rl.p*p.g / z.1.rl.q<=z.1.rl.r*p.g / z.1.rl.s
   rw[X2 s0]
   generalize hW:z.1.rl.p*p.g / z.1.rl.q=W
   have h1:W*z.1.rl.q<=z.1.rl.p*p.g:=by rw[← hW];exact zbE _ (by omega)
   have h2:=WI h1 (show 0<=z.1.rl.s by omega)
   have h3:=WI R.wt (show 0<=p.g by omega)
   refine Za (a:=z.1.rl.q) ?_ q0
   calc W*z.1.rl.s*z.1.rl.q=W*z.1.rl.q*z.1.rl.s:=by ac_rfl
    _<=z.1.rl.p*p.g*z.1.rl.s:=h2
    _=z.1.rl.p*z.1.rl.s*p.g:=by ac_rfl
    _<=z.1.rl.r*z.1.rl.q*p.g:=h3
    _=z.1.rl.r*p.g*z.1.rl.q:=by ac_rfl
 ·have hx':x∈p.ss.map (Sn.beg p.g):=hx
  obtain ⟨s,hs,rfl⟩:=Wg.mp hx'
  rw[und]
  show ((0:Nat):Int)+((0:Nat):Int)+((0:Nat):Int)<=60
  decide
def spD (is:List Nat):List (L2.Key×D):=is.map λi:Nat=>(.inl (i:Int),.bl true)
def UI (cs:List Int)(t l u:Int)(c:Addr):List (L2.Key×D):=[(.inr (OF "cells"),.ls (cs.map .int)),(.inr (OF "turn"),.int t),(.inr (OF "left"),.int l),(.inr (OF "used"),.int u),(.inr (OF "spent"),.obj c)]
structure Pq (μ:Mu) (b c:Addr) (n:Nat):Prop where
 ne:b≠c
 ex:∃ (cs:List Int) (t l u:Int) (is:List Nat),μ b=some (.dct (UI cs t l u c))/\μ c=some (.dct (spD is))/\(0<=t/\t<=n)/\is.Nodup/\(∀ i∈is,i < cs.length)/\cs.length<=63
structure AM (b c:Addr) (n:Nat) (μ μ':Mu):Prop where
 p:Pq μ' b c n
 o:∀ a,a≠b->a≠c->μ' a=μ a
theorem Pq.mono {μ:Mu}{b c:Addr}{n m:Nat}(h:Pq μ b c n)(k:n<=m):Pq μ b c m:=by
 obtain ⟨ne,cs,t,l,u,is,e1,e2,⟨t0,t1⟩,r⟩:=h
 exact ⟨ne,cs,t,l,u,is,e1,e2,⟨t0,by omega⟩,r⟩
theorem AM.mono {μ μ':Mu}{b c:Addr}{n m:Nat}(h:AM b c n μ μ')(k:n<=m):AM b c m μ μ':=⟨h.p.mono k,h.o⟩
theorem AM.trans {b c:Addr}{μ μ1 μ2:Mu}{n m:Nat}(h:AM b c n μ μ1)(k:AM b c m μ1 μ2):AM b c m μ μ2:=⟨k.p,λa h1 h2=>(k.o a h1 h2).trans (h.o a h1 h2)⟩
theorem Pq.nb {μ:Mu}{b c a:Addr}{n:Nat}(h:Pq μ b c n)(e:μ a=none):a≠b/\a≠c:=by
 obtain ⟨_,cs,t,l,u,is,e1,e2,_⟩:=h
 exact ⟨(λz=>by subst z;rw[e1] at e;cases e),(λz=>by subst z;rw[e2] at e;cases e)⟩
theorem Pq.up {μ:Mu}{b c a:Addr}{o:MO}{n:Nat}(h:Pq μ b c n)(k:a≠b/\a≠c):Pq (up μ a o) b c n:=by
 obtain ⟨ne,cs,t,l,u,is,e1,e2,r⟩:=h
 exact ⟨ne,cs,t,l,u,is,by rw[aY k.1.symm];exact e1,by rw[aY k.2.symm];exact e2,r⟩
section
variable (cs:List Int) (t l u x:Int) (c:Addr)
end
section
variable {G:GTr} {tt:TTr} {te:ETr} {ρc:ST} {ds:List D} {μ:Mu} {Q:DK} {b c:Addr} {n m:Nat}
end
def nxF (ss:List Ss)(n:Str):Int:=((ss.find? λx=>decide (x.nm=n)).map Ss.nx).getD 0
def Lt.lw (f:Str->Int)(l:Lt):Lt:=⟨l.nm,l.nu - f l.nm,l.ag,l.hp,l.mr⟩
def Ws.lw (f:Str->Int)(w:Ws):Ws:=⟨w.cm.map (Lt.lw f),w.st.map (Lt.lw f),w.la⟩
def Ss.lk (x:Ss):Ss:=⟨x.nm,x.du,x.W,x.S,0,x.lf,x.ag.map (· - x.nx),x.lo.map (· - x.nx),x.gd,x.mk',x.wt⟩
def St'.lk (st:St'):St':=⟨st.ws.map (Ws.lw (nxF st.ss)),st.ss.map Ss.lk⟩
def Lt.mv (f:Str->Int)(l:Lt):Lt:=⟨l.nm,l.nu+f l.nm,l.ag,l.hp,l.mr⟩
def Ws.mv (f:Str->Int)(w:Ws):Ws:=⟨w.cm.map (Lt.mv f),w.st.map (Lt.mv f),w.la⟩
def Ss.mv (f:Str->Int)(x:Ss):Ss:=⟨x.nm,x.du,x.W,x.S,x.nx+f x.nm,x.lf,x.ag.map (· + f x.nm),x.lo.map (· + f x.nm),x.gd,x.mk',x.wt⟩
def St'.mv (f:Str->Int)(st:St'):St':=⟨st.ws.map (Ws.mv f),st.ss.map (Ss.mv f)⟩
structure StL (st:St'):Prop where
 nd:(st.ss.map Ss.nm).Nodup
 sn:∀ x∈st.ss,Wj x.nm=true
 lt:∀ w∈st.ws,∀ l∈w.cm++w.st,l.nm∈st.ss.map Ss.nm
 la:∀ w∈st.ws,Wj w.la=true
 z1:st.ws.length<=100/\st.ss.length<=100
 z2:∀ w∈st.ws,w.cm.length<=10000/\w.st.length<=10000
 z3:∀ x∈st.ss,x.ag.length<=10000/\x.lo.length<=10000
theorem OB (ss:List Ss):(ss.map Ss.lk).map Ss.nm=ss.map Ss.nm:=by rw[Wq];rfl
theorem Ox (f:Str->Int)(ss:List Ss):(ss.map (Ss.mv f)).map Ss.nm=ss.map Ss.nm:=by rw[Wq];rfl
theorem StL.lk {st:St'}(h:StL st):StL st.lk:=by
 refine ⟨by show ((st.ss.map Ss.lk).map Ss.nm).Nodup;rw[OB];exact h.nd,λx hx=>?_,λw hw l hl=>?_,λw hw=>?_,?_,λw hw=>?_,λx hx=>?_⟩
 ·obtain ⟨y,hy,rfl⟩:=Wg.mp hx
  exact h.sn y hy
 ·obtain ⟨v,hv,rfl⟩:=Wg.mp hw
  show l.nm∈(st.ss.map Ss.lk).map Ss.nm
  rw[OB]
  have hl:l∈v.cm.map (Lt.lw (nxF st.ss))++v.st.map (Lt.lw (nxF st.ss)):=hl
  rw[← W2] at hl
  obtain ⟨k,hk,rfl⟩:=Wg.mp hl
  exact h.lt v hv k hk
 ·obtain ⟨v,hv,rfl⟩:=Wg.mp hw
  exact h.la v hv
 ·show (st.ws.map (Ws.lw (nxF st.ss))).length<=100/\(st.ss.map Ss.lk).length<=100
  rw[Wf,Wf];exact h.z1
 ·obtain ⟨v,hv,rfl⟩:=Wg.mp hw
  show (v.cm.map _).length<=_/\(v.st.map _).length<=_
  rw[Wf,Wf];exact h.z2 v hv
 ·obtain ⟨y,hy,rfl⟩:=Wg.mp hx
  show (y.ag.map _).length<=_/\(y.lo.map _).length<=_
  rw[Wf,Wf];exact h.z3 y hy
theorem StL.mv {st:St'}(f:Str->Int)(h:StL st):StL (st.mv f):=by
 refine ⟨by show ((st.ss.map (Ss.mv f)).map Ss.nm).Nodup;rw[Ox];exact h.nd,λx hx=>?_,λw hw l hl=>?_,λw hw=>?_,?_,λw hw=>?_,λx hx=>?_⟩
 ·obtain ⟨y,hy,rfl⟩:=Wg.mp hx
  exact h.sn y hy
 ·obtain ⟨v,hv,rfl⟩:=Wg.mp hw
  show l.nm∈(st.ss.map (Ss.mv f)).map Ss.nm
  rw[Ox]
  have hl:l∈v.cm.map (Lt.mv f)++v.st.map (Lt.mv f):=hl
  rw[← W2] at hl
  obtain ⟨k,hk,rfl⟩:=Wg.mp hl
  exact h.lt v hv k hk
 ·obtain ⟨v,hv,rfl⟩:=Wg.mp hw
  exact h.la v hv
 ·show (st.ws.map (Ws.mv f)).length<=100/\(st.ss.map (Ss.mv f)).length<=100
  rw[Wf,Wf];exact h.z1
 ·obtain ⟨v,hv,rfl⟩:=Wg.mp hw
  show (v.cm.map _).length<=_/\(v.st.map _).length<=_
  rw[Wf,Wf];exact h.z2 v hv
 ·obtain ⟨y,hy,rfl⟩:=Wg.mp hx
  show (y.ag.map _).length<=_/\(y.lo.map _).length<=_
  rw[Wf,Wf];exact h.z3 y hy
def Pn.run (p:Pn):Nat->St'
 | 0=>p.beg
 | n+1=>p.step (p.run n)
def Pn.rows (p:Pn)(n:Nat):List D:=(WQ n).map λi=>.ls (evD (p.evs (p.run i)))
theorem Pn.bB {p:Pn}{m:Int}(K:p.Ok m):∀ n:Nat,n<=10000->cR p m n (p.run n)
 | 0,_=>KD K
 | n+1,h=>(p.bB K n (by omega)).next (by omega)
theorem An (ws:List Str)(p:Int):∀ (f:Nat) (st out:List Lt) (l:Str),(ff ws p f st out l).2.2=l∨(ff ws p f st out l).2.2∈ws
 | 0,_,_,_=>.inl rfl
 | f+1,st,out,l=>by
  unfold ff
  split
  ·split
   ·rename_i n hn
    split
    ·rename_i x _
     rcases An ws p f (st.eraseIdx (at1 n st)) (out++[x]) n with e | e
     ·rw[e];exact .inr (zR hn).1
     ·exact .inr e
    ·exact .inl rfl
   ·exact .inl rfl
  ·exact .inl rfl
theorem Fp (w:Wy)(ws:List Str)(st:List Lt)(l:Str)(hl:Wj l=true)(hw:∀ n∈ws,Wj n=true):Wj (dI w ws st l).2.2=true:=by
 unfold dI
 split
 ·rcases An ws w.pc st.length st [] l with e | e
  ·rw[e];exact hl
  ·exact hw _ e
 ·show Wj (OF "")=true
  decide +kernel
theorem Iz {p:Pn}{m:Int}(K:p.Ok m):∀ n:Nat,n<=10000->∀ w∈(p.run n).ws,Wj w.la=true
 | 0,_,w,hw=>by
  obtain ⟨_,_,rfl⟩:=Wg.mp hw
  show Wj (OF "")=true
  decide +kernel
 | n+1,h,w,hw=>by
  have I:=p.bB K n (by omega)
  have ih:=Iz K n (by omega)
  have hw:w∈Xj (λw x=>nS p.ss w x (p.out (p.run n))) p.ws (p.bJ (p.run n)):=hw
  rw[bC] at hw
  obtain ⟨y,hy,rfl⟩:=Wg.mp hw
  show Wj y.2.la=true
  obtain ⟨z,hz,e⟩:=I.Ia (Wo hy).2
  rw[e]
  exact Fp _ _ _ _ (ih _ (Wo hz).2) λn hn=>I.sok hn
theorem Eb {p:Pn}{m:Int}(K:p.Ok m){n:Nat}(h:n<=10000):StL (p.run n):=by
 have I:=p.bB K n h
 have s1:=K.s1
 have w1:=K.w1
 refine ⟨by rw[I.nm];exact I.sd,λx hx=>?_,λw hw l hl=>?_,Iz K n h,⟨by rw[I.lw];omega,by rw[I.ls];omega⟩,λw hw=>?_,λx hx=>?_⟩
 ·exact I.sok (by rw[← I.nm];exact Wg.mpr ⟨x,hx,rfl⟩)
 ·rw[I.nm];exact (I.lt w hw l hl).1
 ·have:=I.MX hw;omega
 ·have:=I.cn x hx;omega
def Wt.mv (f:Str->Int)(x:Wt):Wt:=⟨x.ca.map (Lt.mv f),x.lo.map (Lt.mv f),x.ou.map (Lt.mv f),x.st.map (Lt.mv f),x.la⟩
abbrev Ev.mv (f:Str->Int)(x:Ev):Ev:=⟨x.wd,x.nm,x.nu+f x.nm,x.wy⟩
theorem Ss.Ok.mv {g:Int}{R:RN}{x:Ss}(f:Str->Int)(h:x.Ok g R)(a:-4000000000000000000<=x.nx+f x.nm/\x.nx+f x.nm<=4000000000000000000):(x.mv f).Ok g R:=by
 have e:(x.mv f).hd=x.hd:=by unfold Ss.hd Ss.mv;simp
 exact ⟨h.n,h.w0,h.w1,h.s0,h.s1,by rw[e];exact h.h,a.1,a.2,by unfold Ss.mv;simp only[Wf];exact h.a,h.l⟩
theorem iR:∀ s∈[OF "sent", OF "in", OF "lost", OF "taken", OF "out"],Wj s=true:=by decide +kernel
theorem Ov {p:Pn}{st:St'}(R:Rm p st):∀ e∈p.evs st,Wj e.wd=true/\e.nm∈p.sn/\Wj e.wy=true:=by
 intro e he
 unfold Pn.evs at he
 rcases WZ.mp he with h | h
 ·obtain ⟨x,hx,rfl⟩:=Wg.mp h
  have:=R.se x hx
  exact ⟨iR _ (by simp),this.2,this.1⟩
 ·rw[bC] at h
  obtain ⟨l,hl,he'⟩:=List.mem_flatten.mp h
  obtain ⟨⟨w,x⟩,hy,rfl⟩:=Wg.mp hl
  have hw:=(R.wy w (Wo hy).1).1
  have hx:=(Wo hy).2
  rcases WZ.mp he' with h | h
  ·obtain ⟨z,hz,rfl⟩:=Wg.mp h
   have hz1:z.1∈x.ca:=List.fst_mem_of_mem_zipIdx hz
   refine ⟨iR _ (by split<;>simp),?_,hw⟩
   unfold Pn.bJ at hx
   rw[bC] at hx
   obtain ⟨⟨w',k⟩,hk,rfl⟩:=Wg.mp hx
   rcases WZ.mp (show z.1∈k.cm++((p.aJ st).filter λx=>decide (x.1=w'.nm)).map (·.2) from hz1) with h | h
   ·exact (R.wz k (Wo hk).2).1 _ (XU _ h)
   ·obtain ⟨s,hs,e⟩:=Wg.mp h
    rw[← e]
    exact (R.se s (W0.mp hs).1).2
  ·obtain ⟨l,hl,rfl⟩:=Wg.mp h
   exact ⟨iR _ (by split<;>simp),(R.ou l (XY.mpr ⟨x,hx,hl⟩)).1,hw⟩
theorem cR.nx {p:Pn}{m:Int}{n:Nat}{st:St'}(I:cR p m n st):∀ x∈st.ss,0<=x.nx/\x.nx<=60*n:=by
 intro x hx
 obtain ⟨i,hi,e⟩:=X4 hx
 have h1:i < p.ss.length:=by rw[← I.ls];exact hi
 have:(p.ss[i],st.ss[i])∈Wl p.ss st.ss:=by
  rw[← Zg (h:=by simp;omega)];exact XB ..
 have h:=I.ss _ this
 rw[← e]
 exact ⟨h.n0,h.n1⟩
abbrev Lt.key (l:Lt):Str×Int:=(l.nm,l.nu)
def cK (k:Str×Int)(ls:List Lt):Nat:=(ls.map Lt.key).count k
theorem bX (k:Str×Int)(a b:List Lt):cK k (a++b)=cK k a+cK k b:=by unfold cK;rw[W2,XH]
theorem qx {α:Type}(k:Str×Int)(f:α->List Lt):∀ xs:List α,cK k (xs.flatMap f)=(xs.map λx=>cK k (f x)).sum
 | []=>rfl
 | x::r=>by rw[YC,bX,qx k f r];rfl
theorem qi (k:Str×Int)(h:Int)(l:List Lt):cK k (l.map (·.jI h))=cK k l:=by unfold cK;rw[Wq];rfl
theorem J5 (k:Str×Int)(q:Lt->Bool):∀ l:List Lt,cK k (l.filter q)+cK k (l.filter λx=>!q x)=cK k l
 | []=>rfl
 | x::r=>by
  have ih:=J5 k q r
  unfold cK at *
  by_cases h1:q x<;>simp[h1,XR] at ih ⊢ <;> omega
theorem LX {k:Str×Int}{a b:List Lt}(h:a.Perm b):cK k a=cK k b:=(h.map Lt.key).count_eq k
theorem MH (w:Wy)(x:Lt)(n:Nat):(iQ w x n).key=x.key:=by
 unfold iQ
 split
 ·rfl
 ·split<;>rfl
theorem B4 (w:Wy)(k:Str×Int):∀ (ys a b:List Lt),cK k (ys.foldl (cE w) (a,b)).1+cK k (ys.foldl (cE w) (a,b)).2=cK k a+cK k b+cK k ys
 | [],a,b=>rfl
 | y::r,a,b=>by
  have e:cK k (y::r)=cK k [y]+cK k r:=bX k [y] r
  rw[XQ,e]
  by_cases h:w.rm<=(a.length:Int)
  ·rw[jn h,B4 w k r a (b++[y]),bX];omega
  ·rw[tU h,B4 w k r _ b,bX]
   have:cK k [iQ w y a.length]=cK k [y]:=by unfold cK;rw[Wr,Wr,MH]
   omega
theorem my (w:Wy)(ns:List Str)(s:Ws)(se:List (Str×Lt))(k:Str×Int):cK k (pass w ns s se).lo+cK k (pass w ns s se).ou+cK k (pass w ns s se).st=cK k (pass w ns s se).ca+cK k s.st:=by
 have h1:=B4 w k (pass w ns s se).ca s.st []
 have h2:=LX (k:=k) (fz w ns (tk w s.st (pass w ns s se).ca).1 s.la)
 rw[bX] at h2
 have e1:(pass w ns s se).lo=(tk w s.st (pass w ns s se).ca).2:=rfl
 have e2:(pass w ns s se).ou=(dI w ns (tk w s.st (pass w ns s se).ca).1 s.la).1:=rfl
 have e3:(pass w ns s se).st=(dI w ns (tk w s.st (pass w ns s se).ca).1 s.la).2.1:=rfl
 rw[e1,e2,e3]
 unfold tk at *
 have:cK k []=0:=rfl
 omega
def St'.fly (st:St')(k:Str×Int):Nat:=(st.ws.map λw=>cK k (w.cm++w.st)).sum
theorem NU (k:Str×Int){κ:Type} [DecidableEq κ] (f:Lt->κ){ks:List κ}(nd:ks.Nodup)(ls:List Lt):(ks.map λj=>cK k (ls.filter λl=>decide (f l=j))).sum<=cK k ls:=by
 have e:∀ xs:List Lt,cK k xs=(xs.filter λl=>decide (l.key=k)).length:=λxs=>by
  unfold cK
  induction xs with
  | nil=>rfl
  | cons a r ih=>by_cases h:a.key=k<;>simp[XR,h,ih]
 have h:=split_le f nd (ls.filter λl=>decide (l.key=k))
 rw[e ls]
 refine Xa (zbp ?_) h
 congr 1
 refine WT λj _=>?_
 rw[e,nJ]
def Wt.tot (x:Wt)(k:Str×Int):Nat:=cK k x.lo+cK k x.ou+cK k x.st
theorem rQ {p:Pn}{st:St'}(nd:p.wn.Nodup)(lw:st.ws.length=p.ws.length)(k:Str×Int):((p.bJ st).map λx=>x.tot k).sum<=st.fly k+cK k ((p.aJ st).map (·.2)):=by
 generalize hZ:Wl p.ws st.ws=Z
 have z1:Z.map (·.1)=p.ws:=by rw[← hZ];exact mU (by omega)
 have z2:Z.map (·.2)=st.ws:=by rw[← hZ];exact nc (by omega)
 let P:Wy×Ws->Wt:=λy=>pass y.1 p.sn y.2 (p.aJ st)
 have ew:p.bJ st=Z.map P:=by unfold Pn.bJ;rw[bC,hZ]
 have e3:(Z.map λy=>cK k (P y).lo).sum+(Z.map λy=>cK k (P y).ou).sum+(Z.map λy=>cK k (P y).st).sum=(Z.map λy=>cK k (P y).ca).sum+(Z.map λy=>cK k y.2.st).sum:=by
  rw[← a5,← a5,← a5]
  congr 1
  exact WT λy _=>my y.1 p.sn y.2 (p.aJ st) k
 have e4:(Z.map λy=>cK k (P y).ca).sum<=(Z.map λy=>cK k y.2.cm).sum+cK k ((p.aJ st).map (·.2)):=by
  have:(Z.map λy=>cK k (P y).ca)=Z.map λy=>cK k y.2.cm+cK k (((p.aJ st).filter λx=>decide (x.1=y.1.nm)).map (·.2)):=by
   refine WT λy _=>?_
   show cK k (y.2.cm++_)=_
   rw[bX]
  rw[this,a5]
  have h2:(Z.map λy=>cK k (((p.aJ st).filter λx=>decide (x.1=y.1.nm)).map (·.2))).sum<=cK k ((p.aJ st).map (·.2)):=by
   have e:∀ xs:List (Str×Lt),cK k (xs.map (·.2))=(xs.filter λx=>decide (x.2.key=k)).length:=λxs=>by
    unfold cK
    induction xs with
    | nil=>rfl
    | cons a r ih=>by_cases h:a.2.key=k<;>simp[XR,h] at ih ⊢ <;> omega
   have h:=split_le (f:=λx:Str×Lt=>x.1) nd ((p.aJ st).filter λx=>decide (x.2.key=k))
   rw[e]
   refine Xa (zbp ?_) h
   unfold Pn.wn
   rw[← z1,Wq,Wq]
   congr 1
   refine WT λy _=>?_
   rw[e,nJ]
   rfl
  omega
 have e5:st.fly k=(Z.map λy=>cK k y.2.cm).sum+(Z.map λy=>cK k y.2.st).sum:=by
  unfold St'.fly
  rw[← z2,Wq,← a5]
  congr 1
  exact WT λy _=>bX ..
 have e0:((p.bJ st).map λx=>x.tot k).sum=(Z.map λy=>cK k (P y).lo).sum+(Z.map λy=>cK k (P y).ou).sum+(Z.map λy=>cK k (P y).st).sum:=by
  rw[ew,Wq,← a5,← a5]
  rfl
 omega
theorem zr {p:Pn}{st:St'}(nd:p.wn.Nodup)(lw:st.ws.length=p.ws.length)(k:Str×Int) :
  (p.step st).fly k+cK k (p.taken st)+cK k (p.a9 st)<=st.fly k+cK k ((p.aJ st).map (·.2)):=by
 generalize hZ:Wl p.ws st.ws=Z
 have z1:Z.map (·.1)=p.ws:=by rw[← hZ];exact mU (by omega)
 have z2:Z.map (·.2)=st.ws:=by rw[← hZ];exact nc (by omega)
 let P:Wy×Ws->Wt:=λy=>pass y.1 p.sn y.2 (p.aJ st)
 have ew:p.bJ st=Z.map P:=by unfold Pn.bJ;rw[bC,hZ]
 have el:cK k (p.a9 st)=(Z.map λy=>cK k (P y).lo).sum:=by unfold Pn.a9;rw[qx,ew,Wq];rfl
 have eo:cK k (p.out st)=(Z.map λy=>cK k (P y).ou).sum:=by unfold Pn.out;rw[qx,ew,Wq];rfl
 have e0:((p.bJ st).map λx=>x.tot k).sum=(Z.map λy=>cK k (P y).lo).sum+(Z.map λy=>cK k (P y).ou).sum+(Z.map λy=>cK k (P y).st).sum:=by
  rw[ew,Wq,← a5,← a5]
  rfl
 have e1:=rQ nd lw k
 have e6:(p.step st).fly k=(Z.map λy=>cK k ((p.out st).filter λl=>decide (bU p.ss l=some y.1.nm))).sum+(Z.map λy=>cK k (P y).st).sum:=by
  unfold St'.fly Pn.step
  simp only
  rw[bC,ew,← hZ,df,hZ,Wq,Wq,← a5]
  congr 1
  refine WT λy _=>?_
  show cK k (((p.out st).filter λl=>decide (bU p.ss l=some y.1.nm)).map (·.jI 1)++(P y).st.map (·.jI 0))=_
  rw[bX,qi,qi]
 have e7:(Z.map λy=>cK k ((p.out st).filter λl=>decide (bU p.ss l=some y.1.nm))).sum<=cK k ((p.out st).filter λl=>!decide (bU p.ss l=none)):=by
  have nd2:(p.wn.map some).Nodup:=zaL _ (λa b (h:a≠b) (z:some a=some b)=>h (W4 z)) nd
  have h2:=NU k (bU p.ss) nd2 ((p.out st).filter λl=>!decide (bU p.ss l=none))
  refine Xa (zbp ?_) h2
  unfold Pn.wn
  rw[← z1,Wq,Wq,Wq]
  congr 1
  refine WT λy _=>?_
  show cK k _=cK k _
  rw[YT]
  congr 2
  funext x
  cases h:bU p.ss x<;>simp[h]
 have e8:=J5 k (λl=>decide (bU p.ss l=none)) (p.out st)
 have e9:cK k (p.taken st)=cK k ((p.out st).filter λl=>decide (bU p.ss l=none)):=rfl
 omega
theorem yp {α β:Type}(f:α->β->Nat)(ys:List β):∀ xs:List α,(xs.map λx=>(ys.map λy=>f x y).sum).sum=(ys.map λy=>(xs.map λx=>f x y).sum).sum
 | []=>by
  have:∀ l:List β,(l.map λ_=>0).sum=0:=λl=>by induction l<;>simp_all
  simpa using (this ys).symm
 | a::r=>by
  rw[Wr];rw[W8]
  simp only[Wr,W8,Yb]
  rw[yp f ys r,← a5]
theorem yH (k:Str×Int)(t:Nat):∀ zs:List (Sn×List Int),cK k ((zs.filterMap (cL t)).map (·.2))=(zs.map λy=>if y.1.nm=k.1/\y.2[t]? = some k.2 then 1 else 0).sum
 | []=>rfl
 | y::r=>by
  have ih:=yH k t r
  unfold cK at *
  rw[Yh,Wr,W8,← ih]
  unfold cL
  cases e:y.2[t]? with
  | none=>simp
  | some n=>
   simp only[zbC,Wr,XR]
   by_cases h:y.1.nm=k.1/\n=k.2
   ·obtain ⟨k1,k2⟩:=k
    obtain ⟨rfl,rfl⟩:=h
    simp;omega
   ·have:¬ ((y.1.nm,n)=k):=λz=>h (by rw[← z];exact ⟨rfl,rfl⟩)
    have h':¬ (y.1.nm=k.1/\some n=some k.2):=λz=>h ⟨z.1,W4 z.2⟩
    rw[if_neg h']
    simp[this]
theorem GY (i:Int):∀ (ns:List Int) (L:Nat),((WQ L).map λt=>if ns[t]? = some i then 1 else 0).sum<=ns.count i
 | [],L=>by
  have:∀ l:List Nat,(l.map λ_=>0).sum=0:=λl=>by induction l<;>simp_all
  simpa using this (WQ L)
 | a::r,0=>by simp
 | a::r,L+1=>by
  have ih:=GY i r L
  rw[ZO,Wr,W8]
  rw[Wq]
  have e:((WQ L).map ((λt=>if (a::r)[t]? = some i then 1 else 0) ∘ Nat.succ))=(WQ L).map λt=>if r[t]? = some i then 1 else 0:=WT λt ht=>by simp
  rw[e,XR]
  by_cases h:a=i<;>simp[h]<;>omega
theorem DD {ss:List Sn}{ns:List (List Int)}(nd:(ss.map Sn.nm).Nodup){s:Sn}{n:List Int}(h:(s,n)∈Wl ss ns)(i:Int):cK (s.nm,i) ((jM ss ns).map (·.2))<=n.count i:=by
 rw[jR,zdh,qx]
 have e:((WQ (da ns)).map λt=>cK (s.nm,i) (((Wl ss ns).filterMap (cL t)).map (·.2)))=(WQ (da ns)).map λt=>((Wl ss ns).map λy=>if y.1.nm=s.nm/\y.2[t]? = some i then 1 else 0).sum:=WT λt ht=>yH (s.nm,i) t _
 rw[e,yp]
 have one:∀ zs:List (Sn×List Int),(zs.map λy=>y.1.nm).Nodup->(s,n)∈zs->(zs.map λy=>((WQ (da ns)).map λt=>if y.1.nm=s.nm/\y.2[t]? = some i then 1 else 0).sum).sum<=n.count i:=λzs=>by
  have zero:∀ (y:Sn×List Int),y.1.nm≠s.nm->((WQ (da ns)).map λt=>if y.1.nm=s.nm/\y.2[t]? = some i then 1 else 0).sum=0:=λy hy=>by
   have:∀ l:List Nat,(l.map λt=>if y.1.nm=s.nm/\y.2[t]? = some i then 1 else 0).sum=0:=λl=>by induction l<;>simp_all
   exact this _
  induction zs with
  | nil=>intro _ h;cases h
  | cons y r ih=>
   intro nd h
   rw[Wr] at nd
   have ⟨n1,n2⟩:=W9.mp nd
   rw[Wr];rw[W8]
   rcases Wx.mp h with h | h
   ·have h0:(r.map λy=>((WQ (da ns)).map λt=>if y.1.nm=s.nm/\y.2[t]? = some i then 1 else 0).sum).sum=0:=by
     have:∀ l:List (Sn×List Int),(∀ y∈l,y.1.nm≠s.nm)->(l.map λy=>((WQ (da ns)).map λt=>if y.1.nm=s.nm/\y.2[t]? = some i then 1 else 0).sum).sum=0:=λl=>by
      induction l with
      | nil=>intro _;rfl
      | cons a l ih=>intro hl;rw[Wr,W8,zero a (hl a Wu),ih λy hy=>hl y (WD _ hy)]
     refine this r λy' hy' e=>n1 ?_
     rw[← h]
     exact Wg.mpr ⟨y',hy',e⟩
    rw[h0,← h]
    have:=GY i n (da ns)
    simpa using this
   ·have hy:y.1.nm≠s.nm:=λe=>n1 (by rw[e];exact Wg.mpr ⟨(s,n),h,rfl⟩)
    rw[zero y hy]
    have:=ih n2 h
    omega
 refine one _ ?_ h
 have:(Wl ss ns).map (λy=>y.1.nm)=((Wl ss ns).map (·.1)).map Sn.nm:=by rw[Wq];rfl
 rw[this]
 exact nd.sublist (((qy ss ns).sublist).map Sn.nm)
theorem Dz (a i:Int)(n:Nat):(rgI a n).count i=if a<=i/\i < a+n then 1 else 0:=by
 unfold rgI
 induction n with
 | zero=>rw[if_neg (by omega)];rfl
 | succ n ih=>
  rw[Zr,W2,XH,ih]
  show _+zdR i [a+(n:Int)]=_
  rw[List.count_singleton]
  by_cases h:a+(n:Int)=i
  ·rw[if_neg (by omega),if_pos (by simpa using h),if_pos (by omega)]
  ·rw[if_neg (c:=(a+(n:Int) == i)=true) (by simpa using h)]
   by_cases h2:a<=i/\i < a+(n:Int)
   ·rw[if_pos h2,if_pos (by omega)]
   ·rw[if_neg h2,if_neg (by omega)]
theorem nT (i:Int)(xs:List Int):(dO xs).count i=xs.count i:=(iX xs).count_eq i
theorem AK (g:Int)(s:Sn)(x:Ss)(u:Int)(hl:∀ i,x.lf=some i->0<=i)(i:Int):(x.bt g s u).2.count i+(x.bt g s u).1.ag.count i+(x.bt g s u).1.lo.count i=x.ag.count i+x.lo.count i+(if x.nx<=i/\i < (x.bt g s u).1.nx then 1 else 0)/\x.nx<=(x.bt g s u).1.nx:=by
 unfold Ss.bt
 split
 ·generalize (max 0 ((s.rl.beh g x.W x.S x.hd).1 / g - u)).toNat=m
  unfold Ss.fill Ss.rdy
  simp only
  have tl:((dO (x.ag++x.lo)).take m).length<=m:=by simp;omega
  generalize hc:iK x.lf ((m:Int) - (((dO (x.ag++x.lo)).take m).length:Int))=c
  have c0:0<=c:=by
   rw[← hc]
   unfold iK
   cases e:x.lf with
   | none=>simp only;omega
   | some l=>have:=hl l e;simp only;omega
  have e1:=nT i (x.ag++x.lo)
  rw[XH] at e1
  have e2:((dO (x.ag++x.lo)).take m).count i+((dO (x.ag++x.lo)).drop ((dO (x.ag++x.lo)).take m).length).count i=(dO (x.ag++x.lo)).count i:=by
   rw[← XH]
   congr 1
   rw[Zc]
   by_cases h:m<=(dO (x.ag++x.lo)).length
   ·rw[zbz h,ZY]
   ·rw[za4 (by omega),Yj (by omega),Yn,WS]
  rw[XH,Dz,X3 c0]
  have e3:([]:List Int).count i=0:=rfl
  refine ⟨by omega,by omega⟩
 ·refine ⟨?_,W6 _⟩
  have e3:([]:List Int).count i=0:=rfl
  show ([]:List Int).count i+x.ag.count i+x.lo.count i=x.ag.count i+x.lo.count i+(if x.nx<=i/\i < x.nx then 1 else 0)
  rw[if_neg (by omega)]
  omega
def St'.One (st:St'):Prop:=∀ x∈st.ss,∀ i:Int,st.fly (x.nm,i)+x.ag.count i+x.lo.count i<=if 0<=i/\i < x.nx then 1 else 0
theorem Hc {p:Pn}{m:Int}{n:Nat}{st:St'}(I:cR p m n st)(hn:n<=10000)(O:st.One):(p.step st).One:=by
 intro x' hx' i
 unfold Pn.step at hx'
 simp only at hx'
 rw[bC] at hx'
 obtain ⟨⟨s,b⟩,hb,rfl⟩:=Wg.mp hx'
 obtain ⟨x,hx,eb⟩:=I.zb (y:=(s,b)) hb
 simp only at eb hx
 have nm:x.nm=s.nm:=I.znm hx
 have X:=O x (Wo hx).2 i
 have B:=AK p.g s x (st.und x.nm) (I.ss _ hx).l i
 have N:=(I.cons hn hb).1
 have F:=zr (p:=p) (st:=st) I.K.wd I.lw (s.nm,i)
 have S:cK (s.nm,i) ((p.aJ st).map (·.2))<=b.2.count i:=by
  unfold Pn.aJ
  refine DD I.sd ?_ i
  rw[X8]
  exact Wg.mpr ⟨(s,b),hb,rfl⟩
 rw[← eb] at B
 have n0:=(I.ss _ hx).n0
 simp only at n0
 have L:((own s.nm (p.a9 st)).map Lt.nu).count i=cK (s.nm,i) (p.a9 st):=by
  unfold cK own
  generalize p.a9 st=ls
  induction ls with
  | nil=>rfl
  | cons a r ih=>
   by_cases h:a.nm=s.nm
   ·by_cases h2:a.nu=i<;>simp[h,h2,XR,ih]
   ·have:¬ ((a.nm,a.nu)=(s.nm,i)):=λz=>h (by injection z)
    simp[h,this,XR,ih]
 show (p.step st).fly (b.1.nm,i)+b.1.ag.count i+(dO (b.1.lo++(own s.nm (p.a9 st)).map Lt.nu)).count i<=if 0<=i/\i < b.1.nx then 1 else 0
 rw[N,nT,XH,L]
 rw[nm] at X
 obtain ⟨B1,B2⟩:=B
 by_cases h1:0<=i/\i < x.nx
 ·rw[if_pos h1] at X
  rw[if_neg (by omega)] at B1
  rw[if_pos (by omega)]
  omega
 ·rw[if_neg h1] at X
  by_cases h2:x.nx<=i/\i < b.1.nx
  ·rw[if_pos h2] at B1
   rw[if_pos (by omega)]
   omega
  ·rw[if_neg h2] at B1
   rw[if_neg (by omega)]
   omega
theorem D3 {w:Wy}:∀ {ys a b:List Lt},w.rm<=(a.length:Int)->ys.foldl (cE w) (a,b)=(a,b++ys)
 | [],a,b,_=>by simp
 | y::r,a,b,h=>by
  rw[XQ,jn h,D3 h,Y3]
  rfl
theorem HS (w:Wy):∀ ys a b:List Lt,∃ k,k<=ys.length/\(ys.foldl (cE w) (a,b)).2=b++ys.drop k
 | [],a,b=>⟨0,WA _,by simp⟩
 | y::r,a,b=>by
  by_cases h:w.rm<=(a.length:Int)
  ·exact ⟨0,Xx _,by rw[D3 h];rfl⟩
  ·rw[XQ,tU h]
   obtain ⟨k,hk,e⟩:=HS w r (a++[iQ w y a.length]) b
   exact ⟨k+1,by simpa using hk,e⟩
abbrev evI (w:Wy)(l:Lt):Ev:=⟨OF "in", l.nm,l.nu,w.nm⟩
abbrev evL (w:Wy)(l:Lt):Ev:=⟨OF "lost", l.nm,l.nu,w.nm⟩
theorem uU (ss:List Sn)(w:Wy)(ns:List Str)(k:Ws)(se:List (Str×Lt)):∃ c,(pass w ns k se).lo=(pass w ns k se).ca.drop c/\evs ss w (pass w ns k se)=((pass w ns k se).ca.take c).map (evI w)++(pass w ns k se).lo.map (evL w)++(pass w ns k se).ou.map (evB ss w):=by
 obtain ⟨c,hc,e⟩:=HS w (pass w ns k se).ca k.st []
 have e':(pass w ns k se).lo=(pass w ns k se).ca.drop c:=by
  have:(pass w ns k se).lo=(tk w k.st (pass w ns k se).ca).2:=rfl
  rw[this];unfold tk;rw[e];rfl
 refine ⟨c,e',?_⟩
 generalize pass w ns k se=x at *
 unfold evs
 congr 1
 rw[e']
 have len:(x.ca.length:Int) - (x.ca.drop c).length=c:=by rw[Ze];omega
 rw[len]
 refine zdi (by simp;omega) λj h1 h2=>?_
 simp only[Wf,zcJ] at h1
 rw[zbf,List.getElem_zipIdx]
 simp only[Nat.zero_add]
 by_cases h:j < c
 ·rw[List.getElem_append_left (by simp;omega),zbf,List.getElem_take,if_pos (by omega)]
 ·rw[List.getElem_append_right (by simp;omega),zbf,List.getElem_drop,if_neg (by omega)]
  congr 1<;>(congr 1;congr 1;simp;omega)
def Ev.fin (e:Ev):Prop:=e.wd=OF "lost" ∨ e.wd=OF "taken"
abbrev Ev.key (e:Ev):Str×Int:=(e.nm,e.nu)
theorem dm {k:Str×Int}{ls:List Lt}{l:Lt}(h:l∈ls)(e:l.key=k):1<=cK k ls:=by
 unfold cK
 exact Xz.mpr (by rw[← e];exact Wg.mpr ⟨l,h,rfl⟩)
theorem MD {p:Pn}{w:Wy}{k:Ws}{se:List (Str×Lt)}{e:Ev}(h:e∈evs p.ss w (pass w p.sn k se)):1<=(pass w p.sn k se).tot e.key:=by
 obtain ⟨c,_,q⟩:=uU p.ss w p.sn k se
 rw[q] at h
 have t:=my w p.sn k se e.key
 unfold Wt.tot
 rcases WZ.mp h with (h | h)
 ·rcases WZ.mp h with (h | h)
  ·obtain ⟨l,hl,rfl⟩:=Wg.mp h
   have:=dm (k:=(evI w l).key) (zad hl) rfl
   omega
  ·obtain ⟨l,hl,rfl⟩:=Wg.mp h
   have:=dm (k:=l.key) hl rfl
   show 1<=cK l.key _+_+_
   omega
 ·obtain ⟨l,hl,rfl⟩:=Wg.mp h
  have:=dm (k:=l.key) hl rfl
  show 1<=_+cK l.key _+_
  omega
def Pn.told (p:Pn)(st:St'):List Ev:=(Xj (λw x=>L3.evs p.ss w x) p.ws (p.bJ st)).flatten
theorem qt {p:Pn}{st:St'}{w:Wy}{k:Ws}(h:(w,k)∈Wl p.ws st.ws):pass w p.sn k (p.aJ st)∈p.bJ st:=by
 unfold Pn.bJ
 rw[bC]
 exact Wg.mpr ⟨(w,k),h,rfl⟩
theorem OD:OF "in" ≠ OF "lost" /\ OF "in" ≠ OF "taken" /\ OF "out" ≠ OF "lost" /\ OF "out" ≠ OF "taken" /\ OF "taken" ≠ OF "lost" /\ OF "in" ≠ OF "sent" /\ OF "lost" ≠ OF "sent" /\ OF "out" ≠ OF "sent" /\ OF "taken" ≠ OF "sent" := by decide +kernel
theorem m8 {p:Pn}{m:Int}{n:Nat}{st:St'}(I:cR p m n st)(hn:n<=10000)(O:st.One){s:Sn}{x:Ss}(hx:(s,x)∈Wl p.ss st.ss)(i:Int) :
  st.fly (s.nm,i)+(x.bt p.g s (st.und x.nm)).2.count i+(x.bt p.g s (st.und x.nm)).1.ag.count i+(x.bt p.g s (st.und x.nm)).1.lo.count i<=(if 0<=i/\i < (x.bt p.g s (st.und x.nm)).1.nx then 1 else 0)/\cK (s.nm,i) ((p.aJ st).map (·.2))<=(x.bt p.g s (st.und x.nm)).2.count i:=by
 have nm:x.nm=s.nm:=I.znm hx
 have X:=O x (Wo hx).2 i
 obtain ⟨B1,B2⟩:=AK p.g s x (st.und x.nm) (I.ss _ hx).l i
 have n0:0<=x.nx:=(I.ss _ hx).n0
 rw[nm] at X
 have hb:(s,x.bt p.g s (st.und x.nm))∈Wl p.ss (p.bD st):=by
  unfold Pn.bD
  rw[bC,df (λy:Sn×Ss=>y.2.bt p.g y.1 (st.und y.2.nm))]
  exact Wg.mpr ⟨(s,x),hx,rfl⟩
 refine ⟨?_,?_⟩
 ·generalize x.bt p.g s (st.und x.nm)=b at *
  by_cases h1:0<=i/\i < x.nx
  ·rw[if_pos h1] at X
   rw[if_neg (by omega)] at B1
   rw[if_pos (by omega)]
   omega
  ·rw[if_neg h1] at X
   by_cases h2:x.nx<=i/\i < b.1.nx
   ·rw[if_pos h2] at B1
    rw[if_pos (by omega)]
    omega
   ·rw[if_neg h2] at B1
    rw[if_neg (by omega)]
    omega
 ·unfold Pn.aJ
  refine DD I.sd ?_ i
  rw[X8]
  exact Wg.mpr ⟨_,hb,rfl⟩
theorem oo {s:Sn}{n:List Int}(t:Nat):∀ {zs:List (Sn×List Int)},(zs.map λy=>y.1.nm).Nodup->(s,n)∈zs->(zs.filterMap (cL t)).filter (λx=>decide (x.2.nm=s.nm))=(cL t (s,n)).toList
 | y::r,nd,h=>by
  rw[Wr] at nd
  have ⟨n1,n2⟩:=W9.mp nd
  have nmT:∀ (y:Sn×List Int) z,cL t y=some z->z.2.nm=y.1.nm:=λy z e=>by
   unfold cL at e
   cases q:y.2[t]? with
   | none=>rw[q] at e;cases e
   | some j=>rw[q] at e;cases e;rfl
  have none_of:∀ zs:List (Sn×List Int),(∀ y∈zs,y.1.nm≠s.nm)->(zs.filterMap (cL t)).filter (λx=>decide (x.2.nm=s.nm))=[]:=λzs hz=>by
   refine ZS.mpr λz hz'=>?_
   obtain ⟨y,hy,e⟩:=Zt.mp hz'
   rw[nmT y z e]
   simpa using hz y hy
  rw[Yh]
  rcases Wx.mp h with h | h
  ·subst h
   have h0:=none_of r λy hy e=>n1 (Wg.mpr ⟨y,hy,e⟩)
   cases e:cL t (s,n) with
   | none=>simpa using h0
   | some z=>
    have:=nmT _ z e
    simp only[Xe,this,decide_true,if_true,h0]
    rfl
  ·have hy:y.1.nm≠s.nm:=λe=>n1 (by rw[e];exact Wg.mpr ⟨(s,n),h,rfl⟩)
   cases e:cL t y with
   | none=>exact oo t n2 h
   | some z=>
    have:=nmT _ z e
    simp only[Xe,this,hy,decide_false]
    exact oo t n2 h
theorem yU {α β:Type}(f:α->β):∀ (ns:List α) (L:Nat),ns.length<=L->(WQ L).flatMap (λt=>(ns[t]?.map f).toList)=ns.map f
 | [],L,_=>by simp
 | a::r,0,h=>by simp at h
 | a::r,L+1,h=>by
  rw[ZO]
  rw[YC,zdg]
  have:=yU f r L (by simpa using h)
  simpa using this
theorem uJ {ss:List Sn}{ns:List (List Int)}(nd:(ss.map Sn.nm).Nodup){s:Sn}{n:List Int}(h:(s,n)∈Wl ss ns):(jM ss ns).filter (λx=>decide (x.2.nm=s.nm))=n.map λj=>(s.rd.headD (OF ""),⟨s.nm,j,0,0,0⟩):=by
 have nd':((Wl ss ns).map λy=>y.1.nm).Nodup:=by
  have:(Wl ss ns).map (λy=>y.1.nm)=((Wl ss ns).map (·.1)).map Sn.nm:=by rw[Wq];rfl
  rw[this]
  exact nd.sublist (((qy ss ns).sublist).map Sn.nm)
 rw[jR,List.filter_flatMap]
 rw[← yU (λj=>(s.rd.headD (OF ""),(⟨s.nm,j,0,0,0⟩:Lt))) n (da ns) (Dx (Wo h).2)]
 congr 1
 funext t
 exact oo t nd' h
theorem FX (g:Int)(s:Sn)(x:Ss)(u:Int)(hl:∀ i,x.lf=some i->0<=i):∃ (A:List Int) (c:Nat),(x.bt g s u).2=A++rgI x.nx c/\(∀ j∈A,1<=x.ag.count j+x.lo.count j)/\(x.bt g s u).1.nx=x.nx+c:=by
 unfold Ss.bt
 split
 ·generalize (max 0 ((s.rl.beh g x.W x.S x.hd).1 / g - u)).toNat=m
  unfold Ss.fill Ss.rdy
  simp only
  have tl:((dO (x.ag++x.lo)).take m).length<=m:=by simp;omega
  refine ⟨_,_,rfl,λj hj=>?_,?_⟩
  ·have h1:=(iX (x.ag++x.lo)).mem_iff.mp (zad hj)
   have:=Xz.mpr h1
   rw[XH] at this
   omega
  ·have c0:0<=iK x.lf ((m:Int) - (((dO (x.ag++x.lo)).take m).length:Int)):=by
    unfold iK
    cases e:x.lf with
    | none=>simp only;omega
    | some l=>have:=hl l e;simp only;omega
   omega
 ·exact ⟨[],0,rfl,(λ_ h=>nomatch h),(zd7 _).symm⟩
theorem ME (p:Pn):p.beg.One:=by
 intro x hx i
 obtain ⟨s,hs,rfl⟩:=Wg.mp (show x∈p.ss.map (Sn.beg p.g) from hx)
 have:p.beg.fly (s.nm,i)=0:=by
  unfold St'.fly Pn.beg
  rw[Wq]
  have:∀ l:List Wy,(l.map λ_=>0).sum=0:=λl=>by induction l<;>simp_all
  exact this p.ws
 show p.beg.fly (s.nm,i)+0+0<=_
 rw[this]
 exact Xx _
theorem Pn.gj {p:Pn}{m:Int}(K:p.Ok m):∀ n:Nat,n<=10000->(p.run n).One
 | 0,_=>ME p
 | n+1,h=>Hc (p.bB K n (by omega)) (by omega) (p.gj K n (by omega))
abbrev evS (s:Sn)(j:Int):Ev:=⟨OF "sent", s.nm,j,s.rd.headD (OF "")⟩
theorem K4 {p:Pn}{m:Int}{n:Nat}{st:St'}(I:cR p m n st){s:Sn}{x:Ss}(hx:(s,x)∈Wl p.ss st.ss) :
  (p.evs st).filter (λe=>decide (e.nm=s.nm))=(x.bt p.g s (st.und x.nm)).2.map (evS s)++(p.told st).filter λe=>decide (e.nm=s.nm):=by
 have hb:(s,(x.bt p.g s (st.und x.nm)).2)∈Wl p.ss ((p.bD st).map (·.2)):=by
  unfold Pn.bD
  rw[bC,X8,df (λy:Sn×Ss=>y.2.bt p.g y.1 (st.und y.2.nm)),Wq]
  exact Wg.mpr ⟨(s,x),hx,rfl⟩
 have h:=uJ I.sd hb
 unfold Pn.evs
 rw[Ys]
 congr 1
 rw[zan]
 have:(p.aJ st).filter ((λe:Ev=>decide (e.nm=s.nm)) ∘ λx=>(⟨OF "sent", x.2.nm,x.2.nu,x.1⟩:Ev))=(p.aJ st).filter λx=>decide (x.2.nm=s.nm):=rfl
 rw[this]
 show ((jM p.ss ((p.bD st).map (·.2))).filter _).map _=_
 rw[h,Wq]
 rfl
theorem PJ {w:Wy}{P:Lt->Prop}(hP:∀ l n,P l->P (iQ w l n)):∀ ys a b:List Lt,(∀ l∈a,P l)->(∀ l∈b,P l)->(∀ l∈ys,P l)->(∀ l∈(ys.foldl (cE w) (a,b)).1,P l)/\∀ l∈(ys.foldl (cE w) (a,b)).2,P l
 | [],a,b,h1,h2,_=>⟨h1,h2⟩
 | y::r,a,b,h1,h2,h3=>by
  have hy:=h3 y Wu
  have hr:∀ l∈r,P l:=λl hl=>h3 l (WD _ hl)
  rw[XQ]
  by_cases h:w.rm<=(a.length:Int)
  ·rw[jn h]
   refine PJ hP r a (b++[y]) h1 (λl hl=>?_) hr
   rcases WZ.mp hl with (hl | hl)
   ·exact h2 l hl
   ·rw[XS.mp hl];exact hy
  ·rw[tU h]
   refine PJ hP r _ b (λl hl=>?_) h2 hr
   rcases WZ.mp hl with (hl | hl)
   ·exact h1 l hl
   ·rw[XS.mp hl];exact hP y _ hy
def gs (p:Pn)(w:Wy)(l:Lt):Prop:=0<=l.hp/\(road p.ss l.nm)[l.hp.toNat]? = some w.nm
theorem Cd {p:Pn}{w:Wy}(v:Wy)(l:Lt)(n:Nat)(h:gs p w l):gs p w (iQ v l n):=by
 have:(iQ v l n).hp=l.hp/\(iQ v l n).nm=l.nm:=by
  unfold iQ
  split
  ·exact ⟨rfl,rfl⟩
  ·split<;>exact ⟨rfl,rfl⟩
 unfold gs
 rw[this.1,this.2]
 exact h
def St'.Hop (p:Pn)(st:St'):Prop:=∀ y∈Wl p.ws st.ws,∀ l∈y.2.cm++y.2.st,gs p y.1 l
theorem DL {ss:List Sn}(nd:(ss.map Sn.nm).Nodup){s:Sn}(h:s∈ss):road ss s.nm=s.rd:=by
 unfold road
 induction ss with
 | nil=>cases h
 | cons a r ih=>
  rw[Wr] at nd
  have ⟨n1,n2⟩:=W9.mp nd
  rw[Xs]
  rcases Wx.mp h with (e | h)
  ·subst e;simp
  ·have:a.nm≠s.nm:=λe=>n1 (by rw[e];exact Wg.mpr ⟨s,h,rfl⟩)
   simp only[this,decide_false]
   exact ih n2 h
theorem vt {p:Pn}{m:Int}{n:Nat}{st:St'}(I:cR p m n st)(H:st.Hop p){w:Wy}{k:Ws}(hz:(w,k)∈Wl p.ws st.ws):(∀ l∈(pass w p.sn k (p.aJ st)).ca,gs p w l)/\(∀ l∈(pass w p.sn k (p.aJ st)).lo,gs p w l)/\(∀ l∈(pass w p.sn k (p.aJ st)).ou,gs p w l)/\∀ l∈(pass w p.sn k (p.aJ st)).st,gs p w l:=by
 have ca:∀ l∈(pass w p.sn k (p.aJ st)).ca,gs p w l:=λl hl=>by
  rcases WZ.mp (show l∈k.cm++((p.aJ st).filter λx=>decide (x.1=w.nm)).map (·.2) from hl) with (hl | hl)
  ·exact H _ hz l (XU _ hl)
  ·obtain ⟨x,hx,rfl⟩:=Wg.mp hl
   obtain ⟨hx,hw⟩:=W0.mp hx
   have hw:x.1=w.nm:=by simpa using hw
   obtain ⟨s,hs,j,rfl⟩:=xQ (show x∈jM p.ss ((p.bD st).map (·.2)) from hx)
   refine ⟨W6 _,?_⟩
   show (road p.ss s.nm)[0]? = some w.nm
   rw[DL I.sd hs,← hw]
   cases e:s.rd with
   | nil=>exact absurd e (I.K.s s hs).r0
   | cons a l=>rfl
 have h:=PJ (w:=w) (P:=gs p w) (λl n=>Cd w l n) (pass w p.sn k (p.aJ st)).ca k.st [] (λl hl=>H _ hz l (WN _ hl)) (λ_ h=>nomatch h) ca
 have pm:=fz w p.sn (tk w k.st (pass w p.sn k (p.aJ st)).ca).1 k.la
 refine ⟨ca,h.2,λl hl=>h.1 l (pm.mem_iff.mp (XU _ hl)),λl hl=>h.1 l (pm.mem_iff.mp (WN _ hl))⟩
theorem Jk {p:Pn}{m:Int}{n:Nat}{st:St'}(I:cR p m n st)(hn:n<=10000)(H:st.Hop p):(p.step st).Hop p:=by
 intro y hy l hl
 obtain ⟨w,k'⟩:=y
 rw[show (p.step st).ws=Xj (λw x=>nS p.ss w x (p.out st)) p.ws (p.bJ st) from rfl] at hy
 unfold Pn.bJ at hy
 rw[bC,bC,df (λy:Wy×Ws=>pass y.1 p.sn y.2 (p.aJ st)),Wq] at hy
 have hy:(w,k')∈Wl p.ws ((Wl p.ws st.ws).map λy:Wy×Ws=>nS p.ss y.1 (pass y.1 p.sn y.2 (p.aJ st)) (p.out st)):=hy
 rw[df (λy:Wy×Ws=>nS p.ss y.1 (pass y.1 p.sn y.2 (p.aJ st)) (p.out st))] at hy
 obtain ⟨⟨w',k⟩,hz,e⟩:=Wg.mp hy
 cases e
 rcases WZ.mp (show l∈((p.out st).filter λl=>decide (bU p.ss l=some w'.nm)).map (·.jI 1)++(pass w' p.sn k (p.aJ st)).st.map (·.jI 0) from hl) with (hl | hl)
 ·obtain ⟨z,hz',rfl⟩:=Wg.mp hl
  obtain ⟨ho,hw⟩:=W0.mp hz'
  have hw:bU p.ss z=some w'.nm:=by simpa using hw
  have h0:=((I.rd hn).ou z ho).2
  refine ⟨by show 0<=z.hp+1;omega,?_⟩
  show (road p.ss z.nm)[(z.hp+1).toNat]? = some w'.nm
  rw[show (z.hp+1).toNat=z.hp.toNat+1 by omega]
  exact hw
 ·obtain ⟨z,hz',rfl⟩:=Wg.mp hl
  have h:=(vt I H hz).2.2.2 z hz'
  refine ⟨by show 0<=z.hp+0;have:=h.1;omega,?_⟩
  show (road p.ss z.nm)[(z.hp+0).toNat]? = some w'.nm
  rw[zd7]
  exact h.2
theorem Lk (p:Pn):p.beg.Hop p:=by
 intro y hy l hl
 obtain ⟨w,k⟩:=y
 rw[show p.beg.ws=p.ws.map λ_=>(⟨[],[],OF ""⟩:Ws) from rfl,X8] at hy
 obtain ⟨⟨a,b⟩,_,e⟩:=Wg.mp hy
 cases e
 cases hl
theorem Pn.Dc {p:Pn}{m:Int}(K:p.Ok m):∀ n:Nat,n<=10000->(p.run n).Hop p
 | 0,_=>Lk p
 | n+1,h=>Jk (p.bB K n (by omega)) (by omega) (p.Dc K n (by omega))
theorem gq {k:Str×Int}:∀ {ls:List Lt},cK k ls<=1->(ls.filter λl=>decide (l.key=k))=[]/\cK k ls=0∨∃ l∈ls,l.key=k/\(ls.filter λl=>decide (l.key=k))=[l]
 | [],_=>.inl ⟨rfl,rfl⟩
 | x::r,h=>by
  have e:cK k (x::r)=cK k [x]+cK k r:=bX k [x] r
  by_cases hx:x.key=k
  ·have h1:1<=cK k [x]:=dm Wu hx
   rcases gq (k:=k) (ls:=r) (by omega) with ⟨a,b⟩ | ⟨l,hl,hk,_⟩
   ·exact .inr ⟨x,Wu,hx,by rw[Xe,if_pos (by simpa using hx),a]⟩
   ·have:=dm hl hk;omega
  ·have h0:cK k [x]=0:=by unfold cK;simp[hx]
   rcases gq (k:=k) (ls:=r) (by omega) with ⟨a,b⟩ | ⟨l,hl,hk,q⟩
   ·exact .inl ⟨by rw[Xe,if_neg (by simpa using hx),a],by omega⟩
   ·exact .inr ⟨l,WD _ hl,hk,by rw[Xe,if_neg (by simpa using hx),q]⟩
theorem vy {k:Str×Int}{ls:List Lt}(h:cK k ls=0):(ls.filter λl=>decide (l.key=k))=[]:=by
 rcases gq (k:=k) (ls:=ls) (by omega) with ⟨a,_⟩ | ⟨l,hl,hk,_⟩
 ·exact a
 ·have:=dm hl hk;omega
abbrev ofK (k:Str×Int)(es:List Ev):List Ev:=es.filter λe=>decide (e.key=k)
theorem wG (k:Str×Int)(f:Lt->Ev)(hf:∀ l,(f l).key=l.key)(ls:List Lt):ofK k (ls.map f)=(ls.filter λl=>decide (l.key=k)).map f:=by
 unfold ofK
 rw[zan]
 congr 2
 funext l
 show decide ((f l).key=k)=_
 rw[hf]
inductive Wev (ss:List Sn) (w:Wy) (x:Wt) (k:Str×Int):List Ev->Prop
 | no:x.tot k=0->Wev ss w x k []
 | lD:cK k x.ca=0->cK k x.st=1->Wev ss w x k []
 | out (l:Lt):l∈x.ou->l.key=k->cK k x.ca=0->Wev ss w x k [evB ss w l]
 | inn (l:Lt):l∈x.ca->l.key=k->cK k x.st=1->Wev ss w x k [evI w l]
 | both (l z:Lt):l∈x.ca->l.key=k->z∈x.ou->z.key=k->Wev ss w x k [evI w l,evB ss w z]
 | a9 (l:Lt):l∈x.lo->l∈x.ca->l.key=k->Wev ss w x k [evL w l]
theorem wev {p:Pn}{w:Wy}{s:Ws}{se:List (Str×Lt)}{k:Str×Int}(h:(pass w p.sn s se).tot k<=1):Wev p.ss w (pass w p.sn s se) k (ofK k (evs p.ss w (pass w p.sn s se))):=by
 obtain ⟨c,el,e⟩:=uU p.ss w p.sn s se
 have pk:=my w p.sn s se k
 rw[e]
 generalize pass w p.sn s se=x at *
 have ec:cK k (x.ca.take c)+cK k x.lo=cK k x.ca:=by rw[el,← bX,ZY]
 unfold Wt.tot at h
 have e2:ofK k ((x.ca.take c).map (evI w)++x.lo.map (evL w)++x.ou.map (evB p.ss w))=((x.ca.take c).filter λl=>decide (l.key=k)).map (evI w)++(x.lo.filter λl=>decide (l.key=k)).map (evL w)++(x.ou.filter λl=>decide (l.key=k)).map (evB p.ss w):=by
  unfold ofK
  rw[Ys,Ys]
  rw[show (zb2 (λe:Ev=>decide (e.key=k)) ((x.ca.take c).map (evI w)))=_ from wG k (evI w) (λ_=>rfl) _,show (zb2 (λe:Ev=>decide (e.key=k)) (x.lo.map (evL w)))=_ from wG k (evL w) (λ_=>rfl) _,show (zb2 (λe:Ev=>decide (e.key=k)) (x.ou.map (evB p.ss w)))=_ from wG k (evB p.ss w) (λ_=>rfl) _]
 rw[e2]
 rcases gq (k:=k) (ls:=x.ca.take c) (by omega) with ⟨a1,b1⟩ | ⟨l1,h1,k1,q1⟩
 ·rcases gq (k:=k) (ls:=x.lo) (by omega) with ⟨a2,b2⟩ | ⟨l2,h2,k2,q2⟩
  ·rcases gq (k:=k) (ls:=x.ou) (by omega) with ⟨a3,b3⟩ | ⟨l3,h3,k3,q3⟩
   ·rw[a1,a2,a3]
    by_cases z:cK k x.st=0
    ·exact .no (by unfold Wt.tot;omega)
    ·exact .lD (by omega) (by omega)
   ·rw[a1,a2,q3]
    exact .out l3 h3 k3 (by omega)
  ·have:=dm h2 k2
   rw[a1,q2,vy (k:=k) (ls:=x.ou) (by omega)]
   exact .a9 l2 h2 (by rw[el] at h2;exact List.mem_of_mem_drop h2) k2
 ·have:=dm h1 k1
  have m1:l1∈x.ca:=zad h1
  rw[q1,vy (k:=k) (ls:=x.lo) (by omega)]
  rcases gq (k:=k) (ls:=x.ou) (by omega) with ⟨a3,b3⟩ | ⟨l3,h3,k3,q3⟩
  ·rw[a3]
   exact .inn l1 m1 k1 (by omega)
  ·rw[q3]
   exact .both l1 l3 m1 k1 h3 k3
theorem rR {p:Pn}{st:St'}{k:Str×Int}(nd:p.wn.Nodup)(lw:st.ws.length=p.ws.length)(h:st.fly k+cK k ((p.aJ st).map (·.2))<=1) :
  (ofK k (p.told st)=[]/\∀ y∈Wl p.ws st.ws,(pass y.1 p.sn y.2 (p.aJ st)).tot k=0)∨∃ y∈Wl p.ws st.ws,(pass y.1 p.sn y.2 (p.aJ st)).tot k=1/\ofK k (p.told st)=ofK k (evs p.ss y.1 (pass y.1 p.sn y.2 (p.aJ st)))/\∀ z∈Wl p.ws st.ws,1<=(pass z.1 p.sn z.2 (p.aJ st)).tot k->z=y:=by
 have T:((p.bJ st).map λx=>x.tot k).sum<=1:=Xa (rQ nd lw k) h
 unfold Pn.told
 generalize hse:p.aJ st=se
 have eW:p.bJ st=Xj (λw k=>pass w p.sn k se) p.ws st.ws:=by unfold Pn.bJ;rw[hse]
 rw[eW] at T ⊢
 clear lw nd h
 generalize p.ws=ws at T ⊢
 generalize st.ws=ks at T ⊢
 induction ws generalizing ks with
 | nil=>exact .inl ⟨rfl,λ_ h=>nomatch h⟩
 | cons w ws ih=>
  cases ks with
  | nil=>exact .inl ⟨rfl,λ_ h=>nomatch h⟩
  | cons s ks=>
   simp only[List.zipWith_cons_cons,Wr,W8,List.flatten_cons,List.zip_cons_cons] at T ⊢
   have app:∀ a b:List Ev,ofK k (a++b)=ofK k a++ofK k b:=λa b=>Ys ..
   rw[app]
   have nil0:(pass w p.sn s se).tot k=0->ofK k (evs p.ss w (pass w p.sn s se))=[]:=λh0=>by
    refine ZS.mpr λe he hk=>?_
    have:=MD he
    rw[show e.key=k by simpa using hk] at this
    omega
   rcases ih ks (by omega) with ⟨a,b⟩ | ⟨y,hy,hy1,hy2,hy3⟩
   ·by_cases z:(pass w p.sn s se).tot k=0
    ·refine .inl ⟨by rw[nil0 z,a];rfl,λy hy=>?_⟩
     rcases Wx.mp hy with (e | hy)
     ·rw[e];exact z
     ·exact b y hy
    ·refine .inr ⟨(w,s),Wu,by show (pass w p.sn s se).tot k=1;omega,by rw[a,WS],λy hy hy1=>?_⟩
     rcases Wx.mp hy with (e | hy)
     ·exact e
     ·have:=b y hy;omega
   ·have l1:1<=((Xj (λw k=>pass w p.sn k se) ws ks).map λx=>x.tot k).sum:=by
     rw[← hy1,bC]
     exact b5 (f:=λx:Wt=>x.tot k) (Wg.mpr ⟨y,hy,rfl⟩)
    have z:(pass w p.sn s se).tot k=0:=by omega
    refine .inr ⟨y,WD _ hy,hy1,by rw[nil0 z,hy2];rfl,λv hv hv1=>?_⟩
    rcases Wx.mp hv with (e | hv)
    ·rw[e] at hv1
     have:(pass w p.sn s se).tot k=0:=z
     simp only at hv1
     omega
    ·exact hy3 v hv hv1
def St'.At (p:Pn)(st:St')(f:Ws->List Lt)(k:Str×Int)(w:Wy):Prop:=∃ ks,(w,ks)∈Wl p.ws st.ws/\1<=cK k (f ks)
theorem step_zip {p:Pn}{st:St'}{w:Wy}{ks:Ws}(h:(w,ks)∈Wl p.ws st.ws):(w,nS p.ss w (pass w p.sn ks (p.aJ st)) (p.out st))∈Wl p.ws (p.step st).ws:=by
 show _∈Wl p.ws (Xj (λw x=>nS p.ss w x (p.out st)) p.ws (p.bJ st))
 unfold Pn.bJ
 rw[bC,bC,df (λy:Wy×Ws=>pass y.1 p.sn y.2 (p.aJ st)),Wq]
 show _∈Wl p.ws ((Wl p.ws st.ws).map λy:Wy×Ws=>nS p.ss y.1 (pass y.1 p.sn y.2 (p.aJ st)) (p.out st))
 rw[df (λy:Wy×Ws=>nS p.ss y.1 (pass y.1 p.sn y.2 (p.aJ st)) (p.out st))]
 exact Wg.mpr ⟨(w,ks),h,rfl⟩
theorem OJ {p:Pn}{st:St'}{w:Wy}{ks:Ws}{k:Str×Int}(h:(w,ks)∈Wl p.ws st.ws)(hk:1<=cK k (pass w p.sn ks (p.aJ st)).st):(p.step st).At p Ws.st k w:=
 ⟨_,step_zip h,by show 1<=cK k ((pass w p.sn ks (p.aJ st)).st.map (·.jI 0));rw[qi];exact hk⟩
theorem SX {p:Pn}{m:Int}{n:Nat}{st:St'}(I:cR p m n st){w:Wy}{ks:Ws}{k:Str×Int}{z:Lt}{v:Str}(h:(w,ks)∈Wl p.ws st.ws)(hz:z∈(pass w p.sn ks (p.aJ st)).ou)(hk:z.key=k)(hv:bU p.ss z=some v):∃ w',w'.nm=v/\(p.step st).At p Ws.cm k w':=by
 have zo:z∈p.out st:=XY.mpr ⟨_,qt h,hz⟩
 have vw:v∈p.wn:=by
  unfold bU road at hv
  cases e:p.ss.find? λs=>decide (s.nm=z.nm) with
  | none=>rw[e] at hv;simp at hv
  | some s=>
   rw[e] at hv
   have:v∈s.rd:=Xi hv
   exact (I.K.s s (Zk e)).r.subset this
 obtain ⟨w',hw',e⟩:=Wg.mp (show v∈p.ws.map Wy.nm from vw)
 obtain ⟨j,hj,ej⟩:=X4 hw'
 have hj2:j < st.ws.length:=by rw[I.lw];exact hj
 have hz2:(w',st.ws[j])∈Wl p.ws st.ws:=by
  rw[← ej,← Zg (h:=by simp;omega)];exact XB ..
 refine ⟨w',e,_,step_zip hz2,?_⟩
 show 1<=cK k (((p.out st).filter λl=>decide (bU p.ss l=some w'.nm)).map (·.jI 1))
 rw[qi]
 exact dm (W0.mpr ⟨zo,by rw[e];simpa using hv⟩) hk
theorem OU {p:Pn}{st:St'}(lw:st.ws.length=p.ws.length){k:Str×Int}(h:1<=st.fly k):∃ w,st.At p Ws.st k w∨st.At p Ws.cm k w:=by
 have e:∀ (ws:List Wy) (ks:List Ws),ks.length=ws.length->1<=(ks.map λw=>cK k (w.cm++w.st)).sum->∃ w s,(w,s)∈Wl ws ks/\1<=cK k (s.cm++s.st):=λws=>by
  induction ws with
  | nil=>
   intro ks hl h
   cases ks with
   | nil=>cases h
   | cons=>cases hl
  | cons w ws ih=>
   intro ks hl h
   cases ks with
   | nil=>cases hl
   | cons s ks=>
    rw[Wr] at h
    rw[W8] at h
    by_cases z:1<=cK k (s.cm++s.st)
    ·exact ⟨w,s,Wu,z⟩
    ·obtain ⟨w',s',h1,h2⟩:=ih ks (by simpa using hl) (by omega)
     exact ⟨w',s',WD _ h1,h2⟩
 obtain ⟨w,s,h1,h2⟩:=e p.ws st.ws lw h
 rw[bX] at h2
 by_cases z:1<=cK k s.st
 ·exact ⟨w,.inl ⟨s,h1,z⟩⟩
 ·exact ⟨w,.inr ⟨s,h1,by omega⟩⟩
theorem HK {p:Pn}{st:St'}{k:Str×Int}{w:Wy}{f:Ws->List Lt}(hf:∀ s:Ws,cK k (f s)<=cK k (s.cm++s.st))(h:st.At p f k w):1<=st.fly k:=by
 obtain ⟨s,h1,h2⟩:=h
 have:=b5 (f:=λw:Ws=>cK k (w.cm++w.st)) (Wo h1).2
 have:=hf s
 unfold St'.fly
 omega
section
variable {p:Pn} {m:Int} {n:Nat} {s:Sn} {x:Ss} (K:p.Ok m) (hn:n<=1000) (hx:(s,x)∈Wl p.ss (p.run n).ss)
include K hn hx
theorem D1 (i:Int):ofK (s.nm,i) (p.evs (p.run n))=(if i∈(x.bt p.g s ((p.run n).und x.nm)).2 then [evS s i] else [])++ofK (s.nm,i) (p.told (p.run n)):=by
 have I:=p.bB K n (by omega)
 have F:=(m8 I (by omega) (p.gj K n (by omega)) hx i).1
 have e:=K4 I hx
 have sub:∀ es:List Ev,ofK (s.nm,i) es=ofK (s.nm,i) (es.filter λe=>decide (e.nm=s.nm)):=λes=>by
  unfold ofK
  rw[YT]
  congr 1
  funext e
  by_cases h:e.nm=s.nm<;>simp[h]
 rw[sub (p.evs (p.run n)),e]
 have app:∀ a b:List Ev,ofK (s.nm,i) (a++b)=ofK (s.nm,i) a++ofK (s.nm,i) b:=λa b=>Ys ..
 rw[app,← sub]
 congr 1
 generalize (x.bt p.g s ((p.run n).und x.nm)).2=ns at F ⊢
 have c1:ns.count i<=1:=by split at F<;>omega
 clear F
 induction ns with
 | nil=>rfl
 | cons a r ih=>
  have ec:zdR i (a::r)=zdR i r+if (a == i)=true then 1 else 0:=XR
  have st:ofK (s.nm,i) ((a::r).map (evS s))=(if a=i then [evS s a] else [])++ofK (s.nm,i) (r.map (evS s)):=by
   unfold ofK
   rw[Wr,Xe]
   by_cases h:a=i<;>simp[h]
  rw[st]
  by_cases h:a=i
  ·subst h
   have:a ∉ r:=λz=>by
    have:=Xz.mpr z
    rw[ec] at c1
    simp at c1
    omega
   rw[ih (by rw[ec] at c1;omega),if_pos rfl,if_neg this,if_pos Wu]
   rfl
  ·rw[ih (by rw[ec] at c1;omega),if_neg h]
   by_cases z:i∈r
   ·rw[if_pos z,if_pos (WD _ z)];rfl
   ·rw[if_neg z,if_neg (λy=>(Wx.mp y).elim (λq=>h q.symm) z)];rfl
def Goes (p:Pn)(st:St')(k:Str×Int)(w:Wy)(z:Lt):Prop:=z.key=k/\gs p w z/\(bU p.ss z=none->1<=cK k (p.taken st))/\∀ v,bU p.ss z=some v->∃ w',w'.nm=v/\(p.step st).At p Ws.cm k w'
theorem moves (i:Int){w:Wy}{ks:Ws}(hz:(w,ks)∈Wl p.ws (p.run n).ws) :
  (1<=cK (s.nm,i) ks.st->(ofK (s.nm,i) (p.told (p.run n))=[]/\(p.step (p.run n)).At p Ws.st (s.nm,i) w)∨∃ z,ofK (s.nm,i) (p.told (p.run n))=[evB p.ss w z]/\Goes p (p.run n) (s.nm,i) w z)/\
  (1<=cK (s.nm,i) (pass w p.sn ks (p.aJ (p.run n))).ca->(∃ l:Lt,l.key=(s.nm,i)/\ofK (s.nm,i) (p.told (p.run n))=[evI w l]/\(p.step (p.run n)).At p Ws.st (s.nm,i) w)∨(∃ l z:Lt,l.key=(s.nm,i)/\ofK (s.nm,i) (p.told (p.run n))=[evI w l,evB p.ss w z]/\Goes p (p.run n) (s.nm,i) w z)∨∃ l:Lt,l.key=(s.nm,i)/\ofK (s.nm,i) (p.told (p.run n))=[evL w l]/\1<=cK (s.nm,i) (p.a9 (p.run n))):=by
 have I:=p.bB K n (by omega)
 have F:=m8 I (by omega) (p.gj K n (by omega)) hx i
 have one:(p.run n).fly (s.nm,i)+cK (s.nm,i) ((p.aJ (p.run n)).map (·.2))<=1:=by split at F<;>omega
 have T:=rR I.K.wd I.lw one
 have pk:=my w p.sn ks (p.aJ (p.run n)) (s.nm,i)
 have R:=vt I (p.Dc K n (by omega)) hz
 have Uc:∀ z∈(pass w p.sn ks (p.aJ (p.run n))).ou,z.key=(s.nm,i)->Goes p (p.run n) (s.nm,i) w z:=λz hzo hk=>
  ⟨hk,R.2.2.1 z hzo,λe=>dm (W0.mpr ⟨XY.mpr ⟨_,qt hz,hzo⟩,by simp[e]⟩) hk,λv hv=>SX I hz hzo hk hv⟩
 have main:1<=(pass w p.sn ks (p.aJ (p.run n))).tot (s.nm,i)->(pass w p.sn ks (p.aJ (p.run n))).tot (s.nm,i)=1/\Wev p.ss w (pass w p.sn ks (p.aJ (p.run n))) (s.nm,i) (ofK (s.nm,i) (p.told (p.run n))):=λh1=>by
  rcases T with ⟨_,b⟩ | ⟨y,hy,hy1,hy2,hy3⟩
  ·have:=b _ hz;simp only at this;omega
  ·have e:=hy3 _ hz h1
   subst e
   refine ⟨hy1,?_⟩
   rw[hy2]
   exact wev (by simp only at hy1;omega)
 unfold Wt.tot at main
 generalize hX:pass w p.sn ks (p.aJ (p.run n))=X at *
 refine ⟨λh=>?_,λh=>?_⟩
 ·obtain ⟨t1,W⟩:=main (by omega)
  have ca0:cK (s.nm,i) X.ca=0:=by omega
  generalize hE:ofK (s.nm,i) (p.told (p.run n))=E at W ⊢
  cases W with
  | no h0=>unfold Wt.tot at h0;omega
  | lD _ h2=>exact .inl ⟨rfl,OJ hz (by rw[hX];omega)⟩
  | out l hl hk _=>exact .inr ⟨l,rfl,Uc l hl hk⟩
  | inn l hl hk _=>have:=dm hl hk;omega
  | both l z hl hk _ _=>have:=dm hl hk;omega
  | a9 l _ hl hk=>have:=dm hl hk;omega
 ·obtain ⟨t1,W⟩:=main (by omega)
  generalize hE:ofK (s.nm,i) (p.told (p.run n))=E at W ⊢
  cases W with
  | no h0=>unfold Wt.tot at h0;omega
  | lD h0 _=>omega
  | out l _ _ h0=>omega
  | inn l hl hk h2=>exact .inl ⟨l,hk,rfl,OJ hz (by rw[hX];omega)⟩
  | both l z hl hk hz' hk'=>exact .inr (.inl ⟨l,z,hk,rfl,Uc z hz' hk'⟩)
  | a9 l hl _ hk=>exact .inr (.inr ⟨l,hk,rfl,dm (XY.mpr ⟨_,qt hz,by rw[hX];exact hl⟩) hk⟩)
theorem quiet {i:Int}(h0:(p.run n).fly (s.nm,i)=0)(h1:i ∉ (x.bt p.g s ((p.run n).und x.nm)).2):ofK (s.nm,i) (p.told (p.run n))=[]:=by
 have I:=p.bB K n (by omega)
 have F:=(m8 I (by omega) (p.gj K n (by omega)) hx i).2
 rw[X9.mpr h1] at F
 have t:=rQ I.K.wd I.lw (s.nm,i)
 rcases rR (k:=(s.nm,i)) I.K.wd I.lw (by omega) with ⟨a,_⟩ | ⟨y,hy,hy1,_⟩
 ·exact a
 ·have:=b5 (f:=λx:Wt=>x.tot (s.nm,i)) (qt (w:=y.1) (k:=y.2) hy)
  omega
theorem Nr {i:Int}(h:i∈(x.bt p.g s ((p.run n).und x.nm)).2):∃ w ks,(w,ks)∈Wl p.ws (p.run n).ws/\w.nm=s.rd.headD (OF "")/\1<=cK (s.nm,i) (pass w p.sn ks (p.aJ (p.run n))).ca:=by
 have I:=p.bB K n (by omega)
 have hb:(s,(x.bt p.g s ((p.run n).und x.nm)).2)∈Wl p.ss ((p.bD (p.run n)).map (·.2)):=by
  unfold Pn.bD
  rw[bC,X8,df (λy:Sn×Ss=>y.2.bt p.g y.1 ((p.run n).und y.2.nm)),Wq]
  exact Wg.mpr ⟨(s,x),hx,rfl⟩
 have o:=uJ I.sd hb
 have se:(s.rd.headD (OF ""),(⟨s.nm,i,0,0,0⟩:Lt))∈p.aJ (p.run n):=by
  have:(s.rd.headD (OF ""),(⟨s.nm,i,0,0,0⟩:Lt))∈(jM p.ss ((p.bD (p.run n)).map (·.2))).filter λx=>decide (x.2.nm=s.nm):=by
   rw[o];exact Wg.mpr ⟨i,h,rfl⟩
  exact (W0.mp this).1
 have sk:=I.K.s s (Wo hx).1
 have hw:s.rd.headD (OF "")∈p.wn:=by
  cases e:s.rd with
  | nil=>exact absurd e sk.r0
  | cons a l=>exact sk.r.subset (by rw[e];exact Wu)
 obtain ⟨w,hw',e⟩:=Wg.mp (show _∈p.ws.map Wy.nm from hw)
 obtain ⟨j,hj,ej⟩:=X4 hw'
 have hj2:j < (p.run n).ws.length:=by rw[I.lw];exact hj
 refine ⟨w,(p.run n).ws[j],?_,e,?_⟩
 ·rw[← ej,← Zg (h:=by simp;omega)];exact XB ..
 ·refine dm (l:=⟨s.nm,i,0,0,0⟩) ?_ rfl
  exact WN _ (Wg.mpr ⟨_,W0.mpr ⟨se,by rw[e];simp⟩,rfl⟩)
end
abbrev Row:=Nat×Str×Str
abbrev wS:Str:=OF "sent"
abbrev wI:Str:=OF "in"
abbrev wL:Str:=OF "lost"
abbrev wO:Str:=OF "out"
abbrev wT:Str:=OF "taken"
inductive NG (R:List Str):Row->Row->Prop
 | aJ (t:Nat) (u v:Str):v=wI∨v=wL->NG R (t,wS,u) (t,v,u)
 | a9 (t t':Nat) (u:Str):t < t'->NG R (t,wL,u) (t',wS,R.headD (OF ""))
 | taken (t t':Nat) (u:Str) (h:Nat):R[h]? = some u->h+1=R.length->t<=t'->NG R (t,wI,u) (t',wT,u)
 | out (t t':Nat) (u:Str) (h:Nat):R[h]? = some u->h+1 < R.length->t<=t'->NG R (t,wI,u) (t',wO,u)
 | next (t:Nat) (u u' v:Str) (h:Nat):R[h]? = some u->R[h+1]? = some u'->v=wI∨v=wL->NG R (t,wO,u) (t+1,v,u')
def Good (R:List Str)(rows:List Row):Prop:=(∀ j a b,rows[j]? = some a->rows[j+1]? = some b->NG R a b)/\∀ a,rows[0]? = some a->∃ t,a=(t,wS,R.headD (OF ""))
theorem xF (R:List Str):Good R []:=⟨λ_ _ _ h=>by simp at h,λ_ h=>by simp at h⟩
theorem gm {R:List Str}{rows:List Row}{b:Row}(h:Good R rows)(h0:rows=[]->∃ t,b=(t,wS,R.headD (OF "")))(h1:∀ a,rows.getLast? = some a->NG R a b):Good R (rows++[b]):=by
 refine ⟨λj a c ha hc=>?_,λa ha=>?_⟩
 ·by_cases q:j+1 < rows.length
  ·rw[XC (by omega)] at ha
   rw[XC q] at hc
   exact h.1 j a c ha hc
  ·have hl:j+1 < (rows++[b]).length:=(WL.mp hc).1
   have e:j+1=rows.length:=by rw[Wv] at hl;simp at hl;omega
   rw[e,Yp (WA _)] at hc
   simp at hc
   subst hc
   rw[XC (by omega)] at ha
   exact h1 a (by rw[zaE,← e];exact ha)
 ·cases rows with
  | nil=>
   obtain ⟨t,e⟩:=h0 rfl
   simp at ha
   exact ⟨t,by rw[← ha,e]⟩
  | cons x r=>exact h.2 a (by simpa using ha)
inductive Pl (p:Pn) (s:Sn) (x:Ss) (i:Int) (n:Nat):Option Row->Prop
 | new:x.nx<=i->(p.run n).fly (s.nm,i)=0->x.ag.count i+x.lo.count i=0->Pl p s x i n none
 | vF (t:Nat) (w:Wy):t < n->(p.run n).At p Ws.st (s.nm,i) w->Pl p s x i n (some (t,wI,w.nm))
 | comes (t:Nat) (w w':Wy) (h:Nat):n=t+1->(p.run n).At p Ws.cm (s.nm,i) w'->s.rd[h]? = some w.nm->s.rd[h+1]? = some w'.nm->Pl p s x i n (some (t,wO,w.nm))
 | Nt (t:Nat) (u:Str):t < n->1<=x.ag.count i+x.lo.count i->Pl p s x i n (some (t,wL,u))
 | gone (t:Nat) (u:Str):(p.run n).fly (s.nm,i)=0->x.ag.count i+x.lo.count i=0->0<=i->i < x.nx->Pl p s x i n (some (t,wT,u))
def Pn.gU (p:Pn)(k:Str×Int)(n:Nat):List Row:=(WQ n).flatMap λt=>(ofK k (p.evs (p.run t))).map λe=>(t,e.wd,e.wy)
theorem ma (p:Pn)(k:Str×Int)(n:Nat):p.gU k (n+1)=p.gU k n++(ofK k (p.evs (p.run n))).map λe=>(n,e.wd,e.wy):=by
 unfold Pn.gU
 rw[Zr,XG]
 simp
section
variable {p:Pn} {m:Int} {n:Nat} {s:Sn} {x:Ss} (K:p.Ok m) (hn:n<=1000) (hx:(s,x)∈Wl p.ss (p.run n).ss)
include K hn hx
theorem counts (i:Int):(p.run (n+1)).fly (s.nm,i)+cK (s.nm,i) (p.taken (p.run n))+cK (s.nm,i) (p.a9 (p.run n))<=(p.run n).fly (s.nm,i)+(x.bt p.g s ((p.run n).und x.nm)).2.count i/\
  (jg s (x.bt p.g s ((p.run n).und x.nm)).1 (p.a9 (p.run n)) (p.taken (p.run n))).ag.count i+(jg s (x.bt p.g s ((p.run n).und x.nm)).1 (p.a9 (p.run n)) (p.taken (p.run n))).lo.count i=(x.bt p.g s ((p.run n).und x.nm)).1.ag.count i+(x.bt p.g s ((p.run n).und x.nm)).1.lo.count i+cK (s.nm,i) (p.a9 (p.run n))/\
  (p.run n).fly (s.nm,i)+(x.bt p.g s ((p.run n).und x.nm)).2.count i+(x.bt p.g s ((p.run n).und x.nm)).1.ag.count i+(x.bt p.g s ((p.run n).und x.nm)).1.lo.count i<=(if 0<=i/\i < (x.bt p.g s ((p.run n).und x.nm)).1.nx then 1 else 0):=by
 have I:=p.bB K n (by omega)
 have F:=m8 I (by omega) (p.gj K n (by omega)) hx i
 have S:=zr (p:=p) (st:=p.run n) I.K.wd I.lw (s.nm,i)
 refine ⟨?_,?_,F.1⟩
 ·show (p.step (p.run n)).fly (s.nm,i)+_+_<=_
  omega
 ·have L:((own s.nm (p.a9 (p.run n))).map Lt.nu).count i=cK (s.nm,i) (p.a9 (p.run n)):=by
   unfold cK own
   generalize p.a9 (p.run n)=ls
   induction ls with
   | nil=>rfl
   | cons a r ih=>
    by_cases h:a.nm=s.nm
    ·by_cases h2:a.nu=i<;>simp[h,h2,XR,ih]
    ·have:¬ ((a.nm,a.nu)=(s.nm,i)):=λz=>h (by injection z)
     simp[h,this,XR,ih]
  show _+(dO ((x.bt p.g s ((p.run n).und x.nm)).1.lo++(own s.nm (p.a9 (p.run n))).map Lt.nu)).count i=_
  rw[nT,XH,L]
  show (x.bt p.g s ((p.run n).und x.nm)).1.ag.count i+_=_
  omega
theorem leave {i:Int}{w:Wy}{z:Lt}{rows:List Row}{t:Nat}(G:Good s.rd rows)(hl:rows.getLast? = some (t,wI,w.nm))(ht:t<=n)(g:Goes p (p.run n) (s.nm,i) w z)(on:1<=(p.run n).fly (s.nm,i)+(x.bt p.g s ((p.run n).und x.nm)).2.count i) :
  Good s.rd (rows++[(n,(evB p.ss w z).wd,w.nm)])/\Pl p s (jg s (x.bt p.g s ((p.run n).und x.nm)).1 (p.a9 (p.run n)) (p.taken (p.run n))) i (n+1) (some (n,(evB p.ss w z).wd,w.nm)):=by
 have I:=p.bB K n (by omega)
 obtain ⟨c1,c2,c3⟩:=counts K hn hx i
 obtain ⟨gk,⟨g0,gr⟩,gn,gv⟩:=g
 have zn:z.nm=s.nm:=congrArg (·.1) gk
 have rd:road p.ss z.nm=s.rd:=by rw[zn];exact DL I.sd (Wo hx).1
 rw[rd] at gr
 have hz:z.hp.toNat < s.rd.length:=(WL.mp gr).1
 have vi:rows≠[]:=λe=>by rw[e] at hl;cases hl
 by_cases hnx:bU p.ss z=none
 ·have ew:(evB p.ss w z).wd=wT:=by show (if _ then _ else _)=_;rw[if_pos hnx]
  rw[ew]
  have hlen:z.hp.toNat+1=s.rd.length:=by
   unfold bU at hnx
   rw[rd] at hnx
   have:=Yw.mp hnx
   omega
  have tk:=gn hnx
  refine ⟨gm G (λe=>absurd e vi) λa ha=>?_,?_⟩
  ·rw[hl] at ha;cases ha
   exact .taken t n w.nm _ gr hlen ht
  ·generalize hb:x.bt p.g s ((p.run n).und x.nm)=b at *
   by_cases q:0<=i/\i < b.1.nx
   ·rw[if_pos q] at c3
    exact .gone n w.nm (by omega) (by omega) q.1 q.2
   ·rw[if_neg q] at c3;omega
 ·have ew:(evB p.ss w z).wd=wO:=by show (if _ then _ else _)=_;rw[if_neg hnx]
  rw[ew]
  obtain ⟨v,hv⟩:=Option.ne_none_iff_exists'.mp hnx
  obtain ⟨w',e',at'⟩:=gv v hv
  unfold bU at hv
  rw[rd] at hv
  have hlen:z.hp.toNat+1 < s.rd.length:=(WL.mp hv).1
  refine ⟨gm G (λe=>absurd e vi) λa ha=>?_,?_⟩
  ·rw[hl] at ha;cases ha
   exact .out t n w.nm _ gr hlen ht
  ·exact .comes n w w' _ rfl at' gr (by rw[e'];exact hv)
theorem Qd {i:Int}{w:Wy}{ks:Ws}{rows:List Row}(G:Good s.rd rows)(hz:(w,ks)∈Wl p.ws (p.run n).ws)(hc:1<=cK (s.nm,i) (pass w p.sn ks (p.aJ (p.run n))).ca)(vi:rows≠[])(hng:∀ a v,v=wI∨v=wL->rows.getLast? = some a->NG s.rd a (n,v,w.nm))(on:1<=(p.run n).fly (s.nm,i)+(x.bt p.g s ((p.run n).und x.nm)).2.count i) :
  Good s.rd (rows++(ofK (s.nm,i) (p.told (p.run n))).map λe=>(n,e.wd,e.wy))/\Pl p s (jg s (x.bt p.g s ((p.run n).und x.nm)).1 (p.a9 (p.run n)) (p.taken (p.run n))) i (n+1) (rows++(ofK (s.nm,i) (p.told (p.run n))).map λe=>(n,e.wd,e.wy)).getLast?:=by
 obtain ⟨c1,c2,c3⟩:=counts K hn hx i
 rcases (moves K hn hx i hz).2 hc with ⟨l,lk,e,at'⟩ | ⟨l,z,lk,e,g⟩ | ⟨l,lk,e,lo⟩
 ·rw[e]
  show Good s.rd (rows++[(n,wI,w.nm)])/\Pl p s _ i (n+1) (rows++[(n,wI,w.nm)]).getLast?
  rw[Ye]
  exact ⟨gm G (λe=>absurd e vi) λa ha=>hng a _ (.inl rfl) ha,.vF n w (by omega) at'⟩
 ·rw[e]
  have G1:Good s.rd (rows++[(n,wI,w.nm)]):=gm G (λe=>absurd e vi) λa ha=>hng a _ (.inl rfl) ha
  have:=leave K hn hx (t:=n) G1 (by rw[Ye];rfl) (WA _) g on
  show Good s.rd (rows++[(n,wI,w.nm),(n,(evB p.ss w z).wd,w.nm)])/\Pl p s _ i (n+1) (rows++[(n,wI,w.nm),(n,(evB p.ss w z).wd,w.nm)]).getLast?
  rw[Ye]
  simp only[Y3] at this
  exact this
 ·rw[e]
  show Good s.rd (rows++[(n,wL,w.nm)])/\Pl p s _ i (n+1) (rows++[(n,wL,w.nm)]).getLast?
  rw[Ye]
  exact ⟨gm G (λe=>absurd e vi) λa ha=>hng a _ (.inr rfl) ha,.Nt n w.nm (by omega) (by rw[c2];omega)⟩
theorem LN {i:Int}{rows:List Row}(G:Good s.rd rows)(P:Pl p s x i n rows.getLast?) :
  Good s.rd (rows++(ofK (s.nm,i) (p.evs (p.run n))).map λe=>(n,e.wd,e.wy))/\Pl p s (jg s (x.bt p.g s ((p.run n).und x.nm)).1 (p.a9 (p.run n)) (p.taken (p.run n))) i (n+1) (rows++(ofK (s.nm,i) (p.evs (p.run n))).map λe=>(n,e.wd,e.wy)).getLast?:=by
 have I:=p.bB K n (by omega)
 obtain ⟨c1,c2,c3⟩:=counts K hn hx i
 have bc:=(AK p.g s x ((p.run n).und x.nm) (I.ss _ hx).l i)
 rw[D1 K hn hx i]
 have le1:(p.run n).fly (s.nm,i)+(x.bt p.g s ((p.run n).und x.nm)).2.count i+(x.bt p.g s ((p.run n).und x.nm)).1.ag.count i+(x.bt p.g s ((p.run n).und x.nm)).1.lo.count i<=1:=by split at c3<;>omega
 clear c3
 have S:=λh=>Nr K hn hx (i:=i) h
 have Q:=λh0 h1=>quiet K hn hx (i:=i) h0 h1
 have AR:=λ{w ks rows} G hz hc nn hng on=>Qd (w:=w) (ks:=ks) (rows:=rows) (i:=i) K hn hx G hz hc nn hng on
 have LV:=λ{w z rows t} G hl ht g on=>leave (w:=w) (z:=z) (rows:=rows) (t:=t) (i:=i) K hn hx G hl ht g on
 have MV:=λ{w ks} hz=>moves (w:=w) (ks:=ks) K hn hx i hz
 have sn:∀ (h:i∈(x.bt p.g s ((p.run n).und x.nm)).2),(rows=[]∨∃ t u,rows.getLast? = some (t,wL,u)/\t < n)->Good s.rd (rows++((if i∈(x.bt p.g s ((p.run n).und x.nm)).2 then [evS s i] else [])++ofK (s.nm,i) (p.told (p.run n))).map λe=>(n,e.wd,e.wy))/\Pl p s (jg s (x.bt p.g s ((p.run n).und x.nm)).1 (p.a9 (p.run n)) (p.taken (p.run n))) i (n+1) (rows++((if i∈(x.bt p.g s ((p.run n).und x.nm)).2 then [evS s i] else [])++ofK (s.nm,i) (p.told (p.run n))).map λe=>(n,e.wd,e.wy)).getLast?:=λh hr=>by
  obtain ⟨w,ks,hz,ew,hc⟩:=S h
  rw[if_pos h,W2,← Y3]
  have h2:=Xz.mpr h
  refine AR (rows:=rows++[(n,wS,s.rd.headD (OF ""))]) ?_ hz hc (by simp) (λa v hv ha=>?_) (by omega)
  ·refine gm G (λ_=>⟨n,rfl⟩) λa ha=>?_
   rcases hr with e | ⟨t,u,e,tn⟩
   ·rw[e] at ha;cases ha
   ·rw[e] at ha;cases ha
    exact .a9 t n u tn
  ·rw[Ye] at ha
   cases ha
   rw[ew]
   exact .aJ n _ v hv
 generalize hL:rows.getLast? = L at P
 cases P with
 | new h1 h2 h3=>
  have e:rows=[]:=zaF.mp hL
  by_cases q:i∈(x.bt p.g s ((p.run n).und x.nm)).2
  ·exact sn q (.inl e)
  ·rw[if_neg q,Q h2 q,e]
   have z:=X9.mpr q
   have hnx:(x.bt p.g s ((p.run n).und x.nm)).1.nx<=i:=by
    by_cases y:i < (x.bt p.g s ((p.run n).und x.nm)).1.nx
    ·exfalso
     obtain ⟨A,c,eA,hA,eN⟩:=FX p.g s x ((p.run n).und x.nm) (I.ss _ hx).l
     refine q ?_
     rw[eA]
     refine WN _ (Xz.mp ?_)
     rw[Dz,if_pos (by omega)]
     exact Nat.one_pos
    ·omega
   have hb:=bc.1
   rw[if_neg (by omega)] at hb
   exact ⟨xF _,.new hnx (by omega) (by rw[c2];omega)⟩
 | vF t w ht at'=>
  obtain ⟨ks,hz,hk⟩:=id at'
  have fl:=HK (λs=>by rw[bX];omega) at'
  have q:i ∉ (x.bt p.g s ((p.run n).und x.nm)).2:=λy=>by have:=Xz.mpr y;omega
  rw[if_neg q]
  rcases (MV hz).1 hk with ⟨e,a2⟩ | ⟨z,e,g⟩
  ·rw[XJ,e,Yb,WS,hL]
   exact ⟨G,.vF t w (by omega) a2⟩
  ·rw[XJ,e]
   have:=LV G hL (by omega) g (by omega)
   show Good s.rd (rows++[(n,(evB p.ss w z).wd,w.nm)])/\Pl p s _ i (n+1) (rows++[(n,(evB p.ss w z).wd,w.nm)]).getLast?
   rw[Ye]
   exact this
 | comes t w w' h hn' at' r1 r2=>
  obtain ⟨ks,hz,hk⟩:=id at'
  have fl:=HK (λs=>by rw[bX];omega) at'
  have q:i ∉ (x.bt p.g s ((p.run n).und x.nm)).2:=λy=>by have:=Xz.mpr y;omega
  rw[if_neg q,XJ]
  refine AR G hz (by show 1<=cK (s.nm,i) (ks.cm++_);rw[bX];omega) (λe=>by rw[e] at hL;cases hL) (λa v hv ha=>?_) (by omega)
  rw[hL] at ha
  cases ha
  subst hn'
  exact .next t _ _ v h r1 r2 hv
 | Nt t u ht h1=>
  by_cases q:i∈(x.bt p.g s ((p.run n).und x.nm)).2
  ·exact sn q (.inr ⟨t,u,hL,ht⟩)
  ·have z:=X9.mpr q
   have hb:=bc.1
   have f0:(p.run n).fly (s.nm,i)=0:=by split at hb<;>omega
   rw[if_neg q,XJ,Q f0 q,Yb,WS,hL]
   exact ⟨G,.Nt t u (by omega) (by rw[c2];split at hb<;>omega)⟩
 | gone t u h1 h2 h3 h4=>
  have hb:=bc.1
  rw[if_neg (by omega)] at hb
  have q:i ∉ (x.bt p.g s ((p.run n).und x.nm)).2:=λy=>by have:=Xz.mpr y;omega
  have z:=X9.mpr q
  rw[if_neg q,XJ,Q h1 q,Yb,WS,hL]
  refine ⟨G,.gone t u (by omega) (by rw[c2];omega) h3 ?_⟩
  show i < (x.bt p.g s ((p.run n).und x.nm)).1.nx
  have:=bc.2
  omega
end
theorem oB {p:Pn}{m:Int}(K:p.Ok m){i:Int}(h0:0<=i):∀ n:Nat,n<=1000->∀ s x,(s,x)∈Wl p.ss (p.run n).ss->Good s.rd (p.gU (s.nm,i) n)/\Pl p s x i n (p.gU (s.nm,i) n).getLast?
 | 0,_,s,x,hx=>by
  have I:=p.bB K 0 (by omega)
  have X:=I.nx x (Wo hx).2
  have O:=p.gj K 0 (by omega) x (Wo hx).2 i
  rw[I.znm hx,if_neg (by omega)] at O
  simp only at O
  exact ⟨xF _,.new (by omega) (by omega) (by omega)⟩
 | n+1,hn,s,x',hx'=>by
  have I:=p.bB K n (by omega)
  rw[show (p.run (n+1)).ss=Xj (λs b=>jg s b.1 (p.a9 (p.run n)) (p.taken (p.run n))) p.ss (p.bD (p.run n)) from rfl,bC,df (λy:Sn×(Ss×List Int)=>jg y.1 y.2.1 (p.a9 (p.run n)) (p.taken (p.run n)))] at hx'
  obtain ⟨⟨s',b⟩,hb,e⟩:=Wg.mp hx'
  cases e
  obtain ⟨x,hx,eb⟩:=I.zb (y:=(s',b)) hb
  simp only at eb hx
  subst eb
  obtain ⟨G,P⟩:=oB K h0 n (by omega) s' x hx
  rw[ma]
  exact LN K (by omega) hx G P
section
open PySem PySem.Spec PyProof.Rows L2
theorem JM {M:Model}{A:Xn}{E:We->Wh->Prop}{s:Wh}{β:Type}(f:Nat->β->Sem (ForInStep β))(Iv:Nat->β->Wh->Prop)(Q:β->Wh->Prop)(n:Nat)
  (turn:∀ i b s,i < n->Iv i b s->WJ M A (f i b) (λr s'=>match r with | .yield b'=>Iv (i+1) b' s' | .done b'=>Q b' s') E s)
  (fin:∀ b s,Iv n b s->Q b s) (b:β) (h:Iv 0 b s):WJ M A (forIn [0:n] b f) Q E s:=by
 rw[zb3];refine wpAny_forIn_list f (λr b s=>∃ i,r=zdr i (n - i)/\i<=n/\Iv i b s) Q ?_ ?_ _ b ⟨0,by simp[zd9],Xx _,h⟩
 ·rintro x rest b s ⟨i,e,hi,hv⟩
  cases hn:n - i with
  | zero=>rw[hn] at e;cases e
  | succ k=>
   rw[hn,Z3] at e
   obtain ⟨rfl,rfl⟩:=List.cons.inj e
   refine Xu (turn x b s (by omega) hv) (λr s' q=>?_) λ_ _ q=>q
   cases r with
   | yield b'=>exact ⟨x+1,by rw[show n - (x+1)=k by omega],by omega,q⟩
   | done b'=>exact q
 ·rintro b s ⟨i,e,hi,hv⟩
  have:n - i=0:=by
   cases hn:n - i with
   | zero=>rfl
   | succ k=>rw[hn,Z3] at e;cases e
  rw[show i=n by omega] at hv
  exact fin b s hv
theorem ze (l:Addr)(items:Array We)(n:Nat)(dd:Option Addr)(sl:Array (Option We))(x:We)(e:We->Bool)(j:Nat)(hj:j < items.size)(hit:e items[j]=true)(hno:∀ m (hm:m < items.size),m < j->e items[m]=false) :
  Meets (ZP.«tuple.index» ⟨[.ref l,x],[]⟩)
   (λA R s=>s.heap.get? l=some { cls:=.type "tuple", dict:=dd,data:=.seq items n,slots:=sl }/\(∀ y,y∈items->zbt A.in1 s y x (e y))/\R (.ok (.ret (.int j s.toks))) { s with toks:=s.toks+1 }):=
 .of_wp λprog w A R s h=>by
  rcases s with ⟨hp,g,d,tk,os⟩
  obtain ⟨hl,he,h⟩:=h
  wp_walk using AutoSeq1.wpAny_loadPart' hl,JM _ (λi (b:Option Fin×Unit) s'=>b.1=none/\s'=⟨hp,g,d,tk,os⟩/\i<=j) _ _
  case turn=>
   rintro i b s' hi ⟨hb,rfl,hij⟩
   have hi':i < items.size:=by omega
   rw[show items[i]? = some items[i] from Array.getElem?_eq_getElem hi']
   refine Wb (he _ (Array.getElem_mem hi') prog w _ _ ?_)
   by_cases z:i=j
   ·subst z
    rw[hit]
    wp_walk
    exact ⟨_,rfl,h⟩
   ·rw[hno i hi' (by omega)]
    wp_walk
    exact ⟨rfl,rfl,by omega⟩
  case fin=>
   rintro b s' ⟨hb,rfl,hij⟩
   omega
  case h=>exact ⟨rfl,rfl,Xx _⟩
theorem Ic {X:Cx}(hu:X.A.units+64 < cLine):MtM X "tuple.index" (λx vs H Q=>∃ p xs y ds dy,∃ j:Nat,x=.ref p/\vs=[y]/\SqT X.K H p xs/\DpL X.K H xs ds/\Dp X.K H y dy/\ck 38 ds=true/\okD 38 dy=true/\oq ds dy=some j/\Q (.int j) H):=by
 intro pins s σ H x vs v us Q I rx rv h
 obtain ⟨p,xs,y,ds,dy,j,rfl,rfl,sq,l,py,ok,oy,hj,q⟩:=h
 cases (show v=W5 p from rx)
 obtain ⟨u,rfl,ru⟩:=rv.one
 obtain ⟨its,r,⟨o,e,c,n,hdat⟩,_⟩:=I.tuple sq
 obtain ⟨bs,rb⟩:=eU I py oy ru
 have he:s.heap.get? p=some ⟨.type "tuple", o.dict,.seq its.toArray n,o.slots⟩:=by
  rw[e];obtain ⟨c',dd,dt,sl⟩:=o;simp only at c hdat;subst c hdat;rfl
 unfold oq at hj
 rw[Yu] at hj
 obtain ⟨h1,h2,h3⟩:=hj
 have hl:ds.length=its.length:=by rw[← l.length,r.length]
 have at':∀ m (hm:m < its.toArray.size),∃ d,ds[m]? = some d/\mK s.heap (toP dy) its.toArray[m]=eqD d dy/\zbt X.A.in1 s its.toArray[m] u (mK s.heap (toP dy) its.toArray[m]):=λm hm=>
  item_at I l r ok oy rb hu (by simp at hm ⊢)
 refine Z0 F.slot_tuple_index ⟨_,he,rfl⟩ F.entry_tuple_index (F.args_tuple_index_2 _ _) (ze p its.toArray n o.dict o.slots u (mK s.heap (toP dy)) j (by simp;omega) ?_ ?_) ⟨he,λw hw=>?_,?_⟩
 ·obtain ⟨d,e1,e2,_⟩:=at' j (by simp;omega)
  rw[e2]
  rw[Wz h1] at e1;cases e1
  exact h2
 ·intro m hm hlt
  obtain ⟨d,e1,e2,_⟩:=at' m hm
  rw[e2]
  have hm':m < ds.length:=by simp at hm;omega
  rw[Wz hm'] at e1;cases e1
  have:=h3 m hlt
  simpa using this
 ·obtain ⟨m,hm,rfl⟩:=ZW.mp hw
  obtain ⟨d,_,_,e3⟩:=at' m hm
  exact e3
 ·exact ⟨.int j,H,I.tok _,⟨_,rfl⟩,q⟩
theorem O7 {X:Cx}{o e:WR}{es:List WR}{to:TE}{t:TA}{name:Str}{apos cpos:Pos}{id:String}{r:V->List V->Hp->VK->Prop}(slot:Slot "tuple" name id)(hty:typeOf (.builtin id)=pure (.type "method_descriptor"))(hm:MtM X id r)(ho:PE X o to)(ha:PA X (e::es) t)
  (hbase:YW o name X.env (Xw o X.env)=Xw o X.env:=by rfl)
  (hfew:((XA cpos (Ww (e::es) X.env)).all (λx=>!x.1)&&(Z4 cpos (YN [] X.env)).all (λx=>x.1.isSome)
   && decide ((e::es).length+([]:List YS).length+(if ([]:List YS).isEmpty then 0 else 1) < 30))=true:=by rfl)
  (hline:(apos.endLine == cpos.line)=true:=by rfl) (hs:Ww (e::es) X.env=(false,Xw e X.env)::Ww es X.env:=by rfl) (hplain:(XA cpos (Ww es X.env)).any (·.1)=false:=by rfl) :
  PE X (.Call (.Attribute o name apos) (e::es) [] cpos) (λσ H Q=>to σ H λx H1=>(∃ p xs,x=.ref p/\SqT X.K H1 p xs)/\t σ H1 λxs H2=>r x xs H2 Q):=by
 intro pins s σ H Q I h
 refine zbl hbase hfew hline rfl (thn (ho pins s σ H _ I h) λv s1 ⟨x,H1,I1,r1,⟨p,ys,ex,sq⟩,q1⟩=>?_)
 subst ex
 cases (show v=W5 p from r1)
 obtain ⟨ob,he,hc,hd⟩:=I1.RO sq
 refine ⟨"tuple", id,PySem.F.plainAttrs_tuple,slot,hty,⟨ob,he,hc⟩,(λa e=>by cases e;exact ⟨ob,he,hd⟩),?_⟩
 have hA:=ha cpos pins s1 σ H1 _ I1 q1
 rw[hs] at hA ⊢
 refine zbm (by show (false || (XA cpos (Ww es X.env)).any (·.1))=false;rw[hplain]<;>rfl) (zbQ ?_)
 exact thn hA λus s2 ⟨vs,H2,I2,r2,q2⟩=>hm pins s2 σ H2 _ vs _ us Q I2 r1 r2 q2
def kTp (x:D)(f:List D->Prop):Prop:=match x with
 | .tup ds=>f ds
 | _=>False
def qz (To Ti:ETr):ETr:=λρ μ Q=>To ρ μ λx μ1=>kTp x λds=>Ti ρ μ1 λy μ2=>(ck 38 ds=true/\okD 38 y=true)/\kN (oq ds y) λj=>Q (.int j) μ2
theorem uR {X:Cx}{o i:WR}{apos cpos:Pos}{To Ti:ETr}(hu:X.A.units+64 < cLine)(ho:LE X o To)(hi:LE X i Ti)
  (hbase:YW o "index" X.env (Xw o X.env)=Xw o X.env:=by rfl)
  (hfew:((XA cpos (Ww [i] X.env)).all (λx=>!x.1)&&(Z4 cpos (YN [] X.env)).all (λx=>x.1.isSome)
   && decide (([i]:List WR).length+([]:List YS).length+(if ([]:List YS).isEmpty then 0 else 1) < 30))=true:=by rfl)
  (hline:(apos.endLine == cpos.line)=true:=by rfl) (hs:Ww [i] X.env=(false,Xw i X.env)::Ww [] X.env:=by rfl) (hplain:(XA cpos (Ww [] X.env)).any (·.1)=false:=by rfl) :
  LE X (.Call (.Attribute o "index" apos) [i] [] cpos) (qz To Ti):=by
 obtain ⟨to,po,so⟩:=ho.ex
 obtain ⟨ti,pi,si⟩:=hi.ex
 refine ⟨_,O7 PySem.F.slot_tuple_index PySem.F.type_tuple_index (Ic hu) po (ft pi i9 hs) hbase hfew hline hs hplain,λσ H ρ μ Q Q' rl h k=>so σ H ρ μ _ _ rl h λx H1 dx μ1 t1 m1 p1 h1=>?_⟩
 cases p1 with
 | @tup a xs ds sq l=>
  refine ⟨⟨a,xs,rfl,sq⟩,si σ H1 ρ μ1 _ _ (rl.go t1 m1) h1 λy H2 dy μ2 t2 m2 p2 h2=>?_⟩
  obtain ⟨⟨o1,o2⟩,h2⟩:=h2
  obtain ⟨j,ej,h2⟩:=CH h2
  cases (Dp.tup sq l).mono t2 with
  | tup sq' l'=>exact ⟨a,_,y,ds,dy,j,rfl,rfl,sq',l',p2,o1,o2,ej,k _ H2 _ μ2 (t1.trans t2) m2 (.int _) h2⟩
 | _=>exact Wm h1
end
section
open PySem PySem.Spec PyProof.Rows L2
section
variable {X:Cx} {a b c d:WR} {ta tb tc td:TE} {Ta Tb Tc Td:ETr} {pos:Pos} {o1 o2 o3:CmpOp} {r1 r2 r3:L2.R2} {R1 R2 R3:DR2}
end
end
section
open PySem PySem.Spec PyProof.Rows L2
section
variable {X:Cx} {tg a b:WR} {Ta Tb:ETr} {pos:Pos}
end
end
section
open PySem PySem.Spec PyProof.Rows L2
end
section
open PySem PySem.Spec PyProof.Rows L2
section
variable {X:Cx} {o i:WR} {apos cpos:Pos}
end
end
section
open PySem PySem.Spec PyProof PyProof.Rows L2
section
variable {X:Cx} {o:WR} {apos cpos pos p:Pos} {x:Str}
end
end
section
open PySem PySem.Spec PyProof.Rows L2
end
section
open PySem PySem.Spec PyProof.Rows L2
section
variable {X:Cx} {i o:WR} {pos:Pos} {Ti To:ETr}
end
end
end L3
namespace Kk
local macro_rules | `(tactic| walk_at "ln")=>`(tactic| (intro ds μ Q h;split at h;rfl;exact h.elim))
open PySem L3
local macro_rules | `(tactic| walk_at "go")=>zzS "↓L3.S4 L3.Ft ↓L3.zE ↓L3.As ↓L3.yY ↓L3.yV ↓L3.ya ↓L3.Aj ↓L3.kZ ↓L3.jo L3.cB L3.b8 L3.cI L3.cy L3.cJ L3.cw L3.c5 L3.cU L3.b7 L3.cA L3.cx L3.cC L3.cz L3.cZ L3.cD L3.cW L3.cF L3.c7 L3.cH L3.cY L3.je L3.w4 L3.wW L3.fk List.map_cons List.map_nil List.replicate List.cons_append List.nil_append L3.lk L3.zA L3.kA L3.yg L3.ET L3.gR L3.b6 L3.qT L3.fB L3.uX L3.vh L3.lq L3.iG L3.oj L3.nR L3.kM L3.lr L3.kU L3.lu true_and and_true and_self Bool.not_true Bool.not_false decide_true decide_false Bool.or_true Bool.or_false Bool.true_or Bool.false_or Bool.and_false Bool.false_and Bool.and_true Bool.true_and Int.reduceToNat Int.reducePow Int.reduceNeg Int.reduceSub Int.reduceAdd Int.reduceMul Int.reduceEq Int.reduceLT Int.reduceLE Int.reduceBEq L3.iC L3.gi L3.fN L3.fY L3.gf L3.gh L3.fS L3.fO if_true if_false Bool.false_eq_true reduceCtorEq decide_eq_true_eq"
local macro_rules | `(tactic| walk_at "ok")=>`(tactic| (simp only[L3.kC,L3.MulOk,L3.S64,L3.gw,L3.sj] at *;omega))
local macro_rules | `(tactic| walk_at "ini")=>`(tactic| simp only[ini,List.map,List.length,List.replicate,Nat.reduceSub,Nat.reduceAdd,Nat.sub_self,List.cons_append,List.nil_append,List.append_nil])
def sy:FSp:=λds μ Q=>kcA ds λd ds=>kcI ds λn ds=>kcN ds (∃ (p:Pn) (m:Int) (j:Nat),(d=p.toD/\p.Ok m/\n=j/\j<=1000)/\Q (.tup [(p.run j).toD p.g,.ls (p.rows j)]) μ)
theorem KR:∀ ds μ Q,sy ds μ Q->ds.length=2:=λ_ _ _ h=>lcA h λ_ _ h=>lcI h λ_ _ h=>by rw[(ecN h).1];rfl
def OA:STr:=aB (aO (au L3.nB (af (ah 0) (aq))) (aA 2)) (aB (aO (mT (aq)) (aA 3)) (aB (iq (fW (ah 1)) (aA 4) (aB (aO (au L3.i6 (af (ah 0) (af (ah 2) (aq)))) (aA 5)) (aB (aO (aj L3.rIx (ah 5) (TC (.int 0))) (aA 2)) (fv (nz (ah 3) (aj L3.rIx (ah 5) (TC (.int 1)))))))) (aW (bf (af (ah 2) (af (uj (ah 3)) (aq)))))))
theorem R8:∀ ds μ Q,sy ds μ Q->OA { nx:=λ_ μ'=>RT Q .non μ',rt:=RT Q } (ini 6 ds) μ:=by
 intro ds μ Q h
 replace h:=ecA h
 obtain ⟨d,ds,rfl,h⟩:=h
 replace h:=ecI h
 obtain ⟨n,ds,rfl,h⟩:=h
 replace h:=ecN h
 obtain ⟨rfl,h⟩:=h
 walk_at "ini"
 unfold OA
 walk_at "go"
 obtain ⟨p,m,j,⟨rfl,K,rfl,hj⟩,k⟩:=h
 have w1:=K.w1
 have s1:=K.s1
 refine ⟨p,⟨rfl,λx hx=>(K.s x hx).k,K.g,by omega,by omega⟩,?_⟩
 walk_at "go"
 intro q hq
 walk_at "go"
 refine ⟨⟨by omega,by omega⟩,?_⟩
 rw[ZL]
 refine bR (λr ρ μ'=>∃ (i:Nat) (v4 v5:Option D),i+r.length=j/\ρ=[some p.toD,some (.int j),some ((p.run i).toD p.g),some (.obj q),v4,v5]/\μ'=up μ q (.lst (p.rows i))) ?_ ?_ _ _ _ ⟨0,_,_,by rw[eG];omega,rfl,rfl⟩
 ·rintro ρ μ' ⟨i,v4,v5,e,rfl,rfl⟩
  have e:i=j:=by simpa using e
  subst e
  walk_at "go"
  rw[oP hq]
  exact ⟨_,.refl _,k⟩
 ·rintro d r ρ μ' N ⟨i,v4,v5,e,rfl,rfl⟩ hN
  rw[WU] at e
  have I:=p.bB K i (by omega)
  walk_at "go"
  refine ⟨p,p.run i,⟨⟨rfl,rfl⟩,I.rd (by omega)⟩,?_⟩
  walk_at "go"
  refine ⟨by unfold Pn.rows;simp;omega,hN _ _ ⟨i+1,_,_,by omega,rfl,?_⟩⟩
  unfold Pn.rows
  rw[Zr,W2]
  rfl
def l4 (k:Str×Int)(ls:List Lt):D:=if 1<=cK k ls then .int (ls.findIdx λl=>decide (l.key=k):Nat) else .non
def eZ:FSp:=λds μ Q=>kcT ds λxs ds=>kcS ds λa ds=>kcI ds λi ds=>kcN ds (∃ ls:List Lt,(xs=ltD ls/\(∀ l∈ls,Wj l.nm=true)/\Wj a=true/\ls.length<=100000)/\Q (l4 (a,i) ls) μ)
theorem pO:∀ ds μ Q,eZ ds μ Q->ds.length=3:=λ_ _ _ h=>lcT h λ_ _ h=>lcS h λ_ _ h=>lcI h λ_ _ h=>by rw[(ecN h).1];rfl
def lM:STr:=aB (iq (zB (af (ah 0) (aq))) (de [3,4]) (bI (mG (TB (aj rEq (aj L3.rIx (ah 4) (TC (.int 0))) (ah 1))) (TB (aj rEq (aj L3.rIx (ah 4) (TC (.int 1))) (ah 2)))) (aW (ah 3)) (a8))) (aW (TC .non))
theorem qN:∀ ds μ Q,eZ ds μ Q->lM { nx:=λ_ μ'=>RT Q .non μ',rt:=RT Q } (ini 5 ds) μ:=by
 intro ds μ Q h
 replace h:=ecT h
 obtain ⟨xs,ds,rfl,h⟩:=h
 replace h:=ecS h
 obtain ⟨a,ds,rfl,h⟩:=h
 replace h:=ecI h
 obtain ⟨i,ds,rfl,h⟩:=h
 replace h:=ecN h
 obtain ⟨rfl,h⟩:=h
 walk_at "ini"
 unfold lM
 walk_at "go"
 obtain ⟨ls,⟨rfl,hl,ha,ll⟩,k⟩:=h
 have en:gJ (ltD ls)=(ls.zipIdx 0).map λy=>.tup [.int (y.2:Nat),y.1.toD]:=by
  unfold gJ
  refine zdi (by simp) λj h1 h2=>?_
  simp
 walk_at "go"
 rw[en]
 refine bR (λr ρ μ'=>∃ (dn rs:List Lt) (v3 v4:Option D),r=(rs.zipIdx dn.length).map (λy=>.tup [.int (y.2:Nat),y.1.toD])/\dn++rs=ls/\cK (a,i) dn=0/\ρ=[some (.tup (ltD ls)),some (.str a),some (.int i),v3,v4]/\μ'=μ) ?_ ?_ _ _ _ ⟨[],ls,_,_,rfl,rfl,rfl,rfl,rfl⟩
 ·rintro ρ μ' ⟨dn,rs,v3,v4,er,es,c0,rfl,rfl⟩
  cases rs with
  | cons _ _=>cases er
  | nil=>
  rw[WS] at es
  subst es
  walk_at "go"
  unfold l4 at k
  rw[if_neg (by omega)] at k
  exact ⟨_,.refl _,k⟩
 ·rintro d r ρ μ' N ⟨dn,rs,v3,v4,er,es,c0,rfl,rfl⟩ hN
  cases rs with
  | nil=>cases er
  | cons l rs=>
  rw[za3] at er
  cases er
  have hm:l∈ls:=by rw[← es];simp
  walk_at "go"
  refine ⟨⟨hl l hm,ha⟩,?_⟩
  have more:l.key≠(a,i)->N [some (.tup (ltD ls)),some (.str a),some (.int i),some (.int (dn.length:Nat)),some l.toD] μ':=λhk=>hN _ _ ⟨dn++[l],rs,_,_,by rw[Wv];rfl,by rw[← es];simp,by rw[bX];unfold cK at c0 ⊢;simp[c0,hk],rfl,rfl⟩
  refine kif (λh1=>kif (λh2=>?_) λh2=>more λz=>h2 (congrArg (·.2) z)) λh1=>more λz=>h1 (congrArg (·.1) z)
  have hk:l.key=(a,i):=by rw[← h1,← h2]
  unfold l4 at k
  rw[if_pos (dm hm hk)] at k
  have no:(dn.findIdx λl=>decide (l.key=(a,i)))=dn.length:=by
   refine List.findIdx_eq_length.mpr λz hz=>?_
   by_cases q:z.key=(a,i)
   ·have:=dm hz q;omega
   ·simpa using q
  have e:(ls.findIdx λl=>decide (l.key=(a,i)))=dn.length:=by
   rw[← es,List.findIdx_append,no,if_neg (Ym _),List.findIdx_cons]
   simp[hk]
  rw[e] at k
  exact ⟨_,.refl _,k⟩
def me (k:Str×Int):List (Wy×Ws)->D
 | []=>.non
 | (w,s)::r=>if 1<=cK k s.st then .tup [.str "stands", .str w.nm,l4 k s.st] else if 1<=cK k s.cm then .tup [.str "comes", .str w.nm,l4 k s.cm] else me k r
def dE:FSp:=λds μ Q=>kcA ds λpd ds=>kcA ds λsd ds=>kcS ds λa ds=>kcI ds λi ds=>kcN ds (∃ (p:Pn) (st:St'),((pd=p.toD/\sd=st.toD p.g)/\(∀ w∈st.ws,w.Ok)/\Wj a=true/\∀ w∈st.ws,w.cm.length<=100000/\w.st.length<=100000)/\Q (me (a,i) (Wl p.ws st.ws)) μ)
theorem mR:∀ ds μ Q,dE ds μ Q->ds.length=4:=λ_ _ _ h=>lcA h λ_ _ h=>lcA h λ_ _ h=>lcS h λ_ _ h=>lcI h λ_ _ h=>by rw[(ecN h).1];rfl
def jF:STr:=aB (iq (kr (af (aj L3.rIx (ah 0) (TC (.int 1))) (af (aj L3.rIx (ah 1) (TC (.int 0))) (aq)))) (de [4,5]) (iq (eL (bf (af (bf (af (TC (.str "stands")) (af (aj L3.rIx (ah 5) (TC (.int 1))) (aq)))) (af (bf (af (TC (.str "comes")) (af (aj L3.rIx (ah 5) (TC (.int 0))) (aq)))) (aq))))) (de [6,7]) (aB (aO (au eZ (af (ah 7) (af (ah 2) (af (ah 3) (aq))))) (aA 8)) (bI (TB (aj ik (ah 8) (TC .non))) (aW (bf (af (ah 6) (af (aj L3.rIx (ah 4) (TC (.int 0))) (af (ah 8) (aq)))))) (a8))))) (aW (TC .non))
theorem nI:∀ ds μ Q,dE ds μ Q->jF { nx:=λ_ μ'=>RT Q .non μ',rt:=RT Q } (ini 9 ds) μ:=by
 intro ds μ Q h
 replace h:=ecA h
 obtain ⟨pd,ds,rfl,h⟩:=h
 replace h:=ecA h
 obtain ⟨sd,ds,rfl,h⟩:=h
 replace h:=ecS h
 obtain ⟨a,ds,rfl,h⟩:=h
 replace h:=ecI h
 obtain ⟨i,ds,rfl,h⟩:=h
 replace h:=ecN h
 obtain ⟨rfl,h⟩:=h
 walk_at "ini"
 unfold jF
 walk_at "go"
 obtain ⟨p,st,⟨⟨rfl,rfl⟩,hw,ha,hl⟩,k⟩:=h
 walk_at "go"
 rw[oI]
 refine bR (λr ρ μ'=>∃ (rs:List (Wy×Ws)) (v4 v5 v6 v7 v8:Option D),r=rs.map (λy=>.tup [y.1.toD,y.2.toD])/\(∀ y∈rs,y∈Wl p.ws st.ws)/\RT Q (me (a,i) rs) μ/\ρ=[some p.toD,some (st.toD p.g),some (.str a),some (.int i),v4,v5,v6,v7,v8]/\μ'=μ) ?_ ?_ _ _ _ ⟨Wl p.ws st.ws,_,_,_,_,_,rfl,λ_ h=>h,⟨_,.refl _,k⟩,rfl,rfl⟩
 ·rintro ρ μ' ⟨rs,v4,v5,v6,v7,v8,er,hs,k,rfl,rfl⟩
  cases rs with
  | cons _ _=>cases er
  | nil=>
  walk_at "go"
  exact k
 ·rintro d r ρ μ' N ⟨rs,v4,v5,v6,v7,v8,er,hs,k,rfl,rfl⟩ hN
  cases rs with
  | nil=>cases er
  | cons y rs=>
  cases er
  obtain ⟨w,s⟩:=y
  have hz:=hs (w,s) Wu
  have so:=hw s (Wo hz).2
  have sl:=hl s (Wo hz).2
  have Lok:∀ l∈s.cm++s.st,Wj l.nm=true:=so.n
  walk_at "go"
  simp only[forR]
  walk_at "go"
  refine ⟨s.st,⟨rfl,λl hl=>Lok l (WN _ hl),ha,sl.2⟩,?_⟩
  have k':RT Q (if 1<=cK (a,i) s.st then .tup [.str "stands", .str w.nm,l4 (a,i) s.st] else if 1<=cK (a,i) s.cm then .tup [.str "comes", .str w.nm,l4 (a,i) s.cm] else me (a,i) rs) μ':=k
  by_cases h1:1<=cK (a,i) s.st
  ·rw[if_pos h1] at k'
   unfold l4 at k' ⊢
   rw[if_pos h1] at k' ⊢
   walk_at "go"
   exact k'
  ·rw[if_neg h1] at k'
   have e1:l4 (a,i) s.st=.non:=by unfold l4;rw[if_neg h1]
   rw[e1]
   walk_at "go"
   refine ⟨s.cm,⟨rfl,λl hl=>Lok l (XU _ hl),ha,sl.1⟩,?_⟩
   by_cases h2:1<=cK (a,i) s.cm
   ·rw[if_pos h2] at k'
    unfold l4 at k' ⊢
    rw[if_pos h2] at k' ⊢
    walk_at "go"
    exact k'
   ·rw[if_neg h2] at k'
    have e2:l4 (a,i) s.cm=.non:=by unfold l4;rw[if_neg h2]
    rw[e2]
    walk_at "go"
    exact hN _ _ ⟨rs,_,_,_,_,_,rfl,λy hy=>hs y (WD _ hy),k',rfl,rfl⟩
def j7 (s:String):D:=.tup [.str (OF s)]
def lP (p:Pn)(st:St')(x:Ss)(i:Int):D:=if x.nx<=i then j7 "new" else if 1<=st.fly (x.nm,i) then me (x.nm,i) (Wl p.ws st.ws) else if i∈x.lo then j7 "lost" else if i∈x.ag then j7 "again" else j7 "taken"
theorem DZ {k:Str×Int}:∀ {zs:List (Wy×Ws)},(∀ y∈zs,cK k (y.2.cm++y.2.st)=0)->me k zs=.non
 | [],_=>rfl
 | (w,s)::r,h=>by
  have h1:=h (w,s) Wu
  rw[bX] at h1
  simp only at h1
  unfold me
  rw[if_neg (by omega),if_neg (by omega)]
  exact DZ λy hy=>h y (WD _ hy)
theorem rA {k:Str×Int}:∀ {zs:List (Wy×Ws)},(∃ y∈zs,1<=cK k (y.2.cm++y.2.st))->∃ y∈zs,∃ j:D,(1<=cK k y.2.st/\me k zs=.tup [.str "stands", .str y.1.nm,j])∨(1<=cK k y.2.cm/\me k zs=.tup [.str "comes", .str y.1.nm,j])
 | [],h=>by obtain ⟨_,h,_⟩:=h;cases h
 | (w,s)::r,h=>by
  by_cases h1:1<=cK k s.st
  ·exact ⟨(w,s),Wu,l4 k s.st,.inl ⟨h1,by unfold me;rw[if_pos h1]⟩⟩
  ·by_cases h2:1<=cK k s.cm
   ·exact ⟨(w,s),Wu,l4 k s.cm,.inr ⟨h2,by unfold me;rw[if_neg h1,if_pos h2]⟩⟩
   ·obtain ⟨y,hy,j,q⟩:=rA (k:=k) (zs:=r) (by
     obtain ⟨y,hy,q⟩:=h
     rcases Wx.mp hy with (e | hy)
     ·rw[e,bX] at q;simp only at q;omega
     ·exact ⟨y,hy,q⟩)
    refine ⟨y,WD _ hy,j,?_⟩
    have e:me k ((w,s)::r)=me k r:=by
     show (if 1<=cK k s.st then _ else if 1<=cK k s.cm then _ else me k r)=_
     rw[if_neg h1,if_neg h2]
    rw[e]
    exact q
theorem MC {ss:List Ss}{x:Ss}(nd:(ss.map Ss.nm).Nodup)(h:x∈ss):(ss.filter λy=>decide (y.nm=x.nm))=[x]:=by
 induction ss with
 | nil=>cases h
 | cons y r ih=>
  rw[Wr] at nd
  have ⟨n1,n2⟩:=W9.mp nd
  rcases Wx.mp h with (e | h)
  ·subst e
   have:(r.filter λy=>decide (y.nm=x.nm))=[]:=ZS.mpr λz hz q=>n1 (Wg.mpr ⟨z,hz,by simpa using q⟩)
   rw[Xe,if_pos (by simp),this]
  ·have:¬ y.nm=x.nm:=λe=>n1 (by rw[e];exact Wg.mpr ⟨x,h,rfl⟩)
   rw[Xe,if_neg (by simpa using this)]
   exact ih n2 h
theorem C6 (i:Int)(ns:List Int):inG (.int i) (di ns)=decide (i∈ns):=by
 unfold inG
 induction ns with
 | nil=>rfl
 | cons a r ih=>
  have:di (a::r)=.int a::di r:=rfl
  rw[this,YX,ih,qT]
  by_cases h:a=i
  ·simp[h]
  ·have h':¬ i=a:=λz=>h z.symm
   simp[h,h']
theorem Ot (ns:List Int):ck 38 (di ns)=true:=by
 induction ns with
 | nil=>rfl
 | cons a r ih=>
  have:di (a::r)=.int a::di r:=rfl
  rw[this,b6,zA,ih];rfl
def gO:FSp:=λds μ Q=>kcA ds λpd ds=>kcA ds λsd ds=>kcS ds λa ds=>kcI ds λi ds=>kcN ds (∃ (p:Pn) (m:Int) (n:Nat) (s:Sn) (x:Ss),((pd=p.toD/\sd=(p.run n).toD p.g)/\p.Ok m/\n<=1000/\a=s.nm/\(s,x)∈Wl p.ss (p.run n).ss)/\Q (lP p (p.run n) x i) μ)
theorem vW:∀ ds μ Q,gO ds μ Q->ds.length=4:=λ_ _ _ h=>lcA h λ_ _ h=>lcA h λ_ _ h=>lcS h λ_ _ h=>lcI h λ_ _ h=>by rw[(ecN h).1];rfl
def tF:STr:=aB (aO (aj L3.rIx (bZ (eL (aj L3.rIx (ah 1) (TC (.int 1)))) (aA 0) (TB (aj rEq (aj L3.rIx (ah 0) (TC (.int 0))) (ah 1))) (ah 0) 1 [2]) (TC (.int 0))) (aA 4)) (aB (bI (TB (aj rGe (ah 3) (aj L3.rIx (ah 4) (TC (.int 4))))) (aW (bf (af (TC (.str "new")) (aq)))) (a8)) (aB (aO (au dE (af (ah 0) (af (ah 1) (af (ah 2) (af (ah 3) (aq)))))) (aA 5)) (aB (bI (TB (aj ik (ah 5) (TC .non))) (aW (ah 5)) (a8)) (aB (bI (TB (aj (um false) (ah 3) (aj L3.rIx (ah 4) (TC (.int 7))))) (aW (bf (af (TC (.str "lost")) (aq)))) (a8)) (aW (lZ (TB (aj (um false) (ah 3) (aj L3.rIx (ah 4) (TC (.int 6))))) (bf (af (TC (.str "again")) (aq))) (bf (af (TC (.str "taken")) (aq)))))))))
theorem yj:∀ ds μ Q,gO ds μ Q->tF { nx:=λ_ μ'=>RT Q .non μ',rt:=RT Q } (ini 6 ds) μ:=by
 intro ds μ Q h
 replace h:=ecA h
 obtain ⟨pd,ds,rfl,h⟩:=h
 replace h:=ecA h
 obtain ⟨sd,ds,rfl,h⟩:=h
 replace h:=ecS h
 obtain ⟨a,ds,rfl,h⟩:=h
 replace h:=ecI h
 obtain ⟨i,ds,rfl,h⟩:=h
 replace h:=ecN h
 obtain ⟨rfl,h⟩:=h
 walk_at "ini"
 unfold tF
 walk_at "go"
 obtain ⟨p,m,n,s,x,⟨⟨rfl,rfl⟩,K,hn,rfl,hx⟩,k⟩:=h
 have I:=p.bB K n (by omega)
 have S:=Eb K (n:=n) (by omega)
 have nm:x.nm=s.nm:=I.znm hx
 have hm:=(Wo hx).2
 have sk:=(K.s s (Wo hx).1).n
 have sl:(p.run n).ss.length<=100:=S.z1.2
 have R:=I.rd (by omega)
 walk_at "go"
 refine kf (p.run n).ss (Ss.toD p.g) (λy=>if y.nm=s.nm then some (y.toD p.g) else none) rfl (by omega) (λy hy μ1 sb N m=>?_) ?_
 ·walk_at "go"
  refine ⟨⟨S.sn y hy,sk⟩,?_⟩
  by_cases h:y.nm=s.nm
  ·rw[if_pos h] at m
   refine cv h ?_
   walk_at "go"
   exact m
  ·rw[if_neg h] at m
   exact dq h m
 rw[eJ (λy:Ss=>y.nm=s.nm) (Ss.toD p.g),← nm,MC S.nd hm,Wr,Yb]
 walk_at "go"
 unfold lP at k
 by_cases h1:x.nx<=i
 ·rw[if_pos h1] at k
  refine cv h1 ?_
  walk_at "go"
  exact ⟨_,.refl _,k⟩
 rw[if_neg h1] at k
 refine dq h1 ?_
 walk_at "go"
 refine ⟨p,p.run n,⟨⟨rfl,rfl⟩,R.ws,S.sn x hm,λw hw=>by have:=S.z2 w hw;omega⟩,?_⟩
 by_cases h2:1<=(p.run n).fly (x.nm,i)
 ·rw[if_pos h2] at k
  obtain ⟨w,hw⟩:=OU (p:=p) I.lw h2
  obtain ⟨y,hy,j,q⟩:=rA (k:=(x.nm,i)) (zs:=Wl p.ws (p.run n).ws) (by
   rcases hw with (⟨ks,h3,h4⟩ | ⟨ks,h3,h4⟩)<;>exact ⟨_,h3,by rw[bX];simp only;omega⟩)
  rcases q with (⟨_,e⟩ | ⟨_,e⟩) <;>
  ·rw[e] at k ⊢
   walk_at "go"
   exact ⟨_,.refl _,k⟩
 ·rw[if_neg h2] at k
  have e:=DZ (k:=(x.nm,i)) (zs:=Wl p.ws (p.run n).ws) λy hy=>by
   have:=b5 (f:=λw:Ws=>cK (x.nm,i) (w.cm++w.st)) (Wo (a:=y.1) (b:=y.2) hy).2
   unfold St'.fly at h2
   omega
  rw[e]
  walk_at "go"
  refine ⟨Ot _,?_⟩
  rw[C6,C6]
  by_cases h3:i∈x.lo
  ·rw[if_pos h3] at k
   exact cv h3 ⟨_,.refl _,k⟩
  rw[if_neg h3] at k
  refine dq h3 ⟨Ot _,?_⟩
  by_cases h4:i∈x.ag
  ·rw[if_pos h4] at k
   exact cv h4 ⟨_,.refl _,k⟩
  ·rw[if_neg h4] at k
   exact dq h4 ⟨_,.refl _,k⟩
theorem Q2 (i0 i1 i2 i3:Nat)(x:Ev)(ρ:ST)(μ:Mu)(k:ST->Mu->Prop):de [i0,i1,i2,i3] x.toD ρ μ k=de [i0,i1,i2,i3] (.tup [.str x.wd,.str x.nm,.int x.nu,.str x.wy]) ρ μ k:=propext Wi
theorem enum_rows (p:Pn)(N:Nat):gJ (p.rows N)=(zdr 0 N).map λi:Nat=>.tup [.int i,.ls (evD (p.evs (p.run i)))]:=by
 unfold gJ Pn.rows
 rw[Wf,zaK,List.zipWith_map_right,List.zipWith_self,List.range_eq_range']
def iN (r:Row):D:=.tup [.int r.1,.str r.2.1,.str r.2.2]
theorem LK {ss:List Sn}{w:Wy}{x:Wt}{k:Str×Int}{es:List Ev}(h:Wev ss w x k es):es.length<=2:=by cases h<;>simp
theorem DO {p:Pn}{m:Int}{n:Nat}{s:Sn}{x:Ss}(K:p.Ok m)(hn:n<=1000)(hx:(s,x)∈Wl p.ss (p.run n).ss)(i:Int):(ofK (s.nm,i) (p.evs (p.run n))).length<=3:=by
 have I:=p.bB K n (by omega)
 have F:=m8 I (by omega) (p.gj K n (by omega)) hx i
 have one:(p.run n).fly (s.nm,i)+cK (s.nm,i) ((p.aJ (p.run n)).map (·.2))<=1:=by split at F<;>omega
 rw[D1 K hn hx i,Wv]
 have h1:(if i∈(x.bt p.g s ((p.run n).und x.nm)).2 then [evS s i] else []).length<=1:=by split<;>simp
 have h2:(ofK (s.nm,i) (p.told (p.run n))).length<=2:=by
  rcases rR I.K.wd I.lw one with ⟨e,_⟩ | ⟨y,hy,hy1,e,_⟩
  ·rw[e];simp
  ·rw[e];exact LK (wev (by omega))
 omega
theorem nQ {p:Pn}{m:Int}{s:Sn}(K:p.Ok m)(hs:s∈p.ss)(i:Int):∀ n:Nat,n<=1000->(p.gU (s.nm,i) n).length<=3*n
 | 0,_=>by simp[Pn.gU]
 | n+1,h=>by
  have ih:=nQ K hs i n (by omega)
  obtain ⟨x,hx⟩:=(p.bB K n (by omega)).RS hs
  have:=DO K (by omega) hx i
  rw[ma,Wv,Wf]
  omega
def nA:FSp:=λds μ Q=>kcA ds λpd ds=>kcS ds λa ds=>kcI ds λi ds=>kcI ds λj ds=>kcN ds (∃ (p:Pn) (m:Int) (s:Sn) (N:Nat),(pd=p.toD/\p.Ok m/\s∈p.ss/\a=s.nm/\j=N/\N<=1000)/\Q (.ls ((p.gU (s.nm,i) N).map iN)) μ)
theorem Fc:∀ ds μ Q,nA ds μ Q->ds.length=4:=λ_ _ _ h=>lcA h λ_ _ h=>lcS h λ_ _ h=>lcI h λ_ _ h=>lcI h λ_ _ h=>by rw[(ecN h).1];rfl
def CZ:STr:=aB (aO (mT (aq)) (aA 4)) (aB (iq (zB (af (aj L3.rIx (au sy (af (ah 0) (af (ah 3) (aq)))) (TC (.int 1))) (aq))) (de [5,6]) (iq (eL (ah 6)) (de [7,8,9,10]) (bI (mG (TB (aj rEq (ah 8) (ah 1))) (TB (aj rEq (ah 9) (ah 2)))) (fv (nz (ah 4) (bf (af (ah 5) (af (ah 7) (af (ah 10) (aq))))))) (a8)))) (aW (uj (ah 4))))
theorem Jc:∀ ds μ Q,nA ds μ Q->CZ { nx:=λ_ μ'=>RT Q .non μ',rt:=RT Q } (ini 11 ds) μ:=by
 intro ds μ Q h
 replace h:=ecA h
 obtain ⟨pd,ds,rfl,h⟩:=h
 replace h:=ecS h
 obtain ⟨a,ds,rfl,h⟩:=h
 replace h:=ecI h
 obtain ⟨i,ds,rfl,h⟩:=h
 replace h:=ecI h
 obtain ⟨j,ds,rfl,h⟩:=h
 replace h:=ecN h
 obtain ⟨rfl,h⟩:=h
 walk_at "ini"
 unfold CZ
 walk_at "go"
 obtain ⟨p,m,s,N,⟨rfl,K,hs,rfl,rfl,hN⟩,k⟩:=h
 have sk:=K.s s hs
 intro q hq
 walk_at "go"
 refine ⟨p,m,N,⟨rfl,K,rfl,hN⟩,?_⟩
 walk_at "go"
 rw[enum_rows]
 refine bR (λr ρ μ'=>∃ (n c:Nat) (v5 v6 v7 v8 v9 v10:Option D),r=(zdr n c).map (λi:Nat=>.tup [.int i,.ls (evD (p.evs (p.run i)))])/\n+c=N/\ρ=[some p.toD,some (.str s.nm),some (.int i),some (.int N),some (.obj q),v5,v6,v7,v8,v9,v10]/\μ'=up μ q (.lst ((p.gU (s.nm,i) n).map iN))) ?_ ?_ _ _ _ ⟨0,N,_,_,_,_,_,_,rfl,by omega,rfl,rfl⟩
 ·rintro ρ μ' ⟨n,c,v5,v6,v7,v8,v9,v10,er,en,rfl,rfl⟩
  have:c=0:=by cases c with | zero=>rfl | succ c=>rw[Z3] at er;cases er
  subst this
  have en:n=N:=by omega
  subst en
  walk_at "go"
  rw[oP hq]
  exact ⟨_,.refl _,k⟩
 ·rintro d r ρ μ' N' ⟨n,c,v5,v6,v7,v8,v9,v10,er,en,rfl,rfl⟩ hN'
  cases c with
  | zero=>cases er
  | succ c=>
  rw[Z3,Wr] at er
  cases er
  have I:=p.bB K n (by omega)
  have R:=I.rd (by omega)
  have sl:=nQ K hs i n (by omega)
  obtain ⟨x,hx⟩:=I.RS hs
  have few:=DO K (by omega) hx i
  walk_at "go"
  refine bR (λr ρ μ'=>∃ (dn rs:List Ev) (w7 w8 w9 w10:Option D),r=evD rs/\dn++rs=p.evs (p.run n)/\ρ=[some p.toD,some (.str s.nm),some (.int i),some (.int N),some (.obj q),some (.int n),some (.ls (evD (p.evs (p.run n)))),w7,w8,w9,w10]/\μ'=up μ q (.lst ((p.gU (s.nm,i) n++(ofK (s.nm,i) dn).map λe=>(n,e.wd,e.wy)).map iN))) ?_ ?_ _ _ _ ⟨[],p.evs (p.run n),_,_,_,_,rfl,rfl,rfl,by simp⟩
  ·rintro ρ μ' ⟨dn,rs,w7,w8,w9,w10,er,es,rfl,rfl⟩
   cases rs with
   | cons _ _=>cases er
   | nil=>
   rw[WS] at es
   subst es
   exact hN' _ _ ⟨n+1,c,_,_,_,_,_,_,rfl,by omega,rfl,by rw[ma]⟩
  ·rintro d r ρ μ' N2 ⟨dn,rs,w7,w8,w9,w10,er,es,rfl,rfl⟩ hN2
   cases rs with
   | nil=>cases er
   | cons e rs=>
   cases er
   have hm:e∈p.evs (p.run n):=by rw[← es];simp
   rw[Q2]
   walk_at "go"
   refine ⟨⟨R.sn _ (Ov R e hm).2.1,sk.n⟩,?_⟩
   have app:∀ a b:List Ev,ofK (s.nm,i) (a++b)=ofK (s.nm,i) a++ofK (s.nm,i) b:=λa b=>Ys ..
   have more:e.key≠(s.nm,i)->ofK (s.nm,i) (dn++[e])=ofK (s.nm,i) dn:=λhk=>by
    rw[app]
    have:ofK (s.nm,i) [e]=[]:=by unfold ofK;rw[Xe,if_neg (by simpa only[decide_eq_true_eq] using hk)];rfl
    rw[this,WS]
   refine kif (λh1=>kif (λh2=>?_) λh2=>hN2 _ _ ⟨dn++[e],rs,_,_,_,_,rfl,by rw[← es];simp,rfl,by rw[more λz=>h2 (congrArg (·.2) z)]⟩) λh1=>hN2 _ _ ⟨dn++[e],rs,_,_,_,_,rfl,by rw[← es];simp,rfl,by rw[more λz=>h1 (congrArg (·.1) z)]⟩
   have hk:e.key=(s.nm,i):=by rw[← h1,← h2]
   have one:ofK (s.nm,i) (dn++[e])=ofK (s.nm,i) dn++[e]:=by
    rw[app]
    have:ofK (s.nm,i) [e]=[e]:=by unfold ofK;rw[Xe,if_pos (by simpa only[decide_eq_true_eq] using hk)];rfl
    rw[this]
   have few2:(ofK (s.nm,i) dn).length<=3:=by
    rw[← es,app,Wv] at few
    omega
   walk_at "go"
   refine ⟨by rw[Wf,Wv,Wf];omega,hN2 _ _ ⟨dn++[e],rs,_,_,_,_,rfl,by rw[← es];simp,rfl,?_⟩⟩
   rw[one]
   simp[iN]
abbrev ja:FSp:=L3.aC
def tH:STr:=aB (bI (mG (TB (aj rGt (bP (ah 0) (TC (.str "left"))) (TC (.int 0)))) (TB (aj rLt (bP (ah 0) (TC (.str "given"))) (TC (.int 60))))) (aB (m7 (λm n=>m+n) (ah 0) (TC (.str "given")) (TC (.int 1))) (aB (aO (aj mN (bP (ah 0) (TC (.str "left"))) (ah 1)) (aA 3)) (aB (jC (ah 0) (TC (.str "left")) (aj oa (bP (ah 0) (TC (.str "left"))) (ah 1))) (aW (ah 3))))) (a8)) (aB (jC (ah 0) (TC (.str "seed")) (au L3.i4 (af (bP (ah 0) (TC (.str "seed"))) (af (bP (ah 0) (TC (.str "many"))) (aq))))) (aW (aj mN (aj oa (bP (ah 0) (TC (.str "seed"))) (TC (.int 7))) (ah 1))))
def xY:STr:=aB (m7 (λm n=>m+n) (ah 0) (TC (.str "many")) (TC (.int 1))) (aB (bI (mG (TOr (TB (aj rEq (bP (ah 0) (TC (.str "left"))) (TC (.int 0)))) (TB (aj rEq (bP (ah 0) (TC (.str "given"))) (TC (.int 60))))) (TB (aj rLt (bP (ah 0) (TC (.str "at"))) (au dB (af (bP (ah 0) (TC (.str "cells"))) (aq)))))) (aB (aO (au xr (af (aj L3.rIx (bP (ah 0) (TC (.str "cells"))) (bP (ah 0) (TC (.str "at")))) (aq))) (aA 2)) (aB (m7 (λm n=>m+n) (ah 0) (TC (.str "at")) (TC (.int 1))) (aB (jC (ah 0) (TC (.str "left")) (aj eP (ah 2) (au yJ (af (aj rGe (ah 2) (aj Gu (TC (.int 10)) (TC (.int 18)))) (aq))))) (aB (jC (ah 0) (TC (.str "given")) (TC (.int 0))) (jC (ah 0) (TC (.str "seed")) (au L3.i4 (af (aj aV (bP (ah 0) (TC (.str "seed"))) (ah 2)) (af (bP (ah 0) (TC (.str "many"))) (aq))))))))) (a8)) (tH))
theorem uc:∀ ds μ Q,ja ds μ Q->ds.length=2:=L3.EX
theorem wX:∀ ds μ Q,ja ds μ Q->xY { nx:=λ_ μ'=>RT Q .non μ',rt:=RT Q } (ini 4 ds) μ:=L3.GS
abbrev iY:FSp:=L3.j2
def rg:STr:=aB (aO (aj aV (TC (.int 1)) (au L3.aC (af (ah 0) (af (TC (.int 5)) (aq))))) (aA 5)) (aB (aO (au L3.cc (af (aj aV (TC (.int 1)) (au L3.aC (af (ah 0) (af (aj eP (TC (.int 2)) (ah 5)) (aq))))) (af (ah 5) (aq)))) (aA 6)) (aB (aO (au L3.cc (af (aj aV (TC (.int 1)) (au L3.aC (af (ah 0) (af (ah 5) (aq))))) (af (aj aV (ah 5) (TC (.int 1))) (aq)))) (aA 7)) (aB (bI (TB (aj rEq (ah 2) (TC (.str "still")))) (aW (bf (af (ah 2) (af (ah 3) (aq))))) (a8)) (aB (bI (TB (aj rEq (ah 2) (TC (.str "step")))) (aW (bf (af (ah 2) (af (ah 3) (af (ah 6) (af (ah 7) (af (ah 4) (aq)))))))) (a8)) (aB (bI (TB (aj rEq (ah 2) (TC (.str "swell")))) (aW (bf (af (ah 2) (af (ah 3) (af (au L3.cc (af (aj aV (aj L3.rIx (ah 6) (TC (.int 0))) (aj L3.rIx (ah 6) (TC (.int 1)))) (af (aj L3.rIx (ah 6) (TC (.int 1))) (aq)))) (af (ah 7) (af (ah 4) (aq)))))))) (a8)) (aB (bI (TB (aj rEq (ah 2) (TC (.str "heed")))) (aW (bf (af (ah 2) (af (ah 3) (af (ah 6) (af (au L3.cc (af (aj aV (TC (.int 1)) (au L3.aC (af (ah 0) (af (ah 5) (aq))))) (af (ah 5) (aq)))) (af (ah 4) (aq)))))))) (a8)) (aB (aO (au L3.aC (af (ah 0) (af (TC (.int 4)) (aq)))) (aA 8)) (aW (bf (af (ah 2) (af (ah 3) (af (ah 6) (af (ah 8) (af (aj aV (ah 8) (au L3.aC (af (ah 0) (af (TC (.int 5)) (aq))))) (af (ah 4) (aq))))))))))))))))
def zh:STr:=aB (aO (aj L3.rIx (fc (af (TC (.str "still")) (af (TC (.str "step")) (af (TC (.str "swell")) (af (TC (.str "heed")) (af (TC (.str "calm")) (aq))))))) (au L3.aC (af (ah 0) (af (TC (.int 5)) (aq))))) (aA 2)) (aB (qB 3 4 (af (au L3.cS (af (ah 0) (af (TC (.int 1)) (af (ah 1) (aq))))) (af (au L3.cS (af (ah 0) (af (TC (.int 1)) (af (ah 1) (aq))))) (aq)))) (aB (bI (TB (aj rGt (aj eP (aj L3.rIx (ah 3) (TC (.int 0))) (aj L3.rIx (ah 4) (TC (.int 1)))) (aj eP (aj L3.rIx (ah 4) (TC (.int 0))) (aj L3.rIx (ah 3) (TC (.int 1)))))) (qB 3 4 (af (ah 4) (af (ah 3) (aq)))) (a8)) (rg)))
theorem uC:∀ ds μ Q,iY ds μ Q->ds.length=2:=L3.Ej
theorem wM:∀ ds μ Q,iY ds μ Q->zh { nx:=λ_ μ'=>RT Q .non μ',rt:=RT Q } (ini 9 ds) μ:=L3.GL
abbrev gy:FSp:=L3.jm
def om:STr:=aB (aO (aj L3.rIx (fc (af (TC (.int 1)) (af (TC (.int 1)) (af (TC (.int 2)) (af (TC (.int 3)) (af (aj aV (TC (.int 1)) (au L3.aC (af (ah 0) (af (TC (.int 8)) (aq))))) (aq))))))) (au L3.aC (af (ah 0) (af (TC (.int 5)) (aq))))) (aA 5)) (aB (aO (aj L3.rIx (fc (af (TC .non) (af (TC .non) (af (au L3.aC (af (ah 0) (af (TC (.int 4)) (aq)))) (af (au L3.aC (af (ah 0) (af (TC (.int 40)) (aq)))) (aq)))))) (au L3.aC (af (ah 0) (af (TC (.int 4)) (aq))))) (aA 6)) (aW (bf (af (ah 1) (af (ah 4) (af (ah 5) (af (aj L3.rIx (fc (af (TC (.int 0)) (af (TC (.int 0)) (af (au L3.aC (af (ah 0) (af (TC (.int 3)) (aq)))) (af (au L3.aC (af (ah 0) (af (TC (.int 12)) (aq)))) (aq)))))) (au L3.aC (af (ah 0) (af (TC (.int 4)) (aq))))) (af (ah 6) (af (au L3.j2 (af (ah 0) (af (ah 3) (aq)))) (aq))))))))))
def ua:STr:=aB (aO (au bF (af (bZ (eL (ah 2)) (aA 0) (TB (aj rEq (au L3.aC (af (ah 1) (af (TC (.int 2)) (aq)))) (TC (.int 0)))) (aj L3.rIx (ah 0) (TC (.int 0))) 1 [0]) (aq))) (aA 4)) (aB (bI (TB (aj rEq (au dB (af (ah 4) (aq))) (TC (.int 0)))) (aO (bf (af (aj L3.rIx (aj L3.rIx (ah 2) (au L3.aC (af (ah 0) (af (au dB (af (ah 2) (aq))) (aq))))) (TC (.int 0))) (aq))) (aA 4)) (a8)) (om))
theorem pL:∀ ds μ Q,gy ds μ Q->ds.length=4:=L3.yO
theorem rh:∀ ds μ Q,gy ds μ Q->ua { nx:=λ_ μ'=>RT Q .non μ',rt:=RT Q } (ini 7 ds) μ:=L3.Bw
theorem A6 (i0 i1 i2:Nat)(r:Row)(ρ:ST)(μ:Mu)(k:ST->Mu->Prop):de [i0,i1,i2] (iN r) ρ μ k=de [i0,i1,i2] (.tup [.int r.1,.str r.2.1,.str r.2.2]) ρ μ k:=propext Wi
theorem OG (a b:ETr)(ρ:ST)(μ:Mu)(Q:DK):qz a b ρ μ Q=a ρ μ λx μ1=>kTp x λds=>b ρ μ1 λy μ2=>(ck 38 ds=true/\okD 38 y=true)/\kN (oq ds y) λj=>Q (.int j) μ2:=propext Wi
theorem N3 (ds:List D)(f:List D->Prop):kTp (.tup ds) f=f ds:=propext Wi
theorem Cp {u:Str}:∀ {R:List Str} {h:Nat},R.Nodup->R[h]? = some u->oq (R.map D.str) (.str u)=some h
 | [],h,_,e=>by simp at e
 | a::r,0,_,e=>by
  simp at e
  subst e
  unfold oq
  rw[Wr,zcK]
  simp[fB]
 | a::r,h+1,nd,e=>by
  have ⟨n1,n2⟩:=W9.mp nd
  have e:r[h]? = some u:=by simpa using e
  have ne:a≠u:=λz=>n1 (by rw[z];exact Xi e)
  have ih:=Cp n2 e
  unfold oq at ih ⊢
  rw[Wr,zcK,ih]
  simp[fB,ne]
theorem Ol {ns:List Str}(h:∀ n∈ns,Wj n=true):ck 38 (ns.map D.str)=true:=by
 induction ns with
 | nil=>rfl
 | cons a r ih=>rw[Wr,b6,kA,h a Wu,ih λn hn=>h n (WD _ hn)];rfl
theorem DC {R:List Str}{u:Str}{h:Nat}(hr:R[h]? = some u)(hl:h+1=R.length):atD (R.map D.str) (((R.map D.str).length:Int) - 1)=some (.str u):=by
 refine qC ?_ (by intro e;rw[zao] at e;rw[e] at hl;simp at hl)
 rw[Wf,← hl,Nat.add_sub_cancel,Xh,hr]
 rfl
theorem Pj {R:List Str}{t t':Nat}{w w' u u':Str}(h:NG R (t,w,u) (t',w',u')):(w=wS/\(w'=wI∨w'=wL)/\u'=u/\t'=t)∨(w=wL/\w'=wS/\u'=R.headD (OF "")/\t < t')∨
  (w=wI/\w'=wT/\u'=u/\t<=t'/\∃ h,R[h]? = some u/\h+1=R.length)∨(w=wI/\w'=wO/\u'=u/\t<=t'/\∃ h,R[h]? = some u/\h+1 < R.length)∨(w=wO/\(w'=wI∨w'=wL)/\t'=t+1/\∃ h,R[h]? = some u/\R[h+1]? = some u'):=by
 cases h with
 | aJ _ _ _ hv=>exact .inl ⟨rfl,hv,rfl,rfl⟩
 | a9 _ _ _ ht=>exact .inr (.inl ⟨rfl,rfl,rfl,ht⟩)
 | taken _ _ _ h hr hl ht=>exact .inr (.inr (.inl ⟨rfl,rfl,rfl,ht,h,hr,hl⟩))
 | out _ _ _ h hr hl ht=>exact .inr (.inr (.inr (.inl ⟨rfl,rfl,rfl,ht,h,hr,hl⟩)))
 | next _ _ _ _ h hr hr' hv=>exact .inr (.inr (.inr (.inr ⟨rfl,hv,rfl,h,hr,hr'⟩)))
def cq:FSp:=λds μ Q=>kcT ds λxs ds=>kcA ds λod ds=>kcA ds λbd ds=>kcN ds (∃ (R:List Str) (a b:Row),(xs=R.map .str/\od=iN a/\bd=iN b/\R.Nodup/\(∀ u∈R,Wj u=true)/\R≠[]/\R.length<=100/\Wj a.2.2=true/\Wj b.2.2=true/\NG R a b)/\Q (.bl true) μ)
theorem l7:∀ ds μ Q,cq ds μ Q->ds.length=3:=λ_ _ _ h=>lcT h λ_ _ h=>lcA h λ_ _ h=>lcA h λ_ _ h=>by rw[(ecN h).1];rfl
def iL:STr:=aB (aO (ah 1) (de [3,4,5])) (aB (aO (ah 2) (de [6,7,8])) (aB (bI (TB (aj rEq (ah 4) (TC (.str "sent")))) (aW (fJ (aj (um false) (ah 7) (bf (af (TC (.str "in")) (af (TC (.str "lost")) (aq))))) (fJ (aj rEq (ah 8) (ah 5)) (aj rEq (ah 6) (ah 3))))) (a8)) (aB (bI (TB (aj rEq (ah 4) (TC (.str "lost")))) (aW (fJ (aj rEq (ah 7) (TC (.str "sent"))) (fJ (aj rEq (ah 8) (aj L3.rIx (ah 0) (TC (.int 0)))) (aj rGt (ah 6) (ah 3))))) (a8)) (aB (bI (mG (TB (aj rEq (ah 4) (TC (.str "in")))) (TB (aj rEq (ah 5) (aj L3.rIx (ah 0) (aj kg (au dB (af (ah 0) (aq))) (TC (.int 1))))))) (aW (fJ (aj rEq (ah 7) (TC (.str "taken"))) (fJ (aj rEq (ah 8) (ah 5)) (aj rGe (ah 6) (ah 3))))) (a8)) (aB (bI (TB (aj rEq (ah 4) (TC (.str "in")))) (aW (fJ (aj rEq (ah 7) (TC (.str "out"))) (fJ (aj rEq (ah 8) (ah 5)) (aj rGe (ah 6) (ah 3))))) (a8)) (aB (bI (TB (aj rEq (ah 4) (TC (.str "out")))) (aW (fJ (aj (um false) (ah 7) (bf (af (TC (.str "in")) (af (TC (.str "lost")) (aq))))) (fJ (aj rEq (ah 8) (aj L3.rIx (ah 0) (aj aV (qz (ah 0) (ah 5)) (TC (.int 1))))) (aj rEq (ah 6) (aj aV (ah 3) (TC (.int 1))))))) (a8)) (aW (TC (.bl false)))))))))
theorem nk:∀ ds μ Q,cq ds μ Q->iL { nx:=λ_ μ'=>RT Q .non μ',rt:=RT Q } (ini 9 ds) μ:=by
 intro ds μ Q h
 replace h:=ecT h
 obtain ⟨xs,ds,rfl,h⟩:=h
 replace h:=ecA h
 obtain ⟨od,ds,rfl,h⟩:=h
 replace h:=ecA h
 obtain ⟨bd,ds,rfl,h⟩:=h
 replace h:=ecN h
 obtain ⟨rfl,h⟩:=h
 walk_at "ini"
 unfold iL
 walk_at "go"
 obtain ⟨R,a,b,⟨rfl,rfl,rfl,nd,ro,r0,rl,ka,kb,G⟩,k⟩:=h
 obtain ⟨at',aw,ay⟩:=a
 obtain ⟨bt,bw,bY⟩:=b
 replace G:=Pj G
 rw[A6]
 walk_at "go"
 rw[A6]
 walk_at "go"
 have o1:=iR _ (show wS∈_ by simp)
 have o2:=iR _ (show wI∈_ by simp)
 have o3:=iR _ (show wL∈_ by simp)
 have o4:=iR _ (show wT∈_ by simp)
 have o5:=iR _ (show wO∈_ by simp)
 have no:wO≠wI:=by decide +kernel
 obtain ⟨n1,n2,n3,n4,n5,n6,n7,n8,n9⟩:=OD
 have fin:∀ c:Prop,∀ i:Decidable c,c->RT Q (.bl (@decide c i)) μ:=λc i h=>by rw[decide_eq_true h];exact ⟨_,.refl _,k⟩
 have two:∀ v:Str,v=wI∨v=wL->Wj v=true/\v∈[wI,wL]:=λv h=>by rcases h with e | e<;>(rw[e];exact ⟨by assumption,by simp⟩)
 have ow:Wj aw=true:=by rcases G with ⟨e,_⟩ | ⟨e,_⟩ | ⟨e,_⟩ | ⟨e,_⟩ | ⟨e,_⟩ <;> (rw[e];assumption)
 rcases G with ⟨e1,e2,e3,e4⟩ | ⟨e1,e2,e3,e4⟩ | ⟨e1,e2,e3,e4,h,hr,hl⟩ | ⟨e1,e2,e3,e4,h,hr,hl⟩ | ⟨e1,e2,e4,h,hr,hr'⟩
 ·obtain ⟨kv,mv⟩:=two _ e2
  refine ⟨⟨ow,o1⟩,cv e1 ⟨⟨by rw[o2,o3];rfl,kv⟩,?_⟩⟩
  rw[show [D.str "in", D.str "lost"]=[wI,wL].map D.str from rfl,wa]
  refine cv mv ⟨⟨kb,ka⟩,cv e3 ?_⟩
  exact fin _ _ (by rw[e4])
 ·obtain ⟨r1,rr,eR⟩:∃ r1 rr,R=r1::rr:=by cases R with | nil=>exact absurd rfl r0 | cons a l=>exact ⟨a,l,rfl⟩
  have hh:R.headD (OF "")=r1:=by rw[eR];rfl
  have r1k:=ro r1 (by rw[eR];simp)
  refine ⟨⟨ow,o1⟩,dq (λz=>n7 (e1.symm.trans z)) ⟨⟨ow,o3⟩,cv e1 ⟨⟨by rw[e2];exact o1,o1⟩,cv e2 (jy (d:=.str r1) (by rw[pJ,eR];rfl) ?_)⟩⟩⟩
  refine ⟨⟨kb,by rw[kA];exact r1k⟩,?_⟩
  rw[fB]
  exact cv (e3.trans hh) (fin _ _ (by omega))
 ·refine ⟨⟨ow,o1⟩,dq (λz=>n6 (e1.symm.trans z)) ⟨⟨ow,o3⟩,dq (λz=>n1 (e1.symm.trans z)) ⟨⟨ow,o2⟩,cv e1 ?_⟩⟩⟩
  refine jy (DC hr hl) ⟨⟨ka,by rw[kA];exact ka⟩,?_⟩
  rw[fB]
  exact cv rfl ⟨⟨by rw[e2];exact o4,o4⟩,cv e2 ⟨⟨kb,ka⟩,cv e3 (fin _ _ (by omega))⟩⟩
 ·obtain ⟨v,hv⟩:∃ v,R[R.length - 1]? = some v:=⟨R[R.length - 1]'(by omega),Wz (by omega)⟩
  have la:=DC (h:=R.length - 1) hv (by omega)
  have vk:=ro v (Xi hv)
  have uv:ay≠v:=λe=>by
   subst e
   obtain ⟨h1,e1⟩:=WL.mp hr
   obtain ⟨h2,e2⟩:=WL.mp hv
   have:=(zaY nd).mp (e1.trans e2.symm)
   omega
  refine ⟨⟨ow,o1⟩,dq (λz=>n6 (e1.symm.trans z)) ⟨⟨ow,o3⟩,dq (λz=>n1 (e1.symm.trans z)) ⟨⟨ow,o2⟩,cv e1 ?_⟩⟩⟩
  refine jy la ⟨⟨ka,by rw[kA];exact vk⟩,?_⟩
  rw[fB]
  exact dq uv ⟨⟨ow,o2⟩,cv e1 ⟨⟨by rw[e2];exact o5,o5⟩,cv e2 ⟨⟨kb,ka⟩,cv e3 (fin _ _ (by omega))⟩⟩⟩
 ·obtain ⟨kv,mv⟩:=two _ e2
  refine ⟨⟨ow,o1⟩,dq (λz=>n8 (e1.symm.trans z)) ⟨⟨ow,o3⟩,dq (λz=>n3 (e1.symm.trans z)) ⟨⟨ow,o2⟩,dq (λz=>no (e1.symm.trans z)) ⟨⟨ow,o2⟩,dq (λz=>no (e1.symm.trans z)) ⟨⟨ow,o5⟩,cv e1 ?_⟩⟩⟩⟩⟩
  refine ⟨⟨by rw[o2,o3];rfl,kv⟩,?_⟩
  rw[show [D.str "in", D.str "lost"]=[wI,wL].map D.str from rfl,wa]
  refine cv mv ?_
  simp only[↓OG]
  walk_at "go"
  simp only[↓N3]
  walk_at "go"
  rw[Cp nd hr]
  refine ⟨⟨Ol ro,ka⟩,?_⟩
  walk_at "go"
  refine jy (d:=.str bY) (by rw[show ((h:Int)+1)=((h+1:Nat):Int) by omega,bL,Xh,hr'];rfl) ⟨⟨kb,by rw[kA];exact kb⟩,?_⟩
  rw[fB]
  exact cv rfl (fin _ _ (by omega))
theorem JT {k:Str×Int}{zs:List (Wy×Ws)}{y z:Wy×Ws}(h:(zs.map λy=>cK k (y.2.cm++y.2.st)).sum<=1)(hy:y∈zs)(hz:z∈zs)(h1:1<=cK k (y.2.cm++y.2.st))(h2:1<=cK k (z.2.cm++z.2.st)):y=z:=by
 induction zs with
 | nil=>cases hy
 | cons v r ih=>
  rw[Wr,W8] at h
  rcases Wx.mp hy with (e | hy)
  ·rcases Wx.mp hz with (e' | hz)
   ·rw[e,e']
   ·have:=b5 (f:=λy:Wy×Ws=>cK k (y.2.cm++y.2.st)) hz
    rw[e] at h1
    omega
  ·have:=b5 (f:=λy:Wy×Ws=>cK k (y.2.cm++y.2.st)) hy
   rcases Wx.mp hz with (e' | hz)
   ·rw[e'] at h2
    omega
   ·exact ih (by omega) hy hz
theorem RD {p:Pn}{m:Int}{n:Nat}{s:Sn}{x:Ss}(K:p.Ok m)(hn:n<=1000)(hx:(s,x)∈Wl p.ss (p.run n).ss){i:Int}{w:Wy}:((p.run n).At p Ws.st (s.nm,i) w->∃ j,lP p (p.run n) x i=.tup [.str "stands", .str w.nm,j])/\((p.run n).At p Ws.cm (s.nm,i) w->∃ j,lP p (p.run n) x i=.tup [.str "comes", .str w.nm,j]):=by
 have I:=p.bB K n (by omega)
 have nm:x.nm=s.nm:=I.znm hx
 have O:=p.gj K n (by omega) x (Wo hx).2 i
 rw[nm] at O
 have f1:(p.run n).fly (s.nm,i)<=1:=by split at O<;>omega
 have es:((Wl p.ws (p.run n).ws).map λy=>cK (s.nm,i) (y.2.cm++y.2.st)).sum<=1:=by
  have z2:(Wl p.ws (p.run n).ws).map (·.2)=(p.run n).ws:=nc (by have:=I.lw;omega)
  have:(Wl p.ws (p.run n).ws).map (λy=>cK (s.nm,i) (y.2.cm++y.2.st))=(p.run n).ws.map λw=>cK (s.nm,i) (w.cm++w.st):=by
   rw[← z2,Wq];rw[z2];rfl
  rw[this]
  exact f1
 have main:∀ ks,(w,ks)∈Wl p.ws (p.run n).ws->1<=cK (s.nm,i) (ks.cm++ks.st)->∃ j,(1<=cK (s.nm,i) ks.st/\lP p (p.run n) x i=.tup [.str "stands", .str w.nm,j])∨(1<=cK (s.nm,i) ks.cm/\lP p (p.run n) x i=.tup [.str "comes", .str w.nm,j]):=λks hz hk=>by
  have fl:1<=(p.run n).fly (s.nm,i):=by
   have:=b5 (f:=λw:Ws=>cK (s.nm,i) (w.cm++w.st)) (Wo hz).2
   unfold St'.fly
   omega
  have hi:¬ x.nx<=i:=λz=>by rw[if_neg (by omega)] at O;omega
  unfold lP
  rw[if_neg hi,nm,if_pos fl]
  obtain ⟨y,hy,j,q⟩:=rA (k:=(s.nm,i)) ⟨(w,ks),hz,hk⟩
  have:y=(w,ks):=JT es hy hz (by rw[bX];rcases q with (⟨a,_⟩ | ⟨a,_⟩)<;>omega) hk
  subst this
  exact ⟨j,q⟩
 have le2:∀ ks,(w,ks)∈Wl p.ws (p.run n).ws->cK (s.nm,i) ks.cm+cK (s.nm,i) ks.st<=1:=λks hz=>by
  have:=b5 (f:=λw:Ws=>cK (s.nm,i) (w.cm++w.st)) (Wo hz).2
  simp only[bX] at this
  unfold St'.fly at f1
  simp only[bX] at f1
  omega
 refine ⟨λ⟨ks,hz,hk⟩=>?_,λ⟨ks,hz,hk⟩=>?_⟩
 ·have l:=le2 ks hz
  obtain ⟨j,q⟩:=main ks hz (by rw[bX];omega)
  rcases q with (⟨_,e⟩ | ⟨a,_⟩)
  ·exact ⟨j,e⟩
  ·omega
 ·have l:=le2 ks hz
  obtain ⟨j,q⟩:=main ks hz (by rw[bX];omega)
  rcases q with (⟨a,_⟩ | ⟨_,e⟩)
  ·omega
  ·exact ⟨j,e⟩
theorem xB {p:Pn}{m:Int}(K:p.Ok m){k:Str×Int}{n:Nat}(hn:n<=1000):∀ r∈p.gU k n,Wj r.2.1=true/\Wj r.2.2=true:=λr hr=>by
 obtain ⟨t,ht,h⟩:=XY.mp hr
 obtain ⟨e,he,rfl⟩:=Wg.mp h
 have tn:t < n:=by simpa using ht
 have R:=(p.bB K t (by omega)).rd (by omega)
 have:=Ov R e (W0.mp he).1
 exact ⟨this.1,this.2.2⟩
theorem Ds {rows:List Row}(h:∀ r∈rows,Wj r.2.1=true/\Wj r.2.2=true)(j:Nat):ck (j+1) (rows.map iN)=true:=by
 induction rows with
 | nil=>rfl
 | cons a r ih=>
  have ha:=h a Wu
  rw[Wr,b6,ih λz hz=>h z (WD _ hz)]
  unfold iN
  rw[yg,b6,b6,b6,gR,zA,kA,kA,ha.1,ha.2]
  rfl
theorem ID {α:Type}(xs:List α):cutD xs (some 1) none=xs.drop 1:=by
 cases xs with
 | nil=>rfl
 | cons a r=>
  unfold cutD
  have e:HT.sIx (a::r).length 0 (some 1)=1:=by
   show HT.sIx (r.length+1) 0 (some 1)=1
   unfold HT.sIx
   simp
  rw[e]
  exact Yj (by show _<=(a::r).length - 1;simp)
theorem R7 {p:Pn}{s:Sn}{x:Ss}{i:Int}{n t:Nat}{v u:Str}(h:Pl p s x i n (some (t,v,u))):(v=wI/\∃ w:Wy,u=w.nm/\(p.run n).At p Ws.st (s.nm,i) w)∨(v=wO/\∃ (w':Wy) (h:Nat),(p.run n).At p Ws.cm (s.nm,i) w'/\s.rd[h]? = some u/\s.rd[h+1]? = some w'.nm)∨(v=wL/\1<=x.ag.count i+x.lo.count i)∨(v=wT/\(p.run n).fly (s.nm,i)=0/\x.ag.count i+x.lo.count i=0/\i < x.nx):=by
 cases h with
 | vF _ w _ at'=>exact .inl ⟨rfl,w,rfl,at'⟩
 | comes _ w w' h _ at' r1 r2=>exact .inr (.inl ⟨rfl,w',h,at',r1,r2⟩)
 | Nt _ _ _ h=>exact .inr (.inr (.inl ⟨rfl,h⟩))
 | gone _ _ h1 h2 _ h4=>exact .inr (.inr (.inr ⟨rfl,h1,h2,h4⟩))
theorem Pb:∀ u∈["new", "taken", "lost", "again"],okD 40 (j7 u)=true/\eqD (j7 u) (.tup [.str (OF u)])=true/\Wj (OF u)=true:=by decide +kernel
theorem CN:∀ u∈["stands", "comes"],Wj (OF u)=true:=by decide +kernel
theorem Pd {u:Str}(h:Wj u=true)(v:String)(hv:v∈["stands", "comes"]):okD 40 (.tup [.str (OF v),.str u])=true/\eqD (.tup [.str (OF v),.str u]) (.tup [.str (OF v),.str u])=true:=by
 refine ⟨?_,?_⟩
 ·rw[yg,b6,b6,gR,kA,kA,h,CN v hv];rfl
 ·show (eqD (.str (OF v)) (.str (OF v))&&(eqD (.str u) (.str u)&&true))=true
  rw[fB,fB,decide_eq_true rfl,decide_eq_true rfl];rfl
def cX:FSp:=λds μ Q=>kcT ds λxs ds=>kcA ds λpd ds=>kcL ds λrd ds=>kcN ds (∃ (p:Pn) (m:Int) (n:Nat) (s:Sn) (x:Ss) (i:Int),(xs=s.rd.map .str/\pd=lP p (p.run n) x i/\rd=(p.gU (s.nm,i) n).map iN/\p.Ok m/\n<=1000/\(s,x)∈Wl p.ss (p.run n).ss/\0<=i)/\Q (.bl true) μ)
theorem lA:∀ ds μ Q,cX ds μ Q->ds.length=3:=λ_ _ _ h=>lcT h λ_ _ h=>lcA h λ_ _ h=>lcL h λ_ _ h=>by rw[(ecN h).1];rfl
def gK:STr:=aB (bI (TB (aj rEq (ah 2) (fc (aq)))) (aW (aj rEq (ah 1) (bf (af (TC (.str "new")) (aq))))) (a8)) (aB (aO (aj L3.rIx (ah 2) (aj kg (au dB (af (ah 2) (aq))) (TC (.int 1)))) (de [3,4,5])) (aB (bI (TB (aj rEq (ah 4) (TC (.str "taken")))) (aW (aj rEq (ah 1) (bf (af (TC (.str "taken")) (aq))))) (a8)) (aB (bI (TB (aj rEq (ah 4) (TC (.str "lost")))) (aW (Bo (aj rEq (ah 1) (bf (af (TC (.str "lost")) (aq)))) (aj rEq (ah 1) (bf (af (TC (.str "again")) (aq)))))) (a8)) (aB (bI (TB (aj rEq (ah 4) (TC (.str "in")))) (aW (aj rEq (TSl (ah 1) (ONo) (j8 (TC (.int 2)))) (bf (af (TC (.str "stands")) (af (ah 5) (aq)))))) (a8)) (aW (fJ (aj rEq (ah 4) (TC (.str "out"))) (aj rEq (TSl (ah 1) (ONo) (j8 (TC (.int 2)))) (bf (af (TC (.str "comes")) (af (aj L3.rIx (ah 0) (aj aV (qz (ah 0) (ah 5)) (TC (.int 1)))) (aq)))))))))))
theorem lQ:∀ ds μ Q,cX ds μ Q->gK { nx:=λ_ μ'=>RT Q .non μ',rt:=RT Q } (ini 6 ds) μ:=by
 intro ds μ Q h
 replace h:=ecT h
 obtain ⟨xs,ds,rfl,h⟩:=h
 replace h:=ecA h
 obtain ⟨pd,ds,rfl,h⟩:=h
 replace h:=ecL h
 obtain ⟨rd,ds,rfl,h⟩:=h
 replace h:=ecN h
 obtain ⟨rfl,h⟩:=h
 walk_at "ini"
 unfold gK
 walk_at "go"
 obtain ⟨p,m,n,s,x,i,⟨rfl,rfl,rfl,K,hn,hx,h0⟩,k⟩:=h
 obtain ⟨G,P⟩:=oB K h0 n hn s x hx
 have so:=xB (k:=(s.nm,i)) K hn
 have PW:=λw=>RD (w:=w) (i:=i) K hn hx
 have O:=p.gj K n (by omega) x (Wo hx).2 i
 have nm:x.nm=s.nm:=(p.bB K n (by omega)).znm hx
 rw[nm] at O
 have rk:∀ u∈s.rd,Wj u=true:=λu hu=>(((p.bB K n (by omega)).rd (by omega)).rl s (Wo hx).1).2.2 u hu
 have rn:s.rd.Nodup:=(K.s s (Wo hx).1).r.nodup K.wd
 have pN:x.nx<=i->lP p (p.run n) x i=j7 "new" := λh=>if_pos h
 have pG:(p.run n).fly (s.nm,i)=0->x.ag.count i+x.lo.count i=0->i < x.nx->lP p (p.run n) x i=j7 "taken" := λh1 h2 h3=>by
  unfold lP
  rw[if_neg (by omega),nm,if_neg (by omega),if_neg (X9.mp (by omega)),if_neg (X9.mp (by omega))]
 have pH:1<=x.ag.count i+x.lo.count i->lP p (p.run n) x i=j7 "lost" ∨ lP p (p.run n) x i=j7 "again" := λh1=>by
  have h2:i < x.nx/\(p.run n).fly (s.nm,i)=0:=by split at O<;>omega
  unfold lP
  rw[if_neg (by omega),nm,if_neg (by omega)]
  by_cases h3:i∈x.lo
  ·rw[if_pos h3];exact .inl rfl
  ·rw[if_neg h3,if_pos (Xz.mp (by have:=X9.mpr h3;omega))];exact .inr rfl
 clear O nm
 generalize p.gU (s.nm,i) n=rows at *
 generalize lP p (p.run n) x i=pl at *
 have ro:=Ds so 38
 have one:=Pb
 walk_at "go"
 refine ⟨ro,?_⟩
 cases hL:rows.getLast? with
 | none=>
  rw[hL] at P
  cases P with
  | new h1 h2 h3=>
  rw[zaF.mp hL,pN h1]
  refine ⟨⟨(one _ (by simp)).1,(one _ (by simp)).2.2⟩,?_⟩
  rw[(one _ (by simp)).2.1]
  exact ⟨_,.refl _,k⟩
 | some r=>
 obtain ⟨t,v,u⟩:=r
 have vk:=so _ (List.mem_of_getLast? hL)
 rw[hL] at P
 replace P:=R7 P
 have hr0:rows≠[]:=λe=>by rw[e] at hL;cases hL
 have ne:jK (rows.map iN) []=false:=by
  cases rows with
  | nil=>exact absurd rfl hr0
  | cons a l=>rfl
 have last:atD (rows.map iN) (((rows.map iN).length:Int) - 1)=some (iN (t,v,u)):=by
  refine qC ?_ (by simpa using hr0)
  rw[Xh,Wf,← zaE,hL]
  rfl
 rw[ne]
 refine jy last ?_
 clear last ne hL so ro
 rw[A6]
 walk_at "go"
 have o2:=iR _ (show wI∈_ by simp)
 have o3:=iR _ (show wL∈_ by simp)
 have o4:=iR _ (show wT∈_ by simp)
 have o5:=iR _ (show wO∈_ by simp)
 have no:wO≠wI:=by decide +kernel
 obtain ⟨n1,n2,n3,n4,n5,n6,n7,n8,n9⟩:=OD
 refine ⟨⟨vk.1,o4⟩,?_⟩
 rcases P with ⟨e,w,e2,at'⟩ | ⟨e,w',h,at',r1,r2⟩ | ⟨e,h1⟩ | ⟨e,h1,h2,h4⟩
 ·obtain ⟨j,ep⟩:=(PW w).1 at'
  refine dq (λz=>n2 (e.symm.trans z)) ⟨⟨vk.1,o3⟩,dq (λz=>n1 (e.symm.trans z)) ⟨⟨vk.1,o2⟩,cv e ?_⟩⟩
  rw[ep,xP,show cutD [D.str "stands", D.str w.nm,j] none (some 2)=[D.str "stands", D.str w.nm] from rfl,e2]
  obtain ⟨z1,z2⟩:=Pd (u:=w.nm) (e2 ▸ vk.2) "stands" (by simp)
  refine ⟨⟨z1,?_⟩,?_⟩
  ·rw[show Wj w.nm=true from e2 ▸ vk.2,CN _ (by simp)];rfl
  rw[z2]
  exact ⟨_,.refl _,k⟩
 ·obtain ⟨j,ep⟩:=(PW w').2 at'
  have wk':=rk _ (Xi r2)
  refine dq (λz=>n4 (e.symm.trans z)) ⟨⟨vk.1,o3⟩,dq (λz=>n3 (e.symm.trans z)) ⟨⟨vk.1,o2⟩,dq (λz=>no (e.symm.trans z)) ⟨⟨vk.1,o5⟩,cv e ?_⟩⟩⟩
  rw[ep,xP,show cutD [D.str "comes", D.str w'.nm,j] none (some 2)=[D.str "comes", D.str w'.nm] from rfl]
  simp only[↓OG]
  walk_at "go"
  simp only[↓N3]
  walk_at "go"
  rw[Cp rn r1]
  refine ⟨⟨Ol rk,vk.2⟩,?_⟩
  walk_at "go"
  refine jy (d:=.str w'.nm) (by rw[show ((h:Int)+1)=((h+1:Nat):Int) by omega,bL,Xh,r2];rfl) ?_
  rw[kA,wk',CN _ (by simp),fB,decide_eq_true rfl]
  exact ⟨⟨rfl,rfl⟩,⟨_,.refl _,k⟩⟩
 ·refine dq (λz=>n5 (z.symm.trans e)) ⟨⟨vk.1,o3⟩,cv e ?_⟩
  rcases pH h1 with e | e
  ·rw[e,(one _ (by simp)).2.1]
   exact ⟨⟨(one _ (by simp)).1,(one _ (by simp)).2.2⟩,⟨_,.refl _,k⟩⟩
  ·rw[e,(one "again" (by simp)).2.1,show eqD (j7 "again") (D.tup [D.str "lost"])=false by decide +kernel]
   exact ⟨⟨(one _ (by simp)).1,(one _ (by simp)).2.2⟩,⟨(one _ (by simp)).1,(one _ (by simp)).2.2⟩,⟨_,.refl _,k⟩⟩
 ·rw[pG h1 h2 h4]
  refine cv e ?_
  rw[(one _ (by simp)).2.1]
  exact ⟨⟨(one _ (by simp)).1,(one _ (by simp)).2.2⟩,⟨_,.refl _,k⟩⟩
abbrev iA:FSp:=L3.iA
theorem wC:∀ ds μ Q,iA ds μ Q->ds.length=1:=L3.wC
def G3:STr:=aB (aO (au L3.qw (af (ah 0) (aq))) (aA 1)) (aB (aO (au L3.mZ (af (ah 1) (aq))) (aA 2)) (aB (aO (au L3.aC (af (ah 1) (af (TC (.int 26)) (aq)))) (aA 3)) (aB (aO (aj L3.rIx (au sy (af (ah 2) (af (ah 3) (aq)))) (TC (.int 0))) (aA 4)) (aB (iq (kr (af (aj L3.rIx (ah 2) (TC (.int 2))) (af (aj L3.rIx (ah 4) (TC (.int 1))) (aq)))) (de [5,6]) (iq (fW (aj L3.rIx (fc (af (TC (.int 1)) (af (TC (.int 6)) (aq)))) (au yJ (af (aj rLt (au dB (af (aj L3.rIx (ah 4) (TC (.int 1))) (aq))) (TC (.int 3))) (aq))))) (aA 7) (aB (aO (aj L3.rIx (fc (af (ah 7) (af (au L3.aC (af (ah 1) (af (aj aV (aj L3.rIx (ah 6) (TC (.int 4))) (TC (.int 1))) (aq)))) (aq)))) (au L3.aC (af (ah 1) (af (TC (.int 2)) (aq))))) (aA 8)) (aB (aO (au nA (af (ah 2) (af (aj L3.rIx (ah 5) (TC (.int 0))) (af (ah 8) (af (ah 3) (aq)))))) (aA 9)) (aB (bI (CQ (TB (au cX (af (aj L3.rIx (ah 5) (TC (.int 1))) (af (au gO (af (ah 2) (af (ah 4) (af (aj L3.rIx (ah 5) (TC (.int 0))) (af (ah 8) (aq)))))) (af (ah 9) (aq))))))) (aW (TC (.bl false))) (a8)) (aB (bI (mG (TB (aj rNe (ah 9) (fc (aq)))) (TOr (TB (aj rNe (aj L3.rIx (aj L3.rIx (ah 9) (TC (.int 0))) (TC (.int 1))) (TC (.str "sent")))) (TB (aj rNe (aj L3.rIx (aj L3.rIx (ah 9) (TC (.int 0))) (TC (.int 2))) (aj L3.rIx (aj L3.rIx (ah 5) (TC (.int 1))) (TC (.int 0))))))) (aW (TC (.bl false))) (a8)) (bI (CQ (TB (au Lm (af (bZ (kr (af (ah 9) (af (TSl (ah 9) (j8 (TC (.int 1))) (ONo)) (aq)))) (de [0,1]) (fe) (au cq (af (aj L3.rIx (ah 2) (TC (.int 1))) (af (ah 0) (af (ah 1) (aq))))) 2 [5]) (aq))))) (aW (TC (.bl false))) (a8)))))))) (aW (TC (.bl true)))))))
theorem QR:∀ ds μ Q,iA ds μ Q->G3 { nx:=λ_ μ'=>RT Q .non μ',rt:=RT Q } (ini 10 ds) μ:=by
 intro ds μ Q h
 replace h:=ecL h
 obtain ⟨_,ds,rfl,h⟩:=h
 replace h:=ecN h
 obtain ⟨rfl,h⟩:=h
 obtain ⟨⟨ns,rfl,hn⟩,k⟩:=h
 walk_at "ini"
 unfold G3
 walk_at "go"
 refine ⟨⟨ns,rfl⟩,λb μ1 hb P1 _=>?_⟩
 walk_at "go"
 refine ⟨P1,λp m μ2 K M P2=>?_⟩
 have s1:=K.s1
 walk_at "go"
 refine aX P2.pot (by decide) (by decide) λt μ3 t0 t1 P3=>?_
 obtain ⟨t,rfl⟩:∃ j:Nat,t=(j:Int):=⟨t.toNat,by omega⟩
 walk_at "go"
 refine ⟨p,m,t,⟨rfl,K,rfl,by omega⟩,?_⟩
 have I:=p.bB K t (by omega)
 have Sl:=Eb K (n:=t) (by omega)
 walk_at "go"
 unfold snD ssD
 rw[oI]
 refine bR (λr ρ μ'=>∃ (rs:List (Sn×Ss)) (v5 v6 v7 v8 v9:Option D),r=rs.map (λy=>.tup [y.1.toD,y.2.toD p.g])/\(∀ y∈rs,y∈Wl p.ss (p.run t).ss)/\ρ=[some (.ls (ns.map .int)),some (.obj b),some p.toD,some (.int t),some ((p.run t).toD p.g),v5,v6,v7,v8,v9]/\Pot μ' b) ?_ ?_ _ _ _ ⟨Wl p.ss (p.run t).ss,_,_,_,_,_,rfl,λ_ h=>h,rfl,P3.pot⟩
 ·rintro ρ μ' ⟨rs,v5,v6,v7,v8,v9,er,hs,rfl,_⟩
  cases rs with
  | cons _ _=>cases er
  | nil=>
  walk_at "go"
  exact ⟨_,.refl _,k _⟩
 ·rintro d r ρ μ' N ⟨rs,v5,v6,v7,v8,v9,er,hs,rfl,Pm⟩ hN
  cases rs with
  | nil=>cases er
  | cons y rs=>
  cases er
  obtain ⟨s,x⟩:=y
  have hx:=hs (s,x) Wu
  have hm:=(Wo hx).1
  have nx:=I.nx x (Wo hx).2
  have S:=K.s s hm
  have rk:=((I.rd (by omega)).rl s hm).2.2
  have rn:s.rd.Nodup:=S.r.nodup K.wd
  walk_at "go"
  obtain ⟨c,ec,c0,c1⟩:∃ c:Int,atD [D.int 1,D.int 6] (if ((ssD p.g (p.run t).ss).length:Int) < 3 then 1 else 0)=some (.int c)/\0<=c/\c<=6:=by
   split
   ·exact ⟨6,rfl,by omega,by omega⟩
   ·exact ⟨1,rfl,by omega,by omega⟩
  refine jy ec ?_
  walk_at "go"
  refine ⟨⟨by omega,by omega⟩,?_⟩
  refine bR (λr ρ μ'=>∃ (w7 w8 w9:Option D),(∀ d∈r,∃ j:Int,d=.int j/\0<=j/\j < 6)/\ρ=[some (.ls (ns.map .int)),some (.obj b),some p.toD,some (.int t),some ((p.run t).toD p.g),some s.toD,some (x.toD p.g),w7,w8,w9]/\Pot μ' b) ?_ ?_ _ _ _ ⟨_,_,_,λd hd=>by obtain ⟨j,e,j0,j1⟩:=tm hd;exact ⟨j,e,by omega,by omega⟩,rfl,Pm⟩
  ·rintro ρ μ' ⟨w7,w8,w9,_,rfl,P'⟩
   exact hN _ _ ⟨rs,_,_,_,_,_,rfl,λy hy=>hs y (WD _ hy),rfl,P'⟩
  ·rintro d r ρ μ' N2 ⟨w7,w8,w9,hr,rfl,P'⟩ hN2
   obtain ⟨j,rfl,j0,j1⟩:=hr d Wu
   walk_at "go"
   refine aX P' (by omega) (by omega) λi1 μ4 i10 i11 P4=>?_
   walk_at "go"
   refine aX P4.pot (by decide) (by decide) λc2 μ5 c20 c21 P5=>?_
   obtain ⟨i,ei,i0⟩:∃ i:Int,atD [D.int j,D.int i1] c2=some (.int i)/\0<=i:=by
    have:c2=0∨c2=1:=by omega
    rcases this with e | e
    ·subst e;exact ⟨j,rfl,j0⟩
    ·subst e;exact ⟨i1,rfl,i10⟩
   walk_at "go"
   refine jy ei ?_
   walk_at "go"
   refine ⟨p,m,s,t,⟨rfl,K,hm,rfl,rfl,by omega⟩,?_⟩
   walk_at "go"
   refine ⟨p,m,t,s,x,⟨⟨rfl,rfl⟩,K,by omega,rfl,hx⟩,?_⟩
   walk_at "go"
   refine ⟨p,m,t,s,x,i,⟨rfl,rfl,rfl,K,by omega,hx,i0⟩,?_⟩
   have so:=xB (k:=(s.nm,i)) K (n:=t) (by omega)
   have sl:=nQ K hm i t (by omega)
   have G:=(oB K i0 t (by omega) s x hx).1
   generalize p.gU (s.nm,i) t=rows at *
   have fin:∀ (μ:Mu) (Q:DK),Q (.ls ((Wl rows (rows.drop 1)).map λ_=>.bl true)) μ->tW (de [0,1]) fe (au cq (af (aj rIx (ah 2) (TC (D.int 1))) (af (ah 0) (af (ah 1) aq)))) [none,none,some s.toD] (Xj (λd e=>D.tup [d,e]) (za5 iN rows) (cutD (za5 iN rows) (some 1) none)) μ Q:=λμ Q q=>by
    rw[ID,← zcw,oI]
    refine bV (Wl rows (rows.drop 1)) (λy=>.tup [iN y.1,iN y.2]) (λ_=>.bl true) rfl (by rw[zdy];omega) (λy hy μ' sb N nn=>?_) q
    obtain ⟨a,c⟩:=y
    obtain ⟨j,hj⟩:=List.mem_iff_getElem?.mp hy
    obtain ⟨h1,h2⟩:=List.getElem?_zip_eq_some.mp hj
    rw[List.getElem?_drop,Nat.add_comm] at h2
    walk_at "go"
    exact ⟨s.rd,a,c,⟨rfl,rfl,rfl,rn,rk,S.r0,by have:=S.r.length_le;have:=K.w1;simp only[Pn.wn,Wf] at *;omega,(so a (Xi h1)).2,(so c (Xi h2)).2,G.1 j a c h1 h2⟩,nn⟩
   have ro:=Ds so 38
   have G0:=G.2
   have n2:N2 [some (.ls (ns.map .int)),some (.obj b),some p.toD,some (.int t),some ((p.run t).toD p.g),some s.toD,some (x.toD p.g),some (.int j),some (.int i),some (.ls (rows.map iN))] μ5:=hN2 _ _ ⟨_,_,_,λd hd=>hr d (WD _ hd),rfl,P5.pot⟩
   have rest:∀ (Q:DK),Q (.bl true) μ5->jJ Lm [.ls ((Wl rows (rows.drop 1)).map λ_=>.bl true)] μ5 Q:=λQ q=>by
    refine ⟨(Wl rows (rows.drop 1)).map λ_=>true,by simp,?_⟩
    rw[show ((Wl rows (rows.drop 1)).map λ_=>true).all id=true by simp]
    exact q
   walk_at "go"
   refine ⟨ro,?_⟩
   cases rows with
   | nil=>
    refine OI (λh=>by cases h) λ_=>?_
    refine fin _ _ ?_
    refine rest _ ?_
    exact n2
   | cons a l=>
   obtain ⟨t',e⟩:=G0 a rfl
   subst e
   obtain ⟨r1,rr,eR⟩:∃ r1 rr,s.rd=r1::rr:=by cases h:s.rd with | nil=>exact absurd h S.r0 | cons a l=>exact ⟨a,l,rfl⟩
   have r1k:=rk r1 (by rw[eR];simp)
   have hh:s.rd.headD (OF "")=r1:=by rw[eR];rfl
   have e1:atD (s.rd.map D.str) 0=some (.str r1):=by rw[pJ,eR];rfl
   refine jy (d:=.tup [.int t',.str wS,.str (s.rd.headD (OF ""))]) (by rw[pJ];rfl) ?_
   walk_at "go"
   refine ⟨iR _ (by simp),?_⟩
   refine jy e1 ?_
   walk_at "go"
   refine ⟨⟨by rw[hh];exact r1k,r1k⟩,O1 hh ?_⟩
   refine fin _ _ ?_
   refine rest _ ?_
   exact n2
theorem nE (ns:List Int)(h:ns.length<=63)(μ:Mu):iA [.ls (ns.map .int)] μ (λd _=>d=.bl true):=L3.nE ns h μ
end Kk
namespace Kk
open PySem L2 L3
theorem T6 {α:Type}{us:List α}(h:us.length=1):∃ x0,us=[x0]:=match us,h with | [x0],_=>⟨x0,rfl⟩
theorem T4 {α:Type}{us:List α}(h:us.length=2):∃ x0 x1,us=[x0,x1]:=match us,h with | [x0,x1],_=>⟨x0,x1,rfl⟩
theorem Uq {α:Type}{us:List α}(h:us.length=3):∃ x0 x1 x2,us=[x0,x1,x2]:=match us,h with | [x0,x1,x2],_=>⟨x0,x1,x2,rfl⟩
theorem Uj {α:Type}{us:List α}(h:us.length=4):∃ x0 x1 x2 x3,us=[x0,x1,x2,x3]:=match us,h with | [x0,x1,x2,x3],_=>⟨x0,x1,x2,x3,rfl⟩
theorem TZ {α:Type}{us:List α}(h:us.length=5):∃ x0 x1 x2 x3 x4,us=[x0,x1,x2,x3,x4]:=match us,h with | [x0,x1,x2,x3,x4],_=>⟨x0,x1,x2,x3,x4,rfl⟩
def top (i:Nat):Stmt:=PySem.Challenge.pw_swellways_k40_whole_places_by_stories.main.body.getD i (.Pass ⟨0,0,0,0⟩)
abbrev oX:Stmt:=top 33
abbrev Ih:Stmt:=top 34
abbrev JH:Stmt:=top 35
abbrev C3:Stmt:=top 36
abbrev Dv:Stmt:=top 37
abbrev JK:Stmt:=top 38
abbrev rG:Stmt:=top 39
abbrev zx:Stmt:=top 40
abbrev yk:Stmt:=top 45
abbrev rP:Stmt:=top 46
abbrev uT:Stmt:=top 47
abbrev jQ:Stmt:=top 48
abbrev o6:Stmt:=top 49
abbrev Ea:Stmt:=top 50
abbrev Hh:Stmt:=top 51
abbrev qH:Stmt:=top 52
abbrev mV:Stmt:=top 54
abbrev rX:Stmt:=top 55
abbrev gT:Stmt:=top 56
abbrev gE:Stmt:=top 57
abbrev uW:Stmt:=top 58
abbrev jS:Stmt:=top 60
abbrev qj:Stmt:=top 61
abbrev j6:Stmt:=top 62
abbrev sf:Stmt:=top 63
abbrev qM:Stmt:=top 64
abbrev zT:Stmt:=top 65
abbrev fH:Stmt:=top 66
abbrev tR:Stmt:=top 67
abbrev mq:Stmt:=top 68
abbrev oM:Stmt:=top 69
abbrev HL:Stmt:=top 70
abbrev gW:Stmt:=top 71
abbrev oN:Stmt:=top 72
abbrev cQ:Stmt:=top 73
abbrev cO:Stmt:=top 74
abbrev OC:Stmt:=top 76
abbrev lN:Stmt:=top 78
abbrev ju:Stmt:=top 79
abbrev lT:Stmt:=top 80
abbrev Dj:Stmt:=top 81
abbrev sP:Stmt:=top 83
abbrev tI:Stmt:=top 84
abbrev o9:Stmt:=top 85
abbrev jd:Stmt:=top 86
abbrev lI:Stmt:=top 87
abbrev jE:Stmt:=top 88
abbrev oO:Stmt:=top 89
abbrev pj:Stmt:=top 90
abbrev ip:Stmt:=top 91
abbrev ke:Stmt:=top 92
abbrev iM:Stmt:=top 93
abbrev gN:Stmt:=top 94
abbrev Hg:Stmt:=top 95
set_option genInjectivity false in
set_option genSizeOfSpec false in
structure Adr where
 oR:Addr
 zS:WH
 IJ:Addr
 Qm:WH
 F7:Addr
 O8:WH
 DW:Addr
 NL:WH
 Dk:Addr
 L0:WH
 IF:Addr
 QP:WH
 qO:Addr
 AU:WH
 xJ:Addr
 Ho:WH
 y3:Addr
 Ju:WH
 tT:Addr
 Ax:WH
 uM:Addr
 E7:WH
 kc:Addr
 sX:WH
 pE:Addr
 Am:WH
 DP:Addr
 LD:WH
 Gz:Addr
 O9:WH
 sE:Addr
 BV:WH
 mE:Addr
 vO:WH
 ri:Addr
 AA:WH
 oS:Addr
 zM:WH
 jV:Addr
 tG:WH
 uN:Addr
 Em:WH
 kF:Addr
 qZ:WH
 DH:Addr
 MI:WH
 oG:Addr
 xR:WH
 rB:Addr
 Ca:WH
 qP:Addr
 AJ:WH
 zk:Addr
 JS:WH
 jG:Addr
 p9:WH
 xD:Addr
 J3:WH
 nr:Addr
 wH:WH
 pf:Addr
 xO:WH
 J7:Addr
 RH:WH
 pF:Addr
 zp:WH
 o8:Addr
 zU:WH
 jX:Addr
 sY:WH
 vB:Addr
 FC:WH
 Ou:Addr
 UD:WH
 lF:Addr
 tY:WH
 jv:Addr
 pZ:WH
 rj:Addr
 B6:WH
 DT:Addr
 NA:WH
 rD:Addr
 Cj:WH
 qX:Addr
 BL:WH
 pq:Addr
 Au:WH
 m9:Addr
 wR:WH
 lH:Addr
 t8:WH
 jx:Addr
 pV:WH
 pz:Addr
 zy:WH
 pw:Addr
 xX:WH
 lL:Addr
 ub:WH
 pC:Addr
 zf:WH
 iO:Addr
 nP:WH
 gY:Addr
 nq:WH
 JE:Addr
 Od:WH
structure Txt (Pm:Params) (K:Wa) (mg:Str->Option We) (t:Adr):Prop where
 yQ:mg "common_of" = some (.ref t.oR)
 xG:Fun K "common_of" "common_of" oX t.oR t.zS
 Sd:mg "part" = some (.ref t.IJ)
 Ri:Fun K "part" "part" Ih t.IJ t.Qm
 Q3:mg "plus" = some (.ref t.F7)
 RI:Fun K "plus" "plus" JH t.F7 t.O8
 Ln:mg "minus" = some (.ref t.DW)
 Lj:Fun K "minus" "minus" C3 t.DW t.NL
 Nz:mg "times" = some (.ref t.Dk)
 KO:Fun K "times" "times" Dv t.Dk t.L0
 Rq:mg "less" = some (.ref t.IF)
 Rp:Fun K "less" "less" JK t.IF t.QP
 CP:mg "floor_of" = some (.ref t.qO)
 A9:Fun K "floor_of" "floor_of" rG t.qO t.AU
 FZ:mg "cut_by" = some (.ref t.xJ)
 Hi:Fun K "cut_by" "cut_by" zx t.xJ t.Ho
 Jx:mg "top_of" = some (.ref t.y3)
 Ko:Fun K "top_of" "top_of" yk t.y3 t.Ju
 Cr:mg "begun_by" = some (.ref t.tT)
 Av:Fun K "begun_by" "begun_by" rP t.tT t.Ax
 EF:mg "is_idle" = some (.ref t.uM)
 El:Fun K "is_idle" "is_idle" uT t.uM t.E7
 rF:mg "share_behind" = some (.ref t.kc)
 sV:Fun K "share_behind" "share_behind" jQ t.kc t.sX
 ym:mg "factor_of" = some (.ref t.pE)
 zC:Fun K "factor_of" "factor_of" o6 t.pE t.Am
 NF:mg "moved" = some (.ref t.DP)
 KP:Fun K "moved" "moved" Ea t.DP t.LD
 RP:mg "held" = some (.ref t.Gz)
 Q5:Fun K "held" "held" Hh t.Gz t.O9
 BR:mg "heard_by" = some (.ref t.sE)
 By:Fun K "heard_by" "heard_by" qH t.sE t.BV
 wo:mg "put_behind" = some (.ref t.mE)
 vE:Fun K "put_behind" "put_behind" mV t.mE t.vO
 AB:mg "taken_in" = some (.ref t.ri)
 Bx:Fun K "taken_in" "taken_in" rX t.ri t.AA
 yR:mg "next_name" = some (.ref t.oS)
 yS:Fun K "next_name" "next_name" gT t.oS t.zM
 tQ:mg "out_by_turns" = some (.ref t.jV)
 rC:Fun K "out_by_turns" "out_by_turns" gE t.jV t.tG
 Fz:mg "let_out" = some (.ref t.uN)
 Fq:Fun K "let_out" "let_out" uW t.uN t.Em
 r9:mg "begun_sender" = some (.ref t.kF)
 sS:Fun K "begun_sender" "begun_sender" jS t.kF t.qZ
 ML:mg "begun" = some (.ref t.DH)
 MM:Fun K "begun" "begun" qj t.DH t.MI
 zK:mg "under_way" = some (.ref t.oG)
 zX:Fun K "under_way" "under_way" j6 t.oG t.xR
 CO:mg "new_ones" = some (.ref t.rB)
 A2:Fun K "new_ones" "new_ones" sf t.rB t.Ca
 BE:mg "sent_off" = some (.ref t.qP)
 BZ:Fun K "sent_off" "sent_off" qM t.qP t.AJ
 Jm:mg "beaten" = some (.ref t.zk)
 Io:Fun K "beaten" "beaten" zT t.zk t.JS
 pS:mg "sent_in_order" = some (.ref t.jG)
 pY:Fun K "sent_in_order" "sent_in_order" fH t.jG t.p9
 HY:mg "passed" = some (.ref t.xD)
 FY:Fun K "passed" "passed" tR t.xD t.J3
 wN:mg "way_behind" = some (.ref t.nr)
 xj:Fun K "way_behind" "way_behind" mq t.nr t.wH
 yE:mg "events_of" = some (.ref t.pf)
 yL:Fun K "events_of" "events_of" oM t.pf t.xO
 PQ:mg "aged" = some (.ref t.J7)
 OZ:Fun K "aged" "aged" HL t.J7 t.RH
 yM:mg "way_after" = some (.ref t.pF)
 xw:Fun K "way_after" "way_after" gW t.pF t.zp
 yN:mg "due_after" = some (.ref t.o8)
 z9:Fun K "due_after" "due_after" oN t.o8 t.zU
 sR:mg "sender_after" = some (.ref t.jX)
 sD:Fun K "sender_after" "sender_after" cQ t.jX t.sY
 Ff:mg "stepped" = some (.ref t.vB)
 Ez:Fun K "stepped" "stepped" cO t.vB t.FC
 Uw:mg "run" = some (.ref t.Ou)
 S8:Fun K "run" "run" OC t.Ou t.UD
 uA:mg "place_among" = some (.ref t.lF)
 uo:Fun K "place_among" "place_among" lN t.lF t.tY
 qc:mg "place_in_ways" = some (.ref t.jv)
 qe:Fun K "place_in_ways" "place_in_ways" ju t.jv t.pZ
 Bm:mg "place_of" = some (.ref t.rj)
 BJ:Fun K "place_of" "place_of" lT t.rj t.B6
 Ky:mg "story" = some (.ref t.DT)
 Mk:Fun K "story" "story" Dj t.DT t.NA
 CF:mg "_law_pot" = some (.ref t.rD)
 BU:Fun K "_law_pot" "_law_pot" sP t.rD t.Cj
 CT:mg "_law_mix" = some (.ref t.qX)
 A3:Fun K "_law_mix" "_law_mix" tI t.qX t.BL
 xH:mg "_law_take" = some (.ref t.pq)
 xN:Fun K "_law_take" "_law_take" o9 t.pq t.Au
 wB:mg "_law_names" = some (.ref t.m9)
 wV:Fun K "_law_names" "_law_names" jd t.m9 t.wR
 ug:mg "_law_lowest" = some (.ref t.lH)
 uD:Fun K "_law_lowest" "_law_lowest" lI t.lH t.t8
 pX:mg "_law_fraction" = some (.ref t.jx)
 p7:Fun K "_law_fraction" "_law_fraction" jE t.jx t.pV
 Aa:mg "_law_rule" = some (.ref t.pz)
 yu:Fun K "_law_rule" "_law_rule" oO t.pz t.zy
 yB:mg "_law_ways" = some (.ref t.pw)
 zY:Fun K "_law_ways" "_law_ways" pj t.pw t.xX
 uE:mg "_law_sender" = some (.ref t.lL)
 uk:Fun K "_law_sender" "_law_sender" ip t.lL t.ub
 xV:mg "_law_plan" = some (.ref t.pC)
 zF:Fun K "_law_plan" "_law_plan" ke t.pC t.zf
 nX:mg "_law_next_good" = some (.ref t.iO)
 nL:Fun K "_law_next_good" "_law_next_good" iM t.iO t.nP
 m4:mg "_law_place_good" = some (.ref t.gY)
 ny:Fun K "_law_place_good" "_law_place_good" gN t.gY t.nq
 T8:mg "law" = some (.ref t.JE)
 D0:Fun K "law" "law" Hg t.JE t.Od
 GD:mg "abs" = none
 Tr:mg "all" = none
 R4:mg "dict" = none
 jO:mg "enumerate" = none
 NZ:mg "int" = none
 dH:mg "len" = none
 AX:mg "list" = none
 DM:mg "max" = none
 Ux:mg "min" = none
 mF:mg "range" = none
 qY:mg "sorted" = none
 So:mg "sum" = none
 bK:mg "tuple" = none
 nv:mg "zip" = none
 qk:GV K mg "AGAIN" (.int 6)
 Oa:GV K mg "AGE" (.int 2)
 PL:GV K mg "BEAT" (.int 2)
 LJ:GV K mg "BEGIN" (.int 3)
 sT:GV K mg "COMING" (.int 0)
 Hx:GV K mg "DUE" (.int 1)
 Hn:GV K mg "GOOD" (.int 8)
 Iq:GV K mg "GRID" (.int 0)
 HE:GV K mg "HALF" (.tup [.int 1,.int 2])
 C1:GV K mg "HOP" (.int 3)
 kh:GV K mg "IS_MARKED" (.int 4)
 QI:GV K mg "LAST" (.int 2)
 qI:GV K mg "LEFT" (.int 5)
 nK:GV K mg "LOST" (.int 7)
 Pu:GV K mg "MANY" (.int 4)
 Gg:GV K mg "MARK" (.int 3)
 zg:GV K mg "MARKED" (.int 9)
 bM:GV K mg "NAME" (.int 0)
 vJ:GV K mg "NEXT" (.int 4)
 HX:GV K mg "NOUGHT" (.tup [.int 0,.int 1])
 iW:GV K mg "NUMBER" (.int 1)
 Gp:GV K mg "ONE" (.tup [.int 1,.int 1])
 CB:GV K mg "PACE" (.int 1)
 FT:GV K mg "ROAD" (.int 1)
 QV:GV K mg "ROOM" (.int 2)
 IZ:GV K mg "RULE" (.int 5)
 uH:GV K mg "SENDERS" (.int 2)
 Md:GV K mg "SHARE" (.int 3)
 Qz:GV K mg "SORT" (.int 4)
 lO:GV K mg "STANDING" (.int 1)
 jH:GV K mg "STATE_SENDERS" (.int 1)
 jj:GV K mg "STATE_WAYS" (.int 0)
 Kn:GV K mg "WAIT" (.int 10)
 sO:GV K mg "WAYS" (.int 1)
 xE:GV K mg "WINDOW" (.int 2)
local macro_rules | `(tactic| walk_at "sc")=>`(tactic| exact UA rfl rfl rfl rfl (by decide +kernel))
local macro_rules | `(tactic| walk_at "b1")=>`(tactic| (rename_i hl;obtain ⟨x0,e⟩:=T6 hl;subst e;rfl))
local macro_rules | `(tactic| walk_at "b2")=>`(tactic| (rename_i hl;obtain ⟨x0,x1,e⟩:=T4 hl;subst e;rfl))
local macro_rules | `(tactic| walk_at "b3")=>`(tactic| (rename_i hl;obtain ⟨x0,x1,x2,e⟩:=Uq hl;subst e;rfl))
local macro_rules | `(tactic| walk_at "b4")=>`(tactic| (rename_i hl;obtain ⟨x0,x1,x2,x3,e⟩:=Uj hl;subst e;rfl))
local macro_rules | `(tactic| walk_at "b5")=>`(tactic| (rename_i hl;obtain ⟨x0,x1,x2,x3,x4,e⟩:=TZ hl;subst e;rfl))
section
variable {P:WX} {w:Xb} {K:Wa} {mg:Str->Option We} {base:Heap} {t:Adr}
theorem dF:aI ["one", "other", "divisor", "rest", "behind"] ["one", "other"] (ax oX):=by walk_at "sc"
theorem zO (T:Txt w.params K mg t):aS P w K mg base 1 "common_of" ["one", "other"] L3.fZ:=aL T.yQ T.xG dF L3.ur L3.wc (λ_ _ _ _ _ _ _ _=>by walk_at "b2") λ_ _ _ _ _ _ hr hu=>
 ak (aF 2 dF.nd (a6 tN vY rfl T.GD rfl (aa (ae 0) (ai)))) (ak (aF 3 dF.nd (a6 tN vY rfl T.GD rfl (aa (ae 1) (ai)))) (ak (sv W3 (oU (ae 3) (le_int)) (ak (aF 4 dF.nd (js (ae 2) (ae 3))) (ak (aF 2 dF.nd (ae 3)) (av (aF 3 dF.nd (ae 4)))))) (av (aD (ae 2)))))
theorem vI:aI ["top", "bottom", "divisor"] ["top", "bottom"] (ax Ih):=by walk_at "sc"
theorem sC (T:Txt w.params K mg t):aS P w K mg base 2 "part" ["top", "bottom"] L3.gM:=aL T.Sd T.Ri vI L3.JC L3.NH (λ_ _ _ _ _ _ _ _=>by walk_at "b2") λ_ _ _ _ _ _ hr hu=>
 ak (aF 2 vI.nd (ao (zO T) hr rfl (aa (ae 0) (aa (ae 1) (ai))))) (ak (bu (mf (ae 1) (le_int)) (av (aF 2 vI.nd (le_neg (ae 2)))) (aU)) (av (aD (aM (aa (ko (ae 0) (ae 2)) (aa (ko (ae 1) (ae 2)) (ai)))))))
theorem Ms:aI ["one", "other"] ["one", "other"] (ax JH):=by walk_at "sc"
theorem Ga (T:Txt w.params K mg t):aS P w K mg base 3 "plus" ["one", "other"] L3.kK:=aL T.Q3 T.RI Ms L3.HM L3.M1 (λ_ _ _ _ _ _ _ _=>by walk_at "b2") λ_ _ _ _ _ _ hr hu=>
 av (aD (ao (sC T) hr rfl (aa (aN (le_mul (ar (ae 0) (le_int)) (ar (ae 1) (le_int))) (le_mul (ar (ae 1) (le_int)) (ar (ae 0) (le_int)))) (aa (le_mul (ar (ae 0) (le_int)) (ar (ae 1) (le_int))) (ai)))))
theorem IL:aI ["one", "other"] ["one", "other"] (ax C3):=by walk_at "sc"
theorem wu (T:Txt w.params K mg t):aS P w K mg base 3 "minus" ["one", "other"] L3.iV:=aL T.Ln T.Lj IL L3.FI L3.JZ (λ_ _ _ _ _ _ _ _=>by walk_at "b2") λ_ _ _ _ _ _ hr hu=>
 av (aD (ao (sC T) hr rfl (aa (fh (le_mul (ar (ae 0) (le_int)) (ar (ae 1) (le_int))) (le_mul (ar (ae 1) (le_int)) (ar (ae 0) (le_int)))) (aa (le_mul (ar (ae 0) (le_int)) (ar (ae 1) (le_int))) (ai)))))
theorem Jp:aI ["one", "other"] ["one", "other"] (ax Dv):=by walk_at "sc"
theorem wQ (T:Txt w.params K mg t):aS P w K mg base 3 "times" ["one", "other"] L3.iD:=aL T.Nz T.KO Jp L3.Fm L3.JP (λ_ _ _ _ _ _ _ _=>by walk_at "b2") λ_ _ _ _ _ _ hr hu=>
 av (aD (ao (sC T) hr rfl (aa (le_mul (ar (ae 0) (le_int)) (ar (ae 1) (le_int))) (aa (le_mul (ar (ae 0) (le_int)) (ar (ae 1) (le_int))) (ai)))))
theorem Lw:aI ["one", "other"] ["one", "other"] (ax JK):=by walk_at "sc"
theorem Ir (T:Txt w.params K mg t):aS P w K mg base 1 "less" ["one", "other"] L3.mQ:=aL T.Rq T.Rp Lw L3.Ge L3.Nb (λ_ _ _ _ _ _ _ _=>by walk_at "b2") λ_ _ _ _ _ _ hr hu=>
 av (aD (OE (le_mul (ar (ae 0) (le_int)) (ar (ae 1) (le_int))) (le_mul (ar (ae 1) (le_int)) (ar (ae 0) (le_int)))))
theorem yh:aI ["one"] ["one"] (ax rG):=by walk_at "sc"
theorem A1 (T:Txt w.params K mg t):aS P w K mg base 1 "floor_of" ["one"] L3.gX:=aL T.CP T.A9 yh L3.wj L3.Ai (λ_ _ _ _ _ _ _ _=>by walk_at "b1") λ_ _ _ _ _ _ hr hu=>
 av (aD (ko (ar (ae 0) (le_int)) (ar (ae 0) (le_int))))
theorem Fb:aI ["one", "grid"] ["one", "grid"] (ax zx):=by walk_at "sc"
theorem nD (T:Txt w.params K mg t):aS P w K mg base 3 "cut_by" ["one", "grid"] L3.fj:=aL T.FZ T.Hi Fb L3.AL L3.FK (λ_ _ _ _ _ _ _ _=>by walk_at "b2") λ_ _ _ _ _ _ hr hu=>
 av (aD (ao (sC T) hr rfl (aa (ko (le_mul (ar (ae 0) (le_int)) (ae 1)) (ar (ae 0) (le_int))) (aa (ae 1) (ai)))))
theorem FE:aI ["rule"] ["rule"] (ax yk):=by walk_at "sc"
theorem yG (T:Txt w.params K mg t):aS P w K mg base 1 "top_of" ["rule"] L3.iU:=aL T.Jx T.Ko FE L3.Bk L3.EG (λ_ _ _ _ _ _ _ _=>by walk_at "b1") λ_ _ _ _ _ _ hr hu=>
 av (aD (ar (ae 0) (fh (a6 ba bH rfl T.dH rfl (aa (ae 0) (ai))) (le_int))))
theorem y1:aI ["rule", "grid"] ["rule", "grid"] (ax rP):=by walk_at "sc"
theorem B5 (T:Txt w.params K mg t):aS P w K mg base 4 "begun_by" ["rule", "grid"] L3.ig:=aL T.Cr T.Av y1 L3.wm L3.yI (λ_ _ _ _ _ _ _ _=>by walk_at "b2") λ_ _ _ _ _ _ hr hu=>
 av (aD (aM (aa (ao (nD T) hr rfl (aa (ar (ae 0) (le_int)) (aa (ae 1) (ai)))) (aa (aG rfl T.HX) (ai)))))
theorem AF:aI ["rule", "heard"] ["rule", "heard"] (ax uT):=by walk_at "sc"
theorem ED (T:Txt w.params K mg t):aS P w K mg base 1 "is_idle" ["rule", "heard"] L3.jq:=aL T.EF T.El AF L3.Ak L3.BA (λ_ _ _ _ _ _ _ _=>by walk_at "b2") λ_ _ _ _ _ _ hr hu=>
 av (aD (N9 (le_eq hu (ar (ae 0) (le_int)) (le_str)) (ki (le_eq hu (aN (aN (ar (ae 1) (le_int)) (ar (ae 1) (le_int))) (ar (ae 1) (le_int))) (le_int)))))
theorem fG:aI ["rule", "grid", "share", "heard", "bad", "nearer"] ["rule", "grid", "share", "heard"] (ax jQ):=by walk_at "sc"
theorem r6 (T:Txt w.params K mg t):aS P w K mg base 4 "share_behind" ["rule", "grid", "share", "heard"] L3.eC:=aL T.rF T.sV fG L3.oh L3.qf (λ_ _ _ _ _ _ _ _=>by walk_at "b4") λ_ _ _ _ _ _ hr hu=>
 ak (bu (vC hu (ar (ae 0) (le_int)) (le_str)) (av (aD (ae 2))) (aU)) (ak (aF 4 fG.nd (aN (ar (ae 3) (le_int)) (ar (ae 3) (le_int)))) (ak (aF 5 fG.nd (ao (wQ T) hr rfl (aa (ar (ae 0) (le_int)) (aa (ao (wu T) hr rfl (aa (ao (sC T) hr rfl (aa (ae 4) (aa (aN (ar (ae 3) (le_int)) (ae 4)) (ai)))) (aa (ae 2) (ai)))) (ai))))) (av (aD (ao (nD T) hr rfl (aa (ao (Ga T) hr rfl (aa (ae 2) (aa (ae 5) (ai)))) (aa (ae 1) (ai))))))))
theorem vM:aI ["rule", "share", "heard"] ["rule", "share", "heard"] (ax o6):=by walk_at "sc"
theorem xI (T:Txt w.params K mg t):aS P w K mg base 4 "factor_of" ["rule", "share", "heard"] L3.gc:=aL T.ym T.zC vM L3.ud L3.wA (λ_ _ _ _ _ _ _ _=>by walk_at "b3") λ_ _ _ _ _ _ hr hu=>
 ak (bu (lt_eq hu (ar (ae 0) (le_int)) (le_str)) (av (aD (iu (oU (ar (ae 2) (le_int)) (le_int)) (aG rfl T.HE) (cV)))) (aU)) (ak (bu (lt_eq hu (aN (ar (ae 2) (le_int)) (ar (ae 2) (le_int))) (le_int)) (av (aD (iu (lt_eq hu (ar (ae 0) (le_int)) (le_str)) (ar (ae 0) (le_int)) (cV)))) (aU)) (ak (bu (lt_eq hu (ar (ae 0) (le_int)) (le_str)) (av (aD (ao (wu T) hr rfl (aa (aG rfl T.Gp) (aa (ao (wQ T) hr rfl (aa (aG rfl T.HE) (aa (ae 1) (ai)))) (ai)))))) (aU)) (av (aD (ar (ae 0) (le_int))))))
theorem JB:aI ["rule", "window", "heard"] ["rule", "window", "heard"] (ax Ea):=by walk_at "sc"
theorem NQ (T:Txt w.params K mg t):aS P w K mg base 4 "moved" ["rule", "window", "heard"] L3.md:=aL T.NF T.KP JB L3.Fe L3.FR (λ_ _ _ _ _ _ _ _=>by walk_at "b3") λ_ _ _ _ _ _ hr hu=>
 ak (bu (LW.lt (Ed (vC hu (ar (ae 0) (le_int)) (le_str)) (wq (mf (ar (ae 2) (le_int)) (ar (ae 0) (le_int)))))) (av (aD (ao (Ga T) hr rfl (aa (ae 1) (aa (ar (ae 0) (le_int)) (ai)))))) (aU)) (ak (bu (oU (ar (ae 2) (le_int)) (ar (ae 0) (le_int))) (av (aD (ao (wu T) hr rfl (aa (ae 1) (aa (ar (ae 0) (le_int)) (ai)))))) (aU)) (av (aD (ae 1))))
theorem NJ:aI ["rule", "grid", "window"] ["rule", "grid", "window"] (ax Hh):=by walk_at "sc"
theorem J2 (T:Txt w.params K mg t):aS P w K mg base 4 "held" ["rule", "grid", "window"] L3.ml:=aL T.RP T.Q5 NJ L3.IS L3.L4 (λ_ _ _ _ _ _ _ _=>by walk_at "b3") λ_ _ _ _ _ _ hr hu=>
 ak (bu (qU (ao (Ir T) hr rfl (aa (ae 2) (aa (aG rfl T.Gp) (ai))))) (av (aD (aG rfl T.Gp))) (aU)) (ak (bu (qU (ao (Ir T) hr rfl (aa (ao (yG T) hr rfl (aa (ae 0) (ai))) (aa (ae 2) (ai))))) (av (aD (ao (nD T) hr rfl (aa (ao (yG T) hr rfl (aa (ae 0) (ai))) (aa (ae 1) (ai)))))) (aU)) (av (aD (ao (nD T) hr rfl (aa (ae 2) (aa (ae 1) (ai)))))))
theorem kz:aI ["rule", "grid", "window", "share", "heard", "nearer", "factor"] ["rule", "grid", "window", "share", "heard"] (ax qH):=by walk_at "sc"
theorem AN (T:Txt w.params K mg t):aS P w K mg base 5 "heard_by" ["rule", "grid", "window", "share", "heard"] L3.h9:=aL T.BR T.By kz L3.vS L3.yr (λ_ _ _ _ _ _ _ _=>by walk_at "b5") λ_ _ _ _ _ _ hr hu=>
 ak (bu (qU (ao (ED T) hr rfl (aa (ae 0) (aa (ae 4) (ai))))) (av (aD (aM (aa (ae 2) (aa (ae 3) (ai)))))) (aU)) (ak (aF 5 kz.nd (ao (r6 T) hr rfl (aa (ae 0) (aa (ae 1) (aa (ae 3) (aa (ae 4) (ai))))))) (ak (aF 6 kz.nd (ao (xI T) hr rfl (aa (ae 0) (aa (ae 5) (aa (ae 4) (ai)))))) (ak (bu (tK (ae 6) (cV)) (av (aD (aM (aa (ao (J2 T) hr rfl (aa (ae 0) (aa (ae 1) (aa (ao (NQ T) hr rfl (aa (ae 0) (aa (ae 2) (aa (ae 4) (ai))))) (ai))))) (aa (ae 5) (ai)))))) (aU)) (av (aD (aM (aa (ao (J2 T) hr rfl (aa (ae 0) (aa (ae 1) (aa (ao (wQ T) hr rfl (aa (ae 2) (aa (ae 6) (ai)))) (ai))))) (aa (ae 5) (ai)))))))))
theorem uz:aI ["way", "letter", "ahead"] ["way", "letter", "ahead"] (ax mV):=by walk_at "sc"
theorem xl (T:Txt w.params K mg t):aS P w K mg base 1 "put_behind" ["way", "letter", "ahead"] L3.fo:=aL T.wo T.vE uz L3.rY L3.tZ (λ_ _ _ _ _ _ _ _=>by walk_at "b3") λ_ _ _ _ _ _ hr hu=>
 ak (bu (LW.lt (Ed (tK (ar (ae 0) (aG rfl T.Gg)) (cV)) (wq (mf (ae 2) (ar (ae 0) (aG rfl T.Gg)))))) (av (aD (ae 1))) (aU)) (av (aD (aN (kH (ae 1) (lJ) (fE (aG rfl T.kh))) (aM (aa (le_int) (ai))))))
theorem hV:aI ["way", "standing", "letters", "stands", "lost", "letter"] ["way", "standing", "letters"] (ax rX):=by walk_at "sc"
theorem Ay (T:Txt w.params K mg t):aS P w K mg base 2 "taken_in" ["way", "standing", "letters"] L3.hU:=aL T.AB T.Bx hV L3.vK L3.zD (λ_ _ _ _ _ _ _ _=>by walk_at "b3") λ_ _ _ _ _ _ hr hu=>
 ak (aF 3 hV.nd (a7 i5 vc rfl T.AX rfl (aa (ae 1) (ai)))) (ak (aF 4 hV.nd (i7 (ai))) (ak (dM W3 rfl (bS (ae 2)) (i8 5 hV.nd) (av (bu (OK (a6 ba bH rfl T.dH rfl (aa (ae 3) (ai))) (ar (ae 0) (aG rfl T.QV))) (av (eB (le_app (ae 4) (ae 5)))) (av (eB (le_app (ae 3) (ao (xl T) hr rfl (aa (ae 0) (aa (ae 5) (aa (a6 ba bH rfl T.dH rfl (aa (ae 3) (ai))) (ai))))))))))) (av (aD (aM (aa (a7 aR bj rfl T.bK rfl (aa (ae 3) (ai))) (aa (a7 aR bj rfl T.bK rfl (aa (ae 4) (ai))) (ai))))))))
theorem jk:aI ["names", "owners", "last", "there", "behind"] ["names", "owners", "last"] (ax gT):=by walk_at "sc"
theorem yz (T:Txt w.params K mg t):aS P w K mg base 1 "next_name" ["names", "owners", "last"] L3.fU:=aL T.yR T.yS jk L3.uu L3.xn (λ_ _ _ _ _ _ _ _=>by walk_at "b3") λ_ _ _ _ _ _ hr hu=>
 ak (gD (fsc:=ax gT) 3 jk.nd ["names", "owners", "last", "there", "behind"] ["name", "owners"] 1 [1] rfl rfl (bS (ae 0)) (λcl C s₀ H₀ ex=>⟨bA 0 (show (["name", "owners"]:List Str).Nodup from by decide +kernel),fq (AI hu (ae 0) (ae 1)),ae 0⟩) rfl rfl (by decide +kernel)) (ak (gD (fsc:=ax gT) 4 jk.nd ["names", "owners", "last", "there", "behind"] ["name", "last"] 1 [2] rfl rfl (bS (ae 3)) (λcl C s₀ H₀ ex=>⟨bA 0 (show (["name", "last"]:List Str).Nodup from by decide +kernel),fq (Sm (ae 0) (ae 1)),ae 0⟩) rfl rfl (by decide +kernel)) (av (aD (iu (oU (a6 ba bH rfl T.dH rfl (aa (ae 4) (ai))) (le_int)) (ar (ae 4) (le_int)) (ar (ae 3) (le_int))))))
theorem cf:aI ["way", "names", "standing", "last", "stands", "out", "name", "owners"] ["way", "names", "standing", "last"] (ax gE):=by walk_at "sc"
theorem tP (T:Txt w.params K mg t):aS P w K mg base 2 "out_by_turns" ["way", "names", "standing", "last"] L3.eu:=aL T.tQ T.rC cf L3.nM L3.qh (λ_ _ _ _ _ _ _ _=>by walk_at "b4") λ_ _ _ _ _ _ hr hu=>
 ak (aF 4 cf.nd (a7 i5 vc rfl T.AX rfl (aa (ae 2) (ai)))) (ak (aF 5 cf.nd (i7 (ai))) (ak (aF 6 cf.nd (ae 3)) (ak (sv W3 (LW.lt (l9 (oU (a6 ba bH rfl T.dH rfl (aa (ae 4) (ai))) (le_int)) (iZ (mf (a6 ba bH rfl T.dH rfl (aa (ae 5) (ai))) (ar (ae 0) (aG rfl T.CB)))))) (ak (nG (fsc:=ax gE) 7 cf.nd ["way", "names", "standing", "last", "stands", "out", "name", "owners"] ["letter"] 1 [] rfl rfl (ae 4) (λcl C s₀ H₀ ex=>⟨bA 0 (show (["letter"]:List Str).Nodup from by decide +kernel),b9,ar (ae 0) (aG rfl T.bM)⟩) rfl rfl (by decide +kernel)) (ak (aF 6 cf.nd (ao (yz T) hr rfl (aa (ae 1) (aa (ae 7) (aa (ae 6) (ai)))))) (av (eB (le_app (ae 5) (O5 (ae 4) (Hq hu (ae 7) (ae 6))))))))) (av (aD (aM (aa (a7 aR bj rfl T.bK rfl (aa (ae 5) (ai))) (aa (a7 aR bj rfl T.bK rfl (aa (ae 4) (ai))) (aa (ae 6) (ai))))))))))
theorem Bg:aI ["way", "names", "standing", "last"] ["way", "names", "standing", "last"] (ax uW):=by walk_at "sc"
theorem ER (T:Txt w.params K mg t):aS P w K mg base 3 "let_out" ["way", "names", "standing", "last"] L3.jt:=aL T.Fz T.Fq Bg L3.Ac L3.Bi (λ_ _ _ _ _ _ _ _=>by walk_at "b4") λ_ _ _ _ _ _ hr hu=>
 ak (bu (lt_eq hu (ar (ae 0) (aG rfl T.Qz)) (le_str)) (av (aD (ao (tP T) hr rfl (aa (ae 0) (aa (ae 1) (aa (ae 2) (aa (ae 3) (ai)))))))) (aU)) (av (aD (aM (aa (a7 aR bj rfl T.bK rfl (aa (kH (ae 2) (lJ) (fE (ar (ae 0) (aG rfl T.CB)))) (ai))) (aa (a7 aR bj rfl T.bK rfl (aa (kH (ae 2) (fE (ar (ae 0) (aG rfl T.CB))) (lJ)) (ai))) (aa (le_str) (ai)))))))
theorem jD:aI ["grid", "sender", "first"] ["grid", "sender"] (ax jS):=by walk_at "sc"
theorem qD (T:Txt w.params K mg t):aS P w K mg base 5 "begun_sender" ["grid", "sender"] L3.eE:=aL T.r9 T.sS jD L3.nZ L3.qd (λ_ _ _ _ _ _ _ _=>by walk_at "b2") λ_ _ _ _ _ _ hr hu=>
 ak (aF 2 jD.nd (ao (B5 T) hr rfl (aa (ar (ae 1) (aG rfl T.IZ)) (aa (ae 0) (ai))))) (av (aD (aM (aa (ar (ae 1) (aG rfl T.bM)) (aa (ar (ae 1) (aG rfl T.LJ)) (aa (ar (ae 2) (le_int)) (aa (ar (ae 2) (le_int)) (aa (le_int) (aa (ar (ae 1) (aG rfl T.Pu)) (aa (aM (ai)) (aa (aM (ai)) (aa (le_int) (aa (le_int) (aa (le_int) (ai)))))))))))))))
theorem yC:aI ["plan", "ways"] ["plan"] (ax qj):=by walk_at "sc"
theorem Nu (T:Txt w.params K mg t):aS P w K mg base 6 "begun" ["plan"] L3.nB:=aL T.ML T.MM yC L3.Fn L3.Gs (λ_ _ _ _ _ _ _ _=>by walk_at "b1") λ_ _ _ _ _ _ hr hu=>
 ak (aF 1 yC.nd (a7 aR bj rfl T.bK rfl (aa (bO (fsc:=ax qj) ["plan", "ways"] ["way"] 1 [] rfl rfl (bS (ar (ae 0) (aG rfl T.sO))) (λcl C s₀ H₀ ex=>⟨bA 0 (show (["way"]:List Str).Nodup from by decide +kernel),b9,aM (aa (aM (ai)) (aa (aM (ai)) (aa (le_str) (ai))))⟩) rfl rfl (by decide +kernel)) (ai)))) (av (aD (aM (aa (ae 1) (aa (a7 aR bj rfl T.bK rfl (aa (bO (fsc:=ax qj) ["plan", "ways"] ["sender", "plan"] 1 [0] rfl rfl (bS (ar (ae 0) (aG rfl T.uH))) (λcl C s₀ H₀ ex=>⟨bA 0 (show (["sender", "plan"]:List Str).Nodup from by decide +kernel),b9,ao (qD T) hr rfl (aa (ar (ae 1) (aG rfl T.Iq)) (aa (ae 0) (ai)))⟩) rfl rfl (by decide +kernel)) (ai))) (ai))))))
theorem fT:aI ["state", "name", "count", "way"] ["state", "name"] (ax j6):=by walk_at "sc"
theorem zI (T:Txt w.params K mg t):aS P w K mg base 1 "under_way" ["state", "name"] L3.f9:=aL T.zK T.zX fT L3.uf L3.xq (λ_ _ _ _ _ _ _ _=>by walk_at "b2") λ_ _ _ _ _ _ hr hu=>
 ak (aF 2 fT.nd (le_int)) (ak (dM W3 rfl (bS (ar (ae 0) (aG rfl T.jj))) (i8 3 fT.nd) (av (Fv 2 fT.nd (a6 ba bH rfl T.dH rfl (aa (bO (fsc:=ax j6) ["state", "name", "count", "way"] ["letter", "name"] 1 [1] rfl rfl (bS (aN (ar (ae 3) (aG rfl T.sT)) (ar (ae 3) (aG rfl T.lO)))) (λcl C s₀ H₀ ex=>⟨bA 0 (show (["letter", "name"]:List Str).Nodup from by decide +kernel),fq (lt_eq hu (ar (ae 0) (aG rfl T.bM)) (ae 1)),ae 0⟩) rfl rfl (by decide +kernel)) (ai)))))) (av (aD (ae 2))))
theorem xx:aI ["kept", "places"] ["kept", "places"] (ax sf):=by walk_at "sc"
theorem Cb (T:Txt w.params K mg t):aS P w K mg base 1 "new_ones" ["kept", "places"] L3.gL:=aL T.CO T.A2 xx L3.w6 L3.Ap (λ_ _ _ _ _ _ _ _=>by walk_at "b2") λ_ _ _ _ _ _ hr hu=>
 av (aD (iu (tK (ar (ae 0) (aG rfl T.qI)) (cV)) (ae 1) (a6 (E8 rfl) F8 rfl T.Ux rfl (aa (ae 1) (aa (ar (ae 0) (aG rfl T.qI)) (ai))))))
theorem eK:aI ["kept", "places", "old", "count", "first", "left", "filled"] ["kept", "places"] (ax qM):=by walk_at "sc"
theorem CC (T:Txt w.params K mg t):aS P w K mg base 2 "sent_off" ["kept", "places"] L3.gH:=aL T.BE T.BZ eK L3.vV L3.zd (λ_ _ _ _ _ _ _ _=>by walk_at "b2") λ_ _ _ _ _ _ hr hu=>
 ak (aF 2 eK.nd (kH (ar (ae 0) (aG rfl T.qk)) (lJ) (fE (ae 1)))) (ak (aF 3 eK.nd (ao (Cb T) hr rfl (aa (ae 0) (aa (fh (ae 1) (a6 ba bH rfl T.dH rfl (aa (ae 2) (ai)))) (ai))))) (ak (aF 4 eK.nd (ar (ae 0) (aG rfl T.vJ))) (ak (aF 5 eK.nd (iu (tK (ar (ae 0) (aG rfl T.qI)) (cV)) (cV) (fh (ar (ae 0) (aG rfl T.qI)) (ae 3)))) (ak (aF 6 eK.nd (aN (aN (kH (ae 0) (lJ) (fE (aG rfl T.vJ))) (aM (aa (aN (ae 4) (ae 3)) (aa (ae 5) (aa (kH (ar (ae 0) (aG rfl T.qk)) (fE (a6 ba bH rfl T.dH rfl (aa (ae 2) (ai)))) (lJ)) (ai)))))) (kH (ae 0) (fE (aG rfl T.nK)) (lJ)))) (av (aD (aM (aa (ae 6) (aa (aN (ae 2) (Ny rfl rfl T.bK rfl T.mF (ae 4) (aN (ae 4) (ae 3)))) (ai))))))))))
theorem iT:aI ["grid", "sender", "kept", "state", "heard", "told", "again", "ready"] ["grid", "sender", "kept", "state"] (ax zT):=by walk_at "sc"
theorem HV (T:Txt w.params K mg t):aS P w K mg base 6 "beaten" ["grid", "sender", "kept", "state"] L3.ly:=aL T.Jm T.Io iT L3.B0 L3.Er (λ_ _ _ _ _ _ _ _=>by walk_at "b4") λ_ _ _ _ _ _ hr hu=>
 ak (bu (vC hu (ar (ae 2) (aG rfl T.Hx)) (le_int)) (av (aD (aM (aa (ae 2) (aa (aM (ai)) (ai)))))) (aU)) (ak (aF 4 iT.nd (aM (aa (ar (ae 2) (aG rfl T.Hn)) (aa (ar (ae 2) (aG rfl T.zg)) (aa (a6 ba bH rfl T.dH rfl (aa (ar (ae 2) (aG rfl T.nK)) (ai))) (aa (ar (ae 2) (aG rfl T.Kn)) (ai))))))) (ak (aF 5 iT.nd (ao (AN T) hr rfl (aa (ar (ae 1) (aG rfl T.IZ)) (aa (ae 0) (aa (ar (ae 2) (aG rfl T.xE)) (aa (ar (ae 2) (aG rfl T.Md)) (aa (ae 4) (ai)))))))) (ak (aF 6 iT.nd (a7 aR bj rfl T.bK rfl (aa (zJ rfl T.qY rfl (aa (aN (ar (ae 2) (aG rfl T.qk)) (ar (ae 2) (aG rfl T.nK))) (ai))) (ai)))) (ak (aF 7 iT.nd (aM (aa (ar (ae 2) (aG rfl T.bM)) (aa (ar (ae 2) (aG rfl T.Hx)) (aa (ar (ae 5) (le_int)) (aa (ar (ae 5) (le_int)) (aa (ar (ae 2) (aG rfl T.vJ)) (aa (ar (ae 2) (aG rfl T.qI)) (aa (ae 6) (aa (aM (ai)) (aa (le_int) (aa (le_int) (aa (le_int) (ai)))))))))))))) (av (aD (ao (CC T) hr rfl (aa (ae 7) (aa (a6 (u4 rfl) yF rfl T.DM rfl (aa (le_int) (aa (fh (ao (A1 T) hr rfl (aa (ar (ae 5) (le_int)) (ai))) (ao (zI T) hr rfl (aa (ae 3) (aa (ar (ae 2) (aG rfl T.bM)) (ai))))) (ai)))) (ai))))))))))
theorem cP:aI ["senders", "numbers", "sent", "turn", "sender", "own"] ["senders", "numbers"] (ax fH):=by walk_at "sc"
theorem pT (T:Txt w.params K mg t):aS P w K mg base 1 "sent_in_order" ["senders", "numbers"] L3.dz:=aL T.pS T.pY cP L3.mJ L3.nF (λ_ _ _ _ _ _ _ _=>by walk_at "b2") λ_ _ _ _ _ _ hr hu=>
 ak (aF 2 cP.nd (i7 (ai))) (ak (dM W3 rfl (lj rfl T.mF (DQ rfl rfl T.DM (bO (fsc:=ax fH) ["senders", "numbers", "sent", "turn", "sender", "own"] ["own"] 1 [] rfl rfl (bS (ae 1)) (λcl C s₀ H₀ ex=>⟨bA 0 (show (["own"]:List Str).Nodup from by decide +kernel),b9,a6 ba bH rfl T.dH rfl (aa (ae 0) (ai))⟩) rfl rfl (by decide +kernel)) (le_int))) (i8 3 cP.nd) (av (dM W3 rfl (f6 rfl T.nv (aa (ae 0) (aa (ae 1) (ai)))) (fg rfl (aZ 4 cP.nd (aZ 5 cP.nd (dA)))) (av (bu (mf (ae 3) (a6 ba bH rfl T.dH rfl (aa (ae 5) (ai)))) (av (eB (le_app (ae 2) (aM (aa (ar (ar (ae 4) (aG rfl T.FT)) (le_int)) (aa (aM (aa (ar (ae 4) (aG rfl T.bM)) (aa (ar (ae 5) (ae 3)) (aa (le_int) (aa (le_int) (aa (le_int) (ai))))))) (ai))))))) (aU)))))) (av (aD (sG (ae 2)))))
theorem lg:aI ["way", "names", "kept", "sent", "came", "held", "told"] ["way", "names", "kept", "sent"] (ax tR):=by walk_at "sc"
theorem IM (T:Txt w.params K mg t):aS P w K mg base 4 "passed" ["way", "names", "kept", "sent"] L3.kT:=aL T.HY T.FY lg L3.Cf L3.EL (λ_ _ _ _ _ _ _ _=>by walk_at "b4") λ_ _ _ _ _ _ hr hu=>
 ak (aF 4 lg.nd (aN (ar (ae 2) (aG rfl T.sT)) (a7 aR bj rfl T.bK rfl (aa (bO (fsc:=ax tR) ["way", "names", "kept", "sent", "came", "held", "told"] ["first", "letter", "way"] 2 [0] rfl rfl (bS (ae 3)) (λcl C s₀ H₀ ex=>⟨ie rfl (bG 0 (show (["first", "letter", "way"]:List Str).Nodup from by decide +kernel) (bG 1 (show (["first", "letter", "way"]:List Str).Nodup from by decide +kernel) (fu))),fq (lt_eq hu (ae 0) (ar (ae 2) (aG rfl T.bM))),ae 1⟩) rfl rfl (by decide +kernel)) (ai))))) (ak (aF 5 lg.nd (ao (Ay T) hr rfl (aa (ae 0) (aa (ar (ae 2) (aG rfl T.lO)) (aa (ae 4) (ai)))))) (ak (aF 6 lg.nd (ao (ER T) hr rfl (aa (ae 0) (aa (ae 1) (aa (ar (ae 5) (le_int)) (aa (ar (ae 2) (aG rfl T.QI)) (ai))))))) (av (aD (aM (aa (ae 4) (aa (ar (ae 5) (le_int)) (aa (ar (ae 6) (le_int)) (aa (ar (ae 6) (le_int)) (aa (ar (ae 6) (le_int)) (ai)))))))))))
theorem lG:aI ["roads", "letter", "road"] ["roads", "letter"] (ax mq):=by walk_at "sc"
theorem jc (T:Txt w.params K mg t):aS P w K mg base 1 "way_behind" ["roads", "letter"] L3.dg:=aL T.wN T.xj lG L3.rJ L3.uq (λ_ _ _ _ _ _ _ _=>by walk_at "b2") λ_ _ _ _ _ _ hr hu=>
 ak (aF 2 lG.nd (cN hu (ae 0) (ar (ae 1) (aG rfl T.bM)))) (av (aD (iu (mf (aN (ar (ae 1) (aG rfl T.C1)) (le_int)) (a6 ba bH rfl T.dH rfl (aa (ae 2) (ai)))) (ar (ae 2) (aN (ar (ae 1) (aG rfl T.C1)) (le_int))) (cV))))
theorem c8:aI ["way", "roads", "went", "events", "place", "letter", "word"] ["way", "roads", "went"] (ax oM):=by walk_at "sc"
theorem Ab (T:Txt w.params K mg t):aS P w K mg base 2 "events_of" ["way", "roads", "went"] L3.fM:=aL T.yE T.yL c8 L3.ui L3.xg (λ_ _ _ _ _ _ _ _=>by walk_at "b3") λ_ _ _ _ _ _ hr hu=>
 ak (aF 3 c8.nd (i7 (ai))) (ak (dM W3 rfl (vT rfl T.jO (aa (ar (ae 2) (le_int)) (ai))) (fg rfl (aZ 4 c8.nd (aZ 5 c8.nd (dA)))) (ak (aF 6 c8.nd (iu (mf (ae 4) (fh (a6 ba bH rfl T.dH rfl (aa (ar (ae 2) (le_int)) (ai))) (a6 ba bH rfl T.dH rfl (aa (ar (ae 2) (le_int)) (ai))))) (le_str) (le_str))) (av (eB (le_app (ae 3) (aM (aa (ae 6) (aa (ar (ae 5) (aG rfl T.bM)) (aa (ar (ae 5) (aG rfl T.iW)) (aa (ar (ae 0) (aG rfl T.bM)) (ai))))))))))) (ak (dM W3 rfl (bS (ar (ae 2) (le_int))) (i8 5 c8.nd) (ak (aF 6 c8.nd (iu (tK (ao (jc T) hr rfl (aa (ae 1) (aa (ae 5) (ai)))) (cV)) (le_str) (le_str))) (av (eB (le_app (ae 3) (aM (aa (ae 6) (aa (ar (ae 5) (aG rfl T.bM)) (aa (ar (ae 5) (aG rfl T.iW)) (aa (ar (ae 0) (aG rfl T.bM)) (ai))))))))))) (av (aD (sG (ae 3))))))
theorem KY:aI ["letter", "hops"] ["letter", "hops"] (ax HL):=by walk_at "sc"
theorem Jt (T:Txt w.params K mg t):aS P w K mg base 1 "aged" ["letter", "hops"] L3.mj:=aL T.PQ T.OZ KY L3.Hy L3.Mj (λ_ _ _ _ _ _ _ _=>by walk_at "b2") λ_ _ _ _ _ _ hr hu=>
 av (aD (aM (aa (ar (ae 0) (aG rfl T.bM)) (aa (ar (ae 0) (aG rfl T.iW)) (aa (aN (ar (ae 0) (aG rfl T.Oa)) (le_int)) (aa (aN (ar (ae 0) (aG rfl T.C1)) (ae 1)) (aa (ar (ae 0) (aG rfl T.kh)) (ai))))))))
theorem mH:aI ["way", "roads", "went", "out", "coming"] ["way", "roads", "went", "out"] (ax gW):=by walk_at "sc"
theorem xu (T:Txt w.params K mg t):aS P w K mg base 2 "way_after" ["way", "roads", "went", "out"] L3.fL:=aL T.yM T.xw mH L3.tV L3.wg (λ_ _ _ _ _ _ _ _=>by walk_at "b4") λ_ _ _ _ _ _ hr hu=>
 ak (nG (fsc:=ax gW) 4 mH.nd ["way", "roads", "went", "out", "coming"] ["letter", "roads", "way"] 1 [1,0] rfl rfl (ae 3) (λcl C s₀ H₀ ex=>⟨bA 0 (show (["letter", "roads", "way"]:List Str).Nodup from by decide +kernel),fq (lt_eq hu (ao (jc T) hr rfl (aa (ae 1) (aa (ae 0) (ai)))) (ar (ae 2) (aG rfl T.bM))),ao (Jt T) hr rfl (aa (ae 0) (aa (le_int) (ai)))⟩) rfl rfl (by decide +kernel)) (av (aD (aM (aa (a7 aR bj rfl T.bK rfl (aa (ae 4) (ai))) (aa (a7 aR bj rfl T.bK rfl (aa (bO (fsc:=ax gW) ["way", "roads", "went", "out", "coming"] ["letter"] 1 [] rfl rfl (bS (ar (ae 2) (le_int))) (λcl C s₀ H₀ ex=>⟨bA 0 (show (["letter"]:List Str).Nodup from by decide +kernel),b9,ao (Jt T) hr rfl (aa (ae 0) (aa (le_int) (ai)))⟩) rfl rfl (by decide +kernel)) (ai))) (aa (ar (ae 2) (le_int)) (ai)))))))
theorem xp:aI ["sender", "due"] ["sender", "due"] (ax oN):=by walk_at "sc"
theorem yX (T:Txt w.params K mg t):aS P w K mg base 1 "due_after" ["sender", "due"] L3.fV:=aL T.yN T.z9 xp L3.uw L3.xi (λ_ _ _ _ _ _ _ _=>by walk_at "b2") λ_ _ _ _ _ _ hr hu=>
 ak (bu (tK (ae 1) (cV)) (av (aD (cV))) (aU)) (av (aD (iu (lt_eq hu (ae 1) (le_int)) (fh (ar (ae 0) (aG rfl T.PL)) (le_int)) (fh (ae 1) (le_int)))))
theorem bN:aI ["sender", "kept", "lost", "taken", "numbers", "own", "marked", "wait", "heard", "start"] ["sender", "kept", "lost", "taken"] (ax cQ):=by walk_at "sc"
theorem rM (T:Txt w.params K mg t):aS P w K mg base 2 "sender_after" ["sender", "kept", "lost", "taken"] L3.eg:=aL T.sR T.sD bN L3.oF L3.pM (λ_ _ _ _ _ _ _ _=>by walk_at "b4") λ_ _ _ _ _ _ hr hu=>
 ak (nG (fsc:=ax cQ) 4 bN.nd ["sender", "kept", "lost", "taken", "numbers", "own", "marked", "wait", "heard", "start"] ["letter", "sender"] 1 [0] rfl rfl (ae 2) (λcl C s₀ H₀ ex=>⟨bA 0 (show (["letter", "sender"]:List Str).Nodup from by decide +kernel),fq (lt_eq hu (ar (ae 0) (aG rfl T.bM)) (ar (ae 1) (aG rfl T.bM))),ar (ae 0) (aG rfl T.iW)⟩) rfl rfl (by decide +kernel)) (ak (gD (fsc:=ax cQ) 5 bN.nd ["sender", "kept", "lost", "taken", "numbers", "own", "marked", "wait", "heard", "start"] ["letter", "sender"] 1 [0] rfl rfl (bS (ae 3)) (λcl C s₀ H₀ ex=>⟨bA 0 (show (["letter", "sender"]:List Str).Nodup from by decide +kernel),fq (lt_eq hu (ar (ae 0) (aG rfl T.bM)) (ar (ae 1) (aG rfl T.bM))),ae 0⟩) rfl rfl (by decide +kernel)) (ak (aF 6 bN.nd (a6 (Ew rfl) JG rfl T.So rfl (aa (bO (fsc:=ax cQ) ["sender", "kept", "lost", "taken", "numbers", "own", "marked", "wait", "heard", "start"] ["letter"] 1 [] rfl rfl (bS (ae 5)) (λcl C s₀ H₀ ex=>⟨bA 0 (show (["letter"]:List Str).Nodup from by decide +kernel),b9,ar (ae 0) (aG rfl T.kh)⟩) rfl rfl (by decide +kernel)) (ai)))) (ak (aF 7 bN.nd (DQ rfl rfl T.DM (bO (fsc:=ax cQ) ["sender", "kept", "lost", "taken", "numbers", "own", "marked", "wait", "heard", "start"] ["letter"] 1 [] rfl rfl (bS (ae 5)) (λcl C s₀ H₀ ex=>⟨bA 0 (show (["letter"]:List Str).Nodup from by decide +kernel),b9,fh (ar (ae 0) (aG rfl T.Oa)) (ar (ae 0) (aG rfl T.C1))⟩) rfl rfl (by decide +kernel)) (le_int))) (ak (aF 8 bN.nd (aM (aa (fh (aN (ar (ae 1) (aG rfl T.Hn)) (a6 ba bH rfl T.dH rfl (aa (ae 5) (ai)))) (ae 6)) (aa (aN (ar (ae 1) (aG rfl T.zg)) (ae 6)) (aa (a6 (u4 rfl) yF rfl T.DM rfl (aa (ar (ae 1) (aG rfl T.Kn)) (aa (ae 7) (ai)))) (ai)))))) (ak (aF 9 bN.nd (aM (aa (ar (ae 1) (aG rfl T.bM)) (aa (ao (yX T) hr rfl (aa (ae 0) (aa (ar (ae 1) (aG rfl T.Hx)) (ai)))) (ai))))) (av (aD (aN (aN (aN (ae 9) (kH (ae 1) (fE (aG rfl T.xE)) (fE (aG rfl T.nK)))) (aM (aa (a7 aR bj rfl T.bK rfl (aa (zJ rfl T.qY rfl (aa (aN (ar (ae 1) (aG rfl T.nK)) (a7 aR bj rfl T.bK rfl (aa (ae 4) (ai)))) (ai))) (ai))) (ai)))) (ae 8)))))))))
theorem bz:aI ["plan", "state", "senders", "names", "roads", "beats", "sent", "went", "events", "lost", "out", "way", "told", "taken", "ways", "after"] ["plan", "state"] (ax cO):=by walk_at "sc"
theorem FN (T:Txt w.params K mg t):aS P w K mg base 7 "stepped" ["plan", "state"] L3.i6:=aL T.Ff T.Ez bz L3.xU L3.Ci (λ_ _ _ _ _ _ _ _=>by walk_at "b2") λ_ _ _ _ _ _ hr hu=>
 ak (aF 2 bz.nd (ar (ae 0) (aG rfl T.uH))) (ak (aF 3 bz.nd (a7 aR bj rfl T.bK rfl (aa (bO (fsc:=ax cO) ["plan", "state", "senders", "names", "roads", "beats", "sent", "went", "events", "lost", "out", "way", "told", "taken", "ways", "after"] ["sender"] 1 [] rfl rfl (bS (ae 2)) (λcl C s₀ H₀ ex=>⟨bA 0 (show (["sender"]:List Str).Nodup from by decide +kernel),b9,ar (ae 0) (aG rfl T.bM)⟩) rfl rfl (by decide +kernel)) (ai)))) (ak (aF 4 bz.nd (a7 (BF rfl) HW rfl T.R4 rfl (aa (bO (fsc:=ax cO) ["plan", "state", "senders", "names", "roads", "beats", "sent", "went", "events", "lost", "out", "way", "told", "taken", "ways", "after"] ["sender"] 1 [] rfl rfl (bS (ae 2)) (λcl C s₀ H₀ ex=>⟨bA 0 (show (["sender"]:List Str).Nodup from by decide +kernel),b9,aM (aa (ar (ae 0) (aG rfl T.bM)) (aa (ar (ae 0) (aG rfl T.FT)) (ai)))⟩) rfl rfl (by decide +kernel)) (ai)))) (ak (gD (fsc:=ax cO) 5 bz.nd ["plan", "state", "senders", "names", "roads", "beats", "sent", "went", "events", "lost", "out", "way", "told", "taken", "ways", "after"] ["sender", "kept", "state", "plan"] 2 [1,0] rfl rfl (f6 rfl T.nv (aa (ae 2) (aa (ar (ae 1) (aG rfl T.jH)) (ai)))) (λcl C s₀ H₀ ex=>⟨ie rfl (bG 0 (show (["sender", "kept", "state", "plan"]:List Str).Nodup from by decide +kernel) (bG 1 (show (["sender", "kept", "state", "plan"]:List Str).Nodup from by decide +kernel) (fu))),b9,ao (HV T) hr rfl (aa (ar (ae 3) (aG rfl T.Iq)) (aa (ae 0) (aa (ae 1) (aa (ae 2) (ai)))))⟩) rfl rfl (by decide +kernel)) (ak (aF 6 bz.nd (ao (pT T) hr rfl (aa (ae 2) (aa (bO (fsc:=ax cO) ["plan", "state", "senders", "names", "roads", "beats", "sent", "went", "events", "lost", "out", "way", "told", "taken", "ways", "after"] ["kept", "numbers"] 2 [] rfl rfl (bS (ae 5)) (λcl C s₀ H₀ ex=>⟨ie rfl (bG 0 (show (["kept", "numbers"]:List Str).Nodup from by decide +kernel) (bG 1 (show (["kept", "numbers"]:List Str).Nodup from by decide +kernel) (fu))),b9,ae 1⟩) rfl rfl (by decide +kernel)) (ai))))) (ak (gD (fsc:=ax cO) 7 bz.nd ["plan", "state", "senders", "names", "roads", "beats", "sent", "went", "events", "lost", "out", "way", "told", "taken", "ways", "after"] ["way", "kept", "names", "sent"] 2 [3,6] rfl rfl (f6 rfl T.nv (aa (ar (ae 0) (aG rfl T.sO)) (aa (ar (ae 1) (aG rfl T.jj)) (ai)))) (λcl C s₀ H₀ ex=>⟨ie rfl (bG 0 (show (["way", "kept", "names", "sent"]:List Str).Nodup from by decide +kernel) (bG 1 (show (["way", "kept", "names", "sent"]:List Str).Nodup from by decide +kernel) (fu))),b9,ao (IM T) hr rfl (aa (ae 0) (aa (ae 2) (aa (ae 1) (aa (ae 3) (ai)))))⟩) rfl rfl (by decide +kernel)) (ak (IB (fsc:=ax cO) 8 bz.nd ["plan", "state", "senders", "names", "roads", "beats", "sent", "went", "events", "lost", "out", "way", "told", "taken", "ways", "after"] ["first", "letter"] 2 [] rfl rfl (bS (ae 6)) (λcl C s₀ H₀ ex=>⟨ie rfl (bG 0 (show (["first", "letter"]:List Str).Nodup from by decide +kernel) (bG 1 (show (["first", "letter"]:List Str).Nodup from by decide +kernel) (fu))),b9,aM (aa (le_str) (aa (ar (ae 1) (aG rfl T.bM)) (aa (ar (ae 1) (aG rfl T.iW)) (aa (ae 0) (ai)))))⟩) rfl rfl (by decide +kernel)) (ak (aF 9 bz.nd (i7 (ai))) (ak (aF 10 bz.nd (i7 (ai))) (ak (dM W3 rfl (f6 rfl T.nv (aa (ar (ae 0) (aG rfl T.sO)) (aa (ae 7) (ai)))) (fg rfl (aZ 11 bz.nd (aZ 12 bz.nd (dA)))) (ak (eB (vX (ae 8) (ao (Ab T) hr rfl (aa (ae 11) (aa (ae 4) (aa (ae 12) (ai))))))) (ak (eB (vX (ae 9) (ar (ae 12) (le_int)))) (av (eB (vX (ae 10) (ar (ae 12) (le_int)))))))) (ak (aF 13 bz.nd (Et (fsc:=ax cO) ["plan", "state", "senders", "names", "roads", "beats", "sent", "went", "events", "lost", "out", "way", "told", "taken", "ways", "after"] ["letter", "roads"] 1 [4] rfl rfl (ae 10) (λcl C s₀ H₀ ex=>⟨bA 0 (show (["letter", "roads"]:List Str).Nodup from by decide +kernel),fq (tK (ao (jc T) hr rfl (aa (ae 1) (aa (ae 0) (ai)))) (cV)),ae 0⟩) rfl rfl (by decide +kernel))) (ak (gD (fsc:=ax cO) 14 bz.nd ["plan", "state", "senders", "names", "roads", "beats", "sent", "went", "events", "lost", "out", "way", "told", "taken", "ways", "after"] ["way", "told", "roads", "out"] 2 [4,10] rfl rfl (f6 rfl T.nv (aa (ar (ae 0) (aG rfl T.sO)) (aa (ae 7) (ai)))) (λcl C s₀ H₀ ex=>⟨ie rfl (bG 0 (show (["way", "told", "roads", "out"]:List Str).Nodup from by decide +kernel) (bG 1 (show (["way", "told", "roads", "out"]:List Str).Nodup from by decide +kernel) (fu))),b9,ao (xu T) hr rfl (aa (ae 0) (aa (ae 2) (aa (ae 1) (aa (ae 3) (ai)))))⟩) rfl rfl (by decide +kernel)) (ak (gD (fsc:=ax cO) 15 bz.nd ["plan", "state", "senders", "names", "roads", "beats", "sent", "went", "events", "lost", "out", "way", "told", "taken", "ways", "after"] ["sender", "beat", "lost", "taken"] 2 [9,13] rfl rfl (f6 rfl T.nv (aa (ae 2) (aa (ae 5) (ai)))) (λcl C s₀ H₀ ex=>⟨ie rfl (bG 0 (show (["sender", "beat", "lost", "taken"]:List Str).Nodup from by decide +kernel) (bG 1 (show (["sender", "beat", "lost", "taken"]:List Str).Nodup from by decide +kernel) (fu))),b9,ao (rM T) hr rfl (aa (ae 0) (aa (ar (ae 1) (le_int)) (aa (ae 2) (aa (ae 3) (ai)))))⟩) rfl rfl (by decide +kernel)) (av (aD (aM (aa (aM (aa (a7 aR bj rfl T.bK rfl (aa (ae 14) (ai))) (aa (a7 aR bj rfl T.bK rfl (aa (ae 15) (ai))) (ai)))) (aa (sG (ae 8)) (ai))))))))))))))))))
theorem nU:aI ["plan", "many", "state", "rows", "turn", "told"] ["plan", "many"] (ax OC):=by walk_at "sc"
theorem Of (T:Txt w.params K mg t):aS P w K mg base 8 "run" ["plan", "many"] sy:=aL T.Uw T.S8 nU KR R8 (λ_ _ _ _ _ _ _ _=>by walk_at "b2") λ_ _ _ _ _ _ hr hu=>
 ak (aF 2 nU.nd (ao (Nu T) hr rfl (aa (ae 0) (ai)))) (ak (aF 3 nU.nd (i7 (ai))) (ak (dM W3 rfl (lj rfl T.mF (ae 1)) (i8 4 nU.nd) (ak (aF 5 nU.nd (ao (FN T) hr rfl (aa (ae 0) (aa (ae 2) (ai))))) (ak (aF 2 nU.nd (ar (ae 5) (le_int))) (av (eB (le_app (ae 3) (ar (ae 5) (le_int)))))))) (av (aD (aM (aa (ae 2) (aa (sG (ae 3)) (ai))))))))
theorem gx:aI ["letters", "name", "number", "place", "letter"] ["letters", "name", "number"] (ax lN):=by walk_at "sc"
theorem t7 (T:Txt w.params K mg t):aS P w K mg base 1 "place_among" ["letters", "name", "number"] eZ:=aL T.uA T.uo gx pO qN (λ_ _ _ _ _ _ _ _=>by walk_at "b3") λ_ _ _ _ _ _ hr hu=>
 ak (dM W3 rfl (vT rfl T.jO (aa (ae 0) (ai))) (fg rfl (aZ 3 gx.nd (aZ 4 gx.nd (dA)))) (av (bu (LW.lt (l9 (lt_eq hu (ar (ae 4) (aG rfl T.bM)) (ae 1)) (iZ (lt_eq hu (ar (ae 4) (aG rfl T.iW)) (ae 2))))) (av (aD (ae 3))) (aU)))) (av (aD (cV)))
theorem bW:aI ["plan", "state", "name", "number", "way", "kept", "word", "letters", "place"] ["plan", "state", "name", "number"] (ax ju):=by walk_at "sc"
theorem qg (T:Txt w.params K mg t):aS P w K mg base 2 "place_in_ways" ["plan", "state", "name", "number"] dE:=aL T.qc T.qe bW mR nI (λ_ _ _ _ _ _ _ _=>by walk_at "b4") λ_ _ _ _ _ _ hr hu=>
 ak (dM W3 rfl (f6 rfl T.nv (aa (ar (ae 0) (aG rfl T.sO)) (aa (ar (ae 1) (aG rfl T.jj)) (ai)))) (fg rfl (aZ 4 bW.nd (aZ 5 bW.nd (dA)))) (av (dM W3 rfl (bS (aM (aa (aM (aa (le_str) (aa (ar (ae 5) (aG rfl T.lO)) (ai)))) (aa (aM (aa (le_str) (aa (ar (ae 5) (aG rfl T.sT)) (ai)))) (ai))))) (fg rfl (aZ 6 bW.nd (aZ 7 bW.nd (dA)))) (ak (aF 8 bW.nd (ao (t7 T) hr rfl (aa (ae 7) (aa (ae 2) (aa (ae 3) (ai)))))) (av (bu (Ah (ae 8) (cV)) (av (aD (aM (aa (ae 6) (aa (ar (ae 4) (aG rfl T.bM)) (aa (ae 8) (ai))))))) (aU))))))) (av (aD (cV)))
theorem jP:aI ["plan", "state", "name", "number", "kept", "found"] ["plan", "state", "name", "number"] (ax lT):=by walk_at "sc"
theorem CM (T:Txt w.params K mg t):aS P w K mg base 3 "place_of" ["plan", "state", "name", "number"] gO:=aL T.Bm T.BJ jP vW yj (λ_ _ _ _ _ _ _ _=>by walk_at "b4") λ_ _ _ _ _ _ hr hu=>
 ak (aF 4 jP.nd (ar (bO (fsc:=ax lT) ["plan", "state", "name", "number", "kept", "found"] ["one", "name"] 1 [2] rfl rfl (bS (ar (ae 1) (aG rfl T.jH))) (λcl C s₀ H₀ ex=>⟨bA 0 (show (["one", "name"]:List Str).Nodup from by decide +kernel),fq (lt_eq hu (ar (ae 0) (aG rfl T.bM)) (ae 1)),ae 0⟩) rfl rfl (by decide +kernel)) (le_int))) (ak (bu (OK (ae 3) (ar (ae 4) (aG rfl T.vJ))) (av (aD (aM (aa (le_str) (ai))))) (aU)) (ak (aF 5 jP.nd (ao (qg T) hr rfl (aa (ae 0) (aa (ae 1) (aa (ae 2) (aa (ae 3) (ai))))))) (ak (bu (Ah (ae 5) (cV)) (av (aD (ae 5))) (aU)) (ak (bu (AI hu (ae 3) (ar (ae 4) (aG rfl T.nK))) (av (aD (aM (aa (le_str) (ai))))) (aU)) (av (aD (iu (AI hu (ae 3) (ar (ae 4) (aG rfl T.qk))) (aM (aa (le_str) (ai))) (aM (aa (le_str) (ai))))))))))
theorem fA:aI ["plan", "name", "number", "many", "told", "turn", "events", "word", "owner", "own_number", "way"] ["plan", "name", "number", "many"] (ax Dj):=by walk_at "sc"
theorem Mz (T:Txt w.params K mg t):aS P w K mg base 9 "story" ["plan", "name", "number", "many"] nA:=aL T.Ky T.Mk fA Fc Jc (λ_ _ _ _ _ _ _ _=>by walk_at "b4") λ_ _ _ _ _ _ hr hu=>
 ak (aF 4 fA.nd (i7 (ai))) (ak (dM W3 rfl (vT rfl T.jO (aa (ar (ao (Of T) hr rfl (aa (ae 0) (aa (ae 3) (ai)))) (le_int)) (ai))) (fg rfl (aZ 5 fA.nd (aZ 6 fA.nd (dA)))) (av (dM W3 rfl (bS (ae 6)) (fg rfl (aZ 7 fA.nd (aZ 8 fA.nd (aZ 9 fA.nd (aZ 10 fA.nd (dA)))))) (av (bu (LW.lt (l9 (lt_eq hu (ae 8) (ae 1)) (iZ (lt_eq hu (ae 9) (ae 2))))) (av (eB (le_app (ae 4) (aM (aa (ae 5) (aa (ae 7) (aa (ae 10) (ai)))))))) (aU)))))) (av (aD (sG (ae 4)))))
theorem xS:aI ["_law_script"] ["_law_script"] (ax sP):=by walk_at "sc"
theorem Ct (T:Txt w.params K mg t):aS P w K mg base 1 "_law_pot" ["_law_script"] L3.qw:=aL T.CF T.BU xS L3.Hb L3.KJ (λ_ _ _ _ _ _ _ _=>by walk_at "b1") λ_ _ _ _ _ _ hr hu=>
 av (aD (Kw (kP (Hj rfl rfl T.AX rfl (aa (ae 0) (ai))) (kP (le_int) (kP (le_int) (kP (le_int) (kP (le_int) (kP (le_int) (LB)))))))))
theorem jT:aI ["_law_number", "_law_turn", "_law_one", "_law_two"] ["_law_number", "_law_turn"] (ax tI):=by walk_at "sc"
theorem tS (T:Txt w.params K mg t):aS P w K mg base 1 "_law_mix" ["_law_number", "_law_turn"] L3.i4:=aL T.CT T.A3 jT L3.IQ L3.MP (λ_ _ _ _ _ _ _ _=>by walk_at "b2") λ_ _ _ _ _ _ hr hu=>
 ak (aF 2 jT.nd (js (le_mul (aN (aN (js (ae 0) (le_int)) (le_mul (le_int) (ae 1))) (le_int)) (le_int)) (le_int))) (ak (aF 3 jT.nd (js (le_mul (ae 2) (ae 2)) (le_int))) (av (aD (js (le_mul (aN (ae 3) (ae 1)) (le_int)) (le_int)))))
theorem jb:aI ["_law_pot_here", "_law_many", "_law_cell", "_law_digit"] ["_law_pot_here", "_law_many"] (ax o9):=by walk_at "sc"
theorem aE (T:Txt w.params K mg t):aS P w K mg base 2 "_law_take" ["_law_pot_here", "_law_many"] ja:=aL T.xH T.xN jb uc wX (λ_ _ _ _ _ _ _ _=>by walk_at "b2") λ_ _ _ _ _ _ hr hu=>
 ak (lU hu (ae 0) (le_str) (le_int)) (ak (bu (LW.lt (l9 (LW.lt (Ed (lt_eq hu (cN hu (ae 0) (le_str)) (le_int)) (wq (lt_eq hu (cN hu (ae 0) (le_str)) (le_int))))) (iZ (mf (cN hu (ae 0) (le_str)) (a6 ba bH rfl T.dH rfl (aa (cN hu (ae 0) (le_str)) (ai))))))) (ak (aF 2 jb.nd (a6 tN vY rfl T.GD rfl (aa (ar (cN hu (ae 0) (le_str)) (cN hu (ae 0) (le_str))) (ai)))) (ak (lU hu (ae 0) (le_str) (le_int)) (ak (ni hu (ae 0) (le_str) (le_mul (ae 2) (a7 uF Df rfl T.NZ rfl (aa (Hz (ae 2) (le_pow (le_int) (le_int))) (ai))))) (ak (ni hu (ae 0) (le_str) (le_int)) (av (ni hu (ae 0) (le_str) (ao (tS T) hr rfl (aa (aN (cN hu (ae 0) (le_str)) (ae 2)) (aa (cN hu (ae 0) (le_str)) (ai)))))))))) (aU)) (ak (bu (LW.lt (l9 (oU (cN hu (ae 0) (le_str)) (le_int)) (iZ (mf (cN hu (ae 0) (le_str)) (le_int))))) (ak (lU hu (ae 0) (le_str) (le_int)) (ak (aF 3 jb.nd (js (cN hu (ae 0) (le_str)) (ae 1))) (ak (ni hu (ae 0) (le_str) (ko (cN hu (ae 0) (le_str)) (ae 1))) (av (aD (ae 3)))))) (aU)) (ak (ni hu (ae 0) (le_str) (ao (tS T) hr rfl (aa (cN hu (ae 0) (le_str)) (aa (cN hu (ae 0) (le_str)) (ai))))) (av (aD (js (ko (cN hu (ae 0) (le_str)) (le_int)) (ae 1)))))))
theorem fm:aI ["_law_pot_here", "_law_many", "_law_words", "_law_first", "_law_step"] ["_law_pot_here", "_law_many"] (ax jd):=by walk_at "sc"
theorem mX (T:Txt w.params K mg t):aS P w K mg base 3 "_law_names" ["_law_pot_here", "_law_many"] L3.iS:=aL T.wB T.wV fm L3.A4 L3.Eu (λ_ _ _ _ _ _ _ _=>by walk_at "b2") λ_ _ _ _ _ _ hr hu=>
 ak (aF 2 fm.nd (c6 (aa (le_str) (aa (le_str) (aa (le_str) (aa (le_str) (aa (le_str) (aa (le_str) (aa (le_str) (aa (le_str) (aa (le_str) (aa (le_str) (aa (le_str) (aa (le_str) (aa (le_str) (aa (le_str) (aa (le_str) (aa (le_str) (ai))))))))))))))))))) (ak (wx (aM (aa (ao (aE T) hr rfl (aa (ae 0) (aa (le_int) (ai)))) (aa (aN (le_int) (ao (aE T) hr rfl (aa (ae 0) (aa (le_int) (ai))))) (ai)))) (fg rfl (aZ 3 fm.nd (aZ 4 fm.nd (dA))))) (av (aD (bO (fsc:=ax jd) ["_law_pot_here", "_law_many", "_law_words", "_law_first", "_law_step"] ["_law_k", "_law_words", "_law_first", "_law_step"] 1 [2,3,4] rfl rfl (lj rfl T.mF (ae 1)) (λcl C s₀ H₀ ex=>⟨bA 0 (show (["_law_k", "_law_words", "_law_first", "_law_step"]:List Str).Nodup from by decide +kernel),b9,ar (aN (ae 1) (c6 (aa (le_str) (ai)))) (js (aN (ae 2) (le_mul (ae 3) (ae 0))) (le_int))⟩) rfl rfl (by decide +kernel)))))
theorem gA:aI ["_law_top", "_law_bottom", "_law_one", "_law_other"] ["_law_top", "_law_bottom"] (ax lI):=by walk_at "sc"
theorem dP (T:Txt w.params K mg t):aS P w K mg base 1 "_law_lowest" ["_law_top", "_law_bottom"] L3.cc:=aL T.ug T.uD gA L3.CG L3.EZ (λ_ _ _ _ _ _ _ _=>by walk_at "b2") λ_ _ _ _ _ _ hr hu=>
 ak (vZ 2 3 rfl gA.nd (aa (ae 0) (aa (ae 1) (ai)))) (ak (sv W3 (oU (ae 3) (le_int)) (av (vZ 2 3 rfl gA.nd (aa (ae 3) (aa (js (ae 2) (ae 3)) (ai)))))) (av (aD (aM (aa (ko (ae 0) (ae 2)) (aa (ko (ae 1) (ae 2)) (ai)))))))
theorem iP:aI ["_law_pot_here", "_law_low", "_law_most", "_law_bottom"] ["_law_pot_here", "_law_low", "_law_most"] (ax jE):=by walk_at "sc"
theorem jB (T:Txt w.params K mg t):aS P w K mg base 3 "_law_fraction" ["_law_pot_here", "_law_low", "_law_most"] L3.cS:=aL T.pX T.p7 iP L3.ue L3.vD (λ_ _ _ _ _ _ _ _=>by walk_at "b3") λ_ _ _ _ _ _ hr hu=>
 ak (aF 3 iP.nd (ar (c6 (aa (le_int) (aa (le_int) (aa (le_int) (aa (le_int) (aa (le_int) (aa (le_int) (ai)))))))) (ao (aE T) hr rfl (aa (ae 0) (aa (le_int) (ai)))))) (av (aD (ao (dP T) hr rfl (aa (aN (le_mul (ae 1) (ae 3)) (ao (aE T) hr rfl (aa (ae 0) (aa (aN (le_mul (fh (ae 2) (ae 1)) (ae 3)) (le_int)) (ai))))) (aa (ae 3) (ai))))))
theorem cp:aI ["_law_pot_here", "_law_most", "_law_word", "_law_w", "_law_top", "_law_parts", "_law_up", "_law_down", "_law_low"] ["_law_pot_here", "_law_most"] (ax oO):=by walk_at "sc"
theorem yD (T:Txt w.params K mg t):aS P w K mg base 4 "_law_rule" ["_law_pot_here", "_law_most"] iY:=aL T.Aa T.yu cp uC wM (λ_ _ _ _ _ _ _ _=>by walk_at "b2") λ_ _ _ _ _ _ hr hu=>
 ak (aF 2 cp.nd (ar (c6 (aa (le_str) (aa (le_str) (aa (le_str) (aa (le_str) (aa (le_str) (ai))))))) (ao (aE T) hr rfl (aa (ae 0) (aa (le_int) (ai)))))) (ak (vZ 3 4 rfl cp.nd (aa (ao (jB T) hr rfl (aa (ae 0) (aa (le_int) (aa (ae 1) (ai))))) (aa (ao (jB T) hr rfl (aa (ae 0) (aa (le_int) (aa (ae 1) (ai))))) (ai)))) (ak (bu (oU (le_mul (ar (ae 3) (le_int)) (ar (ae 4) (le_int))) (le_mul (ar (ae 4) (le_int)) (ar (ae 3) (le_int)))) (av (vZ 3 4 rfl cp.nd (aa (ae 4) (aa (ae 3) (ai))))) (aU)) (ak (aF 5 cp.nd (aN (le_int) (ao (aE T) hr rfl (aa (ae 0) (aa (le_int) (ai)))))) (ak (aF 6 cp.nd (ao (dP T) hr rfl (aa (aN (le_int) (ao (aE T) hr rfl (aa (ae 0) (aa (le_mul (le_int) (ae 5)) (ai))))) (aa (ae 5) (ai))))) (ak (aF 7 cp.nd (ao (dP T) hr rfl (aa (aN (le_int) (ao (aE T) hr rfl (aa (ae 0) (aa (ae 5) (ai))))) (aa (aN (ae 5) (le_int)) (ai))))) (ak (bu (lt_eq hu (ae 2) (le_str)) (av (aD (aM (aa (ae 2) (aa (ae 3) (ai)))))) (aU)) (ak (bu (lt_eq hu (ae 2) (le_str)) (av (aD (aM (aa (ae 2) (aa (ae 3) (aa (ae 6) (aa (ae 7) (aa (ae 4) (ai))))))))) (aU)) (ak (bu (lt_eq hu (ae 2) (le_str)) (av (aD (aM (aa (ae 2) (aa (ae 3) (aa (ao (dP T) hr rfl (aa (aN (ar (ae 6) (le_int)) (ar (ae 6) (le_int))) (aa (ar (ae 6) (le_int)) (ai)))) (aa (ae 7) (aa (ae 4) (ai))))))))) (aU)) (ak (bu (lt_eq hu (ae 2) (le_str)) (av (aD (aM (aa (ae 2) (aa (ae 3) (aa (ae 6) (aa (ao (dP T) hr rfl (aa (aN (le_int) (ao (aE T) hr rfl (aa (ae 0) (aa (ae 5) (ai))))) (aa (ae 5) (ai)))) (aa (ae 4) (ai))))))))) (aU)) (ak (aF 8 cp.nd (ao (aE T) hr rfl (aa (ae 0) (aa (le_int) (ai))))) (av (aD (aM (aa (ae 2) (aa (ae 3) (aa (ae 6) (aa (ae 8) (aa (aN (ae 8) (ao (aE T) hr rfl (aa (ae 0) (aa (le_int) (ai))))) (aa (ae 4) (ai))))))))))))))))))))
theorem dD:aI ["_law_pot_here", "_law_names_here", "_law_rows", "_law_name", "_law_pace", "_law_room", "_law_mark"] ["_law_pot_here", "_law_names_here"] (ax pj):=by walk_at "sc"
theorem y4 (T:Txt w.params K mg t):aS P w K mg base 3 "_law_ways" ["_law_pot_here", "_law_names_here"] L3.mM:=aL T.yB T.zY dD L3.E1 L3.Gx (λ_ _ _ _ _ _ _ _=>by walk_at "b2") λ_ _ _ _ _ _ hr hu=>
 ak (aF 2 dD.nd (i7 (ai))) (ak (dM W3 rfl (bS (ae 1)) (i8 3 dD.nd) (ak (aF 4 dD.nd (ar (c6 (aa (le_int) (aa (le_int) (aa (le_int) (aa (le_int) (aa (aN (le_int) (ao (aE T) hr rfl (aa (ae 0) (aa (le_int) (ai))))) (ai))))))) (ao (aE T) hr rfl (aa (ae 0) (aa (le_int) (ai)))))) (ak (aF 5 dD.nd (ar (c6 (aa (aN (le_int) (ao (aE T) hr rfl (aa (ae 0) (aa (le_int) (ai))))) (aa (aN (le_int) (ao (aE T) hr rfl (aa (ae 0) (aa (le_int) (ai))))) (aa (aN (le_int) (ao (aE T) hr rfl (aa (ae 0) (aa (le_int) (ai))))) (ai))))) (ao (aE T) hr rfl (aa (ae 0) (aa (le_int) (ai)))))) (ak (aF 6 dD.nd (ar (c6 (aa (cV) (aa (ao (aE T) hr rfl (aa (ae 0) (aa (aN (ae 5) (le_int)) (ai)))) (aa (ao (aE T) hr rfl (aa (ae 0) (aa (le_int) (ai)))) (ai))))) (ao (aE T) hr rfl (aa (ae 0) (aa (le_int) (ai)))))) (av (eB (le_app (ae 2) (aM (aa (ae 3) (aa (ae 4) (aa (ae 5) (aa (ae 6) (aa (ar (c6 (aa (le_str) (aa (le_str) (ai)))) (ao (aE T) hr rfl (aa (ae 0) (aa (le_int) (ai))))) (ai)))))))))))))) (av (aD (a7 aR bj rfl T.bK rfl (aa (ae 2) (ai))))))
theorem dr:aI ["_law_pot_here", "_law_name", "_law_ways_here", "_law_most", "_law_road", "_law_beat", "_law_many"] ["_law_pot_here", "_law_name", "_law_ways_here", "_law_most"] (ax ip):=by walk_at "sc"
theorem uB (T:Txt w.params K mg t):aS P w K mg base 5 "_law_sender" ["_law_pot_here", "_law_name", "_law_ways_here", "_law_most"] gy:=aL T.uE T.uk dr pL rh (λ_ _ _ _ _ _ _ _=>by walk_at "b4") λ_ _ _ _ _ _ hr hu=>
 ak (aF 4 dr.nd (a7 aR bj rfl T.bK rfl (aa (bO (fsc:=ax ip) ["_law_pot_here", "_law_name", "_law_ways_here", "_law_most", "_law_road", "_law_beat", "_law_many"] ["_law_way", "_law_pot_here"] 1 [0] rfl rfl (bS (ae 2)) (λcl C s₀ H₀ ex=>⟨bA 0 (show (["_law_way", "_law_pot_here"]:List Str).Nodup from by decide +kernel),fq (lt_eq hu (ao (aE T) hr rfl (aa (ae 1) (aa (le_int) (ai)))) (le_int)),ar (ae 0) (le_int)⟩) rfl rfl (by decide +kernel)) (ai)))) (ak (bu (lt_eq hu (a6 ba bH rfl T.dH rfl (aa (ae 4) (ai))) (le_int)) (av (aF 4 dr.nd (aM (aa (ar (ar (ae 2) (ao (aE T) hr rfl (aa (ae 0) (aa (a6 ba bH rfl T.dH rfl (aa (ae 2) (ai))) (ai))))) (le_int)) (ai))))) (aU)) (ak (aF 5 dr.nd (ar (c6 (aa (le_int) (aa (le_int) (aa (le_int) (aa (le_int) (aa (aN (le_int) (ao (aE T) hr rfl (aa (ae 0) (aa (le_int) (ai))))) (ai))))))) (ao (aE T) hr rfl (aa (ae 0) (aa (le_int) (ai)))))) (ak (aF 6 dr.nd (ar (c6 (aa (cV) (aa (cV) (aa (ao (aE T) hr rfl (aa (ae 0) (aa (le_int) (ai)))) (aa (ao (aE T) hr rfl (aa (ae 0) (aa (le_int) (ai)))) (ai)))))) (ao (aE T) hr rfl (aa (ae 0) (aa (le_int) (ai)))))) (av (aD (aM (aa (ae 1) (aa (ae 4) (aa (ae 5) (aa (ar (c6 (aa (le_int) (aa (le_int) (aa (ao (aE T) hr rfl (aa (ae 0) (aa (le_int) (ai)))) (aa (ao (aE T) hr rfl (aa (ae 0) (aa (le_int) (ai)))) (ai)))))) (ao (aE T) hr rfl (aa (ae 0) (aa (le_int) (ai))))) (aa (ae 6) (aa (ao (yD T) hr rfl (aa (ae 0) (aa (ae 3) (ai)))) (ai)))))))))))))
theorem eM:aI ["_law_pot_here", "_law_grid", "_law_ways_here", "_law_most", "_law_names_here"] ["_law_pot_here"] (ax ke):=by walk_at "sc"
theorem zu (T:Txt w.params K mg t):aS P w K mg base 6 "_law_plan" ["_law_pot_here"] L3.mZ:=aL T.xV T.zF eM L3.EK L3.Gr (λ_ _ _ _ _ _ _ _=>by walk_at "b1") λ_ _ _ _ _ _ hr hu=>
 ak (aF 1 eM.nd (ar (c6 (aa (le_int) (aa (le_int) (aa (le_int) (aa (aN (le_int) (ao (aE T) hr rfl (aa (ae 0) (aa (le_int) (ai))))) (ai)))))) (ao (aE T) hr rfl (aa (ae 0) (aa (le_int) (ai)))))) (ak (aF 2 eM.nd (ao (y4 T) hr rfl (aa (ae 0) (aa (ao (mX T) hr rfl (aa (ae 0) (aa (ar (c6 (aa (le_int) (aa (le_int) (aa (le_int) (aa (le_int) (aa (le_int) (aa (le_int) (ai)))))))) (ao (aE T) hr rfl (aa (ae 0) (aa (le_int) (ai))))) (ai)))) (ai))))) (ak (aF 3 eM.nd (ar (c6 (aa (le_int) (aa (le_int) (aa (le_int) (aa (le_int) (aa (le_int) (ai))))))) (ao (aE T) hr rfl (aa (ae 0) (aa (le_int) (ai)))))) (ak (aF 4 eM.nd (ao (mX T) hr rfl (aa (ae 0) (aa (ar (c6 (aa (le_int) (aa (le_int) (aa (le_int) (aa (le_int) (aa (le_int) (aa (le_int) (aa (le_int) (aa (le_int) (ai)))))))))) (ao (aE T) hr rfl (aa (ae 0) (aa (le_int) (ai))))) (ai))))) (av (aD (aM (aa (ae 1) (aa (ae 2) (aa (a7 aR bj rfl T.bK rfl (aa (bO (fsc:=ax ke) ["_law_pot_here", "_law_grid", "_law_ways_here", "_law_most", "_law_names_here"] ["_law_name", "_law_pot_here", "_law_ways_here", "_law_most"] 1 [0,2,3] rfl rfl (bS (FQ rfl T.qY rfl (aa (ae 4) (ai)))) (λcl C s₀ H₀ ex=>⟨bA 0 (show (["_law_name", "_law_pot_here", "_law_ways_here", "_law_most"]:List Str).Nodup from by decide +kernel),b9,ao (uB T) hr rfl (aa (ae 1) (aa (ae 0) (aa (ae 2) (aa (ae 3) (ai)))))⟩) rfl rfl (by decide +kernel)) (ai))) (ai))))))))))
theorem bE:aI ["_law_road", "_law_one", "_law_other", "_law_at", "_law_word", "_law_way", "_law_then", "_law_after", "_law_goal"] ["_law_road", "_law_one", "_law_other"] (ax iM):=by walk_at "sc"
theorem oD (T:Txt w.params K mg t):aS P w K mg base 1 "_law_next_good" ["_law_road", "_law_one", "_law_other"] cq:=aL T.nX T.nL bE l7 nk (λ_ _ _ _ _ _ _ _=>by walk_at "b3") λ_ _ _ _ _ _ hr hu=>
 ak (wx (ae 1) (fg rfl (aZ 3 bE.nd (aZ 4 bE.nd (aZ 5 bE.nd (dA)))))) (ak (wx (ae 2) (fg rfl (aZ 6 bE.nd (aZ 7 bE.nd (aZ 8 bE.nd (dA)))))) (ak (bu (lt_eq hu (ae 4) (le_str)) (av (aD (gB (F9 hu (ae 7) (aM (aa (le_str) (aa (le_str) (ai))))) (gB (le_eq hu (ae 8) (ae 5)) (ki (le_eq hu (ae 6) (ae 3))))))) (aU)) (ak (bu (lt_eq hu (ae 4) (le_str)) (av (aD (gB (le_eq hu (ae 7) (le_str)) (gB (le_eq hu (ae 8) (ar (ae 0) (le_int))) (ki (SY (ae 6) (ae 3))))))) (aU)) (ak (bu (LW.lt (l9 (lt_eq hu (ae 4) (le_str)) (iZ (lt_eq hu (ae 5) (ar (ae 0) (fh (a6 ba bH rfl T.dH rfl (aa (ae 0) (ai))) (le_int))))))) (av (aD (gB (le_eq hu (ae 7) (le_str)) (gB (le_eq hu (ae 8) (ae 5)) (ki (Hz (ae 6) (ae 3))))))) (aU)) (ak (bu (lt_eq hu (ae 4) (le_str)) (av (aD (gB (le_eq hu (ae 7) (le_str)) (gB (le_eq hu (ae 8) (ae 5)) (ki (Hz (ae 6) (ae 3))))))) (aU)) (ak (bu (lt_eq hu (ae 4) (le_str)) (av (aD (gB (F9 hu (ae 7) (aM (aa (le_str) (aa (le_str) (ai))))) (gB (le_eq hu (ae 8) (ar (ae 0) (aN (uR hu (ae 0) (ae 5)) (le_int)))) (ki (le_eq hu (ae 6) (aN (ae 3) (le_int)))))))) (aU)) (av (aD (zW)))))))))
theorem cT:aI ["_law_road", "_law_place", "_law_rows", "_law_at", "_law_word", "_law_way"] ["_law_road", "_law_place", "_law_rows"] (ax gN):=by walk_at "sc"
theorem mW (T:Txt w.params K mg t):aS P w K mg base 1 "_law_place_good" ["_law_road", "_law_place", "_law_rows"] cX:=aL T.m4 T.ny cT lA lQ (λ_ _ _ _ _ _ _ _=>by walk_at "b3") λ_ _ _ _ _ _ hr hu=>
 ak (bu (lt_eq hu (ae 2) (c6 (ai))) (av (aD (le_eq hu (ae 1) (aM (aa (le_str) (ai)))))) (aU)) (ak (wx (ar (ae 2) (fh (a6 ba bH rfl T.dH rfl (aa (ae 2) (ai))) (le_int))) (fg rfl (aZ 3 cT.nd (aZ 4 cT.nd (aZ 5 cT.nd (dA)))))) (ak (bu (lt_eq hu (ae 4) (le_str)) (av (aD (le_eq hu (ae 1) (aM (aa (le_str) (ai)))))) (aU)) (ak (bu (lt_eq hu (ae 4) (le_str)) (av (aD (N9 (le_eq hu (ae 1) (aM (aa (le_str) (ai)))) (ki (le_eq hu (ae 1) (aM (aa (le_str) (ai)))))))) (aU)) (ak (bu (lt_eq hu (ae 4) (le_str)) (av (aD (le_eq hu (kH (ae 1) (lJ) (fE (le_int))) (aM (aa (le_str) (aa (ae 5) (ai))))))) (aU)) (av (aD (gB (le_eq hu (ae 4) (le_str)) (ki (le_eq hu (kH (ae 1) (lJ) (fE (le_int))) (aM (aa (le_str) (aa (ar (ae 0) (aN (uR hu (ae 0) (ae 5)) (le_int))) (ai)))))))))))))
theorem ir:aI ["_law_script", "_law_pot_here", "_law_plan_here", "_law_many", "_law_state", "_law_sender_here", "_law_row", "_law_k", "_law_number", "_law_rows"] ["_law_script"] (ax Hg):=by walk_at "sc"
theorem D0 (T:Txt w.params K mg t):l5 P w K mg base CX0 10 t.JE t.Od ["_law_script"] (lift K iA):=by
 refine N6 (T:=G3) T.D0 ir wC (λcdv A outer s H E hr=>?_) QR
 have hu:=hr.units
 exact ak (aF 1 ir.nd (ao (Ct T) hr rfl (aa (ae 0) (ai)))) (ak (aF 2 ir.nd (ao (zu T) hr rfl (aa (ae 1) (ai)))) (ak (aF 3 ir.nd (ao (aE T) hr rfl (aa (ae 1) (aa (le_int) (ai))))) (ak (aF 4 ir.nd (ar (ao (Of T) hr rfl (aa (ae 2) (aa (ae 3) (ai)))) (le_int))) (ak (dM W3 rfl (f6 rfl T.nv (aa (ar (ae 2) (le_int)) (aa (ar (ae 4) (le_int)) (ai)))) (fg rfl (aZ 5 ir.nd (aZ 6 ir.nd (dA)))) (av (dM W3 rfl (lj rfl T.mF (ar (c6 (aa (le_int) (aa (le_int) (ai)))) (a7 uF Df rfl T.NZ rfl (aa (OE (a6 ba bH rfl T.dH rfl (aa (ar (ae 4) (le_int)) (ai))) (le_int)) (ai))))) (i8 7 ir.nd) (ak (aF 8 ir.nd (ar (c6 (aa (ae 7) (aa (ao (aE T) hr rfl (aa (ae 1) (aa (aN (ar (ae 6) (le_int)) (le_int)) (ai)))) (ai)))) (ao (aE T) hr rfl (aa (ae 1) (aa (le_int) (ai)))))) (ak (aF 9 ir.nd (ao (Mz T) hr rfl (aa (ae 2) (aa (ar (ae 5) (le_int)) (aa (ae 8) (aa (ae 3) (ai))))))) (ak (bu (Ht (qU (ao (mW T) hr rfl (aa (ar (ae 5) (le_int)) (aa (ao (CM T) hr rfl (aa (ae 2) (aa (ae 4) (aa (ar (ae 5) (le_int)) (aa (ae 8) (ai)))))) (aa (ae 9) (ai))))))) (av (aD (zW))) (aU)) (ak (bu (LW.lt (l9 (vC hu (ae 9) (c6 (ai))) (iZ (LW.lt (Ed (vC hu (ar (ar (ae 9) (le_int)) (le_int)) (le_str)) (wq (vC hu (ar (ar (ae 9) (le_int)) (le_int)) (ar (ar (ae 5) (le_int)) (le_int))))))))) (av (aD (zW))) (aU)) (av (bu (Ht (qU (a6 (Fx rfl) K8 rfl T.Tr rfl (aa (bO (fsc:=ax Hg) ["_law_script", "_law_pot_here", "_law_plan_here", "_law_many", "_law_state", "_law_sender_here", "_law_row", "_law_k", "_law_number", "_law_rows"] ["_law_one", "_law_other", "_law_sender_here"] 2 [5] rfl rfl (f6 rfl T.nv (aa (ae 9) (aa (kH (ae 9) (fE (le_int)) (lJ)) (ai)))) (λcl C s₀ H₀ ex=>⟨ie rfl (bG 0 (show (["_law_one", "_law_other", "_law_sender_here"]:List Str).Nodup from by decide +kernel) (bG 1 (show (["_law_one", "_law_other", "_law_sender_here"]:List Str).Nodup from by decide +kernel) (fu))),b9,ao (oD T) hr rfl (aa (ar (ae 2) (le_int)) (aa (ae 0) (aa (ae 1) (ai))))⟩) rfl rfl (by decide +kernel)) (ai))))) (av (aD (zW))) (aU)))))))))) (av (aD (zW)))))))
end
theorem all_mk {l:zbx}{w:Xb}{K:Wa}{mg:Str->Option We}{fa:Addr}{t:Adr}(hfa:mg "law" = some (.ref fa))(T:Txt w.params K mg t):∃ fd:WH,(∀ (s:Wh) (v:We),zcN s fd ⟨[v],[]⟩ [("_law_script", v)])/\∀ base:Heap,K.In base->base.Ns XT mg->l5 l.prog w K mg base CX0 10 fa fd ["_law_script"] (lift K iA):=by
 have e:=hfa.symm.trans T.T8
 injection e with e
 injection e with e
 subst e
 obtain ⟨oc,od,kV,dc,pm,an,cd,ct,sl,ed,_,_⟩:=T.D0.ex
 exact ⟨_,λs v=>.of_eq (by rw[ed];rfl),λbase _ _=>D0 T⟩
end Kk
namespace PySem.W.Fast
def tw14324369533941114353:=0
def tw17823934301247132032:=0
def tw10364915783260203904:=0
def tw11543389408174317793:=0
def tw8223285191189690849:=0
def tw2649557547992810017:=0
def tw18289460497387243073:=0
def tw14192990371180376226:=0
def tw13725942847412174274:=0
def tw2734958788959853090:=0
def tw14993505250466263746:=0
def tw13232708855835443010:=0
def tw8868095326267699170:=0
def tw5596625186196912419:=0
def tw14287810212079936899:=0
def tw18016015348108955139:=0
def tw16160323805456826915:=0
def tw6262901572160269955:=0
def tw3078437837611554691:=0
def tw8200016120473172899:=0
def tw2124924149379183748:=0
def tw6556609037077443748:=0
def tw12500283482430684900:=0
def tw17908023444523163460:=0
def tw13541357730114572164:=0
def tw15139255702343307236:=0
def tw3953417727665922149:=0
def tw9407941339854813701:=0
def tw3611020366431927013:=0
def tw5283706236544107461:=0
def tw6087917077606883718:=0
def tw3199356584307436198:=0
def tw17125937464501345158:=0
def tw6816979367028582374:=0
def tw6516493011297538407:=0
def tw11052417417010388679:=0
def tw10366335277492246247:=0
def tw4151731040609613799:=0
def tw8485495792821462056:=0
def tw4442863713981906024:=0
def tw16412762406824667336:=0
def tw11896489650232257352:=0
def tw8846447724143924200:=0
def tw16673881585838753961:=0
def tw4716603255036605801:=0
def tw7554345249028014090:=0
def tw3216933822376518666:=0
def tw6828631777494859114:=0
def tw17260677829221344010:=0
def tw11887996467360268299:=0
def tw4556240889216588939:=0
def tw11093372854033008875:=0
def tw14131736294410409547:=0
def tw13912449848232007499:=0
def tw11606057585912122444:=0
def tw8348622190241544364:=0
def tw8278556683038283084:=0
def tw13872169212876144012:=0
def tw12429384586854868460:=0
def tw15199766080778594796:=0
def tw12469681532001787949:=0
def tw2164767006214119469:=0
def tw14051667339306497165:=0
def tw17367494076673422509:=0
def tw9059328361117291053:=0
def tw13653268060471005390:=0
def tw3223563998631993774:=0
def tw6420388483198629326:=0
def tw17062280851587814990:=0
def tw14266440786729179886:=0
def tw16855536674448064270:=0
def tw2710582058995806990:=0
def tw6328895887634612078:=0
def tw17371256255149138862:=0
def tw7742829324268919119:=0
def tw16874723915498375631:=0
def tw11607065918560067183:=0
def tw12816877343619598095:=0
def tw3632170898759869168:=0
def tw7955523179940052017:=0
def tw17604526201013302673:=0
def tw17869204732527980401:=0
def tw16849400484372999057:=0
def tw2230469609247588434:=0
def tw948405148862520722:=0
def tw16236799238546838322:=0
def tw9573116415822817202:=0
def tw16820311538832911314:=0
def tw1260889699468344371:=0
def tw13349271164252783059:=0
def tw7346129662865212083:=0
def tw13415699730739667859:=0
def tw4150471064992195539:=0
def tw9080334862700971156:=0
def tw9195479778129501460:=0
def tw10885228214341364244:=0
def tw1897975098030092948:=0
def tw4356495795696819092:=0
def tw14234071991708507092:=0
def tw18180932714588673205:=0
def tw7815891220884066517:=0
def tw15500660996644663541:=0
def tw13597446366570371445:=0
def tw1338247150280403349:=0
def tw17664154667372004789:=0
def tw7953968620194556374:=0
def tw11905201991490931863:=0
def tw6216811877200859383:=0
def tw10383464185562051863:=0
def tw5645923139454590391:=0
def tw5269967271488895703:=0
def tw17798467763733584823:=0
def tw8986114973428689080:=0
def tw13079326736656564792:=0
def tw2032349910109483576:=0
def tw3220573357222245144:=0
def tw7000223271943255960:=0
def tw15264076993616126009:=0
def tw652199969497399513:=0
def tw9991952861533064505:=0
def tw4879518035025060185:=0
def tw9636387321783667321:=0
def tw5593194431850806937:=0
def tw554858879877672665:=0
def tw15389271793696877305:=0
def tw10955866320830204729:=0
def tw7935983813851644857:=0
def tw1924893235809354713:=0
def tw9583843300914845786:=0
def tw16224854511895152826:=0
def tw2193224511712161978:=0
def tw14970096695411129914:=0
def tw9964945944260698842:=0
def tw1614882928337369882:=0
def tw7727632618795629466:=0
def tw15477257177207107771:=0
def tw17125818212486786363:=0
def tw9000355637190970843:=0
def tw11748672423310220827:=0
def tw15868889107435839131:=0
def tw18391391965024512092:=0
def tw2412886002200591612:=0
def tw17757855335108639292:=0
def tw422976537436468988:=0
def tw10865207588733483293:=0
def tw3579985896351618813:=0
def tw7138939192352428989:=0
def tw546487696344938846:=0
def tw5478669339384203902:=0
def tw3267669160525047486:=0
def tw14189551092582124350:=0
def tw11533246467723830463:=0
def tw12306483635189028479:=0
def tw632414083026559743:=0
def tw414695834123971455:=0
def tw2774660547716233119:=0
end PySem.W.Fast
open PySem PySem.W PyProof.Rows L2 L3
set_option maxRecDepth 100000 in
set_option maxHeartbeats 0 in
theorem PySem.Challenge.cw_swellways_k40_whole_places_by_stories_holds : PySem.Challenge.rw_swellways_k40_whole_places_by_stories.Holds := by
 w_on;o_law;k_head;(case hw=>w_witness2)
 k_fill
 refine L3.SR (l:=PySem.Challenge.rw_swellways_k40_whole_places_by_stories) (k:=10) (sp:=Kk.iA) (x := "_law_script") rfl rfl ⟨rfl,by decide,by decide⟩ (λw h Y=>PySem.W.kIn_of Y) Kk.nE ?F
 case F=>
  intro w mg fa h KX G hmg
  refine' Kk.all_mk (t:=⟨_,_,_,_,_,_,_,_,_,_,_,_,_,_,_,_,_,_,_,_,_,_,_,_,_,_,_,_,_,_,_,_,_,_,_,_,_,_,_,_,_,_,_,_,_,_,_,_,_,_,_,_,_,_,_,_,_,_,_,_,_,_,_,_,_,_,_,_,_,_,_,_,_,_,_,_,_,_,_,_,_,_,_,_,_,_,_,_,_,_,_,_,_,_,_,_,_,_,_,_,_,_,_,_,_,_,_,_⟩) hmg ⟨Xq KX G ?_,aT ?_ ?_ ?_,Xq KX G ?_,aT ?_ ?_ ?_,Xq KX G ?_,aT ?_ ?_ ?_,Xq KX G ?_,aT ?_ ?_ ?_,Xq KX G ?_,aT ?_ ?_ ?_,Xq KX G ?_,aT ?_ ?_ ?_,Xq KX G ?_,aT ?_ ?_ ?_,Xq KX G ?_,aT ?_ ?_ ?_,Xq KX G ?_,aT ?_ ?_ ?_,Xq KX G ?_,aT ?_ ?_ ?_,Xq KX G ?_,aT ?_ ?_ ?_,Xq KX G ?_,aT ?_ ?_ ?_,Xq KX G ?_,aT ?_ ?_ ?_,Xq KX G ?_,aT ?_ ?_ ?_,Xq KX G ?_,aT ?_ ?_ ?_,Xq KX G ?_,aT ?_ ?_ ?_,Xq KX G ?_,aT ?_ ?_ ?_,Xq KX G ?_,aT ?_ ?_ ?_,Xq KX G ?_,aT ?_ ?_ ?_,Xq KX G ?_,aT ?_ ?_ ?_,Xq KX G ?_,aT ?_ ?_ ?_,Xq KX G ?_,aT ?_ ?_ ?_,Xq KX G ?_,aT ?_ ?_ ?_,Xq KX G ?_,aT ?_ ?_ ?_,Xq KX G ?_,aT ?_ ?_ ?_,Xq KX G ?_,aT ?_ ?_ ?_,Xq KX G ?_,aT ?_ ?_ ?_,Xq KX G ?_,aT ?_ ?_ ?_,Xq KX G ?_,aT ?_ ?_ ?_,Xq KX G ?_,aT ?_ ?_ ?_,Xq KX G ?_,aT ?_ ?_ ?_,Xq KX G ?_,aT ?_ ?_ ?_,Xq KX G ?_,aT ?_ ?_ ?_,Xq KX G ?_,aT ?_ ?_ ?_,Xq KX G ?_,aT ?_ ?_ ?_,Xq KX G ?_,aT ?_ ?_ ?_,Xq KX G ?_,aT ?_ ?_ ?_,Xq KX G ?_,aT ?_ ?_ ?_,Xq KX G ?_,aT ?_ ?_ ?_,Xq KX G ?_,aT ?_ ?_ ?_,Xq KX G ?_,aT ?_ ?_ ?_,Xq KX G ?_,aT ?_ ?_ ?_,Xq KX G ?_,aT ?_ ?_ ?_,Xq KX G ?_,aT ?_ ?_ ?_,Xq KX G ?_,aT ?_ ?_ ?_,Xq KX G ?_,aT ?_ ?_ ?_,Xq KX G ?_,aT ?_ ?_ ?_,Xq KX G ?_,aT ?_ ?_ ?_,Xq KX G ?_,aT ?_ ?_ ?_,Xq KX G ?_,aT ?_ ?_ ?_,Xq KX G ?_,aT ?_ ?_ ?_,Xq KX G ?_,aT ?_ ?_ ?_,Xq KX G ?_,aT ?_ ?_ ?_,Xq KX G ?_,aT ?_ ?_ ?_,Ya KX G ?_,Ya KX G ?_,Ya KX G ?_,Ya KX G ?_,Ya KX G ?_,Ya KX G ?_,Ya KX G ?_,Ya KX G ?_,Ya KX G ?_,Ya KX G ?_,Ya KX G ?_,Ya KX G ?_,Ya KX G ?_,Ya KX G ?_,bx KX G ?_,bx KX G ?_,bx KX G ?_,bx KX G ?_,bx KX G ?_,bx KX G ?_,bx KX G ?_,bx KX G ?_,AS (its:=#[.int 1 _,.int 2 _]) (xs:=[V.int 1,V.int 2]) KX G ?_ ?_ ?_ ?_ ?_ (show 2<=sizeLine by decide) (.cons ⟨_,rfl⟩ (.cons ⟨_,rfl⟩ (.nil))) (λ_=>.cons (.int _) (.cons (.int _) (.nil))),bx KX G ?_,bx KX G ?_,bx KX G ?_,bx KX G ?_,bx KX G ?_,bx KX G ?_,bx KX G ?_,bx KX G ?_,bx KX G ?_,bx KX G ?_,AS (its:=#[.int 0 _,.int 1 _]) (xs:=[V.int 0,V.int 1]) KX G ?_ ?_ ?_ ?_ ?_ (show 2<=sizeLine by decide) (.cons ⟨_,rfl⟩ (.cons ⟨_,rfl⟩ (.nil))) (λ_=>.cons (.int _) (.cons (.int _) (.nil))),bx KX G ?_,AS (its:=#[.int 1 _,.int 1 _]) (xs:=[V.int 1,V.int 1]) KX G ?_ ?_ ?_ ?_ ?_ (show 2<=sizeLine by decide) (.cons ⟨_,rfl⟩ (.cons ⟨_,rfl⟩ (.nil))) (λ_=>.cons (.int _) (.cons (.int _) (.nil))),bx KX G ?_,bx KX G ?_,bx KX G ?_,bx KX G ?_,bx KX G ?_,bx KX G ?_,bx KX G ?_,bx KX G ?_,bx KX G ?_,bx KX G ?_,bx KX G ?_,bx KX G ?_,bx KX G ?_⟩
  all_goals try first | k_is | rfl
