import PyProof.Rows.All
import Wide.All
import OpenK.AllK
import Wide.FinOn
import Lean
import PyProof.EqAt
import PyProof.EqKinds
import PyProof.TupleCall
import PyProof.P3Eq
import PyProof.NeKinds
import PyProof.NeData
import PyProof.ZipIter
import PyProof.EnumMake
import PyProof.EnumFor
import OpenK.KTop
import PyProof.IsRules
import PyProof.AttrMissHeap
import PyProof.DictUpdate
import KE.KDictOf
import PyProof.Rows.SortStr
import PyProof.FString5
import PyProof.StrOps
import PyProof.ListRange
import PyProof.TupleOfGen
import PyProof.Rows.SumAny
import PyProof.Rows.CallKwBuiltin
import PyProof.StrLoop
import PyProof.StrWalks
import PyProof.StrOps2
import PyProof.SliceStr2
import PyProof.StrBlockI
import PyProof.StrLaws
import PyProof.StrBlock
import PyProof.StrBlockL
import PyProof.StrCalls2
import KE.KStrOpen
import KE.KDictList
import PyProof.DictValues
import PyProof.DictTruth
import PyProof.DictIter
import PyProof.DictWalks
import KE.KUnpack
import PySem.Challenge.RW_swellways_k36_whole_states_fit
set_option Elab.async false
set_option linter.all false
set_option maxRecDepth 100000
set_option maxHeartbeats 4000000
def zzS (t:String):Lean.MacroM (Lean.TSyntax `tactic):=do
 let a←(t.splitOn " ").toArray.mapM fun s=>if s.startsWith "↓" then `(Lean.Parser.Tactic.simpLemma| ↓ $(Lean.mkIdent (s.drop 1).toString.toName):term) else `(Lean.Parser.Tactic.simpLemma| $(Lean.mkIdent s.toName):term)
 `(tactic| try simp only [$a,*])
open PySem.Str renaming ofString → OF
open PySem.W renaming Frag → Wj, mg_of → XH, mg_none_of → Yn, fnOf → Zi, keepIn → ZS, methodObj → zaJ, cellsFrom_some → zbp, OpenLaw → zbC, codeIn → zbX, plainGet → zdg, instObj → zdz, WalkO → zd5, mg_of → zd7, nsIn → zef
open PySem renaming wpAny_bind → Wl, Value → Wo, Shared → Wu, wpAny_pure → WD, starEach → WH, wpAny → WT, FuncData → WV, model → WW, Expr → WX, Program → W7, World → Xh, foldedSetIterable → Xn, wpAny_field → Xp, wpAny_setField_rec → Xt, wpAny_callSpecial?_slot → Xy, wpAny_newObj_type → Xz, Around → XA, assignEach → XD, compareOp → XI, eval → XJ, wpAny_mono → XM, wpAny_seqItems → XQ, mem_of_lookup → XT, behindInMarks → XY, backTo → X3, mainGlobals → X5, wpAny_call_entry → X6, IsPair → Ya, wpAny_truthy_bool → Yj, bootBuiltins → Yp, swapsWith → YA, wpAny_passesOwn → YB, IsZip → YE, plainId_quiet → YK, binaryOp → YN, sysModules → YU, wpAny_rule → YV, wpAny_holding → Y1, codeAny → Y4, keywordEach → Y7, wpAny_updateSeq_pair → Y9, wpAny_letGo → Za, wpAny_tryCatch → Zd, Keyword → Zh, attributeBase → Zu, wpAny_updateSeq → Zy, pyNext → Zz, wpAny_Call_Name_kw → ZC, sliceBounds → ZJ, wpAny_pyIter_list → ZR, argBest → ZZ, call_meets → Z5, Builtin → Z9, NameKind → zaa, intItems → zag, wpAny_execs_nil → zah, letOwnedTupleGo → zai, wpAny_loadPart' → zap, getItem → zaq, rawInt → zaw, backToKw → zax, tupleKind_room_in1 → zaC, Paired → zaP, swapsWithSole → zaQ, swappedStores → zaR, wpAny_standAt → zaS, intBits_le_64 → zaT, wpAny_attempt → zaW, wpAny_onRaise → zaX, noFill_tuple_add → za5, holding → zbm, assign → zbn, wpAny_pyNext_list_item → zbo, concat_meets → zbq, callerA → zbt, IsEnum → zbz, codeAny_builtin → zbI, wpAny_isTrue_Compare1 → zbN, wpAny_pyNext_list_end → zbO, wpAny_loadName_local → zbU, Operator → zbV, sizeLine_eq → zbW, subscripted → zbZ, field → zb0, tupleKind → zcd, seqIndex? → zce, DictEntry → zcf, valueAt → zcg, seqItems? → zch, wpAny_loadName_cell → zci, call → zcj, CmpOp → zcq, assignInOrder → zcr, seq_tuple_add → zcs, wpAny_pyIter_tuple → zcL, getattributeRaised → zcO, BindsTo → zcU, codeAny_mono → zcV, wpAny_sequenceKey → zcW, slot_list_getitem → zcX, wpAny_pyIter_enum → zdc, wpAny_execs_cons → zde, PassesOwn → zdf, Result → zdh, wpAny_pyIter_zip → zdm, atKey → zds, wpAny_of_eq → zdu, numAt → zdw, builtinsNs → zdJ, wpAny_Name → zdK, bindName → zdL, bindL → zdN, bindC → zdO, typeLookup → zdP, call → zdR, compEnvC → zdU, compPost → zdV
open List renaming length_map → Wm, mem_map → Wq, length_append → Wv, map_map → Wz, zip → WA, map_cons → WE, of_mem_zip → WI, getElem?_eq_getElem → WK, mem_cons_self → WL, mem_cons → WM, map_append → WQ, size_toArray → WR, mem_cons_of_mem → WU, length_cons → WY, mem_append_right → WZ, mem_append → W2, map_congr_left → W3, getElem?_eq_some_iff → W4, range → W5, append_nil → W8, sum_cons → Xb, mem_filter → Xd, not_mem_nil → Xj, nodup_cons → Xk, getElem?_map → Xo, mem_append_left → Xq, length → Xr, count_append → Xs, filterMap_append → Xv, flatMap_append → Xw, find?_cons → Xx, zipWith → XF, flatMap_cons → XG, mem_singleton → XO, foldl_cons → XR, length_zipWith → XW, zip_map_right → X4, mem_flatMap → X8, replicate → X9, nil_append → Yc, count_cons → Yd, drop_eq_getElem_cons → Ye, lookup_cons → Yf, getElem_mem → Yg, length_filterMap_le → Yi, pairwise_map → Yl, filterMap_cons → Yo, drop_length → Ys, getD_eq_getElem?_getD → Yw, length_filter_le → Yx, getElem?_set_ne → YC, mem_of_getElem? → YD, nodup_append → YF, getElem_of_mem → YL, mem_range → YM, length_take → YO, filter_cons → YQ, take_of_length_le → YY, filter_filter → YZ, append_assoc → Y6, getElem?_append_right → Y8, length_drop → Zj, map_nil → Zk, all_eq_true → Zl, getElem?_append_left → Zm, getElem?_eq_none_iff → Zo, any_cons → Zv, mem_filterMap → ZA, pairwise_cons → ZF, count_pos_iff → ZG, getElem?_cons_zero → ZK, getElem?_cons_succ → ZL, findIdx?_eq_some_iff_getElem → ZO, getElem?_set_self → ZQ, range_succ_eq_map → ZX, length_replicate → Z0, filterMap_eq_map → Z3, any_eq_true → Z6, map_flatMap → Z8, length_nil → zaj, forIn_cons → zak, nodup_iff_pairwise_ne → zaE, length_zipIdx → zaF, mem_of_find?_eq_some → zaH, sublist_append_left → zaY, mem_of_mem_eraseIdx → zaZ, filterMap_cons_none → za0, filterMap_cons_some → za1, getElem?_replicate → za4, cons_append → za9, map_zipWith → zbh, filter_cons_of_neg → zbi, getElem_zip → zbj, mem_flatten → zbk, getElem_map → zbl, filter_eq_nil_iff → zbB, foldr_cons → zbK, range_succ → zbL, filter_map → zbM, getElem?_zipWith → zbP, take_append_drop → zbT, mem_iff_getElem → zb3, findIdx_getElem → zb8, getElem?_range → zcm, map_eq_nil_iff → zco, filter_append → zcR, map → zc2, length_range → zdb, getElem_inj → zdd, zipIdx_cons → zdl, countP_cons → zdn, zipWith_map → zdo, flatMap_map → zdp, flatMap_def → zdq, append → zdx, not_lt → zdy, zipIdx_nil → zdD, length_zip → zdF, countP_map → zdH, nodup_nil → zdS, forIn_nil → zdW, map_take → zeb, map_drop → zec, set → zeq
open PySem.Heap renaming get?_push_of_some → Wn, lt_size → WJ, get?_push_size → WN, get?_update_other → XB, size_push → Zb, SameBut → Zg, get?_update_self → Z2, ExtBut → zdt
open Iff renaming rfl → Wr
open False renaming elim → Ww
open PySem.PyData renaming strOk → WC, eqv → YI, eqvAll → zaV, canLayAll0 → zc0, depthAll → zdC, canLay0 → zdT
open Nat renaming le_refl → WG, lt_of_lt_of_le → WS, ne_of_lt → W0, le_trans → Xi, zero_le → XX, lt_irrefl → YH, ne_of_gt → YX, le_of_lt → ZP, le_succ → zab, succ_lt_succ_iff → zac, succ_le_succ → za6, min_eq_right → za8, reduceLeDiff → zba, zero_lt_succ → zbb, le_of_eq → zbu, min_le_left → zbD, min_eq_left → zbE, zero_lt_one → zbF, lt_add_one → zb2, reduceSub → zcv, reduceAdd → zcw, mod_lt → zcQ, lt_trans → zcZ, sub_self → zc3, reduceLT → zc4, le_of_dvd → zea, le_total → zeg
open Int renaming mul_le_mul_of_nonneg_right → WO, gcd → W6, le_refl → Xf, le_ediv_iff_mul_le → XS, gcd_pos_of_ne_zero_right → X0, mul_comm → X1, mul_ediv_mul_of_pos_left → X2, mul_pos → X7, toNat_of_nonneg → Yb, ediv_eq_of_eq_mul_right → Yq, dvd_gcd_mul_iff_dvd_mul → Yr, fdiv_eq_ediv_of_nonneg → Yv, le_of_mul_le_mul_left → Yz, mul_fdiv_cancel_left → YJ, mul_nonneg → YR, mul_le_mul_of_nonneg_left → YS, ediv_le_of_le_mul → Y2, mul_lt_mul_of_pos_right → Y5, eq_of_mul_eq_mul_right → Zc, le_of_mul_le_mul_right → Ze, fmod_eq_emod_of_nonneg → Zf, mul_neg_of_pos_of_neg → Zq, lt_of_mul_lt_mul_left → Zr, natCast_nonneg → ZE, eq_ofNat_of_zero_le → ZM, toNat_natCast → ZU, lt_trichotomy → ZY, lt_of_mul_lt_mul_right → zaD, gcd_ediv_gcd_ediv_gcd → zaG, gcd_dvd_right → zaL, sub_mul → zaM, mul_ediv_cancel_left → za3, gcd_dvd_left → zbc, gcd_comm → zbw, le_of_lt → zbx, reduceToNat → zbG, ediv_mul_le → zbJ, natAbs_dvd_natAbs → zbR, one_mul → zb6, add_mul → zb7, reducePow → zcy, reduceNeg → zcz, reduceSub → zcA, reduceAdd → zcB, reduceMul → zcC, mul_assoc → zcG, natAbs_natCast → zcM, gcd_zero_right → zcN, reduceEq → zc5, mul_left_comm → zc6, neg_mul_neg → zdE, natAbs_mul → zdZ, mul_le_mul → zd1, le_trans → zei
open Ne renaming symm → W9
open PySem.Builtin.SmallTypes renaming nextOf → Xa, ownedTupleIsFree → Xl, ownedTupleHandOut → XU
open PySem.Value renaming ref → Xc, none → YG, isStrOf → Y0, int → zat, str → zcc, bool → zdI, isInt → zek, type → zes
open PySem.PassesOwn renaming never → Xe
open Option.some renaming inj → Xg
open Bool renaming and_eq_true → Xm, false_ne_true → YW, false_eq_true → ZD, beq_eq_decide_eq → Z1, not_false → zb1, and_false → zb4, not_true → zcx, and_self → zcD, and_true → zcE, true_and → zcF, eq_iff_iff → zdG, false_and → zdM, or_false → zd4, false_or → zd6, true_or → zee
open PyProof.Rows renaming slot_tuple_getitem → Xu, callWith_type1 → XE, IntsAre → Zx, kindOf → Z4, seqObj → zan, assignInOrder_cons → zav, envOfC → zay, AllBare → zaK, intBits_le → za7, subscriptTail_builtinR → zbr, entry_tuple_getitem → zck, subscriptTail → zct, args_tuple_getitem → zcJ, assignInOrder_nil → zcS, callWith_builtin1 → zdi, IsTup → zdr, Subscript_ → zdQ, sortedHeap → zd2, iadd_int → zej
open PySem.Builtin.Tuple renaming tupleExact → XC, tupleItemsOf → zaA, tupleIsExact → zdX
open PySem.Builtin.List renaming listTooLong → XZ
open PySem.NameKind renaming free → Yh, cell → zcu
open PySem.F renaming plainAttrs_list → Yk, plain_max_loop → Yt, slot_tuple_iterator_next → Yu, slot_enumerate_next → Y3, args_tuple_add_2 → Zt, slot_list_getattribute → Zw, entry_tuple_add → ZI, slot_tuple_add → ZT, args_tuple_iterator_next_1 → zal, slot_zip_next → zam, entry_tuple_iterator_next → zar, args_enumerate_next_1 → zbf, entry_max_loop → zbg, entry_enumerate_next → zbA, args_list_extend_2 → zb5, called_tuple → zca, args_object_init_2 → zcb, entry_list_extend → zcn, slot_list_extend → zcP, args_zip_next_1 → zc1, plain_list_iadd → zc9, plain_tuple_new → zda, entry_zip_next → zdk
open ForInStep renaming yield → Ym
open PySem.Builtin.Slice renaming slicePlaces → Yy, sliceAdjust → Zn, sliceApplied → zaz, slicePartIndex → zdA, sliceFields → zd3
open Sum renaming inr → YT, inl → zaI
open Array renaming length_toList → Zs, mem_iff_getElem → zbQ, toArray_toList → zb9, append_assoc → zcH, size_append → zc7, toList → zed
open PySem.Builtin.Range renaming rangeSize → ZH, small → zer
open Classical renaming propDecidable → ZN
open Or renaming inl → ZV, inr → ZW
open PySem.AutoSeq1 renaming sub_tuple_tuple → Z7, sub_tuple_list → zae, sub_list_tuple → zaf, sub_list_list → zao, idx_int → zby
open PySem.Around renaming under_plainId → zad
open PySem.Builtin.Builtins renaming bindParams → zas
open PySem.Calls renaming Name_function_global → zau, spliced_cons → zcI, spliced_nil → zcT
open True renaming intro → zaB
open Function renaming comp_def → zaN
open List.Pairwise renaming map → zaO, nil → zew
open Option renaming isSome_iff_exists → zaU, getD_some → zbe, map_eq_some_iff → zbv, map_some → zbH, isSome_map → zcY, getD_none → zdj, none → zeo
open List.cons renaming inj → za2
open PySem.Builtin.Dict renaming updateFrom → zbd, addKeywords → zd8, selfAndRest → zd9, pairItems → zeh
open PySem.Obj renaming mapSeq → zbs, data_mapFields → zcK
open List.Perm renaming append_left → zbS
open Prod renaming ext → zbY, fst → zdY
open PySem.Heap.SameBut renaming update → zcl
open PySem.Paired renaming length → zcp, snoc → zep
open List.Sublist renaming refl → zc8, map → zex
open PySem.Shared renaming heap → zdv
open PySem.Heap.DictOf renaming new → zdB
open PySem.SeqAt renaming EqAt → zd0
open Sum.inr renaming inj → zel
open PySem.CmpOp renaming NotIn → zem
open PySem.IsRange renaming new → zen
open PySem.Heap.IsSliceOf renaming new → zet
open PySem.W.WShape renaming has → zeu
namespace L2
open PySem PySem.Spec PyProof.Rows
abbrev Key:=Sum Int Str
def rB:Key->Wo->Bool
 | .inl k,v=>zek k v
 | .inr x,v=>Y0 x v
def UJ (w:Xh):Key->Int
 | .inl k=>hashInt k
 | .inr x=>hashStr w x
theorem bV:∀ {k:Key} {v:Wo},rB k v=true->(∃ i t,k=zaI i/\v=zat i t)∨(∃ x t,k=YT x/\v=zcc x t)
 | .inl i,v,h=>by
  obtain ⟨t,e⟩:=Value.isInt_shape (k:=i) (v:=v) h
  exact .inl ⟨i,t,rfl,e⟩
 | .inr x,v,h=>by
  obtain ⟨t,e⟩:=Value.isStrOf_shape (x:=x) (v:=v) h
  exact .inr ⟨x,t,rfl,e⟩
theorem ER (i:Int)(t:Tok):rB (.inl i) (.int i t)=true:=by simp[rB,zek]
theorem E7 (x:Str)(t:Tok):rB (.inr x) (.str x t)=true:=by simp[rB,Y0]
theorem QO (a b:Int):decide ((zaI a:Key)=zaI b)=(a == b):=by
 by_cases e:a=b
 ·subst e;simp
 ·have h:¬ (zaI a:Key)=zaI b:=λq=>e (Sum.inl.inj q)
  rw[decide_eq_false h]
  exact (beq_eq_false_iff_ne.mpr e).symm
theorem PL (a b:Str):decide ((YT a:Key)=YT b)=decide (a=b):=by
 by_cases e:a=b
 ·subst e;simp
 ·have h:¬ (YT a:Key)=YT b:=λq=>e (zel q)
  rw[decide_eq_false h,decide_eq_false e]
theorem Qw (a:Int)(b:Str):decide ((zaI a:Key)=YT b)=false:=decide_eq_false (λq=>nomatch q)
theorem ON (a:Str)(b:Int):decide ((YT a:Key)=zaI b)=false:=decide_eq_false (λq=>nomatch q)
def bI (prog:W7)(w:Xh):PySem.KeyKind prog w Key where
 is:=rB
 hash:=UJ w
 inj:=λv a b ha hb=>by
  rcases bV ha with ⟨i,t,rfl,rfl⟩ | ⟨x,t,rfl,rfl⟩
  ·rcases bV hb with ⟨j,u,rfl,e⟩ | ⟨y,u,rfl,e⟩
   ·injection e with e1 _;rw[e1]
   ·exact nomatch e
  ·rcases bV hb with ⟨j,u,rfl,e⟩ | ⟨y,u,rfl,e⟩
   ·exact nomatch e
   ·injection e with e1 _;rw[e1]
 byValue:=λk v h=>by
  rcases bV h with ⟨i,t,rfl,rfl⟩ | ⟨x,t,rfl,rfl⟩ <;> rfl
 pyHash:=λhv h=>by
  rcases bV hv with ⟨i,t,rfl,rfl⟩ | ⟨x,t,rfl,rfl⟩
  ·exact wpAny_pyHash_int h
  ·exact wpAny_pyHash_str h
 eqBool:=λhu hv h=>by
  rcases bV hu with ⟨i,t,rfl,rfl⟩ | ⟨x,t,rfl,rfl⟩
  ·rcases bV hv with ⟨j,u,rfl,rfl⟩ | ⟨y,u,rfl,rfl⟩
   ·rw[QO] at h;exact wpAny_eqBool_int h
   ·rw[Qw] at h;exact SeqAt.EqAt.int_str i t y u _ _ _ _ h
  ·rcases bV hv with ⟨j,u,rfl,rfl⟩ | ⟨y,u,rfl,rfl⟩
   ·rw[ON] at h;exact SeqAt.EqAt.str_int x t j u _ _ _ _ h
   ·rw[PL] at h;exact wpAny_eqBool_str h
 «strs»:=λk x t v h=>by
  rcases bV h with ⟨i,u,rfl,e⟩ | ⟨y,u,rfl,e⟩
  ·exact nomatch e
  ·injection e with e1 _
   subst e1
   cases v<;>rfl
theorem zg (prog:W7)(w:Xh)(i:Int)(t:Tok):(bI prog w).is (.inl i) (.int i t)=true:=ER i t
theorem y9 (prog:W7)(w:Xh)(x:Str)(t:Tok):(bI prog w).is (.inr x) (.str x t)=true:=E7 x t
end L2
namespace L2
open PySem PySem.Spec PyProof.Rows
inductive V where
 | non | bl (b:Bool) | int (i:Int) | str (x:Str) | byt (b:Array UInt8) | flt (b:UInt64) | ref (a:Addr) | ty (n:String)
 deriving DecidableEq
def RelV:V->Wo->Prop
 | .non,u=>u=YG
 | .bl b,u=>u=zdI b
 | .int i,u=>∃ t,u=zat i t
 | .str x,u=>∃ t,u=zcc x t
 | .byt b,u=>∃ t,u=Value.bytes b t
 | .flt b,u=>∃ t,u=Value.float b t
 | .ref a,u=>u=Xc a
 | .ty n,u=>u=zes n
abbrev Vals:List V->List Wo->Prop:=zaP RelV
theorem Vals.length {xs:List V}{us:List Wo}(r:Vals xs us):xs.length=us.length:=zcp r
theorem Vals.get:∀ {xs:List V} {us:List Wo} {i:Nat} {x:V},Vals xs us->xs[i]? = some x->∃ u,us[i]? = some u/\RelV x u
 | _,_,_,_,.nil,e=>by simp at e
 | _,_,0,_,.cons r _,e=>by simp at e;subst e;exact ⟨_,rfl,r⟩
 | _,_,i+1,x,.cons _ t,e=>by
  obtain ⟨u,h1,h2⟩:=Vals.get (i:=i) (x:=x) t (by simpa using e)
  exact ⟨u,by simpa using h1,h2⟩
theorem Vals.set {x:V}{u:Wo}(r:RelV x u):∀ {xs:List V} {us:List Wo} (i:Nat),Vals xs us->Vals (xs.set i x) (us.set i u)
 | _,_,_,.nil=>.nil
 | _,_,0,.cons _ t=>.cons r t
 | _,_,i+1,.cons q t=>.cons q (Vals.set r i t)
theorem Vals.append:∀ {xs ys:List V} {us ws:List Wo},Vals xs us->Vals ys ws->Vals (xs++ys) (us++ws)
 | _,_,_,_,.nil,s=>s
 | _,_,_,_,.cons r t,s=>.cons r (Vals.append t s)
theorem Vals.take:∀ {xs:List V} {us:List Wo} (n:Nat),Vals xs us->Vals (xs.take n) (us.take n)
 | _,_,0,_=>.nil
 | _,_,_+1,.nil=>.nil
 | _,_,n+1,.cons r t=>.cons r (Vals.take n t)
theorem Vals.drop:∀ {xs:List V} {us:List Wo} (n:Nat),Vals xs us->Vals (xs.drop n) (us.drop n)
 | _,_,0,r=>r
 | _,_,_+1,.nil=>.nil
 | _,_,n+1,.cons _ t=>Vals.drop n t
def oZ:Option V->Option Wo->Prop
 | some v,some u=>RelV v u
 | none,none=>True
 | _,_=>False
def KV {κ:Type}:List (κ×V)->List (κ×Wo)->Prop:=zaP λ(p:κ×V) (q:κ×Wo)=>p.1=q.1/\RelV p.2 q.2
def kV:Key->V
 | .inl i=>.int i
 | .inr x=>.str x
inductive HO where
  | lst (xs:List V)
  | tup (xs:List V)
  | dK (kvs:List (Key×V)) | dT (kvs:List (List Key×V))
  | set (S:Int->Bool) (n:Nat)
  | ins (C dx:Addr) (fs:List (Str×V))
  | own (x:Addr)
  | xd (fs:List (Str×V))
  | met (f x:Addr)
  | rng (lo hi:Int)
  | frz (o:Obj) (u:HO)
  | tbl (ps:Array Wo)
  | ext (φ:Heap->Prop)
abbrev Hp:=Addr->Option HO
def upd (H:Hp)(a:Addr)(o:HO):Hp:=λb=>if b=a then some o else H b
theorem aM {H:Hp}{a:Addr}{o:HO}:upd H a o a=some o:=by unfold upd;rw[if_pos rfl]
theorem aN {H:Hp}{a b:Addr}{o:HO}(h:b≠a):upd H a o b=H b:=by unfold upd;rw[if_neg h]
theorem wa {H:Hp}{a:Addr}{o u:HO}:upd (upd H a o) a u=upd H a u:=by
 funext b;unfold upd;split<;>rfl
theorem T8 {H:Hp}{a b:Addr}{o u:HO}(h:H a=some o)(h':H b=some u)(d:o≠u):a≠b:=by
 intro e;subst e;rw[h] at h';exact d (Xg h')
theorem bu {H:Hp}{a b:Addr}{o:HO}(h:H a=some o)(h':H b=none):a≠b:=by
 intro e;subst e;rw[h] at h';cases h'
def uV (h:Heap)(a:Addr)(items:Array Wo):Prop:=∃ n,h.get? a=some { cls:=.type "tuple", data:=.seq items n }
theorem uV.tup {h:Heap}{a:Addr}{items:Array Wo}(p:uV h a items):zdr h a items:=by obtain ⟨n,e⟩:=p;exact ⟨_,e,rfl,n,rfl⟩
theorem uV.new (h:Heap)(items:Array Wo):uV (h.push { cls:=.type "tuple", data:=.seq items }) h.objs.size items:=⟨_,WN _ rfl⟩
section
variable (P:W7) (w:Xh)
def cQ (H:Hp)(h:Heap)(a:Addr):HO->Prop
 | .lst xs=>xs.length<=sizeLine/\∃ (its:List Wo) (n:Nat),Vals xs its/\h.get? a=some { cls:=.type "list", data:=.seq its.toArray n }
 | .tup xs=>xs.length<=sizeLine/\∃ its:List Wo,Vals xs its/\uV h a its.toArray
 | .dK kvs=>kvs.length<=sizeLine/\(a == YU)=false/\∃ vs,KV kvs vs/\h.DictOf (bI P w) a vs
 | .dT kvs=>kvs.length<=sizeLine/\(a == YU)=false/\∃ xs:List (List Key×Addr×Wo),
   zaP (λ(p:List Key×V) (q:List Key×Addr×Wo)=>p.1=q.1/\H q.2.1=some (.tup (p.1.map kV))/\RelV p.2 q.2.2) kvs xs/\
   ∃ o es ep,h.get? a=some o/\o.ExactDict/\o.data=.dict es ep/\es.toList=xs.map (entryOfKey (zcd (bI P w)))/\(xs.map (·.1)).Nodup
 | .set S n=>h.SetOf (intKind P w) a S n
 | .ins C dx fs=>H dx=some (.own a)/\fs.length<=1000/\dx≠a/\h.get? a=some (zdz C dx)/\
   ∃ mA,h.Ns1 dx mA/\(∀ f,oZ (fs.lookup f) (mA f))/\PySem.Within mA (fs.map (·.1))
 | .own _=>∃ o,h.get? a=some o
 | .xd fs=>∃ mA,h.Ns1 a mA/\∀ f,oZ (fs.lookup f) (mA f)
 | .rng lo hi=>∃ t u v,h.get? a=some { cls:=.type "range", data:=.fields #[.int lo t,.int hi u,.int 1 v] }
 | .frz o u=>h.get? a=some o/\cQ H h a u
 | .tbl ps=>h.get? a=some { cls:=.none,data:=.fields ps }
 | .met f x=>h.get? a=some (zaJ (.ref f) (.ref x))
 | .ext φ=>φ h/\(∃ o,h.get? a=some o)/\∀ h1 h2:Heap,φ h1->(∀ o,h1.get? a=some o->h2.get? a=some o)->φ h2
def HOk (H:Hp)(h:Heap):Prop:=∀ a o,H a=some o->cQ P w H h a o
end
section
variable {P:W7} {w:Xh} {H H':Hp} {h h':Heap} {a:Addr} {o:HO}
theorem cQ.lt (x:cQ P w H h a o):a < h.objs.size:=by
 cases o with
 | lst xs=>obtain ⟨_,_,_,_,e⟩:=x;exact WJ e
 | tup xs=>obtain ⟨_,_,_,p⟩:=x;exact p.tup.lt
 | dK kvs=>obtain ⟨_,_,_,_,o,_,_,e,_⟩:=x;exact WJ e
 | dT kvs=>obtain ⟨_,_,_,_,o,_,_,e,_⟩:=x;exact WJ e
 | set S n=>obtain ⟨o,_,_,_,e,_⟩:=x;exact WJ e
 | ins C dx fs=>obtain ⟨_,_,_,e,_⟩:=x;exact WJ e
 | own y=>obtain ⟨_,e⟩:=x;exact WJ e
 | xd fs=>obtain ⟨_,⟨_,_,_,e,_⟩,_⟩:=x;exact WJ e
 | rng lo hi=>obtain ⟨_,_,_,e⟩:=x;exact WJ e
 | frz ob u=>obtain ⟨e,_⟩:=x;exact WJ e
 | tbl ps=>exact WJ (show h.get? a=some _ from x)
 | met f y=>exact WJ (show h.get? a=some _ from x)
 | ext φ=>obtain ⟨_,⟨_,e⟩,_⟩:=x;exact WJ e
theorem zaP.RL {α β:Type}{F G:α->β->Prop}:∀ {l₁:List α} {l₂:List β},zaP F l₁ l₂->(∀ a b,F a b->G a b)->zaP G l₁ l₂
 | _,_,.nil,_=>.nil
 | _,_,.cons r t,f=>.cons (f _ _ r) (zaP.RL t f)
theorem cQ.nK (x:cQ P w H h a o)(k:∀ b u,(b=a∨H b=some (.own a))->h.get? b=some u->h'.get? b=some u)
  (ho:∀ b,H b=some (.own a)->H' b=some (.own a)) (ht:∀ b xs,H b=some (.tup xs)->H' b=some (.tup xs)):cQ P w H' h' a o:=by
 induction o with
 | lst xs=>obtain ⟨z,its,n,r,e⟩:=x;exact ⟨z,its,n,r,k _ _ (.inl rfl) e⟩
 | tup xs=>obtain ⟨z,its,r,m,e⟩:=x;exact ⟨z,its,r,m,k _ _ (.inl rfl) e⟩
 | dK kvs=>obtain ⟨z,y,vs,r,ob,es,ep,e,c⟩:=x;exact ⟨z,y,vs,r,ob,es,ep,k _ _ (.inl rfl) e,c⟩
 | dT kvs=>
  obtain ⟨z,y,xs,r,ob,es,ep,e,c⟩:=x
  exact ⟨z,y,xs,zaP.RL r λp q z=>⟨z.1,ht _ _ z.2.1,z.2.2⟩,ob,es,ep,k _ _ (.inl rfl) e,c⟩
 | set S n=>obtain ⟨ob,es,ep,t,e,c⟩:=x;exact ⟨ob,es,ep,t,k _ _ (.inl rfl) e,c⟩
 | ins C dx fs=>
  obtain ⟨d,z,ne,e,mA,⟨od,es,ep,e2,c⟩,r⟩:=x
  exact ⟨ho _ d,z,ne,k _ _ (.inl rfl) e,mA,⟨od,es,ep,k _ _ (.inr d) e2,c⟩,r⟩
 | own y=>obtain ⟨ob,e⟩:=x;exact ⟨ob,k _ _ (.inl rfl) e⟩
 | xd fs=>obtain ⟨mA,⟨od,es,ep,e,c⟩,r⟩:=x;exact ⟨mA,⟨od,es,ep,k _ _ (.inl rfl) e,c⟩,r⟩
 | rng lo hi=>obtain ⟨t,u,v,e⟩:=x;exact ⟨t,u,v,k _ _ (.inl rfl) e⟩
 | frz ob u ih=>obtain ⟨e,q⟩:=x;exact ⟨k _ _ (.inl rfl) e,ih q⟩
 | tbl ps=>
  have e:h.get? a=some { cls:=.none,data:=.fields ps }:=x
  show h'.get? a=some { cls:=.none,data:=.fields ps }
  exact k a _ (.inl rfl) e
 | met f y=>
  have e:h.get? a=some (zaJ (.ref f) (.ref y)):=x
  show h'.get? a=some (zaJ (.ref f) (.ref y))
  exact k a _ (.inl rfl) e
 | ext φ=>obtain ⟨p,⟨o,e⟩,st⟩:=x;exact ⟨st _ _ p λo q=>k _ _ (.inl rfl) q,⟨o,k _ _ (.inl rfl) e⟩,st⟩
theorem HOk.lt (x:HOk P w H h)(e:H a=some o):a < h.objs.size:=(x a o e).lt
theorem HOk.fresh (x:HOk P w H h)(e:h.objs.size<=a):H a=none:=by
 cases q:H a with
 | none=>rfl
 | some u=>exact absurd (WS (x.lt q) e) (YH _)
theorem HOk.kept (x:HOk P w H h)(k:∀ b u,h.get? b=some u->h'.get? b=some u):HOk P w H h':=λa o e=>
 (x a o e).nK (λb u _ q=>k b u q) (λ_ q=>q) λ_ _ q=>q
theorem HOk.laid (x:HOk P w H h)(k:∀ b u,h.get? b=some u->h'.get? b=some u)(hp:h.objs.size<=a)(new:cQ P w (upd H a o) h' a o):HOk P w (upd H a o) h':=λb u e=>by
 have hn:=x.fresh hp
 by_cases hb:b=a
 ·subst hb;rw[aM] at e;cases e;exact new
 ·rw[aN hb] at e
  exact (x b u e).nK (λc v _ q=>k c v q) (λc q=>by rw[aN (bu q hn)];exact q) λc xs q=>by rw[aN (bu q hn)];exact q
end
def Rd (H:Hp)(a:Addr)(u:HO):Prop:=H a=some u∨∃ o,H a=some (.frz o u)
theorem Rd.ok {P:W7}{w:Xh}{H:Hp}{h:Heap}{a:Addr}{u:HO}(r:Rd H a u)(x:HOk P w H h):cQ P w H h a u:=by
 rcases r with r | ⟨o,r⟩
 ·exact x a u r
 ·obtain ⟨_,q⟩:=x a _ r
  exact q
def Mut:Option HO->Prop
 | some (.lst _)=>True
 | some (.dK _)=>True
 | some (.dT _)=>True
 | some (.set _ _)=>True
 | some (.ins _ _ _)=>True
 | some (.ext _)=>True
 | _=>False
section
variable {P:W7} {w:Xh} {H:Hp} {h h':Heap} {x e:Addr} {o':HO}
theorem HOk.write (ok:HOk P w H h)(mu:Mut (H x))(he:e=x∨H e=some (.own x))(k:∀ b u,b≠e->h.get? b=some u->h'.get? b=some u)(heo:∃ u,h'.get? e=some u)
  (new:cQ P w (upd H x o') h' x o'):HOk P w (upd H x o') h':=λb u q=>by
 have S3:∀ c y,H c=some (.own y)->c≠x:=λc y r z=>by subst z;rw[r] at mu;exact mu
 have U1:∀ c xs,H c=some (.tup xs)->c≠x:=λc xs r z=>by subst z;rw[r] at mu;exact mu
 by_cases hb:b=x
 ·subst hb;rw[aM] at q;cases q;exact new
 ·rw[aN hb] at q
  by_cases hbe:b=e
  ·have q':H b=some (.own x):=by
    rcases he with z | z
    ·exact absurd (hbe.trans z) hb
    ·rw[hbe];exact z
   rw[q] at q';cases q'
   obtain ⟨v,hv⟩:=heo
   exact ⟨v,by rw[hbe];exact hv⟩
  ·refine (ok b u q).nK (λc v hc r=>k c v ?_ r) (λc r=>by rw[aN (S3 c b r)];exact r) λc xs r=>by rw[aN (U1 c xs r)];exact r
   rcases hc with rfl | hc
   ·exact hbe
   ·rintro rfl
    rcases he with z | z
    ·exact S3 c b hc z
    ·rw[hc] at z;cases z;exact hb rfl
end
structure Un (fs ex:List Addr) (H H':Hp) (h h':Heap):Prop where
 keep:∀ b o,h.get? b=some o->H b=none->b ∉ fs->b ∉ ex->h'.get? b=some o
 slot:∀ b o,h.get? b=some o->H b=none->b∈fs->b ∉ ex->∃ sl,h'.get? b=some { o with slots:=sl }
 free:∀ b o,h.get? b=some o->H b=none->b ∉ ex->H' b=none
 there:∀ b o,h.get? b=some o->b ∉ ex->∃ o',h'.get? b=some o'
 pf:∀ b xs,H b=some (.tup xs)->H' b=some (.tup xs)
 mU:∀ b o u,H b=some (.frz o u)->H' b=some (.frz o u)
 o8:∀ b ps,H b=some (.tbl ps)->∃ more,H' b=some (.tbl (ps++more))
section
variable {fs fs' ex ex':List Addr} {H H1 H2:Hp} {h h1 h2 h':Heap} {a x e:Addr} {o:HO}
theorem Un.any (u:Un fs ex H H1 h h1){b:Addr}{ob:Obj}(q:h.get? b=some ob)(n:H b=none)(hx:b ∉ ex):∃ sl,h1.get? b=some { ob with slots:=sl }:=by
 by_cases hb:b∈fs
 ·exact u.slot b ob q n hb hx
 ·exact ⟨ob.slots,u.keep b ob q n hb hx⟩
theorem Un.trans (a:Un fs ex H H1 h h1)(b:Un fs ex H1 H2 h1 h2):Un fs ex H H2 h h2 where
 keep:=λc ob q n hc hx=>b.keep c ob (a.keep c ob q n hc hx) (a.free c ob q n hx) hc hx
 slot:=λc ob q n hc hx=>by
  obtain ⟨sl,e1⟩:=a.slot c ob q n hc hx
  obtain ⟨sl',e2⟩:=b.slot c _ e1 (a.free c ob q n hx) hc hx
  exact ⟨sl',e2⟩
 free:=λc ob q n hx=>by
  obtain ⟨o',e1⟩:=a.there c ob q hx
  exact b.free c o' e1 (a.free c ob q n hx) hx
 there:=λc ob q hx=>by
  obtain ⟨o',e1⟩:=a.there c ob q hx
  exact b.there c o' e1 hx
 pf:=λc xs q=>b.pf c xs (a.pf c xs q)
 mU:=λc ob xs q=>b.mU c ob xs (a.mU c ob xs q)
 o8:=λc ps q=>by
  obtain ⟨m1,e1⟩:=a.o8 c ps q
  obtain ⟨m2,e2⟩:=b.o8 c _ e1
  exact ⟨m1++m2,by rw[e2,zcH]⟩
theorem Un.kept (k:∀ b u,h.get? b=some u->h'.get? b=some u):Un fs ex H H h h':=
 ⟨λb ob q _ _ _=>k b ob q,λb ob q _ _ _=>⟨ob.slots,k b ob q⟩,λ_ _ _ n _=>n,λb ob q _=>⟨ob,k b ob q⟩,λ_ _ q=>q,λ_ _ _ q=>q,λ_ ps q=>⟨#[],by rw[q];simp⟩⟩
theorem Un.refl:Un fs ex H H h h:=Un.kept λ_ _ q=>q
theorem Un.laid (k:∀ b u,h.get? b=some u->h'.get? b=some u)(hp:h.objs.size<=a)(hn:H a=none):Un fs ex H (upd H a o) h h' where
 keep:=λb u q _ _ _=>k b u q
 slot:=λb u q _ _ _=>⟨u.slots,k b u q⟩
 free:=λb u q n _=>by rw[aN (W0 (WS (WJ q) hp))];exact n
 there:=λb u q _=>⟨u,k b u q⟩
 pf:=λb xs q=>by rw[aN (bu q hn)];exact q
 mU:=λb u xs q=>by rw[aN (bu q hn)];exact q
 o8:=λb ps q=>⟨#[],by rw[aN (bu q hn),q];simp⟩
theorem Un.write (mu:Mut (H x))(he:e=x∨H e=some (.own x))(k:∀ b u,b≠e->h.get? b=some u->h'.get? b=some u)(heo:∃ u,h'.get? e=some u):Un fs ex H (upd H x o) h h':=by
 have hx:∀ b,H b=none->b≠x:=λb n z=>by subst z;rw[n] at mu;exact mu
 have hb:∀ b,H b=none->b≠e:=λb n z=>by
  subst z
  rcases he with r | r
  ·exact hx b n r
  ·rw[n] at r;cases r
 have hm:∀ b u,H b=some u->¬ Mut (some u)->b≠x:=λb u q nm z=>by subst z;rw[q] at mu;exact nm mu
 refine ⟨λb u q n _ _=>k b u (hb b n) q,λb u q n _ _=>⟨u.slots,k b u (hb b n) q⟩,λb u q n _=>by rw[aN (hx b n)];exact n,λb u q _=>?_,
  λb xs q=>by rw[aN (hm b _ q λz=>z)];exact q,λb u xs q=>by rw[aN (hm b _ q λz=>z)];exact q,λb ps q=>⟨#[],by rw[aN (hm b _ q λz=>z),q];simp⟩⟩
 by_cases hbe:b=e
 ·subst hbe;exact heo
 ·exact ⟨u,k b u hbe q⟩
theorem Un.mono (u:Un fs ex H H1 h h1)(hs:∀ b∈fs,b∈fs')(hx:∀ b∈ex,b∈ex'):Un fs' ex' H H1 h h1:=
 ⟨λb ob q n hb he=>u.keep b ob q n (λz=>hb (hs b z)) λz=>he (hx b z),λ_ _ q n _ he=>u.any q n λz=>he (hx _ z),λb ob q n he=>u.free b ob q n λz=>he (hx b z),λb ob q he=>u.there b ob q λz=>he (hx b z),u.pf,u.mU,u.o8⟩
end
def trk (h:Heap)(H:Hp):List Addr:=(W5 h.objs.size).filter λa=>(H a).isSome
def uR (h:Heap)(H:Hp):Heap:=PySem.W.hideAll h (trk h H)
theorem D9 (h:Heap)(H:Hp):(uR h H).objs.size=h.objs.size:=PySem.W.hideAll_size _ _
theorem HC {h:Heap}{H:Hp}{b:Addr}{o:Obj}(e:h.get? b=some o)(n:H b=none):(uR h H).get? b=some o:=
 PySem.W.hideAll_get _ e λhm=>by
  have q:(H b).isSome=true:=(Xd.mp hm).2
  rw[n] at q;simp at q
theorem Nf {h:Heap}{H:Hp}{b:Addr}{o:Obj}(e:(uR h H).get? b=some o):h.get? b=some o/\H b=none:=by
 have e':h.get? b=some o:=PySem.W.of_hideAll (trk h H) e
 refine ⟨e',?_⟩
 cases q:H b with
 | none=>rfl
 | some x=>
  have hm:b∈trk h H:=Xd.mpr ⟨YM.mpr (WJ e'),by simp[q]⟩
  have z:(uR h H).get? b=none:=PySem.W.hideAll_none (trk h H) hm
  rw[z] at e;cases e
def Ln (g h:Heap)(L:Addr):List (Addr×Obj):=(W5 h.objs.size).filterMap λa=>if a=L∨(g.get? a).isSome=true then none else (h.get? a).map λo=>(a,o)
def rest (g h:Heap)(L d:Addr):List (Addr×Obj):=(Ln g h L).filter λp=>decide (p.1≠d)
end L2
namespace L2
open PySem PySem.Spec PyProof.Rows
structure Mod (K:Wj) (mg:Str->Option Wo) (base:Heap):Prop where
 kin:K.In base
 glob:base.Ns X5 mg
 blt:∃ mb,base.Ns zdJ mb/\∀ x:Str,x ≠ "__name__" -> mb x=Yp x
 nolimit:base.NoLimit
structure Cx where
 prog:W7
 w:Xh
 K:Wj
 mg:Str->Option Wo
 base:Heap
 A:XA
 N:List Str
 s₀:Wu
 H₀:Hp
 env:Env
 outer:List Env
 stack:List Env
 ex:List Addr
 fn:Str->Bool
 calm:Bool
 pn:List (Addr×Obj)
 xe:Wo->Wu->Prop
def frs (l:List Env):List Addr:=l.filterMap (·.frame)
abbrev Cx.fs (X:Cx):List Addr:=frs X.outer
def Vis (sc:Scope)(x:Str):Prop:=sc.names.lookup x=some .local∨sc.names.lookup x=some .cell∨sc.names.lookup x=some .free
def Loc (sc:Scope)(x:Str):Prop:=sc.names.lookup x=some .local∨sc.names.lookup x=some .cell
def Look (env:Env)(h:Heap)(m:Str->Option Wo)(x:Str)(u:Wo):Prop:=
 (env.kindOf x=some .local/\m x=some u)∨((env.kindOf x=some .cell∨env.kindOf x=some .free)/\∃ c,env.cells.lookup x=some c/\h.IsCell c (some u))
structure Cx.Ok (X:Cx):Prop where
 mod:Mod X.K X.mg X.base
 kind:X.env.scope.kind=.function
 glob:X.env.globals=X5
 blt:X.env.builtins=zdJ
 above:X.s₀.heap.objs.size<=X.env.locals
 inj:∀ x y c,X.env.cells.lookup x=some c->X.env.cells.lookup y=some c->x=y
 has:∀ x,(X.env.kindOf x=some .cell∨X.env.kindOf x=some .free)->∃ c,X.env.cells.lookup x=some c
 cab:∀ x c,X.fn x=true->X.env.cells.lookup x=some c->X.s₀.heap.objs.size<=c
 hd:X.calm=true->X.A.handled=none
 frames:X.A.frames=some X.stack
 stk:X.stack=X.outer∨(X.stack=X.env::X.outer/\X.env.frame=some X.env.locals)
 exf:∀ b∈X.ex,b≠X.env.locals/\∀ x c,X.env.cells.lookup x=some c->c≠b
 bs:∀ b o,X.base.get? b=some o->X.s₀.heap.get? b=some o/\X.H₀ b=none
 bsz:X.base.objs.size<=X.s₀.heap.objs.size
 JC:∀ b o,X.base.get? b=some o->b ∉ X.ex
 GW:∀ b∈X.ex,b ∉ X.fs
 sI:X.s₀.heap.FunFrames X.base X.outer
 frf:∀ b∈X.fs,X.H₀ b=none
structure Inv (X:Cx) (pins:List (Addr×Obj)) (σ:List (Option V)) (H:Hp) (s:Wu):Prop where
 ok:X.Ok
 os:s.os=X.s₀.os
 bare:zaK s.gens
 base:Un X.fs X.ex X.H₀ H X.s₀.heap s.heap
 loc:∃ m,s.heap.Ns X.env.locals m/\∀ (i:Nat) (x:Str) (v:V),X.N[i]? = some x->σ[i]? = some (some v)->Vis X.env.scope x->∃ u,RelV v u/\Look X.env s.heap m x u
 cell:∀ x c,X.env.cells.lookup x=some c->∃ v,s.heap.IsCell c v
 free:H X.env.locals=none
 jU:∀ x c,X.env.cells.lookup x=some c->H c=none
 pin:∀ p∈X.pn++pins,s.heap.get? p.1=some p.2/\H p.1=none/\p.1≠X.env.locals/\p.1 ∉ X.fs/\∀ v,p.2.data≠.cell v
 hok:HOk X.prog X.w H s.heap
 len:σ.length=X.N.length
section
variable {X:Cx} {pins:List (Addr×Obj)} {σ:List (Option V)} {H H':Hp} {s:Wu} {h':Heap}
theorem Cx.Ok.Vp (ok:X.Ok){b:Addr}{o:Obj}(e:X.base.get? b=some o):b ∉ X.fs:=λhb=>by
 have:=(ok.sI.mem hb).1
 rw[e] at this;cases this
theorem Inv.bs (I:Inv X pins σ H s):∀ b o,X.base.get? b=some o->s.heap.get? b=some o/\H b=none:=λb o e=>
 ⟨I.base.keep b o (I.ok.bs b o e).1 (I.ok.bs b o e).2 (I.ok.Vp e) (I.ok.JC b o e),I.base.free b o (I.ok.bs b o e).1 (I.ok.bs b o e).2 (I.ok.JC b o e)⟩
theorem Inv.bk (I:Inv X pins σ H s):∀ b o,X.base.get? b=some o->s.heap.get? b=some o:=λb o e=>(I.bs b o e).1
theorem Inv.mod (I:Inv X pins σ H s):Mod X.K X.mg X.base:=I.ok.mod
theorem Inv.kIn (I:Inv X pins σ H s):X.K.In s.heap:=I.ok.mod.kin.keeps I.bk
theorem Inv.nolimit (I:Inv X pins σ H s):s.heap.NoLimit:=I.ok.mod.nolimit.keeps I.bk
theorem Inv.fr (I:Inv X pins σ H s):∃ m,Fr X.base X.env.locals s.heap m:=
 let ⟨m,hn,_⟩:=I.loc
 ⟨m,hn,I.bk,Xi I.ok.bsz I.ok.above⟩
theorem Inv.lt (I:Inv X pins σ H s):X.env.locals < s.heap.objs.size:=let ⟨_,hn,_⟩:=I.loc;hn.lt
theorem Inv.sz (I:Inv X pins σ H s):X.s₀.heap.objs.size<=s.heap.objs.size:=Xi I.ok.above (ZP I.lt)
theorem Inv.VR (I:Inv X pins σ H s){a:Addr}(h:s.heap.objs.size<=a):a ∉ X.fs:=λhb=>by
 obtain ⟨_,o,ho,_⟩:=I.ok.sI.mem hb
 exact absurd (WS (WJ ho) (Xi I.sz h)) (YH _)
theorem Inv.cne (I:Inv X pins σ H s):∀ x c,X.env.cells.lookup x=some c->c≠X.env.locals:=λx c e z=>by
 obtain ⟨v,o,ho,hd⟩:=I.cell x c e
 obtain ⟨m,⟨o',es,ep,ho',hd',_⟩,_⟩:=I.loc
 rw[z,ho'] at ho;cases ho;rw[hd'] at hd;cases hd
theorem Inv.sI (I:Inv X pins σ H s):s.heap.FunFrames X.base X.outer:=by
 have all:∀ (l:List Env),(∀ b∈frs l,b∈X.fs)->X.s₀.heap.FunFrames X.base l->s.heap.FunFrames X.base l:=by
  intro l
  induction l with
  | nil=>intro _ _;trivial
  | cons env r ih=>
   intro hs hl
   obtain ⟨hk,⟨L,o,hf,hn,ho,hd⟩,hr⟩:=hl
   have hL:L∈X.fs:=hs L (by unfold frs;rw[Yo,hf];exact WL)
   obtain ⟨sl,e⟩:=I.base.slot L o ho (I.ok.frf L hL) hL λz=>I.ok.GW L z hL
   exact ⟨hk,⟨L,_,hf,hn,e,hd⟩,ih (λb hb=>hs b (by unfold frs;rw[Yo,hf];exact WU _ hb)) hr⟩
 exact all X.outer (λ_ hb=>hb) I.ok.sI
theorem Inv.stack (I:Inv X pins σ H s):s.heap.FunFrames X.base X.stack:=by
 rcases I.ok.stk with e | ⟨e,hf⟩
 ·rw[e];exact I.sI
 ·rw[e]
  obtain ⟨m,hn,_⟩:=I.loc
  refine .cons (by rw[I.ok.kind];decide) hf hn ?_ I.sI
  exact Heap.get?_none_of_le (Xi I.ok.bsz I.ok.above)
theorem Inv.zO (I:Inv X pins σ H s):∀ b∈frs X.stack,b∈X.env.locals::X.fs:=λb hb=>by
 rcases I.ok.stk with e | ⟨e,hf⟩
 ·rw[e] at hb;exact WU _ hb
 ·rw[e] at hb
  unfold frs at hb
  rw[Yo,hf] at hb
  exact hb
theorem Inv.CG (I:Inv X pins σ H s):∀ b∈frs X.stack,H b=none:=λb hb=>by
 rcases WM.mp (I.zO b hb) with e | hb
 ·rw[e];exact I.free
 ·obtain ⟨_,o,ho,_⟩:=I.ok.sI.mem hb
  exact I.base.free b o ho (I.ok.frf b hb) λz=>I.ok.GW b z hb
theorem Inv.step {g':Array GenState}{t':Nat}{d':Drawn}{ch:List Addr}(I:Inv X pins σ H s)
  (hch:∀ b∈ch,(b∈X.ex∨X.s₀.heap.objs.size<=b)/\b≠X.env.locals/\(∀ x c,X.env.cells.lookup x=some c->c≠b)/\∀ p∈X.pn++pins,p.1≠b)
  (keep:∀ b o,b≠X.env.locals->b ∉ X.fs->b ∉ ch->s.heap.get? b=some o->H b=none->h'.get? b=some o)
  (slot:∀ b o,b≠X.env.locals->b∈X.fs->b ∉ ch->s.heap.get? b=some o->H b=none->∃ sl,h'.get? b=some { o with slots:=sl }) (free:∀ b o,b ∉ ch->s.heap.get? b=some o->H b=none->H' b=none)
  (there:∀ b o,b ∉ ch->s.heap.get? b=some o->∃ o',h'.get? b=some o')
  (pf:∀ b xs,H b=some (.tup xs)->H' b=some (.tup xs)) (mU:∀ b o u,H b=some (.frz o u)->H' b=some (.frz o u)) (o8:∀ b ps,H b=some (.tbl ps)->∃ more,H' b=some (.tbl (ps++more)))
  (ns:∀ m,s.heap.Ns X.env.locals m->h'.Ns X.env.locals m) (hok:HOk X.prog X.w H' h') (hg:zaK g') :
  Inv X pins σ H' { s with heap:=h',gens:=g',drawn:=d',toks:=t' }:=by
 have neL:∀ b o,X.s₀.heap.get? b=some o->b≠X.env.locals:=λb o e=>W0 (WS (WJ e) I.ok.above)
 have neC:∀ b o,X.s₀.heap.get? b=some o->b ∉ X.ex->b ∉ ch:=λb o e hx hb=>by
  rcases (hch b hb).1 with z | z
  ·exact hx z
  ·exact absurd (WS (WJ e) z) (YH _)
 have cellK:∀ x c,X.env.cells.lookup x=some c->∀ v,s.heap.IsCell c v->h'.IsCell c v:=λx c e v ⟨o,ho,hd⟩=>by
  have nch:c ∉ ch:=λz=>(hch c z).2.2.1 x c e rfl
  by_cases hc:c∈X.fs
  ·obtain ⟨sl,q⟩:=slot c o (I.cne x c e) hc nch ho (I.jU x c e)
   exact ⟨_,q,hd⟩
  ·exact ⟨o,keep c o (I.cne x c e) hc nch ho (I.jU x c e),hd⟩
 refine ⟨I.ok,I.os,hg,⟨λb o e n hb hx=>?_,λb o e n hb hx=>?_,λb o e n hx=>?_,λb o e hx=>?_,λb xs e=>pf b xs (I.base.pf b xs e),λb o xs e=>mU b o xs (I.base.mU b o xs e),λb ps e=>?_⟩,?_,λx c e=>?_,?_,λx c e=>?_,λp hp=>?_,hok,I.len⟩
 ·exact keep b o (neL b o e) hb (neC b o e hx) (I.base.keep b o e n hb hx) (I.base.free b o e n hx)
 ·obtain ⟨sl,e1⟩:=I.base.slot b o e n hb hx
  obtain ⟨sl',e2⟩:=slot b _ (neL b o e) hb (neC b o e hx) e1 (I.base.free b o e n hx)
  exact ⟨sl',e2⟩
 ·obtain ⟨o',e1⟩:=I.base.there b o e hx
  exact free b o' (neC b o e hx) e1 (I.base.free b o e n hx)
 ·obtain ⟨o',e1⟩:=I.base.there b o e hx
  exact there b o' (neC b o e hx) e1
 ·obtain ⟨m1,e1⟩:=I.base.o8 b ps e
  obtain ⟨m2,e2⟩:=o8 b _ e1
  exact ⟨m1++m2,by rw[e2,zcH]⟩
 ·obtain ⟨m,hn,hl⟩:=I.loc
  refine ⟨m,ns m hn,λi x v e1 e2 e3=>?_⟩
  obtain ⟨u,r,l⟩:=hl i x v e1 e2 e3
  refine ⟨u,r,?_⟩
  rcases l with l | ⟨k,c,e,z⟩
  ·exact .inl l
  ·exact .inr ⟨k,c,e,cellK x c e _ z⟩
 ·obtain ⟨v,z⟩:=I.cell x c e
  exact ⟨v,cellK x c e v z⟩
 ·obtain ⟨m,⟨o,_,_,ho,_⟩,_⟩:=I.loc
  exact free _ o (λz=>(hch _ z).2.1 rfl) ho I.free
 ·obtain ⟨v,o,ho,hd⟩:=I.cell x c e
  exact free c o (λz=>(hch c z).2.2.1 x c e rfl) ho (I.jU x c e)
 ·obtain ⟨e,n,ne,nf,d⟩:=I.pin p hp
  have nch:p.1 ∉ ch:=λz=>(hch p.1 z).2.2.2 p hp rfl
  exact ⟨keep p.1 p.2 ne nf nch e n,free p.1 p.2 nch e n,ne,nf,d⟩
theorem Inv.un {t':Nat}(I:Inv X pins σ H s)(u:Un X.fs [] H H' s.heap h')(hok:HOk X.prog X.w H' h'):Inv X pins σ H' { s with heap:=h',toks:=t' }:=by
 obtain ⟨m,⟨o,es,ep,ho,r⟩,_⟩:=id I.loc
 obtain ⟨sl,hL⟩:=u.any ho I.free (by simp)
 exact I.step (g':=s.gens) (d':=s.drawn) (ch:=[]) (λ_ z=>nomatch z) (λb o _ hb _ e n=>u.keep b o e n hb (by simp)) (λb o _ hb _ e n=>u.slot b o e n hb (by simp)) (λb o _ e n=>u.free b o e n (by simp)) (λb o _ e=>u.there b o e (by simp)) u.pf u.mU u.o8 (λm' hm=>by
  obtain ⟨o',es',ep',ho',r'⟩:=hm
  rw[ho] at ho';cases ho'
  exact ⟨_,es',ep',hL,r'⟩) hok I.bare
theorem Inv.call {g':Array GenState}{t':Nat}{d':Drawn}{ch:List Addr}(I:Inv X pins σ H s)(u:Un (frs X.stack) ch H H' s.heap h')(hok:HOk X.prog X.w H' h')(hg:zaK g')
  (hch:∀ b∈ch,(b∈X.ex∨X.s₀.heap.objs.size<=b)/\b≠X.env.locals/\(∀ x c,X.env.cells.lookup x=some c->c≠b)/\∀ p∈X.pn++pins,p.1≠b) :
  Inv X pins σ H' { s with heap:=h',gens:=g',drawn:=d',toks:=t' }:=by
 obtain ⟨m,⟨o,es,ep,ho,r⟩,_⟩:=id I.loc
 obtain ⟨sl,hL⟩:=u.any ho I.free λz=>(hch _ z).2.1 rfl
 exact I.step (ch:=ch) hch (λb o hL hb hc e n=>u.keep b o e n (λz=>(WM.mp (I.zO b z)).elim hL hb) hc) (λb o _ _ hc e n=>u.any e n hc) (λb o hc e n=>u.free b o e n hc) (λb o hc e=>u.there b o e hc) u.pf u.mU u.o8 (λm' hm=>by
  obtain ⟨o',es',ep',ho',r'⟩:=hm
  rw[ho] at ho';cases ho'
  exact ⟨_,es',ep',hL,r'⟩) hok hg
theorem Inv.turned {t':Nat}{it:Addr}(I:Inv X pins σ H s)(k:∀ b o,b≠it->s.heap.get? b=some o->h'.get? b=some o)(hn:H it=none)(hL:it≠X.env.locals)
  (h1:it∈X.ex∨X.s₀.heap.objs.size<=it) (h2:∀ x c,X.env.cells.lookup x=some c->c≠it) (h3:∀ p∈X.pn++pins,p.1≠it):Inv X pins σ H { s with heap:=h',toks:=t' }:=by
 have nit:∀ b u,H b=some u->b≠it:=λb u e z=>by rw[z,hn] at e;cases e
 refine I.step (g':=s.gens) (d':=s.drawn) (ch:=[it]) (λb hb=>?_) (λb o _ _ hc e _=>k b o (λz=>hc (by simp[z])) e) (λb o _ _ hc e _=>⟨o.slots,k b o (λz=>hc (by simp[z])) e⟩) (λ_ _ _ _ n=>n)
  (λb o hc e=>⟨o,k b o (λz=>hc (by simp[z])) e⟩) (λ_ _ e=>e) (λ_ _ _ e=>e) (λb ps e=>⟨#[],by rw[e];simp⟩) (λm hm=>?_) (λb u e=>?_) I.bare
 ·have e:b=it:=by simpa using hb
  subst e
  exact ⟨h1,hL,h2,h3⟩
 ·obtain ⟨o,es,ep,ho,r⟩:=hm
  exact ⟨o,es,ep,k _ o (W9 hL) ho,r⟩
 ·refine (I.hok b u e).nK (λc v hc q=>k c v ?_ q) (λ_ q=>q) λ_ _ q=>q
  rcases hc with z | z
  ·rw[z];exact nit b u e
  ·exact nit c _ z
theorem Inv.tok (I:Inv X pins σ H s)(t:Nat):Inv X pins σ H { s with toks:=t }:=I.un (h':=s.heap) (t':=t) Un.refl I.hok
theorem Inv.kept {t':Nat}(I:Inv X pins σ H s)(k:∀ b u,s.heap.get? b=some u->h'.get? b=some u):Inv X pins σ H { s with heap:=h',toks:=t' }:=I.un (Un.kept k) (I.hok.kept k)
theorem Inv.laid {a:Addr}{o:HO}{t':Nat}(I:Inv X pins σ H s)(k:∀ b u,s.heap.get? b=some u->h'.get? b=some u)(hp:s.heap.objs.size<=a)(new:cQ X.prog X.w (upd H a o) h' a o) :
  Inv X pins σ (upd H a o) { s with heap:=h',toks:=t' }:=I.un (Un.laid k hp (I.hok.fresh hp)) (I.hok.laid k hp new)
theorem Inv.write {x e:Addr}{o:HO}{t':Nat}(I:Inv X pins σ H s)(mu:Mut (H x))(he:e=x∨H e=some (.own x))(k:∀ b u,b≠e->s.heap.get? b=some u->h'.get? b=some u)(heo:∃ u,h'.get? e=some u)
  (new:cQ X.prog X.w (upd H x o) h' x o):Inv X pins σ (upd H x o) { s with heap:=h',toks:=t' }:=I.un (Un.write mu he k heo) (I.hok.write mu he k heo new)
theorem Inv.weak {σ':List (Option V)}(I:Inv X pins σ H s)(hl:σ'.length=σ.length)(w:∀ (i:Nat) v,σ'[i]? = some (some v)->σ[i]? = some (some v)):Inv X pins σ' H s:=
 ⟨I.ok,I.os,I.bare,I.base,let ⟨m,hn,hl'⟩:=I.loc;⟨m,hn,λi x v e1 e2 e3=>hl' i x v e1 (w i v e2) e3⟩,I.cell,I.free,I.jU,I.pin,I.hok,hl.trans I.len⟩
theorem Inv.Cp {pins':List (Addr×Obj)}(I:Inv X pins σ H s)(h:∀ p∈pins',s.heap.get? p.1=some p.2/\H p.1=none/\p.1≠X.env.locals/\p.1 ∉ X.fs/\∀ v,p.2.data≠.cell v):Inv X pins' σ H s:=
 ⟨I.ok,I.os,I.bare,I.base,I.loc,I.cell,I.free,I.jU,λp hp=>(W2.mp hp).elim (λz=>I.pin p (Xq _ z)) (h p),I.hok,I.len⟩
theorem zm {N:List Str}(hN:N.Nodup){i j:Nat}{x:Str}(a:N[i]? = some x)(b:N[j]? = some x):i=j:=by
 obtain ⟨h1,e1⟩:=W4.mp a
 obtain ⟨h2,e2⟩:=W4.mp b
 exact (zdd hN).mp (e1.trans e2.symm)
theorem E8 {M:Model}{A:XA}{E:Wo->Wu->Prop}{i:Nat}{x:Str}{v:V}{u:Wo}{Q:Unit->Wu->Prop}(I:Inv X pins σ H s)(hN:X.N.Nodup)(hi:X.N[i]? = some x)(hx:Loc X.env.scope x)(r:RelV v u)
  (h:∀ s',Inv X pins (σ.set i (some v)) H s'->(∃ a,Zg a s.heap s'.heap/\(a=X.env.locals∨X.env.cells.lookup x=some a))->Q () s') (hf:X.fn x=true∨X.env.scope.names.lookup x=some .local:=by first | exact .inl rfl | exact .inr rfl | assumption):WT M A (storeName X.env x u) Q E s:=by
 obtain ⟨m,hn,hl⟩:=id I.loc
 have VE:(X.env.scope.kind == .class || (X.env.scope.kind == .module&&X.env.locals != X.env.globals))=false:=by rw[I.ok.kind];rfl
 have hiσ:i < σ.length:=by rw[I.len];exact (W4.mp hi).1
 have cne:=I.cne
 have tracked:∀ {a:Addr} {h':Heap},(∃ o,s.heap.get? a=some o/\H a=none)->Zg a s.heap h'->HOk X.prog X.w H h':=λ{a h'} ha hs b ob e=>by
  obtain ⟨_,_,hfree⟩:=ha
  refine (I.hok b ob e).nK (λc w' hc q=>(hs.2 c ?_).trans q) (λ_ q=>q) λ_ _ q=>q
  rintro rfl
  rcases hc with rfl | hc
  ·rw[hfree] at e;cases e
  ·rw[hfree] at hc;cases hc
 rcases hx with hk | hk
 ·refine wpAny_storeName_local hk hn (λh' hn' hs=>?_) VE
  obtain ⟨oL,_,_,hoL,_⟩:=id hn
  refine h _ ⟨I.ok,I.os,I.bare,⟨λb o e n hb hx=>?_,λb o e n hb hx=>?_,I.base.free,λb o e hx=>?_,I.base.pf,I.base.mU,I.base.o8⟩,⟨_,hn',λj y v' e1 e2 e3=>?_⟩,λy c e=>?_,I.free,I.jU,λp hp=>?_,tracked ⟨oL,hoL,I.free⟩ hs,by simpa using I.len⟩ ⟨_,hs,.inl rfl⟩
  ·exact (hs.2 b (W0 (WS (WJ e) I.ok.above))).trans (I.base.keep b o e n hb hx)
  ·obtain ⟨sl,e1⟩:=I.base.slot b o e n hb hx
   exact ⟨sl,(hs.2 b (W0 (WS (WJ e) I.ok.above))).trans e1⟩
  ·obtain ⟨o',e1⟩:=I.base.there b o e hx
   exact ⟨o',(hs.2 b (W0 (WS (WJ e) I.ok.above))).trans e1⟩
  ·by_cases hj:j=i
   ·subst hj
    rw[hi] at e1;cases e1
    rw[ZQ hiσ] at e2
    cases e2
    exact ⟨u,r,.inl ⟨hk,by simp⟩⟩
   ·rw[YC (W9 hj)] at e2
    obtain ⟨u',r',q⟩:=hl j y v' e1 e2 e3
    refine ⟨u',r',?_⟩
    rcases q with ⟨k,e⟩ | ⟨k,c,e,z⟩
    ·refine .inl ⟨k,?_⟩
     have:y≠x:=λe=>hj (zm hN e1 (e ▸ hi))
     simp[this,e]
    ·exact .inr ⟨k,c,e,z.sameBut hs (cne y c e)⟩
  ·obtain ⟨w',z⟩:=I.cell y c e
   exact ⟨w',z.sameBut hs (cne y c e)⟩
  ·obtain ⟨e,n,ne,nf,d⟩:=I.pin p hp
   exact ⟨(hs.2 p.1 ne).trans e,n,ne,nf,d⟩
 ·have hfn:X.fn x=true:=by
   rcases hf with z | z
   ·exact z
   ·rw[z] at hk;cases hk
  obtain ⟨c,hc⟩:=I.ok.has x (.inl hk)
  obtain ⟨w',z⟩:=I.cell x c hc
  refine wpAny_storeName_cell I.ok.kind hk hc z (λh' hc' hs=>?_)
  obtain ⟨oc,hoc,hocd⟩:=id z
  refine h { s with heap:=h' } ⟨I.ok,I.os,I.bare,⟨λb o e n hb hx=>?_,λb o e n hb hx=>?_,I.base.free,λb o e hx=>?_,I.base.pf,I.base.mU,I.base.o8⟩,⟨m,hn.sameBut hs (W9 (cne x c hc)),λj y v' e1 e2 e3=>?_⟩,λy c' e=>?_,I.free,I.jU,λp hp=>?_,tracked ⟨oc,hoc,I.jU x c hc⟩ hs,by simpa using I.len⟩ ⟨c,hs,.inr hc⟩
  ·exact (hs.2 b (W0 (WS (WJ e) (I.ok.cab x c hfn hc)))).trans (I.base.keep b o e n hb hx)
  ·obtain ⟨sl,e1⟩:=I.base.slot b o e n hb hx
   exact ⟨sl,(hs.2 b (W0 (WS (WJ e) (I.ok.cab x c hfn hc)))).trans e1⟩
  ·obtain ⟨o',e1⟩:=I.base.there b o e hx
   exact ⟨o',(hs.2 b (W0 (WS (WJ e) (I.ok.cab x c hfn hc)))).trans e1⟩
  ·by_cases hj:j=i
   ·subst hj
    rw[hi] at e1;cases e1
    rw[ZQ hiσ] at e2
    cases e2
    exact ⟨u,r,.inr ⟨.inl hk,c,hc,hc'⟩⟩
   ·rw[YC (W9 hj)] at e2
    obtain ⟨u',r',q⟩:=hl j y v' e1 e2 e3
    refine ⟨u',r',?_⟩
    rcases q with q | ⟨k,c',e,z'⟩
    ·exact .inl q
    ·refine .inr ⟨k,c',e,z'.sameBut hs ?_⟩
     rintro rfl
     exact hj (zm hN e1 (I.ok.inj _ _ _ e hc ▸ hi))
  ·by_cases hcc:c'=c
   ·subst hcc;exact ⟨_,hc'⟩
   ·obtain ⟨w2,z2⟩:=I.cell y c' e
    exact ⟨w2,z2.sameBut hs hcc⟩
  ·obtain ⟨e,n,ne,nf,d⟩:=I.pin p hp
   refine ⟨(hs.2 p.1 ?_).trans e,n,ne,nf,d⟩
   intro q
   rw[q,hoc] at e
   have q':oc=p.2:=Xg e
   exact d w' (by rw[← q'];exact hocd)
theorem jE {M:Model}{A:XA}{E:Wo->Wu->Prop}{i:Nat}{x:Str}{v:V}{u:Wo}{Q:Unit->Wu->Prop}(I:Inv X pins σ H s)(hN:X.N.Nodup)(hi:X.N[i]? = some x)(hx:Loc X.env.scope x)(r:RelV v u)
  (h:∀ s',Inv X pins (σ.set i (some v)) H s'->Q () s') (hf:X.fn x=true∨X.env.scope.names.lookup x=some .local:=by first | exact .inl rfl | exact .inr rfl | assumption):WT M A (storeName X.env x u) Q E s:=
 E8 I hN hi hx r (λs' I' _=>h s' I') hf
theorem Inv.NU {s':Wu}{ch:List Addr}(I:Inv X pins σ H s)(ho:s'.os=s.os)(u:Un (frs X.stack) ch H H' s.heap s'.heap)(hok:HOk X.prog X.w H' s'.heap)(hg:zaK s'.gens)
  (hch:∀ b∈ch,(b∈X.ex∨X.s₀.heap.objs.size<=b)/\b≠X.env.locals/\(∀ x c,X.env.cells.lookup x=some c->c≠b)/\∀ p∈X.pn++pins,p.1≠b):Inv X pins σ H' s':=by
 obtain ⟨h',g',d',t',o'⟩:=s'
 have e:o'=s.os:=ho
 subst e
 exact I.call (g':=g') (t':=t') (d':=d') u hok hg hch
end
abbrev XK:=Wo->Option Addr->Hp->Prop
abbrev St:=List (Option V)
abbrev VK:=V->Hp->Prop
abbrev TE:=St->Hp->VK->Prop
abbrev TT:=St->Hp->(Bool->Hp->Prop)->Prop
abbrev TA:=St->Hp->(List V->Hp->Prop)->Prop
structure Ends where
 nx:St->Hp->Prop
 rt:VK
 bk:St->Hp->Prop:=λ_ _=>False
 ct:St->Hp->Prop:=λ_ _=>False
abbrev TS:=Ends->St->Hp->Prop
def EP (X:Cx)(pins:List (Addr×Obj))(σ:St)(Q:VK)(u:Wo)(s':Wu):Prop:=∃ v H',Inv X pins σ H' s'/\RelV v u/\Q v H'
def TP (X:Cx)(pins:List (Addr×Obj))(σ:St)(Q:Bool->Hp->Prop)(b:Bool)(s':Wu):Prop:=∃ H',Inv X pins σ H' s'/\Q b H'
def AP (X:Cx)(pins:List (Addr×Obj))(σ:St)(Q:List V->Hp->Prop)(us:List Wo)(s':Wu):Prop:=∃ vs H',Inv X pins σ H' s'/\Vals vs us/\Q vs H'
def SP (X:Cx)(pins:List (Addr×Obj))(D:Ends)(f:Flow)(s':Wu):Prop:=
 match f with
 | .next=>∃ σ' H',Inv X pins σ' H' s'/\D.nx σ' H'
 | .brk=>∃ σ' H',Inv X pins σ' H' s'/\D.bk σ' H'
 | .cont=>∃ σ' H',Inv X pins σ' H' s'/\D.ct σ' H'
 | .ret u=>∃ v σ' H',Inv X pins σ' H' s'/\RelV v u/\D.rt v H'
def PE (X:Cx)(e:WX)(t:TE):Prop:=
 ∀ (pins:List (Addr×Obj)) (s:Wu) (σ:St) (H:Hp) (Q:VK),Inv X pins σ H s->t σ H Q->WT (WW X.prog X.w) X.A (XJ e X.env) (EP X pins σ Q) X.xe s
def PT (X:Cx)(e:WX)(t:TT):Prop:=
 ∀ (pins:List (Addr×Obj)) (s:Wu) (σ:St) (H:Hp) (Q:Bool->Hp->Prop),Inv X pins σ H s->t σ H Q->WT (WW X.prog X.w) X.A (isTrue e X.env (XJ e X.env)) (TP X pins σ Q) X.xe s
def PW (X:Cx)(e:WX)(t:TT):Prop:=
 ∀ (whole:Sem Wo) (pins:List (Addr×Obj)) (s:Wu) (σ:St) (H:Hp) (Q:Bool->Hp->Prop),Inv X pins σ H s->t σ H Q->WT (WW X.prog X.w) X.A (isTrue e X.env whole) (TP X pins σ Q) X.xe s
theorem PW.pt {X:Cx}{e:WX}{t:TT}(h:PW X e t):PT X e t:=h _
def PA (X:Cx)(es:List WX)(t:TA):Prop:=
 ∀ (pos:Pos) (pins:List (Addr×Obj)) (s:Wu) (σ:St) (H:Hp) (Q:List V->Hp->Prop),Inv X pins σ H s->t σ H Q->WT (WW X.prog X.w) X.A (spliced (X3 pos (WH es X.env))) (AP X pins σ Q) X.xe s
def PS (X:Cx)(st:Stmt)(t:TS):Prop:=
 ∀ (pins:List (Addr×Obj)) (s:Wu) (σ:St) (H:Hp) (D:Ends),Inv X pins σ H s->t D σ H->WT (WW X.prog X.w) X.A (exec st X.env) (SP X pins D) X.xe s
def PSs (X:Cx)(st:List Stmt)(t:TS):Prop:=
 ∀ (pins:List (Addr×Obj)) (s:Wu) (σ:St) (H:Hp) (D:Ends),Inv X pins σ H s->t D σ H->WT (WW X.prog X.w) X.A (execs st X.env) (SP X pins D) X.xe s
theorem thn {α:Type}{t:Sem α}{Q Q':α->Wu->Prop}{M:Model}{A:XA}{E:Wo->Wu->Prop}{s:Wu}(h:WT M A t Q E s)(hQ:∀ a s,Q a s->Q' a s):WT M A t Q' E s:=XM h hQ λ_ _ x=>x
end L2
namespace L2
open PySem PySem.Spec PyProof.Rows
section
variable {X:Cx}
def TU (i:Nat):TE:=λσ H Q=>∃ v,σ[i]? = some (some v)/\Q v H
def tC (v:V):TE:=λ_ H Q=>Q v H
theorem Gi {i:Nat}{x:Str}{pos:Pos}(hN:X.N[i]? = some x)(hv:Vis X.env.scope x)(hd:(x == ("__debug__" : Str))=false:=by decide)(hcd:(x == ("__classdict__" : Str))=false:=by decide):PE X (.Name x pos) (TU i):=by
 intro pins s σ H Q I h
 obtain ⟨v,e,h⟩:=h
 obtain ⟨m,hn,hl⟩:=I.loc
 obtain ⟨u,r,l⟩:=hl i x v hN e hv
 have fin:EP X pins σ Q u s:=⟨v,H,I,r,h⟩
 rcases l with ⟨hk,hm⟩ | ⟨hk,c,hc,hcell⟩
 ·exact zdK (zbU I.ok.kind hk hn hm fin) hd
 ·rcases hk with hk | hk
  ·exact zdK (zci I.ok.kind hk hc hcell fin) hd
  ·exact zdK (wpAny_loadName_free I.ok.kind hk hc hcell fin hcd) hd
theorem O3 {i j pos}:PE X (.Constant (.int i) j pos) (tC (.int i)):=λ_ _ _ H _ I h=>wpAny_Constant_int ⟨.int i,H,I.tok _,⟨_,rfl⟩,h⟩
theorem Uy {b j pos}:PE X (.Constant (.bool b) j pos) (tC (.bl b)):=λ_ _ _ H _ I h=>Constant_bool ⟨.bl b,H,I,rfl,h⟩
theorem Qo {j pos}:PE X (.Constant .none j pos) (tC .non):=λ_ _ _ H _ I h=>Constant_none ⟨.non,H,I,rfl,h⟩
theorem JM {x j pos}:PE X (.Constant (.str x) j pos) (tC (.str x)):=λ_ _ _ H _ I h=>Calls.Constant_str ⟨.str x,H,I.tok _,⟨_,rfl⟩,h⟩
def Gl (X:Cx)(x:Str):Prop:=X.env.kindOf x=some .globalImplicit
theorem Cr {E:Wo->Wu->Prop}{pins:List (Addr×Obj)}{s:Wu}{σ:St}{H:Hp}{x:Str}{u:Wo}{pos:Pos}{Q:Wo->Wu->Prop}(I:Inv X pins σ H s)(hg:Gl X x)(hm:X.mg x=some u)(h:Q u s)
  (hd:(x == ("__debug__" : Str))=false:=by decide):WT (WW X.prog X.w) X.A (XJ (.Name x pos) X.env) Q E s:=
 zau I.ok.kind hg (Calls.loadGlobal_global (by rw[I.ok.glob];exact I.mod.glob.keeps I.bk) hm h) hd
theorem jI {E:Wo->Wu->Prop}{pins:List (Addr×Obj)}{s:Wu}{σ:St}{H:Hp}{x:Str}{u:Wo}{pos:Pos}{Q:Wo->Wu->Prop}(I:Inv X pins σ H s)(hg:Gl X x)(hm:X.mg x=none)(hv:Yp x=some u)(h:Q u s)
  (hn:x ≠ "__name__" := by decide) (hd:(x == ("__debug__" : Str))=false:=by decide):WT (WW X.prog X.w) X.A (XJ (.Name x pos) X.env) Q E s:=by
 obtain ⟨mb,h1,h2⟩:=I.mod.blt
 exact zau I.ok.kind hg (Calls.loadGlobal_builtin (by rw[I.ok.glob];exact I.mod.glob.keeps I.bk) hm (by rw[I.ok.blt];exact h1.keeps I.bk) ((h2 x hn).trans hv) h) hd
theorem M3 {x:Str}{v:V}{u:Wo}{pos:Pos}(hg:Gl X x)(hm:X.mg x=some u)(r:RelV v u)(hd:(x == ("__debug__" : Str))=false:=by decide):PE X (.Name x pos) (tC v):=
 λ_ _ _ H _ I h=>Cr I hg hm ⟨v,H,I,r,h⟩ hd
variable {a b:WX} {ta tb:TE} {pos:Pos}
def PC (X:Cx)(op:zcq)(a b:WX)(t:TE):Prop:=
 ∀ (pins:List (Addr×Obj)) (s:Wu) (σ:St) (H:Hp) (Q:VK),Inv X pins σ H s->t σ H Q->
  WT (WW X.prog X.w) X.A (XJ a X.env) (λv s₁=>WT (WW X.prog X.w) X.A (XJ b X.env) (λu s₂=>WT (WW X.prog X.w) X.A (XI op v u) (EP X pins σ Q) X.xe s₂) X.xe s₁) X.xe s
theorem Kc (b:WX){op:zcq}(h:op≠.In)(h2:op≠.NotIn):XY op b=false:=by
 have e1:(op == CmpOp.In)=false:=by cases op<;>first | rfl | exact absurd rfl h
 have e2:(op == zem)=false:=by cases op<;>first | rfl | exact absurd rfl h2
 cases b<;>simp[XY,e1,e2]
def tB (t:TE):TT:=λσ H Q=>t σ H λx H1=>∃ c,x=.bl c/\Q c H1
theorem Rb {op:zcq}{t:TE}(h:PC X op a b t)(h1:XY op b=false:=by first | exact Kc _ (by decide) (by decide) | rfl):PT X (.Compare a [op] [b] pos) (tB t):=by
 intro pins s σ H Q I hw
 refine zbN (thn (h pins s σ H _ I hw) λv s1 h1=>thn h1 λu s2 h2=>thn h2 λc s3 ⟨x,H1,I1,r1,q1⟩=>?_) h1
 obtain ⟨d,rfl,q⟩:=q1
 cases r1
 exact Yj ⟨H1,I1,q⟩
theorem OW {e:WX}{t:TE}(h:PE X e t)(he:∀ whole,isTrue e X.env whole=(do let v ← whole;standAt e.pos;zbm [v] (truthy v)):=by intro _;rfl):PT X e (tB t):=by
 intro pins s σ H Q I hw
 refine isTrue_plain (thn (h pins s σ H _ I hw) λv s1 ⟨x,H1,I1,r1,q1⟩=>?_) (he _)
 obtain ⟨d,rfl,q⟩:=q1
 cases r1
 exact Yj ⟨H1,I1,q⟩
variable {tA tB':TT} {rest:List WX}
def Vq (t u:TT):TT:=λσ H Q=>t σ H λc H1=>if c=true then u σ H1 Q else Q false H1
def tOr (t u:TT):TT:=λσ H Q=>t σ H λc H1=>if c=true then Q true H1 else u σ H1 Q
def UT (t:TT):TT:=λσ H Q=>t σ H λc H1=>Q (!c) H1
theorem pw_and1 (ha:PT X a tA):PW X (.BoolOp .And [a] pos) tA:=by
 intro wh pins s σ H Q I h
 refine isTrue_and (thn (ha pins s σ H Q I h) λc s1 e=>?_)
 cases c with
 | true=>exact isTrue_and_nil e
 | false=>exact e
theorem pw_or1 (ha:PT X a tA):PW X (.BoolOp .Or [a] pos) tA:=by
 intro wh pins s σ H Q I h
 refine isTrue_or (thn (ha pins s σ H Q I h) λc s1 e=>?_)
 cases c with
 | false=>exact isTrue_or_nil e
 | true=>exact e
theorem pw_and (ha:PT X a tA)(hb:PW X (.BoolOp .And (b::rest) pos) tB'):PW X (.BoolOp .And (a::b::rest) pos) (Vq tA tB'):=by
 intro wh pins s σ H Q I h
 refine isTrue_and (thn (ha pins s σ H _ I h) λc s1 ⟨H1,I1,q1⟩=>?_)
 cases c with
 | true=>exact hb wh pins s1 σ H1 Q I1 q1
 | false=>exact ⟨H1,I1,q1⟩
theorem pw_or (ha:PT X a tA)(hb:PW X (.BoolOp .Or (b::rest) pos) tB'):PW X (.BoolOp .Or (a::b::rest) pos) (tOr tA tB'):=by
 intro wh pins s σ H Q I h
 refine isTrue_or (thn (ha pins s σ H _ I h) λc s1 ⟨H1,I1,q1⟩=>?_)
 cases c with
 | true=>exact ⟨H1,I1,q1⟩
 | false=>exact hb wh pins s1 σ H1 Q I1 q1
theorem Q6 (ha:PT X a tA):PT X (.UnaryOp .Not a pos) (UT tA):=by
 intro pins s σ H Q I h
 exact isTrue_not (ha pins s σ H (λc H1=>Q (!c) H1) I h)
def Wa (ta tb:TE):TE:=λσ H Q=>ta σ H λx H1=>∃ c,x=.bl c/\if c=true then Q (.bl true) H1 else tb σ H1 Q
theorem OK {op}{t:TE}(h:PE X a t):PE X (.BoolOp op [a] pos) t:=λpins s σ H Q I hw=>BoolOp_one (h pins s σ H Q I hw)
theorem Sj (ha:PE X a ta)(hb:PE X (.BoolOp .Or (b::rest) pos) tb):PE X (.BoolOp .Or (a::b::rest) pos) (Wa ta tb):=by
 intro pins s σ H Q I h
 refine BoolOp_or (thn (ha pins s σ H _ I h) λv s1 ⟨x,H1,I1,r1,q1⟩=>?_)
 obtain ⟨c,rfl,q1⟩:=q1
 cases r1
 refine Yj ?_
 cases c with
 | false=>exact hb pins s1 σ H1 Q I1 q1
 | true=>exact ⟨.bl true,H1,I1,rfl,q1⟩
def tIf (t:TT)(ta tb:TE):TE:=λσ H Q=>t σ H λc H1=>if c=true then ta σ H1 Q else tb σ H1 Q
theorem FJ {c:WX}(hc:PT X c tA)(ha:PE X a ta)(hb:PE X b tb):PE X (.IfExp c a b pos) (tIf tA ta tb):=by
 intro pins s σ H Q I h
 refine wpAny_IfExp (thn (hc pins s σ H _ I h) λd s1 ⟨H1,I1,q1⟩=>?_)
 cases d with
 | true=>exact ha pins s1 σ H1 Q I1 q1
 | false=>exact hb pins s1 σ H1 Q I1 q1
end
end L2
namespace L2
open PySem PySem.Spec PyProof.Rows
def SqL (K:Wj)(H:Hp)(a:Addr)(xs:List V):Prop:=
 Rd H a (.lst xs)∨
  ∃ (o:Obj) (its:Array Wo) (n:Nat),K.lookup a=some o/\o.cls=.type "list" /\ o.dict=none/\o.data=.seq its n/\its.size<=sizeLine/\Vals xs its.toList
def SqT (K:Wj)(H:Hp)(a:Addr)(xs:List V):Prop:=
 Rd H a (.tup xs)∨
  ∃ (o:Obj) (its:Array Wo) (n:Nat),K.lookup a=some o/\o.cls=.type "tuple" /\ o.dict=none/\o.data=.seq its n/\its.size<=sizeLine/\Vals xs its.toList
def U5:Wo->Option V
 | .none=>some .non
 | .bool b=>some (.bl b)
 | .int i _=>some (.int i)
 | .str x _=>some (.str x)
 | .bytes b _=>some (.byt b)
 | .float b _=>some (.flt b)
 | .ref a=>some (.ref a)
 | .type n=>some (.ty n)
 | _=>none
theorem RelV.abs {x:V}{u:Wo}(r:RelV x u):U5 u=some x:=by
 cases x with
 | non=>cases r;rfl
 | bl _=>cases r;rfl
 | int _=>obtain ⟨t,rfl⟩:=r;rfl
 | str _=>obtain ⟨t,rfl⟩:=r;rfl
 | byt _=>obtain ⟨t,rfl⟩:=r;rfl
 | flt _=>obtain ⟨t,rfl⟩:=r;rfl
 | ref _=>cases r;rfl
 | ty _=>cases r;rfl
theorem RelV.inj {x y:V}{u:Wo}(r:RelV x u)(q:RelV y u):x=y:=Xg (r.abs.symm.trans q.abs)
theorem Vals.inj:∀ {xs ys:List V} {us:List Wo},Vals xs us->Vals ys us->xs=ys
 | _,_,_,.nil,.nil=>rfl
 | _,_,_,.cons r t,.cons r' t'=>by rw[r.inj r',Vals.inj t t']
section
variable {X:Cx} {pins:List (Addr×Obj)} {σ:St} {H:Hp} {s:Wu} {a:Addr} {xs ys:List V}
theorem SqL.of {K:Wj}(h:H a=some (.lst xs)):SqL K H a xs:=.inl (.inl h)
theorem SqT.of {K:Wj}(h:H a=some (.tup xs)):SqT K H a xs:=.inl (.inl h)
theorem Inv.list (I:Inv X pins σ H s)(h:SqL X.K H a xs):∃ its:List Wo,Vals xs its/\PlainL s.heap a its.toArray/\xs.length<=sizeLine:=by
 rcases h with h | ⟨o,its,n,hk,hc,hd,hs,hz,r⟩
 ·obtain ⟨z,its,n,r,e⟩:=h.ok I.hok
  exact ⟨its,r,⟨_,n,e,rfl,rfl,rfl⟩,z⟩
 ·refine ⟨its.toList,r,⟨o,n,I.kIn a o hk,hc,hd,by simpa using hs⟩,?_⟩
  have e:=r.length
  simp only[Zs] at e
  omega
theorem Inv.tuple (I:Inv X pins σ H s)(h:SqT X.K H a xs):∃ its:List Wo,Vals xs its/\zdr s.heap a its.toArray/\xs.length<=sizeLine:=by
 rcases h with h | ⟨o,its,n,hk,hc,hdn,hs,hz,r⟩
 ·obtain ⟨z,its,r,p⟩:=h.ok I.hok
  exact ⟨its,r,p.tup,z⟩
 ·refine ⟨its.toList,r,⟨o,I.kIn a o hk,hc,n,by simpa using hs⟩,?_⟩
  have e:=r.length
  simp only[Zs] at e
  omega
theorem Inv.zl (I:Inv X pins σ H s)(h:SqL X.K H a xs)(h':SqL X.K H a ys):xs=ys:=by
 obtain ⟨its,r,⟨o,n,e,_,_,d⟩,_⟩:=I.list h
 obtain ⟨its',r',⟨o',n',e',_,_,d'⟩,_⟩:=I.list h'
 rw[e] at e';cases e'
 rw[d] at d'
 injection d' with d1 _
 have:its=its':=by simpa using congrArg zed d1
 subst this
 exact r.inj r'
theorem Inv.uv (I:Inv X pins σ H s)(h:SqT X.K H a xs)(h':SqT X.K H a ys):xs=ys:=by
 obtain ⟨its,r,⟨o,e,_,n,d⟩,_⟩:=I.tuple h
 obtain ⟨its',r',⟨o',e',_,n',d'⟩,_⟩:=I.tuple h'
 rw[e] at e';cases e'
 rw[d] at d'
 injection d' with d1 _
 have:its=its':=by simpa using congrArg zed d1
 subst this
 exact r.inj r'
end
abbrev Cx.pw (X:Cx)(E:Wo->Wu->Prop):Cx:={ X with xe:=E }
abbrev Cx.nox (X:Cx):Cx:=X.pw λ_ _=>False
theorem Cx.Ok.pw {X:Cx}(ok:X.Ok)(E:Wo->Wu->Prop):(X.pw E).Ok:=
 ⟨ok.mod,ok.kind,ok.glob,ok.blt,ok.above,ok.inj,ok.has,ok.cab,ok.hd,ok.frames,ok.stk,ok.exf,ok.bs,ok.bsz,ok.JC,ok.GW,ok.sI,ok.frf⟩
theorem Cx.Ok.hV {X:Cx}{E:Wo->Wu->Prop}(ok:(X.pw E).Ok):X.Ok:=
 ⟨ok.mod,ok.kind,ok.glob,ok.blt,ok.above,ok.inj,ok.has,ok.cab,ok.hd,ok.frames,ok.stk,ok.exf,ok.bs,ok.bsz,ok.JC,ok.GW,ok.sI,ok.frf⟩
section
variable {X:Cx} {pins:List (Addr×Obj)} {σ:St} {H:Hp} {s:Wu} {E:Wo->Wu->Prop}
theorem Inv.pw (I:Inv X pins σ H s)(E:Wo->Wu->Prop):Inv (X.pw E) pins σ H s:=⟨I.ok.pw E,I.os,I.bare,I.base,I.loc,I.cell,I.free,I.jU,I.pin,I.hok,I.len⟩
theorem Inv.hV (I:Inv (X.pw E) pins σ H s):Inv X pins σ H s:=⟨I.ok.hV,I.os,I.bare,I.base,I.loc,I.cell,I.free,I.jU,I.pin,I.hok,I.len⟩
theorem SP.hV {D:Ends}{f:Flow}{s':Wu}(h:SP (X.pw E) pins D f s'):SP X pins D f s':=by
 cases f with
 | next=>obtain ⟨σ',H',I,q⟩:=h;exact ⟨σ',H',I.hV,q⟩
 | brk=>obtain ⟨σ',H',I,q⟩:=h;exact ⟨σ',H',I.hV,q⟩
 | cont=>obtain ⟨σ',H',I,q⟩:=h;exact ⟨σ',H',I.hV,q⟩
 | ret u=>obtain ⟨v,σ',H',I,r,q⟩:=h;exact ⟨v,σ',H',I.hV,r,q⟩
theorem PE.nox {e:WX}{t:TE}(h:PE X.nox e t):PE X e t:=λpins s σ H Q I hw=>
 XM (h pins s σ H Q (I.pw _) hw) (λ_ _ ⟨v,H',I',r,q⟩=>⟨v,H',I'.hV,r,q⟩) λ_ _ z=>Ww z
theorem PT.nox {e:WX}{t:TT}(h:PT X.nox e t):PT X e t:=λpins s σ H Q I hw=>
 XM (h pins s σ H Q (I.pw _) hw) (λ_ _ ⟨H',I',q⟩=>⟨H',I'.hV,q⟩) λ_ _ z=>Ww z
theorem PSs.nox {st:List Stmt}{t:TS}(h:PSs X.nox st t):PSs X st t:=λpins s σ H D I hw=>
 XM (h pins s σ H D (I.pw _) hw) (λ_ _ q=>q.hV) λ_ _ z=>Ww z
end
section
variable {X:Cx} {st:Stmt} {rest:List Stmt} {t u:TS} {e:WX} {te:TE} {pos:Pos}
def S9:TS:=λD σ H=>D.nx σ H
def We (t u:TS):TS:=λD σ H=>t { D with nx:=u D } σ H
theorem KY:PSs X [] S9:=λ_ _ σ H _ I h=>zah ⟨σ,H,I,h⟩
theorem IF (h1:PS X st t)(h2:PSs X rest u):PSs X (st::rest) (We t u):=by
 intro pins s σ H D I h
 refine zde (thn (h1 pins s σ H { D with nx:=u D } I h) λf s1 q=>?_)
 cases f with
 | next=>
  obtain ⟨σ',H',I',q⟩:=q
  exact h2 pins s1 σ' H' D I' q
 | ret v=>exact q
 | brk=>exact q
 | cont=>exact q
theorem MZ (h1:PS X st t):PSs X [st] t:=by
 intro pins s σ H D I h
 refine zde (thn (h1 pins s σ H D I h) λf s1 q=>?_)
 cases f with
 | next=>exact zah q
 | ret v=>exact q
 | brk=>exact q
 | cont=>exact q
theorem Inv.quiet {pins:List (Addr×Obj)}{σ:St}{H:Hp}{s:Wu}(I:Inv X pins σ H s):interactive X.env=false:=by simp[interactive,I.ok.kind]
def Si (te:TE):TS:=λD σ H=>te σ H λ_ H1=>D.nx σ H1
theorem NA (he:PE X e te)(hs:YA e none pos.line X.env=pure false:=by rfl):PS X (.Expr e pos) (Si te):=by
 intro pins s σ H D I h
 exact wpAny_Expr_any (thn (he pins s σ H _ I h) λv s1 ⟨x,H1,I1,r1,q1⟩=>⟨σ,H1,I1,q1⟩) I.quiet hs
def Vo (te:TE):TS:=λD σ H=>te σ H D.rt
theorem Rj (he:PE X e te):PS X (.Return (some e) pos) (Vo te):=by
 intro pins s σ H D I h
 exact wpAny_Return_some (thn (he pins s σ H _ I h) λv s1 ⟨x,H1,I1,r1,q1⟩=>⟨x,σ,H1,I1,r1,q1⟩)
def UO (c:TT)(t u:TS):TS:=λD σ H=>c σ H λb H1=>if b=true then t D σ H1 else u D σ H1
theorem Tf {c:WX}{a b:List Stmt}{tc:TT}(hc:PT X c tc)(ha:PSs X a t)(hb:PSs X b u):PS X (.If c a b pos) (UO tc t u):=by
 intro pins s σ H D I h
 refine wpAny_If (thn (hc pins s σ H _ I h) λd s1 ⟨H1,I1,q1⟩=>?_)
 cases d with
 | true=>exact ha pins s1 σ H1 D I1 q1
 | false=>exact hb pins s1 σ H1 D I1 q1
end
abbrev TG:=V->St->Hp->(St->Hp->Prop)->Prop
abbrev TGs:=List V->St->Hp->(St->Hp->Prop)->Prop
def PG (X:Cx)(target:WX)(t:TG):Prop:=
 ∀ (pins:List (Addr×Obj)) (s:Wu) (σ:St) (H:Hp) (v:V) (u:Wo) (Q:St->Hp->Prop),Inv X pins σ H s->RelV v u->t v σ H Q->
  WT (WW X.prog X.w) X.A (zbn target X.env u) (λ_ s'=>∃ σ' H',Inv X pins σ' H' s'/\Q σ' H') X.xe s
def PGs (X:Cx)(ts:List WX)(t:TGs):Prop:=
 ∀ (pins:List (Addr×Obj)) (s:Wu) (σ:St) (H:Hp) (vs:List V) (us:List Wo) (Q:St->Hp->Prop),Inv X pins σ H s->Vals vs us->t vs σ H Q->
  WT (WW X.prog X.w) X.A (zcr ((XD ts X.env).map (·.2)) us) (λ_ s'=>∃ σ' H',Inv X pins σ' H' s'/\Q σ' H') X.xe s
abbrev TIp:=V->V->Hp->VK->Prop
def PIp (X:Cx)(op:zbV)(t:TIp):Prop:=
 ∀ (pins:List (Addr×Obj)) (s:Wu) (σ:St) (H:Hp) (x y:V) (v u:Wo) (Q:VK),Inv X pins σ H s->RelV x v->RelV y u->t x y H Q->
  WT (WW X.prog X.w) X.A (inplaceOp op v u) (EP X pins σ Q) X.xe s
section
variable {X:Cx} {pos:Pos}
def mN (i:Nat):TG:=λv σ H Q=>Q (σ.set i (some v)) H
theorem iL {i:Nat}{x:Str}(hN:X.N.Nodup)(hi:X.N[i]? = some x)(hx:Loc X.env.scope x)(hf:X.fn x=true∨X.env.scope.names.lookup x=some .local:=by first | exact .inl rfl | exact .inr rfl | assumption):PG X (.Name x pos) (mN i):=by
 intro pins s σ H v u Q I r h
 exact wpAny_assign_Name (jE I hN hi hx r (λs' I'=>⟨_,H,I',h⟩) hf)
def UK:TGs:=λvs σ H Q=>vs=[]/\Q σ H
def Sd (t:TG)(u:TGs):TGs:=λvs σ H Q=>∃ v r,vs=v::r/\t v σ H λσ' H'=>u r σ' H' Q
theorem vj:PGs X [] UK:=by
 intro pins s σ H vs us Q I r h
 obtain ⟨e,h⟩:=h
 subst e
 cases r
 exact zcS ⟨σ,H,I,h⟩
theorem qW {e:WX}{es:List WX}{t:TG}{u:TGs}(h1:PG X e t)(h2:PGs X es u)
  (hs:(XD (e::es) X.env).map (·.2)=zbn e X.env::(XD es X.env).map (·.2):=by rfl):PGs X (e::es) (Sd t u):=by
 intro pins s σ H vs us Q I r h
 obtain ⟨v,vr,e1,h⟩:=h
 subst e1
 cases r with
 | cons r rr=>
  rw[hs]
  refine zav (thn (h1 pins s σ H _ _ _ I r h) λ_ s1 ⟨σ1,H1,I1,q1⟩=>?_)
  exact h2 pins s1 σ1 H1 _ _ Q I1 rr q1
def VC (K:Wj)(n:Nat)(t:TGs):TG:=λv σ H Q=>∃ a xs,v=.ref a/\SqT K H a xs/\xs.length=n/\t xs σ H Q
theorem B4 {es:List WX}{k:Nat}{t:TGs}{n:Nat}(hc:X.calm=true)(h:PGs X es t)
  (hn:(XD es X.env).length=n:=by rfl) (hst:(XD es X.env).findIdx? (·.1)=none:=by rfl):PG X (.Tuple es k pos) (VC X.K n t):=by
 intro pins s σ H v u Q I r hw
 obtain ⟨a,xs,e1,hq,hl,hw⟩:=hw
 subst e1
 cases r
 obtain ⟨its,rv,ht,hz⟩:=I.tuple hq
 refine assign_Tuple_tuple (I.ok.hd hc) ht (by simp[hn,← hl,rv.length]) hst λh' hx=>?_
 have I1:Inv X pins σ H { s with heap:=h' }:=I.kept (t':=s.toks) λb o e=>hx b o (W0 (WJ e)) e
 exact h pins _ σ H xs _ Q I1 (by simpa using rv) hw
def IG (te:TE)(g:TG):TS:=λD σ H=>te σ H λx H1=>g x σ H1 D.nx
theorem Qy {tg e:WX}{te:TE}{g:TG}(he:PE X e te)(hg:PG X tg g)(hs:zaQ [tg] e pos.line X.env=pure false:=by rfl)(hw:zaR [tg] e X.env=pure none:=by rfl)
  (h1:(XD [tg] X.env).map (·.2)=[zbn tg X.env]:=by rfl):PS X (.Assign [tg] e pos) (IG te g):=by
 intro pins s σ H D I h
 refine wpAny_Assign_stores (thn (he pins s σ H _ I h) λv s1 ⟨x,H1,I1,r1,q1⟩=>?_) hs hw
 rw[h1]
 exact thn (hg pins s1 σ H1 x v _ I1 r1 q1) λ_ s2 q=>q
theorem OI {i:Nat}{x:Str}{e:WX}{te:TE}{pos':Pos}(hN:X.N.Nodup)(hi:X.N[i]? = some x)(hx:Loc X.env.scope x)(he:PE X e te)(hs:YA e (some (.Name x pos')) pos.line X.env=pure false:=by rfl)(hf:X.fn x=true∨X.env.scope.names.lookup x=some .local:=by first | exact .inl rfl | exact .inr rfl | assumption) :
  PS X (.Assign [.Name x pos'] e pos) (IG te (mN i)):=by
 intro pins s σ H D I h
 refine wpAny_Assign_Name (thn (he pins s σ H _ I h) λv s1 ⟨y,H1,I1,r1,q1⟩=>?_) hs
 exact jE I1 hN hi hx r1 (λs2 I2=>⟨_,H1,I2,q1⟩) hf
def Vc (i j:Nat)(ta:TA):TS:=λD σ H=>ta σ H λvs H1=>∃ v w,vs=[v,w]/\D.nx ((σ.set i (some v)).set j (some w)) H1
theorem RS {i j:Nat}{x y:Str}{a b:WX}{ta:TA}{px py pt:Pos}{kt k2 pt2}(hc:X.calm=true)(hN:X.N.Nodup)(hi:X.N[i]? = some x)(hj:X.N[j]? = some y)(hij:i≠j)
  (hx:X.env.scope.names.lookup x=some .local) (hy:X.env.scope.names.lookup y=some .local) (ha:PA X [a,b] ta)
  (hw:zaR [.Tuple [.Name x px,.Name y py] kt pt] (.Tuple [a,b] k2 pt2) X.env=pure (some [x,y]))
  (hs:zaQ [.Tuple [.Name x px,.Name y py] kt pt] (.Tuple [a,b] k2 pt2) pos.line X.env=pure false:=by rfl) :
  PS X (.Assign [.Tuple [.Name x px,.Name y py] kt pt] (.Tuple [a,b] k2 pt2) pos) (Vc i j ta):=by
 intro pins s σ H D I h
 rw[exec_Assign_arm]
 refine Wl (zaS ?_)
 rw[hs]
 refine Wl (WD ?_)
 rw[if_neg (by decide)]
 refine Wl (Tuple_ (thn (ha _ pins s σ H _ I h) λus s1 ⟨vs,H1,I1,r1,q1⟩=>?_))
 obtain ⟨v,w,e1,q1⟩:=q1
 subst e1
 obtain ⟨u1,u2,rfl,rv,rw'⟩:∃ u1 u2,us=[u1,u2]/\RelV v u1/\RelV w u2:=by
  cases r1 with
  | cons p q=>
   cases q with
   | cons p' q'=>
    cases q'
    exact ⟨_,_,rfl,p,p'⟩
 refine Xz ?_ (by show 2<=sizeLine;decide)
 have I2:Inv X pins σ H1 { s1 with heap:=s1.heap.push { cls:=.type "tuple", data:=.seq [u1,u2].toArray } }:=I1.kept (t':=s1.toks) λb o e=>Wn _ e
 rw[hw]
 refine Wl (WD ?_)
 show WT (WW X.prog X.w) X.A (do rule "assign.swapped-stores";let items ← unpackItems (.ref s1.heap.objs.size) 2 none;zcr [λv=>zdL X.env y v,λv=>zdL X.env x v] items.reverse;pure Flow.next) _ _ _
 refine Wl (YV (Wl (unpackItems_tuple (items:=#[u1,u2]) (I.ok.hd hc) (IsTup.new s1.heap _) λh' hx'=>?_)))
 have I3:=I2.kept (h':=h') (t':=s1.toks) λb o e=>hx' b o (W0 (WJ e)) e
 show WT _ _ (zcr [λv=>zdL X.env y v,λv=>zdL X.env x v] [u2,u1] >>= λ_=>pure Flow.next) _ _ _
 refine Wl (zav (wpAny_bindName (jE I3 hN hj (.inl hy) rw' (λs2 I4=>?_) (.inr hy))))
 refine zav (wpAny_bindName (jE I4 hN hi (.inl hx) rv (λs3 I5=>zcS (WD ?_)) (.inr hx)))
 rw[List.set_comm _ _ (W9 hij)] at I5
 exact ⟨_,H1,I5,q1⟩
def Sg (i:Nat)(te:TE)(ti:TIp):TS:=λD σ H=>∃ x,σ[i]? = some (some x)/\te σ H λy H1=>ti x y H1 λz H2=>D.nx (σ.set i (some z)) H2
theorem OP {i:Nat}{x:Str}{e:WX}{te:TE}{op:zbV}{ti:TIp}{pos':Pos}(hN:X.N.Nodup)(hi:X.N[i]? = some x)(hx:Loc X.env.scope x)(he:PE X e te)(ho:PIp X op ti)(hf:X.fn x=true∨X.env.scope.names.lookup x=some .local:=by first | exact .inl rfl | exact .inr rfl | assumption) :
  PS X (.AugAssign (.Name x pos') op e pos) (Sg i te ti):=by
 intro pins s σ H D I h
 obtain ⟨v,e1,h⟩:=h
 obtain ⟨m,hn,hl⟩:=I.loc
 have vis:Vis X.env.scope x:=by rcases hx with k | k;exact .inl k;exact .inr (.inl k)
 obtain ⟨u,r,l⟩:=hl i x v hi e1 vis
 refine wpAny_AugAssign_Name ?_
 have go:WT (WW X.prog X.w) X.A (XJ e X.env) (λw s₂=>WT (WW X.prog X.w) X.A (inplaceOp op u w) (λr s₃=>WT (WW X.prog X.w) X.A (storeName X.env x r) (λ_=>SP X pins D .next) X.xe s₃) X.xe s₂) X.xe s:=by
  refine thn (he pins s σ H _ I h) λw s1 ⟨y,H1,I1,r1,q1⟩=>?_
  refine thn (ho pins s1 σ H1 v y u w _ I1 r r1 q1) λz s2 ⟨zv,H2,I2,r2,q2⟩=>?_
  exact jE I2 hN hi hx r2 (λs3 I3=>⟨_,H2,I3,q2⟩) hf
 rcases l with ⟨hk,hm⟩ | ⟨hk,c,hc,hcell⟩
 ·exact zbU I.ok.kind hk hn hm go
 ·rcases hk with hk | hk
  ·exact zci I.ok.kind hk hc hcell go
  ·rcases hx with k | k
   ·have:X.env.scope.names.lookup x=some .free:=hk
    rw[k] at this;cases this
   ·have:X.env.scope.names.lookup x=some .free:=hk
    rw[k] at this;cases this
def ipI (f:Int->Int->Int):TIp:=λx y H Q=>∃ i j,x=.int i/\y=.int j/\Q (.int (f i j)) H
theorem PQ:PIp X .Add (ipI λi j=>i+j):=by
 intro pins s σ H x y v u Q I r1 r2 h
 obtain ⟨i,j,e1,e2,q⟩:=h
 subst e1;subst e2
 obtain ⟨t,rfl⟩:=r1
 obtain ⟨t',rfl⟩:=r2
 exact iadd_int ⟨.int _,H,I.tok _,⟨_,rfl⟩,q⟩
end
section
variable {X:Cx} {pos:Pos}
def Q1 (c:TT)(tb:TS):TS:=λD σ H=>∃ W:Nat->St->Hp->Prop,(∃ m,W m σ H)/\∀ m σ H,W m σ H->
 c σ H λb H1=>if b=true then ∃ N:St->Hp->Prop,(∀ σ' H',N σ' H'->∃ m',m' < m/\W m' σ' H')/\tb { D with nx:=N,ct:=N,bk:=D.nx } σ H1 else D.nx σ H1
theorem HI {c:WX}{body:List Stmt}{tc:TT}{tb:TS}(hp:zdf (WW X.prog X.w) X.A X.env X.xe)(hc:PT X c tc)(hb:PSs X body tb):PS X (.While c body [] pos) (Q1 tc tb):=by
 intro pins s σ H D I h
 obtain ⟨W,⟨m0,w0⟩,turn⟩:=h
 refine wpAny_While (codeAny_whileLoop (λn s'=>∃ σ' H',Inv X pins σ' H' s'/\W n σ' H') ?_ m0 ⟨σ,H,I,w0⟩)
 rintro n s1 ⟨σ1,H1,I1,w1⟩
 refine YB hp (thn (hc pins s1 σ1 H1 _ I1 (turn n σ1 H1 w1)) λb s2 ⟨H2,I2,q2⟩=>?_)
 cases b with
 | true=>
  obtain ⟨N,hN,q2⟩:=q2
  rw[if_pos rfl]
  refine YB hp (thn (hb pins s2 σ1 H2 _ I2 q2) λf s3 q3=>?_)
  cases f with
  | next=>
   obtain ⟨σ3,H3,I3,n3⟩:=q3
   obtain ⟨m',hm,w3⟩:=hN σ3 H3 n3
   exact ⟨m',hm,σ3,H3,I3,w3⟩
  | cont=>
   obtain ⟨σ3,H3,I3,n3⟩:=q3
   obtain ⟨m',hm,w3⟩:=hN σ3 H3 n3
   exact ⟨m',hm,σ3,H3,I3,w3⟩
  | brk=>exact q3
  | ret v=>exact q3
 | false=>
  rw[if_neg YW]
  exact zah ⟨σ1,H2,I2,q2⟩
end
structure It where
 go:Nat->Hp->Prop
 yld:Nat->Hp->V->Hp->Prop
 stop:Nat->Hp->Prop
def qo (X:Cx)(pins:List (Addr×Obj))(H:Hp)(b:Addr):Prop:=
 H b=none/\b≠X.env.locals/\b ∉ X.fs/\(b∈X.ex∨X.s₀.heap.objs.size<=b)/\(∀ x c,X.env.cells.lookup x=some c->c≠b)/\∀ p∈X.pn++pins,p.1≠b
theorem Inv.A7 {X:Cx}{pins:List (Addr×Obj)}{σ:St}{H H':Hp}{s:Wu}{b:Addr}(I:Inv X pins σ H s)(hb:s.heap.objs.size<=b)(hn:H' b=none):qo X pins H' b:=by
 refine ⟨hn,YX (WS I.lt hb),I.VR hb,.inr (Xi I.sz hb),λx c e z=>?_,λp hp z=>?_⟩
 ·obtain ⟨v,q⟩:=I.cell x c e
  exact absurd (WS q.lt (by rw[z];exact hb)) (YH _)
 ·exact absurd (WS (WJ (I.pin p hp).1) (by rw[z];exact hb)) (YH _)
structure Turn (P:W7) (w:Xh) (K:Wj) (tg:WX) (J:It) (fp:List Addr) (it:Addr) (tn:Nat->Heap->Prop):Prop where
 mem:it∈fp
 obj:∀ i h,tn i h->∀ b∈fp,∃ o,h.get? b=some o/\∀ v,o.data≠.cell v
 keep:∀ i h h',tn i h->(∀ b∈fp,∀ o,h.get? b=some o->h'.get? b=some o)->tn i h'
 item:∀ (X:Cx),X.prog=P->X.w=w->X.K=K->X.calm=true->∀ (i:Nat) (pins:List (Addr×Obj)) (s:Wu) (σ:St) (H:Hp) (E:Wo->Wu->Prop),Inv X pins σ H s->(∀ b∈fp,qo X pins H b)->tn i s.heap->J.go i H->
  WT (WW P w) X.A (Zz (.ref it)) (λr s1=>∃ u,r=some u/\
   WT (WW P w) X.A (zai tg (.ref it) u) (λ_ s2=>∃ x H',Inv X pins σ H' s2/\RelV x u/\J.yld i H x H'/\tn (i+1) s2.heap/\∀ b∈fp,H' b=none) E s1) E s
 done:∀ (X:Cx),X.prog=P->X.w=w->X.K=K->X.calm=true->∀ (i:Nat) (pins:List (Addr×Obj)) (s:Wu) (σ:St) (H:Hp) (E:Wo->Wu->Prop),Inv X pins σ H s->(∀ b∈fp,qo X pins H b)->tn i s.heap->J.stop i H->
  WT (WW P w) X.A (Zz (.ref it)) (λr s1=>r=none/\Inv X pins σ H s1) E s
 self:∀ (A:XA) (i:Nat) (s:Wu) (Q:Wo->Wu->Prop) (E:Wo->Wu->Prop),tn i s.heap->Q (.ref it) s->WT (WW P w) A (pyIter (.ref it)) Q E s
abbrev TI:=St->Hp->(It->Hp->Prop)->Prop
def PIE (X:Cx)(pins:List (Addr×Obj))(σ:St)(tg:WX)(R:It->Hp->Prop)(itv:Wo)(s2:Wu):Prop:=
 ∃ (it:Addr) (fp:List Addr) (tn:Nat->Heap->Prop) (J:It) (H':Hp),itv=.ref it/\Inv X pins σ H' s2/\Turn X.prog X.w X.K tg J fp it tn/\tn 0 s2.heap/\(∀ b∈fp,qo X pins H' b)/\R J H'
def PI (X:Cx)(tg iter:WX)(wi:TI):Prop:=
 ∀ (pins:List (Addr×Obj)) (s:Wu) (σ:St) (H:Hp) (R:It->Hp->Prop),Inv X pins σ H s->wi σ H R->
  WT (WW X.prog X.w) X.A (XJ iter X.env) (λv s1=>WT (WW X.prog X.w) X.A (pyIter v) (PIE X pins σ tg R) X.xe s1) X.xe s
theorem CH {M:Model}{A:XA}{E:Wo->Wu->Prop}{s:Wu}{tg:WX}{it:Addr}{u:Wo}{o:Obj}{n:String}{vs:Array Wo}{Q:Unit->Wu->Prop}(ho:s.heap.get? it=some o)(hc:o.cls=.type n)(hd:o.data=.fields vs)
  (hn:["enumerate", "zip", "dict_itemiterator", "dict_reverseitemiterator", "odict_iterator", "itertools.zip_longest", "itertools.pairwise"].contains n=false) (hQ:Q () s):WT M A (zai tg (.ref it) u) Q E s:=by
 unfold zai
 cases tg<;>first
  | exact WD hQ
  | (cases u<;>first
    | exact WD hQ
    | (refine Wl (wpAny_load ho ?_)
       rw[hc,hd]
       show WT M A (if (["enumerate", "zip", "dict_itemiterator", "dict_reverseitemiterator", "odict_iterator", "itertools.zip_longest", "itertools.pairwise"].contains n&&vs[0]? == some (zaw _))=true then _ else _) Q E s
       rw[if_neg (by intro h;rw[hn,zdM] at h;cases h)]
       exact WD hQ))
def Itl (K:Wj)(a:Addr):It:=
 ⟨λi H=>∃ xs x,SqL K H a xs/\xs[i]? = some x,λi H x H'=>H'=H/\∀ xs,SqL K H a xs->xs[i]? = some x,λi H=>∃ xs,SqL K H a xs/\xs.length<=i⟩
def Itt (K:Wj)(a:Addr):It:=
 ⟨λi H=>∃ xs x,SqT K H a xs/\xs[i]? = some x,λi H x H'=>H'=H/\∀ xs,SqT K H a xs->xs[i]? = some x,λi H=>∃ xs,SqT K H a xs/\xs.length<=i⟩
def Itr (lo:Int)(n:Nat):It:=⟨λi _=>i < n,λi H x H'=>H'=H/\x=.int (lo+i),λi _=>n<=i⟩
theorem tO {P:W7}{w:Xh}{K:Wj}{tg:WX}(a it:Addr):Turn P w K tg (Itl K a) [it] it (λi h=>h.IsListIter it a i) where
 mem:=by simp
 obj:=λi h st b hb=>by
  have e:b=it:=by simpa using hb
  subst e
  obtain ⟨o,e,c,d⟩:=st
  exact ⟨o,e,λv z=>by rw[d] at z;cases z⟩
 keep:=λi h h' st k=>st.at λo e=>k it (by simp) o e
 item:=by
  intro X hP hw hK hc i pins s σ H E I hf st hg
  subst hP hw hK
  obtain ⟨xs,x,hq,hx⟩:=hg
  obtain ⟨its,rv,p,hz⟩:=I.list hq
  obtain ⟨u,hu,ru⟩:=rv.get hx
  obtain ⟨f0,f1,f2,f3,f4,f5⟩:=hf it (by simp)
  refine zbo st p.isList (x:=u) (by simpa using hu) λh' st' sb=>?_
  have I1:Inv X pins σ H { s with heap:=h' }:=I.turned (t':=s.toks) (λb o hb e=>(sb.2 b hb).trans e) f0 f1 f3 f4 f5
  obtain ⟨o,e,c,d⟩:=id st'
  exact ⟨u,rfl,CH (s:={ s with heap:=h' }) e c d (by decide) ⟨x,H,I1,ru,⟨rfl,λys hy=>by rw[I.zl hy hq];exact hx⟩,st',λb hb=>(hf b hb).1⟩⟩
 done:=by
  intro X hP hw hK hc i pins s σ H E I hf st hg
  subst hP hw hK
  obtain ⟨xs,hq,hx⟩:=hg
  obtain ⟨its,rv,p,hz⟩:=I.list hq
  obtain ⟨f0,f1,f2,f3,f4,f5⟩:=hf it (by simp)
  have hl:=rv.length
  exact zbO (I.ok.hd hc) st p.isList (by simp;omega) λh' eb=>⟨rfl,I.turned (t':=s.toks) (λb o hb e=>eb b o hb e) f0 f1 f3 f4 f5⟩
 self:=λ_ _ _ _ _ st h=>wpAny_pyIter_listiter st h
theorem BK {P:W7}{w:Xh}{K:Wj}{tg:WX}(a it:Addr):Turn P w K tg (Itt K a) [it] it (λi h=>h.IsTupleIter it a i) where
 mem:=by simp
 obj:=λi h st b hb=>by
  have e:b=it:=by simpa using hb
  subst e
  obtain ⟨o,e,c,d⟩:=st
  exact ⟨o,e,λv z=>by rw[d] at z;cases z⟩
 keep:=λi h h' st k=>st.at λo e=>k it (by simp) o e
 item:=by
  intro X hP hw hK hc i pins s σ H E I hf st hg
  subst hP hw hK
  obtain ⟨xs,x,hq,hx⟩:=hg
  obtain ⟨its,rv,p,hz⟩:=I.tuple hq
  obtain ⟨u,hu,ru⟩:=rv.get hx
  obtain ⟨f0,f1,f2,f3,f4,f5⟩:=hf it (by simp)
  refine wpAny_pyNext_tuple_item st (show s.heap.IsTuple a its.toArray from p) (x:=u) (by simpa using hu) λh' st' sb=>?_
  have I1:Inv X pins σ H { s with heap:=h' }:=I.turned (t':=s.toks) (λb o hb e=>(sb.2 b hb).trans e) f0 f1 f3 f4 f5
  obtain ⟨o,e,c,d⟩:=id st'
  exact ⟨u,rfl,CH (s:={ s with heap:=h' }) e c d (by decide) ⟨x,H,I1,ru,⟨rfl,λys hy=>by rw[I.uv hy hq];exact hx⟩,st',λb hb=>(hf b hb).1⟩⟩
 done:=by
  intro X hP hw hK hc i pins s σ H E I hf st hg
  subst hP hw hK
  obtain ⟨xs,hq,hx⟩:=hg
  obtain ⟨its,rv,p,hz⟩:=I.tuple hq
  obtain ⟨f0,f1,f2,f3,f4,f5⟩:=hf it (by simp)
  have hl:=rv.length
  exact wpAny_pyNext_tuple_end (I.ok.hd hc) st (show s.heap.IsTuple a its.toArray from p) (by simp;omega) λh' eb=>⟨rfl,I.turned (t':=s.toks) (λb o hb e=>eb b o hb e) f0 f1 f3 f4 f5⟩
 self:=λ_ _ _ _ _ st h=>wpAny_pyIter_tupleiter st h
theorem AN {P:W7}{w:Xh}{K:Wj}{tg:WX}(it:Addr)(lo:Int)(n:Nat):Turn P w K tg (Itr lo n) [it] it (λi h=>IsRangeIter h it (lo+(i:Nat)*1) ((n:Int) - (i:Nat)) 1) where
 mem:=by simp
 obj:=λi h st b hb=>by
  have e:b=it:=by simpa using hb
  subst e
  exact ⟨_,st,λv z=>by
   have z':Data.fields _=Data.cell v:=z
   cases z'⟩
 keep:=λi h h' st k=>k it (by simp) _ st
 item:=by
  intro X hP hw hK hc i pins s σ H E I hf st hg
  subst hP hw hK
  obtain ⟨f0,f1,f2,f3,f4,f5⟩:=hf it (by simp)
  have W:=Walks.range (prog:=X.prog) (w:=X.w) (I.ok.hd hc) it lo 1 n
  refine W.item i s _ _ hg st λv h' tk hv st' kk=>?_
  obtain ⟨t,rfl⟩:=hv
  have I1:Inv X pins σ H { s with heap:=h',toks:=tk }:=I.turned (λb o hb e=>kk b o (by simpa using hb) e) f0 f1 f3 f4 f5
  refine ⟨_,rfl,CH (s:={ s with heap:=h',toks:=tk }) (n := "range_iterator") st' rfl rfl (by decide) ⟨.int (lo+i),H,I1,⟨t,?_⟩,⟨rfl,rfl⟩,st',λb hb=>(hf b hb).1⟩⟩
  rw[Int.mul_one]
 done:=by
  intro X hP hw hK hc i pins s σ H E I hf st hg
  subst hP hw hK
  obtain ⟨f0,f1,f2,f3,f4,f5⟩:=hf it (by simp)
  exact wpAny_pyNext_range_end (I.ok.hd hc) st (by have:n<=i:=hg;omega) λh' eb=>⟨rfl,I.turned (t':=s.toks) (λb o hb e=>eb b o hb e) f0 f1 f3 f4 f5⟩
 self:=λ_ _ _ _ _ st h=>wpAny_pyIter_rangeiter st h
end L2
namespace L2
open PySem PySem.Spec PyProof.Rows
section
variable {X:Cx} {tg:WX}
def Ov (K:Wj)(tl:TE):TI:=λσ H R=>tl σ H λx H1=>∃ a,x=.ref a/\(∃ xs,SqL K H1 a xs)/\R (Itl K a) H1
theorem CO {l:WX}{tl:TE}(hl:PE X l tl):PI X tg l (Ov X.K tl):=by
 intro pins s σ H R I h
 refine thn (hl pins s σ H _ I h) λv s1 ⟨x,H1,I1,r1,q1⟩=>?_
 obtain ⟨a,e,⟨xs,hq⟩,q⟩:=q1
 subst e
 cases r1
 obtain ⟨its,rv,p,hz⟩:=I1.list hq
 refine ZR p.isList ?_
 refine ⟨s1.heap.objs.size,[s1.heap.objs.size],_,_,H1,rfl,I1.kept (t':=s1.toks) λb o e=>Wn _ e,tO a _,⟨_,WN _ rfl,rfl,rfl⟩,λb hb=>?_,q⟩
 have e:b=s1.heap.objs.size:=by simpa using hb
 subst e
 exact I1.A7 (WG _) (I1.hok.fresh (WG _))
theorem F8 {pins:List (Addr×Obj)}{σ:St}{H:Hp}{s:Wu}{R:It->Hp->Prop}{E:Wo->Wu->Prop}{lo hi:Int}{t u v:Tok}{tk:Nat}(I:Inv X pins σ H s)(h1:-(2 ^ 62)<=lo)(h2:lo < 2 ^ 62)(h3:-(2 ^ 62)<=hi)(h4:hi < 2 ^ 62)
  (q:R (Itr lo (hi - lo).toNat) H):WT (WW X.prog X.w) X.A (pyIter (.ref s.heap.objs.size)) (PIE X pins σ tg R) E { s with heap:=s.heap.push { cls:=.type "range", data:=.fields #[.int lo t,.int hi u,.int 1 v] },toks:=tk }:=by
 refine wpAny_pyIter_range (zen ..) (small_one h1 h2 h3 h4) ?_
 have I1:Inv X pins σ H { s with heap:=s.heap.push { cls:=.type "range", data:=.fields #[.int lo t,.int hi u,.int 1 v] },toks:=tk }:=I.kept λb o e=>Wn _ e
 refine ⟨(s.heap.push { cls:=.type "range", data:=.fields #[.int lo t,.int hi u,.int 1 v] }).objs.size,[(s.heap.push { cls:=.type "range", data:=.fields #[.int lo t,.int hi u,.int 1 v] }).objs.size],_,_,H,rfl,
  I1.kept (t':=tk) λb o e=>Wn _ e,AN _ lo (hi - lo).toNat,?_,λb hb=>?_,q⟩
 ·have e1:lo+((0:Nat):Int)*1=lo:=by simp
  have e2:(((hi - lo).toNat:Nat):Int) - ((0:Nat):Int)=ZH lo hi 1:=by rw[rangeSize_one];split<;>omega
  show IsRangeIter _ _ (lo+((0:Nat):Int)*1) ((((hi - lo).toNat:Nat):Int) - ((0:Nat):Int)) 1
  rw[e1,e2]
  exact WN _ rfl
 ·have e:b=(s.heap.push { cls:=.type "range", data:=.fields #[.int lo t,.int hi u,.int 1 v] }).objs.size:=by simpa using hb
  subst e
  exact I1.A7 (WG _) (I1.hok.fresh (WG _))
def SH (ta:TA):TI:=λσ H R=>ta σ H λvs H1=>∃ j:Int,vs=[.int j]/\-(2 ^ 62)<=j/\j < 2 ^ 62/\R (Itr 0 j.toNat) H1
theorem Fg {a:WX}{ta:TA}{p pos:Pos}(hg:Gl X "range")(hm:X.mg "range" = none)(ha:PA X [a] ta)(hs:WH [a] X.env=[(false,XJ a X.env)]:=by rfl):PI X tg (.Call (.Name "range" p) [a] [] pos) (SH ta):=by
 intro pins s σ H R I h
 refine Call_ (jI I hg hm boot_range (XE (thn (ha pos pins s σ H _ I h) λus s1 ⟨vs,H1,I1,r1,q1⟩=>?_) hs rfl))
 obtain ⟨j,e,q1,q2,q⟩:=q1
 subst e
 cases r1 with
 | cons r rr=>
  cases rr
  obtain ⟨t,rfl⟩:=r
  exact call_range_1 (F8 I1 (by omega) (by omega) q1 q2 (by simpa using q))
def V5 (wi:TI)(g:TG)(tb:TS):TS:=λD σ H=>wi σ H λJ H1=>∃ W:Nat->Nat->St->Hp->Prop,(∃ m,W 0 m σ H1)/\∀ i m σ H,W i m σ H->
 (J.stop i H/\D.nx σ H)∨(J.go i H/\∃ N:St->Hp->Prop,(∀ σ' H',N σ' H'->∃ m',m' < m/\W (i+1) m' σ' H')/\∀ x H',J.yld i H x H'->g x σ H' λσ2 H2=>tb { D with nx:=N,ct:=N,bk:=D.nx } σ2 H2)
def rP (fp:List Addr)(h:Heap):List (Addr×Obj):=fp.filterMap λb=>(h.get? b).map λo=>(b,o)
theorem gu {fp:List Addr}{h:Heap}{b:Addr}{o:Obj}(hb:b∈fp)(e:h.get? b=some o):(b,o)∈rP fp h:=ZA.mpr ⟨b,hb,by rw[e];rfl⟩
theorem Fl {fp:List Addr}{h:Heap}{p:Addr×Obj}(hp:p∈rP fp h):p.1∈fp/\h.get? p.1=some p.2:=by
 obtain ⟨b,hb,e⟩:=ZA.mp hp
 cases q:h.get? b with
 | none=>rw[q] at e;cases e
 | some o=>
  rw[q] at e
  have e':(b,o)=p:=Xg e
  subst e'
  exact ⟨hb,q⟩
theorem Inv.pinned {pins:List (Addr×Obj)}{σ:St}{H:Hp}{s:Wu}{fp:List Addr}(I:Inv X pins σ H s)(hf:∀ b∈fp,qo X pins H b)(ho:∀ b∈fp,∃ o,s.heap.get? b=some o/\∀ v,o.data≠.cell v):Inv X (pins++rP fp s.heap) σ H s:=
 I.Cp λp hp=>(W2.mp hp).elim (λz=>I.pin p (WZ _ z)) λz=>by
  obtain ⟨hb,e⟩:=Fl z
  obtain ⟨f0,f1,f2,_⟩:=hf p.1 hb
  obtain ⟨o,e',d⟩:=ho p.1 hb
  rw[e] at e';cases e'
  exact ⟨e,f0,f1,f2,d⟩
theorem Inv.j9 {pins pl:List (Addr×Obj)}{σ:St}{H:Hp}{s:Wu}(I:Inv X (pins++pl) σ H s):Inv X pins σ H s:=I.Cp λp hp=>I.pin p (WZ _ (Xq _ hp))
theorem QY {iter:WX}{body:List Stmt}{wi:TI}{g:TG}{tb:TS}{pos:Pos}(hp:zdf (WW X.prog X.w) X.A X.env X.xe)(hc:X.calm=true)(hi:PI X tg iter wi)(hg:PG X tg g)(hb:PSs X body tb)
  (hs:∀ x,Xn iter X.env x=pure x:=by intro _;rfl):PS X (.For tg iter body [] pos) (V5 wi g tb):=by
 intro pins s σ H D I h
 refine wpAny_For (thn (hi pins s σ H _ I h) λv s1 h1=>thn h1 λitv s2 h2=>?_) hs
 obtain ⟨it,fp,tn,J,H2,e,I2,T,st2,f2,W,⟨m0,w0⟩,turn⟩:=h2
 subst e
 -- what stays true of the iterator's objects through the loop
 have Aa:∀ {H':Hp},(∀ b∈fp,H' b=none)->∀ b∈fp,qo X pins H' b:=λhn b hb=>⟨hn b hb,(f2 b hb).2⟩
 refine codeAny_forLoop_any (λn s'=>∃ i σ' H',Inv X pins σ' H' s'/\tn i s'.heap/\(∀ b∈fp,H' b=none)/\W i n σ' H') ?_ m0 ⟨0,σ,H2,I2,st2,λb hb=>(f2 b hb).1,w0⟩
 rintro n s3 ⟨i,σ3,H3,I3,st3,fr3,w3⟩
 rcases turn i n σ3 H3 w3 with ⟨stop,qn⟩ | ⟨go,N,hN,step⟩
 ·refine YB hp (thn (T.done X rfl rfl rfl hc i pins s3 σ3 H3 X.xe I3 (Aa fr3) st3 stop) λr s4 ⟨hr,I4⟩=>?_)
  subst hr
  exact zah ⟨σ3,H3,I4,qn⟩
 ·refine YB hp (thn (T.item X rfl rfl rfl hc i pins s3 σ3 H3 X.xe I3 (Aa fr3) st3 go) λr s4 ⟨u,hr,h4⟩=>?_)
  subst hr
  refine YB hp (thn h4 λ_ s5 ⟨x,H5,I5,r5,y5,st5,fr5⟩=>?_)
  have I5':=I5.pinned (Aa fr5) (T.obj _ _ st5)
  refine YB hp (thn (hg _ s5 σ3 H5 x u _ I5' r5 (step x H5 y5)) λ_ s6 ⟨σ6,H6,I6,q6⟩=>?_)
  refine YB hp (thn (hb _ s6 σ6 H6 _ I6 q6) λf s7 q7=>?_)
  have again:∀ {σ7:St} {H7:Hp},Inv X (pins++rP fp s5.heap) σ7 H7 s7->N σ7 H7->∃ m,m < n/\∃ i σ' H',Inv X pins σ' H' s7/\tn i s7.heap/\(∀ b∈fp,H' b=none)/\W i m σ' H':=λ{σ7 H7} I7 n7=>by
   obtain ⟨m',hm,w7⟩:=hN σ7 H7 n7
   refine ⟨m',hm,i+1,σ7,H7,I7.j9,T.keep _ _ _ st5 λb hb o e=>(I7.pin (b,o) (WZ _ (WZ _ (gu hb e)))).1,λb hb=>?_,w7⟩
   obtain ⟨o,e,d⟩:=T.obj _ _ st5 b hb
   exact (I7.pin (b,o) (WZ _ (WZ _ (gu hb e)))).2.1
  cases f with
  | next=>obtain ⟨σ7,H7,I7,n7⟩:=q7;exact again I7 n7
  | cont=>obtain ⟨σ7,H7,I7,n7⟩:=q7;exact again I7 n7
  | brk=>obtain ⟨σ7,H7,I7,q7⟩:=q7;exact ⟨σ7,H7,I7.j9,q7⟩
  | ret v=>obtain ⟨x7,σ7,H7,I7,r7,q7⟩:=q7;exact ⟨x7,σ7,H7,I7.j9,r7,q7⟩
end
end L2
namespace L2
open PySem PySem.Spec PyProof.Rows
abbrev R2:=V->V->Hp->VK->Prop
def OpR (X:Cx)(f:Wo->Wo->Sem Wo)(r:R2):Prop:=
 ∀ (pins:List (Addr×Obj)) (s:Wu) (σ:St) (H:Hp) (x y:V) (v u:Wo) (Q:VK),Inv X pins σ H s->RelV x v->RelV y u->r x y H Q->
  WT (WW X.prog X.w) X.A (f v u) (EP X pins σ Q) X.xe s
def UnR (X:Cx)(f:Wo->Sem Wo)(r:V->Hp->VK->Prop):Prop:=
 ∀ (pins:List (Addr×Obj)) (s:Wu) (σ:St) (H:Hp) (x:V) (v:Wo) (Q:VK),Inv X pins σ H s->RelV x v->r x H Q->
  WT (WW X.prog X.w) X.A (f v) (EP X pins σ Q) X.xe s
def cH (X:Cx)(f:Wo)(r:List V->Hp->VK->Prop):Prop:=
 ∀ (pins:List (Addr×Obj)) (s:Wu) (σ:St) (H:Hp) (xs:List V) (us:List Wo) (Q:VK),Inv X pins σ H s->Vals xs us->r xs H Q->
  WT (WW X.prog X.w) X.A (zcj f us) (EP X pins σ Q) X.xe s
def tOp (r:R2)(ta tb:TE):TE:=λσ H Q=>ta σ H λx H1=>tb σ H1 λy H2=>r x y H2 Q
def tUn (r:V->Hp->VK->Prop)(ta:TE):TE:=λσ H Q=>ta σ H λx H1=>r x H1 Q
def rI (C:Int->Int->Prop)(g:Int->Int->V):R2:=λx y H Q=>∃ i j,x=.int i/\y=.int j/\C i j/\Q (g i j) H
def rI0 (g:Int->Int->V):R2:=λx y H Q=>∃ i j,x=.int i/\y=.int j/\Q (g i j) H
def rU (g:Int->V):V->Hp->VK->Prop:=λx H Q=>∃ i,x=.int i/\Q (g i) H
section
variable {X:Cx} {a b c:WX} {ta tb tc:TE} {pos:Pos}
theorem RF (ha:PE X a ta)(hb:PE X b tb){pins:List (Addr×Obj)}{s:Wu}{σ:St}{H:Hp}{R:V->V->Hp->Prop}(I:Inv X pins σ H s)
  (h:ta σ H λx H1=>tb σ H1 λy H2=>R x y H2) {Q:Wo->Wu->Prop} {f:Wo->Wo->Sem Wo}
  (hf:∀ v u s2 x y H2,Inv X pins σ H2 s2->RelV x v->RelV y u->R x y H2->WT (WW X.prog X.w) X.A (f v u) Q X.xe s2) :
  WT (WW X.prog X.w) X.A (XJ a X.env) (λv s₁=>WT (WW X.prog X.w) X.A (XJ b X.env) (λu s₂=>WT (WW X.prog X.w) X.A (f v u) Q X.xe s₂) X.xe s₁) X.xe s:=by
 refine thn (ha pins s σ H _ I h) λv s1 ⟨x,H1,I1,r1,q1⟩=>?_
 refine thn (hb pins s1 σ H1 _ I1 q1) λu s2 ⟨y,H2,I2,r2,q2⟩=>?_
 exact hf v u s2 x y H2 I2 r1 r2 q2
theorem Om {op:zbV}{r:R2}(ho:OpR X (YN op) r)(ha:PE X a ta)(hb:PE X b tb):PE X (.BinOp a op b pos) (tOp r ta tb):=by
 intro pins s σ H Q I h
 exact wpAny_BinOp (RF ha hb I h λv u s2 x y H2 I2 rx ry q=>ho pins s2 σ H2 x y v u Q I2 rx ry q)
theorem So {op:UnaryOp}{r:V->Hp->VK->Prop}(ho:UnR X (unaryOp op) r)(ha:PE X a ta):PE X (.UnaryOp op a pos) (tUn r ta):=by
 intro pins s σ H Q I h
 exact UnaryOp_ (thn (ha pins s σ H _ I h) λv s1 ⟨x,H1,I1,r1,q1⟩=>ho pins s1 σ H1 x v Q I1 r1 q1)
theorem opI {f:Wo->Wo->Sem Wo}{C:Int->Int->Prop}{g:Int->Int->Int}
  (rule:∀ (i j:Int) (t u:Tok) (s:Wu) (Q:Wo->Wu->Prop) (E:Wo->Wu->Prop),C i j->Q (.int (g i j) s.toks) { s with toks:=s.toks+1 }->WT (WW X.prog X.w) X.A (f (.int i t) (.int j u)) Q E s) :
  OpR X f (rI C λi j=>.int (g i j)):=by
 intro pins s σ H x y v u Q I rx ry h
 obtain ⟨i,j,rfl,rfl,hc,q⟩:=h
 obtain ⟨t,rfl⟩:=rx
 obtain ⟨t',rfl⟩:=ry
 exact rule i j t t' s _ _ hc ⟨.int (g i j),H,I.tok _,⟨_,rfl⟩,q⟩
theorem Sw {f:Wo->Wo->Sem Wo}{g:Int->Int->Int}
  (rule:∀ (i j:Int) (t u:Tok) (s:Wu) (Q:Wo->Wu->Prop) (E:Wo->Wu->Prop),Q (.int (g i j) s.toks) { s with toks:=s.toks+1 }->WT (WW X.prog X.w) X.A (f (.int i t) (.int j u)) Q E s) :
  OpR X f (rI0 λi j=>.int (g i j)):=by
 intro pins s σ H x y v u Q I rx ry h
 obtain ⟨i,j,rfl,rfl,q⟩:=h
 obtain ⟨t,rfl⟩:=rx
 obtain ⟨t',rfl⟩:=ry
 exact rule i j t t' s _ _ ⟨.int (g i j),H,I.tok _,⟨_,rfl⟩,q⟩
theorem KA {f:Wo->Wo->Sem Wo}{g:Int->Int->Bool}
  (rule:∀ (i j:Int) (t u:Tok) (s:Wu) (Q:Wo->Wu->Prop) (E:Wo->Wu->Prop),Q (.bool (g i j)) s->WT (WW X.prog X.w) X.A (f (.int i t) (.int j u)) Q E s) :
  OpR X f (rI0 λi j=>.bl (g i j)):=by
 intro pins s σ H x y v u Q I rx ry h
 obtain ⟨i,j,rfl,rfl,q⟩:=h
 obtain ⟨t,rfl⟩:=rx
 obtain ⟨t',rfl⟩:=ry
 exact rule i j t t' s _ _ ⟨.bl (g i j),H,I,rfl,q⟩
def US (i j:Int):Prop:=0<=j/\j<=1000000/\i.natAbs < 2 ^ 64
def UE (i j:Int):Prop:=(-(2 ^ 64) < i/\i < 2 ^ 64)∨(-(2 ^ 64) < j/\j < 2 ^ 64)
theorem UE.ok {i j:Int}(h:UE i j):IntMulOk i j:=by
 rcases h with ⟨h1,h2⟩ | ⟨h1,h2⟩
 ·exact .of_left (zaT h1 h2)
 ·exact .of_right (zaT h1 h2)
theorem O2:OpR X (YN .Add) (rI0 λi j=>.int (i+j)):=Sw λ_ _ _ _ _ _ _ q=>add_int q
theorem PD:OpR X (YN .Sub) (rI0 λi j=>.int (i - j)):=Sw λ_ _ _ _ _ _ _ q=>sub_int q
theorem LL:OpR X (YN .Mod) (rI (λ_ j=>j≠0) λi j=>.int (i.fmod j)):=opI λ_ _ _ _ _ _ _ hc q=>mod_int' hc q
theorem RI:OpR X (YN .Pow) (rI US λi j=>.int (i ^ j.toNat)):=opI λ_ _ _ _ _ _ _ hc q=>pow_int_small hc.1 hc.2.1 hc.2.2 q
theorem unI {f:Wo->Sem Wo}{g:Int->Int}
  (rule:∀ (i:Int) (t:Tok) (s:Wu) (Q:Wo->Wu->Prop) (E:Wo->Wu->Prop),Q (.int (g i) s.toks) { s with toks:=s.toks+1 }->WT (WW X.prog X.w) X.A (f (.int i t)) Q E s) :
  UnR X f (rU λi=>.int (g i)):=by
 intro pins s σ H x v Q I rx h
 obtain ⟨i,rfl,q⟩:=h
 obtain ⟨t,rfl⟩:=rx
 exact rule i t s _ _ ⟨.int (g i),H,I.tok _,⟨_,rfl⟩,q⟩
theorem QS:UnR X (unaryOp .USub) (rU λi=>.int (-i)):=unI λ_ _ _ _ _ q=>neg_int q
end
def T5:V->V->Bool
 | .non,.non=>true | .non,.int _=>true | .int _,.non=>true | .non,.bl _=>true | .bl _,.non=>true | .non,.str _=>true | .str _,.non=>true
 | .int _,.int _=>true | .bl _,.bl _=>true | .str _,.str _=>true | .byt _,.byt _=>true
 | .int _,.str _=>true | .str _,.int _=>true | .bl _,.str _=>true | .str _,.bl _=>true
 | _,_=>false
def rEq:R2:=λx y H Q=>T5 x y=true/\Q (.bl (decide (x=y))) H
def rNe:R2:=λx y H Q=>T5 x y=true/\Q (.bl (!decide (x=y))) H
section
variable {X:Cx} {a b c:WX} {ta tb tc:TE} {pos:Pos}
theorem HJ {pins:List (Addr×Obj)}{σ:St}{H:Hp}{s:Wu}{Q:VK}{k k':Bool}(I:Inv X pins σ H s)(q:Q (.bl k) H)(e:k=k'):EP X pins σ Q (.bool k') s:=by
 subst e
 exact ⟨.bl k,H,I,rfl,q⟩
theorem uH:OpR X (XI .Lt) (rI0 λi j=>.bl (decide (i < j))):=KA λ_ _ _ _ _ _ _ q=>lt_int q
theorem uL:OpR X (XI .LtE) (rI0 λi j=>.bl (decide (i<=j))):=KA λ_ _ _ _ _ _ _ q=>le_int q
theorem Uh:OpR X (XI .Gt) (rI0 λi j=>.bl (decide (j < i))):=KA λ_ _ _ _ _ _ _ q=>gt_int q
theorem Oj:OpR X (XI .GtE) (rI0 λi j=>.bl (decide (j<=i))):=KA λ_ _ _ _ _ _ _ q=>ge_int q
theorem OR:OpR X (XI .Is) (λx y H Q=>y=.non/\Q (.bl (decide (x=.non))) H):=by
 intro pins s σ H x y v u Q I rx ry h
 obtain ⟨rfl,q⟩:=h
 cases ry
 refine is_none_gen (HJ I q ?_)
 cases x<;>first
  | (cases rx;rfl)
  | (obtain ⟨t,rfl⟩:=rx;rfl)
theorem Kl:OpR X (XI .IsNot) (λx y H Q=>y=.non/\Q (.bl (!decide (x=.non))) H):=by
 intro pins s σ H x y v u Q I rx ry h
 obtain ⟨rfl,q⟩:=h
 cases ry
 refine isnot_none_gen (HJ I q ?_)
 cases x<;>first
  | (cases rx;rfl)
  | (obtain ⟨t,rfl⟩:=rx;rfl)
theorem fh (b:WX){op:zcq}(h:op≠.In:=by decide)(h2:op≠.NotIn:=by decide):XY op b=false:=by
 have e1:(op == CmpOp.In)=false:=by cases op<;>first | rfl | exact absurd rfl h
 have e2:(op == zem)=false:=by cases op<;>first | rfl | exact absurd rfl h2
 cases b<;>simp[XY,e1,e2]
theorem NP {op:zcq}{r:R2}(ho:OpR X (XI op) r)(ha:PE X a ta)(hb:PE X b tb)(hm:XY op b=false):PE X (.Compare a [op] [b] pos) (tOp r ta tb):=by
 intro pins s σ H Q I h
 exact wpAny_Compare1 (RF ha hb I h λv u s2 x y H2 I2 rx ry q=>ho pins s2 σ H2 x y v u Q I2 rx ry q) hm
def Gg (t:TE):TT:=λσ H Q=>t σ H λx H'=>∃ k,x=.bl k/\Q k H'
theorem La {op:zcq}{r:R2}(ho:OpR X (XI op) r)(ha:PE X a ta)(hb:PE X b tb)(hm:XY op b=false):PT X (.Compare a [op] [b] pos) (Gg (tOp r ta tb)):=by
 intro pins s σ H Q I h
 refine zbN (thn (ha pins s σ H _ I h) λv s1 ⟨x,H1,I1,r1,q1⟩=>thn (hb pins s1 σ H1 _ I1 q1) λu s2 ⟨y,H2,I2,r2,q2⟩=>
  thn (ho pins s2 σ H2 x y v u _ I2 r1 r2 q2) λc s3 ⟨z,H3,I3,r3,k,e,q3⟩=>?_) hm
 subst e
 cases r3
 exact Yj ⟨H3,I3,q3⟩
def Gw (r r':R2)(ta tb tc:TE):TE:=λσ H Q=>ta σ H λx H1=>tb σ H1 λy H2=>r x y H2 λz H3=>∃ k,z=.bl k/\
 (if k=true then tc σ H3 λw' H4=>r' y w' H4 Q else Q (.bl false) H3)
theorem FD {op op':zcq}{r r':R2}(ho:OpR X (XI op) r)(ho':OpR X (XI op') r')(ha:PE X a ta)(hb:PE X b tb)(hc:PE X c tc)
  (hm:lastMarks [op,op'] [b,c]=false:=by with_unfolding_all rfl):PT X (.Compare a [op,op'] [b,c] pos) (Gg (Gw r r' ta tb tc)):=by
 intro pins s σ H Q I h
 refine isTrue_chain (thn (ha pins s σ H _ I h) λv s1 ⟨x,H1,I1,r1,q1⟩=>test_link (thn (hb pins s1 σ H1 _ I1 q1) λu s2 ⟨y,H2,I2,r2,q2⟩=>
  thn (ho pins s2 σ H2 x y v u _ I2 r1 r2 q2) λd s3 ⟨z,H3,I3,r3,k,e,q3⟩=>?_)) hm
 subst e
 cases r3
 refine Yj ?_
 cases k with
 | false=>
  obtain ⟨k',e',q'⟩:=q3
  cases e'
  exact ite_ff ⟨H3,I3,q'⟩
 | true=>
  refine ite_tt (test_last (thn (hc pins s3 σ H3 _ I3 q3) λw' s4 ⟨z',H4,I4,r4,q4⟩=>thn (ho' pins s4 σ H4 y z' u w' _ I4 r2 r4 q4) λd' s5 ⟨z2,H5,I5,r5,k2,e2,q5⟩=>?_))
  subst e2
  cases r5
  exact Yj ⟨H5,I5,q5⟩
theorem pY:(sizeLine:Nat) < 2 ^ 63:=by rw[zbW];decide
theorem AE:OpR X (YN .Add) (λx y H Q=>∃ i j,x=.str i/\y=.str j/\i.length+j.length<=sizeLine/\Q (.str (i++j)) H):=by
 intro pins s σ H x y v u Q I rx ry h
 obtain ⟨i,j,rfl,rfl,hz,q⟩:=h
 obtain ⟨t,rfl⟩:=rx
 obtain ⟨t',rfl⟩:=ry
 exact add_str (λt' tk=>⟨.str (i++j),H,I.tok _,⟨_,rfl⟩,q⟩) hz
theorem vals1 {x:V}{us:List Wo}(r:Vals [x] us):∃ u,us=[u]/\RelV x u:=by
 cases r with
 | cons r1 r2=>cases r2;exact ⟨_,rfl,r1⟩
theorem vals2 {x y:V}{us:List Wo}(r:Vals [x,y] us):∃ u w',us=[u,w']/\RelV x u/\RelV y w':=by
 cases r with
 | cons r1 r2=>
  cases r2 with
  | cons r3 r4=>cases r4;exact ⟨_,_,rfl,r1,r3⟩
theorem sF:cH X (.builtin "abs") (λxs H Q=>∃ i,xs=[.int i]/\Q (.int (if i < 0 then -i else i)) H):=by
 intro pins s σ H xs us Q I r h
 obtain ⟨i,rfl,q⟩:=h
 obtain ⟨u,rfl,t,rfl⟩:=vals1 r
 exact call_abs_int λu tk=>⟨.int (if i < 0 then -i else i),H,I.tok _,⟨_,rfl⟩,q⟩
theorem nH (hc:X.calm=true):cH X (.builtin "max") (λxs H Q=>∃ i j,xs=[.int i,.int j]/\Q (.int (if j > i then j else i)) H):=by
 intro pins s σ H xs us Q I r h
 obtain ⟨i,j,rfl,q⟩:=h
 obtain ⟨u,w',rfl,⟨t,rfl⟩,⟨t',rfl⟩⟩:=vals2 r
 refine max_two_ints (I.ok.hd hc) λh' tk k=>⟨_,H,I.kept k,?_,q⟩
 by_cases hj:j > i
 ·rw[if_pos hj,if_pos hj];exact ⟨_,rfl⟩
 ·rw[if_neg hj,if_neg hj];exact ⟨_,rfl⟩
theorem Ei (hc:X.calm=true):cH X (.builtin "min") (λxs H Q=>∃ i j,xs=[.int i,.int j]/\Q (.int (if j < i then j else i)) H):=by
 intro pins s σ H xs us Q I r h
 obtain ⟨i,j,rfl,q⟩:=h
 obtain ⟨u,w',rfl,⟨t,rfl⟩,⟨t',rfl⟩⟩:=vals2 r
 refine min_two_ints (I.ok.hd hc) λh' tk k=>⟨_,H,I.kept k,?_,q⟩
 by_cases hj:j < i
 ·rw[if_pos hj,if_pos hj];exact ⟨_,rfl⟩
 ·rw[if_neg hj,if_neg hj];exact ⟨_,rfl⟩
theorem EE:cH X (.type "int") (λxs H Q=>(∃ i,xs=[.int i]/\Q (.int i) H)∨∃ k,xs=[.bl k]/\Q (.int (if k then 1 else 0)) H):=by
 intro pins s σ H xs us Q I r h
 rcases h with ⟨i,rfl,q⟩ | ⟨k,rfl,q⟩
 ·obtain ⟨u,rfl,t,rfl⟩:=vals1 r
  exact call_int_int ⟨.int i,H,I,⟨_,rfl⟩,q⟩
 ·obtain ⟨u,rfl,r1⟩:=vals1 r
  cases r1
  exact call_int_bool ⟨.int (if k then 1 else 0),H,I.tok _,⟨_,rfl⟩,q⟩
end
end L2
namespace L2
open PySem PySem.Spec PyProof.Rows
structure Wi (h:Heap) (x dx C:Addr) (mA:Str->Option Wo):Prop where
 obj:h.get? x=some (zdz C dx)
 ns:h.Ns1 dx mA
 ne:dx≠x
section
variable {prog:W7} {w:Xh} {A:XA} {E:Wo->Wu->Prop} {s:Wu} {K:Wj} {x dx C f:Addr} {mA:Str->Option Wo} {name:Str} {v:Wo}
end
theorem oZ.some_of {v:V}{o:Option Wo}(r:oZ (some v) o):∃ u,o=some u/\RelV v u:=by
 cases o with
 | none=>exact (show False from r).elim
 | some u=>exact ⟨u,rfl,r⟩
section
variable {P:W7} {w:Xh} {H H':Hp} {h h':Heap} {a C dx:Addr} {fs fs':List (Str×V)}
end
structure Cls (K:Wj) (C:Addr):Prop where
 pg:zdg K C Str.empty=true
 hd:PySem.W.hasDictIn K C=true
 po:PySem.W.plainOver K C=true
 sa:PySem.W.findIn K (.ref C) "__setattr__" = some (some (.builtin "object.__setattr__"))
theorem Cls.get {K:Wj}{C:Addr}(c:Cls K C)(f:Str):zdg K C f=true:=c.pg
section
variable {X:Cx} {pins:List (Addr×Obj)} {σ:St} {H:Hp} {s:Wu} {a C dx:Addr} {fs:List (Str×V)} {f:Str} {v:V} {A:XA} {E:Wo->Wu->Prop}
end
def TY (X:Cx)(op:zbV)(rd:V->V->Hp->VK->Prop):Prop:=
 ∀ (pins:List (Addr×Obj)) (s:Wu) (σ:St) (H:Hp) (x y:V) (u v:Wo) (Q:VK),Inv X pins σ H s->RelV x u->RelV y v->rd x y H Q->WT (WW X.prog X.w) X.A (inplaceOp op u v) (EP X pins σ Q) X.xe s
section
variable {X:Cx} {o e value:WX} {f:Str} {pos pos' tpos:Pos} {ta tv:TE}
def TM:V->V->Hp->VK->Prop:=λx y H Q=>∃ i j,x=.int i/\y=.int j/\Q (.int (i+j)) H
def jr:V->V->Hp->VK->Prop:=λx y H Q=>∃ i j,x=.int i/\y=.int j/\Q (.int (i - j)) H
theorem RP:TY X .Add TM:=by
 rintro pins s σ H x y u v Q I rx ry ⟨i,j,rfl,rfl,q⟩
 obtain ⟨t,rfl⟩:=(show ∃ t,u=zat i t from rx)
 obtain ⟨t',rfl⟩:=(show ∃ t',v=zat j t' from ry)
 exact zej ⟨.int (i+j),H,I.tok _,⟨_,rfl⟩,q⟩
end
section
variable {X:Cx} {pins:List (Addr×Obj)} {σ:St} {H:Hp} {s:Wu} {A:XA} {E:Wo->Wu->Prop} {Q:Wo->Wu->Prop} {c:Wo} {b:Bool}
end
end L2
namespace L2
open PySem PySem.Spec PyProof.Rows
structure gD (k:Nat) (A:XA):Prop where
 hd:A.handled=none
 dp:A.depth+3*k+5 < recursionLimit
 un:A.units+16*k+200 < cLine
theorem gD.mono {j k:Nat}{A:XA}(r:gD k A)(h:j<=k):gD j A:=⟨r.hd,by have:=r.dp;omega,by have:=r.un;omega⟩
theorem gD.deeper {k:Nat}{A:XA}(r:gD (k+1) A)(env:Env):gD k (A.deeper env):=
 ⟨r.hd,by have:=r.dp;show A.depth+1+3*k+5 < _;omega,by have:=r.un;show A.units+3+16*k+200 < _;omega⟩
theorem gD.depth {k:Nat}{A:XA}(r:gD k A):A.depth < recursionLimit:=by have:=r.dp;omega
theorem gD.units {k:Nat}{A:XA}(r:gD k A):A.units+64 < cLine:=by have:=r.un;omega
def Sz:TA:=λ_ H Q=>Q [] H
def Of (ta:TE)(tr:TA):TA:=λσ H Q=>ta σ H λx H1=>tr σ H1 λxs H2=>Q (x::xs) H2
section
variable {X:Cx} {e:WX} {es:List WX} {te:TE} {t:TA} {pos:Pos}
theorem iQ:PA X [] Sz:=λ_ _ _ _ H Q I h=>zcT ⟨[],H,I,.nil,h⟩
theorem fm (ha:PE X e te)(hr:PA X es t)(hs:WH (e::es) X.env=(false,XJ e X.env)::WH es X.env:=by rfl):PA X (e::es) (Of te t):=by
 intro pos pins s σ H Q I h
 rw[hs]
 show WT _ _ (spliced ((false,XJ e X.env)::X3 pos (WH es X.env))) _ _ s
 refine zcI (thn (ha pins s σ H _ I h) λu s1 ⟨x,H1,I1,r1,q1⟩=>?_)
 exact thn (hr pos pins s1 σ H1 _ I1 q1) λus s2 ⟨xs,H2,I2,r2,q2⟩=>⟨x::xs,H2,I2,.cons r1 r2,q2⟩
def Uz (t:TA):TE:=λσ H Q=>t σ H λxs H1=>xs.length<=sizeLine/\∀ p,H1 p=none->Q (.ref p) (upd H1 p (.tup xs))
def Vd (t:TA):TE:=λσ H Q=>t σ H λxs H1=>xs.length<=sizeLine/\∀ p,H1 p=none->Q (.ref p) (upd H1 p (.lst xs))
theorem Bt {x1}(h:PA X es t):PE X (.Tuple es x1 pos) (Uz t):=by
 intro pins s σ H Q I hq
 refine wpAny_Tuple_spliced (thn (h pos pins s σ H _ I hq) λus s1 ⟨xs,H1,I1,r,z,q⟩=>⟨by rw[← r.length];exact z,?_⟩)
 have hf:H1 s1.heap.objs.size=none:=I1.hok.fresh (WG _)
 refine ⟨.ref s1.heap.objs.size,upd H1 s1.heap.objs.size (.tup xs),I1.laid (t':=s1.toks) (λb u e=>Wn _ e) (WG _) ?_,rfl,q _ hf⟩
 exact ⟨z,us,r,⟨_,WN _ rfl⟩⟩
theorem GK (h:PA X es t):PE X (.List es pos) (Vd t):=by
 intro pins s σ H Q I hq
 refine wpAny_List_spliced (thn (h pos pins s σ H _ I hq) λus s1 ⟨xs,H1,I1,r,z,q⟩=>⟨by rw[← r.length];exact z,?_⟩)
 have hf:H1 s1.heap.objs.size=none:=I1.hok.fresh (WG _)
 refine ⟨.ref s1.heap.objs.size,upd H1 s1.heap.objs.size (.lst xs),I1.laid (t':=s1.toks) (λb u e=>Wn _ e) (WG _) ?_,rfl,q _ hf⟩
 exact ⟨z,us,0,r,WN _ rfl⟩
end
abbrev Sp:=List V->Hp->VK->XK->Prop
abbrev CXT:=List Env->Hp->Wu->XK->Wo->Wu->Prop
structure MV (P:W7) (w:Xh) (K:Wj) (mg:Str->Option Wo) (base:Heap) (A:XA) (outer:List Env) (s:Wu) (H:Hp):Prop where
 frames:A.frames=some outer
 mod:Mod K mg base
 bs:∀ b o,base.get? b=some o->s.heap.get? b=some o/\H b=none
 bsz:base.objs.size<=s.heap.objs.size
 sI:s.heap.FunFrames base outer
 frf:∀ b∈frs outer,H b=none
 hok:HOk P w H s.heap
 bare:zaK s.gens
def CE (outer:List Env)(P:W7)(w:Xh)(H:Hp)(s:Wu)(Q:VK)(u:Wo)(s':Wu):Prop:=
 ∃ v H',s'.os=s.os/\zaK s'.gens/\Un (frs outer) [] H H' s.heap s'.heap/\HOk P w H' s'.heap/\RelV v u/\Q v H'
def CR (CX:CXT)(outer:List Env)(P:W7)(w:Xh)(H:Hp)(s:Wu)(Q:VK)(E:XK)(r:zdh)(s':Wu):Prop:=
 match r with
 | .ok (.ret u)=>CE outer P w H s Q u s'
 | .ok _=>False
 | .error e=>CX outer H s E e s'
structure lC (P:W7) (w:Xh) (K:Wj) (mg:Str->Option Wo) (base:Heap) (CX:CXT) (k:Nat) (f:Addr) (fd:WV) (ps:List Str) (sp:Sp):Prop where
 len:∀ vs H Q E,sp vs H Q E->vs.length=ps.length
 run:∀ (A:XA) (outer:List Env) (s:Wu) (H:Hp) (args:Args) (us:List Wo) (vs:List V) (Q:VK) (E:XK),gD k A->MV P w K mg base A outer s H->zcU s fd args (ps.zip us)->Vals vs us->sp vs H Q E->
  Y4 (WW P w) A (.call (.ref f) args) (CR CX outer P w H s Q E) s
theorem lC.mono {P:W7}{w:Xh}{K:Wj}{mg:Str->Option Wo}{base:Heap}{CX:CXT}{j k:Nat}{f:Addr}{fd:WV}{ps:List Str}{sp:Sp}(F:lC P w K mg base CX j f fd ps sp)(h:j<=k) :
  lC P w K mg base CX k f fd ps sp:=⟨F.len,λA outer s H args us vs Q E hr=>F.run A outer s H args us vs Q E (hr.mono h)⟩
section
variable {X:Cx} {pins:List (Addr×Obj)} {σ:St} {H:Hp} {s s':Wu}
theorem Inv.VD (I:Inv X pins σ H s):MV X.prog X.w X.K X.mg X.base X.A X.stack s H:=
 ⟨I.ok.frames,I.ok.mod,I.bs,Xi I.ok.bsz I.sz,I.stack,I.CG,I.hok,I.bare⟩
theorem Inv.after {Q:VK}{u:Wo}(I:Inv X pins σ H s)(h:CE X.stack X.prog X.w H s Q u s'):EP X pins σ Q u s':=by
 obtain ⟨v,H',os,bare,un,hok,r,q⟩:=h
 obtain ⟨hh,g,d,t,os'⟩:=s'
 obtain rfl:os'=s.os:=os
 exact ⟨v,H',I.call (h':=hh) (g':=g) (d':=d) (t':=t) (ch:=[]) un hok bare (λb z=>absurd z (by simp)),r,q⟩
end
def Sx (sp:Sp)(dvs:List V)(E:XK)(t:TA):TE:=λσ H Q=>t σ H λvs H1=>sp (vs++dvs) H1 Q E
def Binds (K:Wj)(fd:WV)(ps:List Str)(ds:List Wo):Prop:=
 ∀ (s:Wu) (us:List Wo),K.In s.heap->(us++ds).length=ps.length->zcU s fd ⟨us,[]⟩ (ps.zip (us++ds))
theorem Binds.all {K:Wj}{fd:WV}{ps:List Str}(h:∀ us:List Wo,us.length=ps.length->bindArgs fd ⟨us,[]⟩=pure (ps.zip us)):Binds K fd ps []:=λs us _ hl=>by
 rw[W8] at hl ⊢
 exact .of_eq (h us hl)
def Passes (CX:CXT)(X:Cx)(E:XK):Prop:=∀ (pins:List (Addr×Obj)) (σ:St) (H:Hp) (s:Wu) (e:Wo) (s':Wu),Inv X pins σ H s->CX X.stack H s E e s'->X.xe e s'
section
variable {X:Cx} {CX:CXT} {k:Nat} {f C:Addr} {fd:WV} {ps:List Str} {sp:Sp} {dvs:List V} {ds:List Wo} {E:XK} {x m:Str} {p pos apos:Pos} {e o:WX} {es:List WX} {ta:TE} {t:TA}
theorem OD {pins:List (Addr×Obj)}{σ:St}{H:Hp}{s:Wu}{Q:VK}{us:List Wo}{vs:List V}(F:lC X.prog X.w X.K X.mg X.base CX k f fd ps sp)(hr:gD k X.A)(hb:Binds X.K fd ps ds)(hd:Vals dvs ds)(hx:Passes CX X E)
  (I:Inv X pins σ H s) (r:Vals vs us) (h:sp (vs++dvs) H Q E):WT (WW X.prog X.w) X.A (zcj (.ref f) us) (EP X pins σ Q) X.xe s:=by
 have r2:Vals (vs++dvs) (us++ds):=r.append hd
 have hl:(us++ds).length=ps.length:=by rw[← r2.length];exact F.len _ _ _ _ h
 refine wpAny_call (zcV (F.run X.A X.stack s H ⟨us,[]⟩ (us++ds) (vs++dvs) Q E hr I.VD (hb s us I.kIn hl) r2 h) λr s' hq=>?_)
 cases r with
 | error e=>exact hx pins σ H s e s' I hq
 | ok fl=>
  cases fl with
  | ret u=>exact I.after hq
  | next=>exact Ww hq
  | brk=>exact Ww hq
  | cont=>exact Ww hq
theorem Nx (F:lC X.prog X.w X.K X.mg X.base CX k f fd ps sp)(hr:gD k X.A)(hg:Gl X x)(hm:X.mg x=some (.ref f))(hk:ZS X.K (.ref f)=true)(hb:Binds X.K fd ps ds)(hd:Vals dvs ds)(hx:Passes CX X E)
  (ha:PA X (e::es) t) (hdb:(x == ("__debug__" : Str))=false:=by decide) (he:WH (e::es) X.env=(false,XJ e X.env)::WH es X.env:=by rfl) (hpl:(X3 pos (WH es X.env)).any (·.1)=false:=by rfl) :
  PE X (.Call (.Name x p) (e::es) [] pos) (Sx sp dvs E t):=by
 intro pins s σ H Q I h
 refine ZC (Cr I hg hm ?_ hdb)
 refine PySem.W.callWith_K (h₀:=X.base) I.ok.mod.kin hk (thn (ha pos pins s σ H _ I h) λus s1 ⟨vs,H1,I1,r,q⟩=>⟨I1.kIn,?_⟩) he hpl
 exact OD F hr hb hd hx I1 r q
end
def PK (X:Cx)(kws:List Zh)(t:TA):Prop:=
 ∀ (pos:Pos) (pins:List (Addr×Obj)) (s:Wu) (σ:St) (H:Hp) (Q:List V->Hp->Prop),Inv X pins σ H s->t σ H Q->WT (WW X.prog X.w) X.A (evalAll ((zax pos (Y7 kws X.env)).map (·.2))) (AP X pins σ Q) X.xe s
section
variable {X:Cx} {CX:CXT} {k:Nat} {f C:Addr} {fd:WV} {ps ks:List Str} {sp:Sp} {E:XK} {x m:Str} {p pos apos kpos:Pos} {e o:WX} {es:List WX} {kws:List Zh} {te ta:TE} {t tk:TA} {nm:Option Str}
theorem Pr:PK X [] Sz:=λ_ _ _ _ H Q I h=>wpAny_evalAll_nil ⟨[],H,I,.nil,h⟩
theorem K8 (ha:PE X e te)(hr:PK X kws t):PK X (⟨nm,e,kpos⟩::kws) (Of te t):=by
 intro pos pins s σ H Q I h
 show WT _ _ (evalAll ((do let v ← XJ e X.env;standAt pos;pure v)::(zax pos (Y7 kws X.env)).map (·.2))) _ _ s
 refine wpAny_evalAll_cons (Wl (thn (ha pins s σ H _ I h) λu s1 ⟨x,H1,I1,r1,q1⟩=>Wl (zaS (WD ?_))))
 exact thn (hr pos pins s1 σ H1 _ I1 q1) λus s2 ⟨xs,H2,I2,r2,q2⟩=>⟨x::xs,H2,I2,.cons r1 r2,q2⟩
variable {g:List Wo->List Wo->List Wo} {gV:List V->List V->List V}
end
structure aK (N P:List Str) (sc:Scope):Prop where
 kind:sc.kind=.function
 co:sc.isCoroutine=false
 gen:sc.isGenerator=false
 nd:N.Nodup
 pre:N.take P.length=P
 par:∀ x∈P,sc.names.lookup x=some .local∨sc.names.lookup x=some .cell
 QR:∀ y∈sc.names,y.2≠.free
theorem uA {Z4:Str->Option zaa}{x:Str}:∀ {binds:List (Str×Wo)} {m:Str->Option Wo},(∀ v,(x,v) ∉ binds)->zdN Z4 binds m x=m x
 | [],_,_=>rfl
 | (n,v)::r,m,h=>by
  unfold zdN
  rw[uA λw hw=>h w (WU _ hw)]
  split
  ·have:x≠n:=by rintro rfl;exact h v WL
   simp[this]
  ·rfl
theorem t7 {Z4:Str->Option zaa}{x:Str}:∀ {binds:List (Str×Wo)} {m:Str->Option Wo},(∀ v,(x,v) ∉ binds)->zdO Z4 binds m x=m x
 | [],_,_=>rfl
 | (n,v)::r,m,h=>by
  unfold zdO
  rw[t7 λw hw=>h w (WU _ hw)]
  split
  ·rfl
  ·have:x≠n:=by rintro rfl;exact h v WL
   simp[this]
theorem uk {Z4:Str->Option zaa}{x:Str}{v:Wo}:∀ {P:List Str} {vs:List Wo} {i:Nat} {m:Str->Option Wo},P.Nodup->P[i]? = some x->vs[i]? = some v->Z4 x=some .local->
  zdN Z4 (P.zip vs) m x=some v
 | [],_,_,_,_,h,_,_=>by simp at h
 | _::_,[],_,_,_,_,h,_=>by simp at h
 | p::P,w::vs,0,m,nd,h1,h2,hk=>by
  simp at h1 h2;subst h1;subst h2
  show zdN Z4 ((p,w)::P.zip vs) m p=_
  unfold zdN
  rw[uA λv hv=>(Xk.mp nd).1 (WI hv).1,if_pos hk]
  simp
 | p::P,w::vs,i+1,m,nd,h1,h2,hk=>by
  show zdN Z4 ((p,w)::P.zip vs) m x=_
  unfold zdN
  exact uk (i:=i) (Xk.mp nd).2 (by simpa using h1) (by simpa using h2) hk
theorem ud {Z4:Str->Option zaa}{x:Str}{v:Wo}:∀ {P:List Str} {vs:List Wo} {i:Nat} {m:Str->Option Wo},P.Nodup->P[i]? = some x->vs[i]? = some v->Z4 x≠some .local->
  zdO Z4 (P.zip vs) m x=some v
 | [],_,_,_,_,h,_,_=>by simp at h
 | _::_,[],_,_,_,_,h,_=>by simp at h
 | p::P,w::vs,0,m,nd,h1,h2,hk=>by
  simp at h1 h2;subst h1;subst h2
  show zdO Z4 ((p,w)::P.zip vs) m p=_
  unfold zdO
  rw[t7 λv hv=>(Xk.mp nd).1 (WI hv).1,if_neg hk]
  simp
 | p::P,w::vs,i+1,m,nd,h1,h2,hk=>by
  show zdO Z4 ((p,w)::P.zip vs) m x=_
  unfold zdO
  exact ud (i:=i) (Xk.mp nd).2 (by simpa using h1) (by simpa using h2) hk
def start (N:List Str)(vs:List V):St:=vs.map some++X9 (N.length - vs.length) none
def yF (CX:CXT)(P:W7)(w:Xh)(K:Wj)(mg:Str->Option Wo)(base:Heap)(N:List Str)(qual:Str)(scope:Scope)(f:Addr)(cd:Wo)(A:XA)(outer:List Env)(s:Wu)(H:Hp)(E:XK):Cx where
 prog:=P
 w:=w
 K:=K
 mg:=mg
 base:=base
 A:=A.deeper (zay qual scope s.heap.objs.size f cd)
 N:=N
 s₀:=s
 H₀:=H
 env:=zay qual scope s.heap.objs.size f cd
 outer:=outer
 stack:=zay qual scope s.heap.objs.size f cd::outer
 ex:=[]
 calm:=true
 fn:=λ_=>true
 pn:=[]
 xe:=λe s'=>WT (WW P w) (A.deeper (zay qual scope s.heap.objs.size f cd)) (leaving (zay qual scope s.heap.objs.size f cd) e) (λ_ s''=>CX outer H s E e s'') (λe' s''=>CX outer H s E e' s'') s'
theorem wV {sc:Scope}{n:Nat}{x:Str}(h:sc.names.lookup x=some .cell):∃ c,(cellsFrom n sc.names []).lookup x=some c:=by
 have q:=zbp sc.names n [] (.inl h)
 exact zaU.mp q
theorem Fj {CX:CXT}{P:W7}{w:Xh}{K:Wj}{mg:Str->Option Wo}{base:Heap}{N ps:List Str}{qual:Str}{scope:Scope}{f:Addr}{cd:Wo}{A:XA}{outer:List Env}{s s1:Wu}{H:Hp}{E:XK}{us:List Wo}{vs:List V}
  (S:aK N ps scope) (hd:A.handled=none) (e0:MV P w K mg base A outer s H) (hl:vs.length=ps.length) (r:Vals vs us)
  (x:InCallC s s.heap.objs.size (zdN (zay qual scope s.heap.objs.size f cd).kindOf (ps.zip us) λ_=>none) (cellsFrom (s.heap.objs.size+1) scope.names []) (zdO (zay qual scope s.heap.objs.size f cd).kindOf (ps.zip us) λ_=>none) s1) :
  Inv (yF CX P w K mg base N qual scope f cd A outer s H E) [] (start N vs) H s1:=by
 have hpl:ps.length<=N.length:=by have:=congrArg Xr S.pre;rw[YO] at this;omega
 obtain ⟨h1,tk,rfl,hk⟩:=x.done
 have noA:∀ b:Addr,b ∉ (yF CX P w K mg base N qual scope f cd A outer s H E).ex:=λb z=>absurd (show b∈([]:List Addr) from z) (by simp)
 refine ⟨⟨e0.mod,S.kind,rfl,rfl,WG _,λy z c h1 h2=>?_,λy hy=>?_,λy c _ h=>?_,λ_=>hd,Around.frames_deeper e0.frames,.inr ⟨rfl,rfl⟩,λb z=>absurd z (noA b),e0.bs,e0.bsz,λb _ _=>noA b,λb z=>absurd z (noA b),e0.sI,e0.frf⟩,
  rfl,e0.bare,Un.kept hk,⟨_,x.toInCall.ns,λi y v h1 h2 h3=>?_⟩,λy c h=>⟨_,x.cell y c h⟩,e0.hok.fresh (WG _),λy c h=>?_,λp hp=>absurd (show p∈([]:List (Addr×Obj)) from hp) (by simp),e0.hok.kept hk,?_⟩
 ·exact name_of_addr x.apart (XT h1) (XT h2)
 ·have hy:scope.names.lookup y=some .cell∨scope.names.lookup y=some .free:=hy
  rcases hy with hy | hy
  ·exact wV hy
  ·exact absurd rfl (S.QR _ (XT hy))
 ·exact ZP (x.above y c (XT h))
 ·have hi:i < vs.length:=by
   unfold start at h2
   by_cases hi:i < vs.length
   ·exact hi
   ·rw[Y8 (by simpa using hi)] at h2
    rw[za4] at h2
    split at h2<;>cases h2
  have ha:vs[i]? = some v:=by
   unfold start at h2
   rw[Zm (by simpa using hi),Xo] at h2
   cases e:vs[i]? with
   | none=>rw[e] at h2;cases h2
   | some a=>rw[e] at h2;cases h2;rfl
  obtain ⟨u,hu,rv⟩:=r.get ha
  have hp:ps[i]? = some y:=by
   rw[← S.pre,List.getElem?_take_of_lt (by omega)];exact h1
  have ndP:ps.Nodup:=by rw[← S.pre];exact S.nd.sublist (List.take_sublist _ _)
  refine ⟨u,rv,?_⟩
  rcases S.par y (YD hp) with k | k
  ·exact .inl ⟨k,uk ndP hp hu k⟩
  ·obtain ⟨c,e⟩:=wV (n:=s.heap.objs.size+1) k
   refine .inr ⟨.inl k,c,e,?_⟩
   have q:=x.cell y c e
   rw[ud ndP hp hu (by show scope.names.lookup y≠_;rw[k];decide)] at q
   exact q
 ·exact e0.hok.fresh (ZP (x.above y c (XT h)))
 ·unfold start
  show _=N.length
  rw[Wv,Wm,Z0]
  omega
theorem T6 {CX:CXT}{P:W7}{w:Xh}{K:Wj}{mg:Str->Option Wo}{base:Heap}{k:Nat}{f:Addr}{name qual:Str}{params:Arguments}{body:List Stmt}{scope:Scope}{dV kV doc pm cdv ct oc:Wo}{an od:Option Addr}
  {osl:Array (Option Wo)} {N ps:List Str} {sp:Sp} (lk:K.lookup f=some ⟨oc,od,.func (Zi name qual params body scope dV kV doc pm an cdv ct),osl⟩) (hcd:zbX K cdv qual=true) (S:aK N ps scope)
  (len:∀ vs H Q E,sp vs H Q E->vs.length=ps.length)
  (hbody:∀ (A:XA) (outer:List Env) (s:Wu) (H:Hp) (vs:List V) (Q:VK) (E:XK),gD k (A.deeper (zay qual scope s.heap.objs.size f cdv))->sp vs H Q E->
   ∃ t,PSs (yF CX P w K mg base N qual scope f cdv A outer s H E) body t/\t { nx:=λ_ H'=>Q .non H',rt:=Q } (start N vs) H) :
  lC P w K mg base CX (k+1) f (Zi name qual params body scope dV kV doc pm an cdv ct) ps sp:=by
 refine ⟨len,λA outer s H args us vs Q E hr e0 hb r hsp=>?_⟩
 have hl:=len _ _ _ _ hsp
 have KX:K.In s.heap:=e0.mod.kin.keeps λb o e=>(e0.bs b o e).1
 have lim:s.heap.NoLimit:=e0.mod.nolimit.keeps λb o e=>(e0.bs b o e).1
 have gB:∀ y∈ps.zip us,scope.names.lookup y.1=some .local∨(scope.names.lookup y.1=some .cell/\((cellsFrom (s.heap.objs.size+1) scope.names []).lookup y.1).isSome=true):=λ⟨n,v⟩ hy=>by
  rcases S.par n (WI hy).1 with q | q
  ·exact .inl q
  ·exact .inr ⟨q,zbp _ _ _ (.inl q)⟩
 refine codeAny_call_function hr.depth (KX _ _ lk) rfl S.co S.gen rfl (PySem.W.codeRec_of KX hcd) (hb _ _ _ _ ?_)
 refine wpAny_newFunctionEnv_cells S.kind gB λenv he s1 x=>?_
 subst he
 refine ⟨lim.keeps x.toInCall.keep,codeAny_func ?_⟩
 obtain ⟨t,ht,hq⟩:=hbody A outer s H vs Q E (hr.deeper _) hsp
 have I:Inv (yF CX P w K mg base N qual scope f cdv A outer s H E) [] (start N vs) H s1:=Fj S hr.hd e0 hl r x
 refine XM (ht [] s1 (start N vs) H _ I hq) (λfl s' hs=>?_) λe s' hs=>hs
 have fin:∀ {σ':St} {H':Hp} {v:V} {u:Wo},Inv (yF CX P w K mg base N qual scope f cdv A outer s H E) [] σ' H' s'->RelV v u->Q v H'->CE outer P w H s Q u s':=
  λ{σ' H' v u} J rv q=>⟨v,H',J.os,J.bare,J.base,J.hok,rv,q⟩
 cases fl with
 | ret u=>
  obtain ⟨v,σ',H',J,rv,q⟩:=hs
  exact fin J rv q
 | next=>
  obtain ⟨σ',H',J,q⟩:=hs
  exact fin (v:=V.non) (u:=YG) J rfl q
 | brk=>
  obtain ⟨_,_,_,q⟩:=hs
  exact Ww q
 | cont=>
  obtain ⟨_,_,_,q⟩:=hs
  exact Ww q
end L2
namespace L2
open PySem PySem.Spec PyProof.Rows
section
variable {X:Cx} {x:Str} {p pos:Pos} {e:WX} {es:List WX} {t:TA} {id T:String} {r:List V->Hp->VK->Prop}
def tCB (r:List V->Hp->VK->Prop)(t:TA):TE:=λσ H Q=>t σ H λvs H1=>r vs H1 Q
theorem pZ (hc:cH X (.builtin id) r)(hg:Gl X x)(hm:X.mg x=none)(hv:Yp x=some (.builtin id))(ha:PA X (e::es) t)(hn:x ≠ "__name__" := by decide)(hdb:(x == ("__debug__" : Str))=false:=by decide)
  (he:WH (e::es) X.env=(false,XJ e X.env)::WH es X.env:=by rfl) (hpl:(X3 pos (WH es X.env)).any (·.1)=false:=by rfl):PE X (.Call (.Name x p) (e::es) [] pos) (tCB r t):=by
 intro pins s σ H Q I h
 refine ZC (jI I hg hm hv ?_ hn hdb)
 exact zdi (thn (ha pos pins s σ H _ I h) λus s1 ⟨vs,H1,I1,r1,q1⟩=>hc pins s1 σ H1 vs us Q I1 r1 q1) he hpl
theorem tR (hc:cH X (.type T) r)(hg:Gl X x)(hm:X.mg x=none)(hv:Yp x=some (.type T))(ha:PA X (e::es) t)(hn:x ≠ "__name__" := by decide)(hdb:(x == ("__debug__" : Str))=false:=by decide)
  (he:WH (e::es) X.env=(false,XJ e X.env)::WH es X.env:=by rfl) (hpl:(X3 pos (WH es X.env)).any (·.1)=false:=by rfl):PE X (.Call (.Name x p) (e::es) [] pos) (tCB r t):=by
 intro pins s σ H Q I h
 refine ZC (jI I hg hm hv ?_ hn hdb)
 exact XE (thn (ha pos pins s σ H _ I h) λus s1 ⟨vs,H1,I1,r1,q1⟩=>hc pins s1 σ H1 vs us Q I1 r1 q1) he hpl
end
end L2
namespace HT
open PySem PyProof.Rows
section
open PySem.SeqAt
open PySem.AutoSeq1 (wpAny_loadPart')
open PySem.MeetsSeq PySem.MeetsSeq2 PySem.MeetsSeq3
end
section
variable {prog:W7} {w:Xh} {A:XA} {E:Wo->Wu->Prop} {s:Wu}
theorem MM {t b:Addr}{vs ws:List Wo}{Q:Wo->Wu->Prop}(ht:zdr s.heap t vs.toArray)(hb:zdr s.heap b ws.toArray)(hv:vs≠[])
  (h1:ws=[]->Q (.ref t) s) (h2:ws≠[]->Q (.ref s.heap.objs.size) { s with heap:=s.heap.push { cls:=.type "tuple", data:=.seq (vs++ws).toArray } })
  (hsz:vs.length+ws.length<=sizeLine):WT (WW prog w) A (YN .Add (.ref t) (.ref b)) Q E s:=by
 obtain ⟨⟨cls,dd,data,sl⟩,ho,hc,n,hd⟩:=id ht
 obtain ⟨⟨cls2,dd2,data2,sl2⟩,ho2,hc2,n2,hd2⟩:=id hb
 simp only at hc hd hc2 hd2
 subst hc hd hc2 hd2
 have e:vs.toArray++ws.toArray=(vs++ws).toArray:=by simp
 by_cases hw:ws=[]
 ·exact zbq ⟨_,ho,rfl⟩ ⟨_,ho2,rfl⟩ za5 zcs ZT ZI (Zt _ _)
   (tuple_addW1 t b vs.toArray ws.toArray n n2 dd dd2 sl sl2 (by simpa using hv) (by simp[hw])) ⟨ho,ho2,h1 hw⟩
 ·refine zbq ⟨_,ho,rfl⟩ ⟨_,ho2,rfl⟩ za5 zcs ZT ZI (Zt _ _)
   (tuple_addW2 t b vs.toArray ws.toArray n n2 dd dd2 sl sl2 (by simpa using hv) (by simpa using hw) (by rw[WR,WR];exact hsz)) ⟨ho,ho2,?_⟩
  rw[e]
  exact h2 hw
def sIx (n d:Nat):Option Int->Nat
 | none=>d
 | some v=>if v < 0 then (v+(n:Int)).toNat else min v.toNat n
theorem yL (n d:Nat):sIx n d none=d:=rfl
theorem Dx (n d k:Nat):sIx n d (some (k:Int))=min k n:=by
 show (if (k:Int) < 0 then ((k:Int)+(n:Int)).toNat else min (k:Int).toNat n)=min k n
 rw[if_neg (by omega),ZU]
theorem QB (n d:Nat)(hd:d<=n)(o:Option Int):sIx n d o<=n:=by
 cases o with
 | none=>exact hd
 | some v=>
  show (if v < 0 then (v+(n:Int)).toNat else min v.toNat n)<=n
  by_cases hv:v < 0
  ·rw[if_pos hv];omega
  ·rw[if_neg hv];exact Nat.min_le_right _ _
theorem CN (v:Int)(n d:Nat):(if v < 0 then max (v+(n:Int)) 0 else min v (n:Int))=((sIx n d (some v):Nat):Int):=by
 show (if v < 0 then max (v+(n:Int)) 0 else min v (n:Int))=(((if v < 0 then (v+(n:Int)).toNat else min v.toNat n):Nat):Int)
 by_cases hv:v < 0
 ·simp only[if_pos hv];omega
 ·simp only[if_neg hv];omega
theorem B9 (lo hi:Option Int)(n:Nat):Zn lo hi 1 (n:Int)=(((sIx n 0 lo:Nat):Int),((sIx n n hi:Nat):Int)):=by
 have h1:¬ ((1:Int) < 0):=by omega
 unfold Zn
 simp only[h1,if_false]
 refine zbY ?_ ?_
 ·cases lo with
  | none=>rfl
  | some v=>exact CN v n 0
 ·cases hi with
  | none=>rfl
  | some v=>exact CN v n n
theorem Bg (i j:Nat):Yy (i:Int) (j:Int) 1=j - i:=by
 unfold Yy
 have h1:(1:Int) > 0:=by omega
 simp only[h1,if_true,Int.ediv_one]
 split<;>omega
theorem qT {v:Wo}{o:Option Int}{Q:Option Int->Wu->Prop}(p:IsPart v o)(h:Q o s):WT (WW prog w) A (zdA v) Q E s:=by
 cases p with
 | none=>exact slicePart_none h
 | int i t=>exact slicePart_int h
theorem iw {sl:Addr}{vl vu:Wo}{lo hi:Option Int}{n:Nat}{Q:Int×Int×Nat->Wu->Prop}(hs:s.heap.IsSliceOf sl vl vu .none)(pl:IsPart vl lo)(pu:IsPart vu hi)
  (h:Q (((sIx n 0 lo:Nat):Int),1,sIx n n hi - sIx n 0 lo) s):WT (WW prog w) A (zaz (.ref sl) (pure (n:Int))) Q E s:=by
 obtain ⟨os,hos,hcs,hds⟩:=id hs
 unfold zaz zd3
 refine Wl (Wl (Xp hos hds (x:=vl) rfl (Wl (Xp hos hds (x:=vu) rfl (Wl (Xp hos hds (x:=.none) rfl (WD ?_)))))))
 refine Wl (slicePart_none ?_)
 show WT _ _ (if ((1:Int) == 0)=true then _ else _) _ _ s
 rw[if_neg (by decide)]
 refine Wl (qT pl (Wl (qT pu (Wl (WD ?_)))))
 show WT _ _ (match Zn lo hi 1 (n:Int) with | (lo,hi)=>pure (lo,(1:Int),Yy lo hi 1)) _ _ s
 rw[B9 lo hi n]
 show WT _ _ (pure (((sIx n 0 lo:Nat):Int),(1:Int),Yy ((sIx n 0 lo:Nat):Int) ((sIx n n hi:Nat):Int) 1)) _ _ s
 rw[Bg]
 exact WD h
theorem JE (xs:Array Wo)(i k:Nat):((W5 k).filterMap λ(m:Nat)=>xs[((i:Int)+(m:Int)*1).toNat]?).toArray=((xs.toList.drop i).take k).toArray:=by
 have e:(λ(m:Nat)=>xs[((i:Int)+(m:Int)*1).toNat]?)=λm=>xs[i+m]?:=by
  funext m
  have:((i:Int)+(m:Int)*1).toNat=i+m:=by omega
  rw[this]
 rw[e]
 have:=pick_run xs i k
 rw[List.filterMap_map] at this
 have e2:((λx=>xs[x]?) ∘ λx=>i+x)=λm=>xs[i+m]?:=rfl
 rw[e2] at this
 rw[this]
theorem ma {t sl:Addr}{items:Array Wo}{vl vu:Wo}{lo hi:Option Int}{Q:Wo->Wu->Prop}(ht:zdr s.heap t items)(hs:s.heap.IsSliceOf sl vl vu .none)(pl:IsPart vl lo)(pu:IsPart vu hi)
  (hw:¬ (sIx items.size 0 lo=0/\sIx items.size items.size hi=items.size))
  (h:Q (.ref s.heap.objs.size) { s with heap:=s.heap.push { cls:=.type "tuple", data:=.seq ((items.toList.drop (sIx items.size 0 lo)).take (sIx items.size items.size hi - sIx items.size 0 lo)).toArray } })
  (hsz:items.size<=sizeLine):WT (WW prog w) A (zaq (.ref t) (.ref sl)) Q E s:=by
 have CD:sizeOk (.seq ((items.toList.drop (sIx items.size 0 lo)).take (sIx items.size items.size hi - sIx items.size 0 lo)).toArray):=by
  show ((items.toList.drop (sIx items.size 0 lo)).take (sIx items.size items.size hi - sIx items.size 0 lo)).toArray.size<=sizeLine
  rw[WR,YO,Zj,Zs]
  omega
 have hj:sIx items.size items.size hi<=items.size:=QB _ _ (WG _) hi
 obtain ⟨os,hos,hcs,hds⟩:=id hs
 have hTs:s.TypeIs (.ref sl) "slice" := ⟨os,hos,hcs⟩
 unfold zaq
 try with_reducible refine Y1 ?_
 first | refine Wl (WD ?_) | skip
 refine Wl (zcW ht.typeIs (by decide) ?_)
 refine Wl (Xy (name:=OF "__getitem__") ht.typeIs Xu
  (X6 Xu ht.typeIs zck ?_ (zcJ _ _)))
 show WT _ _ (zaA (.ref t) >>= _) _ _ s
 refine Wl (tupleItemsOf_ ht ?_)
 refine Wl (wpAny_typeOf hTs ?_)
 rw[if_pos (by decide)]
 refine Wl (iw hs pl pu ?_)
 have hno:¬ ((((sIx items.size 0 lo:Nat):Int) == 0&&(1:Int) == 1&&(sIx items.size items.size hi - sIx items.size 0 lo) == items.size)=true):=by
  intro q
  rw[Xm,Xm] at q
  have q1:((sIx items.size 0 lo:Nat):Int)=0:=eq_of_beq q.1.1
  have q2:sIx items.size items.size hi - sIx items.size 0 lo=items.size:=eq_of_beq q.2
  exact hw ⟨by omega,by omega⟩
 show WT _ _ (if (((sIx items.size 0 lo:Nat):Int) == 0&&(1:Int) == 1&&(sIx items.size items.size hi - sIx items.size 0 lo) == items.size)=true then _ else _) _ _ s
 rw[if_neg hno,JE]
 first
  | exact Wl (m:=XC _) (Xz (WD ⟨_,rfl,WD h⟩) CD)
  | exact Wl (m:=XC _) (Xz (Wl (WD (WD ⟨_,rfl,WD h⟩))) CD)
  | exact Wl (Wl (m:=XC _) (Xz (WD (WD ⟨_,rfl,WD h⟩)) CD))
  | exact Wl (Wl (m:=XC _) (Xz (WD ⟨_,rfl,WD h⟩) CD))
end
end HT
namespace L2
open PySem PySem.Spec PyProof.Rows
abbrev TO:=St->Hp->(Option Int->Hp->Prop)->Prop
def PO (X:Cx)(e:Option WX)(t:TO):Prop:=
 ∀ (pins:List (Addr×Obj)) (s:Wu) (σ:St) (H:Hp) (Q:Option Int->Hp->Prop),Inv X pins σ H s->t σ H Q->
  WT (WW X.prog X.w) X.A (evalPart e X.env) (λu s'=>∃ o H',Inv X pins σ H' s'/\IsPart u o/\Q o H') X.xe s
def Lh:TO:=λ_ H Q=>Q none H
def SY (t:TE):TO:=λσ H Q=>t σ H λx H1=>∃ i,x=.int i/\Q (some i) H1
theorem intsAre_of {ns:List Int}:∀ {us:List Wo},Vals (ns.map V.int) us->Zx us ns:=by
 induction ns with
 | nil=>intro us r;rw[Zk] at r;cases r;exact .nil
 | cons n ns ih=>
  intro us r
  rw[WE] at r
  cases r with
  | cons r1 r2=>
   obtain ⟨t,e⟩:=r1
   subst e
   exact .cons n t (ih r2)
section
variable {X:Cx} {e:WX} {te:TE} {lo hi:Option WX} {tl th:TO} {pos p2:Pos}
theorem KS:PO X none Lh:=by
 intro pins s σ H Q I h
 rw[evalPart_none]
 exact WD ⟨none,H,I,.none,h⟩
theorem Nl (h:PE X e te):PO X (some e) (SY te):=by
 intro pins s σ H Q I hw
 rw[evalPart_some]
 refine thn (h pins s σ H _ I hw) λu s1 ⟨x,H1,I1,r1,q1⟩=>?_
 obtain ⟨i,rfl,q⟩:=q1
 obtain ⟨t,rfl⟩:=r1
 exact ⟨some i,H1,I1,.int i t,q⟩
def SlR (X:Cx)(r:V->Option Int->Option Int->Hp->VK->Prop):Prop:=
 ∀ (pins:List (Addr×Obj)) (s:Wu) (σ:St) (H:Hp) (x:V) (v vl vu:Wo) (lo hi:Option Int) (sl:Addr) (Q:VK),Inv X pins σ H s->RelV x v->s.heap.IsSliceOf sl vl vu .none->IsPart vl lo->IsPart vu hi->r x lo hi H Q->
  ∃ T id,zdP (.type T) "__getitem__" = pure (some (.builtin id))/\s.TypeIs v T/\WT (WW X.prog X.w) X.A (zaq v (.ref sl)) (EP X pins σ Q) X.xe s
theorem SlR.or {r r':V->Option Int->Option Int->Hp->VK->Prop}(h:SlR X r)(h':SlR X r'):SlR X (λx lo hi H Q=>r x lo hi H Q∨r' x lo hi H Q):=by
 intro pins s σ H x v vl vu lo hi sl Q I rx hs pl pu q
 rcases q with q | q
 ·exact h pins s σ H x v vl vu lo hi sl Q I rx hs pl pu q
 ·exact h' pins s σ H x v vl vu lo hi sl Q I rx hs pl pu q
def tSl (r:V->Option Int->Option Int->Hp->VK->Prop)(te:TE)(tl th:TO):TE:=λσ H Q=>te σ H λx H1=>tl σ H1 λl H2=>th σ H2 λu H3=>r x l u H3 Q
theorem JY {r:V->Option Int->Option Int->Hp->VK->Prop}(hr:SlR X r)(he:PE X e te)(hl:PO X lo tl)(hu:PO X hi th):PE X (.Subscript e (.Slice lo hi none p2) pos) (tSl r te tl th):=by
 intro pins s σ H Q I h
 refine zdQ (thn (he pins s σ H _ I h) λv s1 ⟨x,H1,I1,r1,q1⟩=>?_)
 refine wpAny_Slice (thn (hl pins s1 σ H1 _ I1 q1) λvl s2 ⟨l,H2,I2,pl,q2⟩=>thn (hu pins s2 σ H2 _ I2 q2) λvu s3 ⟨u,H3,I3,pu,q3⟩=>?_)
 rw[evalPart_none]
 refine WD ?_
 have I4:Inv X pins σ H3 { s3 with heap:=s3.heap.push { cls:=.type "slice", data:=.fields #[vl,vu,.none] } }:=I3.kept (t':=s3.toks) λb ob q=>Wn _ q
 obtain ⟨T,id,hT,ht,hg⟩:=hr pins { s3 with heap:=s3.heap.push { cls:=.type "slice", data:=.fields #[vl,vu,.none] } } σ H3 x v vl vu l u s3.heap.objs.size Q I4 r1 (zet ..) pl pu q3
 show WT (WW X.prog X.w) X.A (zct e (.Slice lo hi none p2) v (.ref s3.heap.objs.size)) (EP X pins σ Q) X.xe { s3 with heap:=s3.heap.push { cls:=.type "slice", data:=.fields #[vl,vu,.none] } }
 exact tail_any (ops:=[.ref s3.heap.objs.size,v]) ht hT hg (by with_unfolding_all rfl)
def xq (xs:List V)(lo hi:Option Int):List V:=(xs.drop (HT.sIx xs.length 0 lo)).take (HT.sIx xs.length xs.length hi - HT.sIx xs.length 0 lo)
theorem nU (xs:List V)(lo hi:Option Int):(xq xs lo hi).length<=xs.length:=by
 unfold xq
 rw[YO,Zj]
 omega
def Vb (K:Wj):V->Option Int->Option Int->Hp->VK->Prop:=λx lo hi H Q=>∃ a xs,x=.ref a/\SqT K H a xs/\
 ¬ (HT.sIx xs.length 0 lo=0/\HT.sIx xs.length xs.length hi=xs.length)/\∀ p,H p=none->Q (.ref p) (upd H p (.tup (xq xs lo hi)))
theorem Rn:SlR X (Vb X.K):=by
 intro pins s σ H x v vl vu lo hi sl Q I rx hs pl pu h
 obtain ⟨a,xs,rfl,hx,hw,q⟩:=h
 cases rx
 obtain ⟨its,r,ht,hz⟩:=I.tuple hx
 have hlen:its.toArray.size=xs.length:=by rw[WR];exact r.length.symm
 refine ⟨"tuple", _,Xu.lookup,ht.typeIs,?_⟩
 refine HT.ma ht hs pl pu (by rw[hlen];exact hw) ?_ (by rw[hlen];exact hz)
 rw[hlen]
 refine ⟨.ref s.heap.objs.size,_,I.laid (t':=s.toks) (o:=.tup (xq xs lo hi)) (λb ob q=>Wn _ q) (WG _) ?_,rfl,q _ (I.hok.fresh (WG _))⟩
 exact ⟨Xi (nU xs lo hi) hz,_,(r.drop (HT.sIx xs.length 0 lo)).take (HT.sIx xs.length xs.length hi - HT.sIx xs.length 0 lo),uV.new _ _⟩
def Oc (K:Wj):R2:=λx y H Q=>∃ a b xs ys,x=.ref a/\y=.ref b/\SqT K H a xs/\SqT K H b ys/\xs≠[]/\xs.length+ys.length<=sizeLine/\
 (ys=[]->Q (.ref a) H)/\(ys≠[]->∀ p,H p=none->Q (.ref p) (upd H p (.tup (xs++ys))))
theorem Vals.vN {xs:List V}{us:List Wo}(r:Vals xs us):us=[]↔xs=[]:=by
 cases r with
 | nil=>simp
 | cons _ _=>simp
theorem KZ:OpR X (YN .Add) (Oc X.K):=by
 intro pins s σ H x y v u Q I rx ry h
 obtain ⟨a,b,xs,ys,rfl,rfl,ha,hb,hx,hz,q1,q2⟩:=h
 cases rx
 cases ry
 obtain ⟨its,r1,p1,_⟩:=I.tuple ha
 obtain ⟨its2,r2,p2,_⟩:=I.tuple hb
 refine HT.MM p1 p2 (λz=>hx (r1.vN.mp z)) (λz=>⟨.ref a,H,I,rfl,q1 (r2.vN.mp z)⟩) (λz=>?_) (by rw[← r1.length,← r2.length];exact hz)
 refine ⟨.ref s.heap.objs.size,_,I.laid (t':=s.toks) (o:=.tup (xs++ys)) (λb ob q=>Wn _ q) (WG _) ?_,rfl,q2 (λw=>z (r2.vN.mpr w)) _ (I.hok.fresh (WG _))⟩
 exact ⟨by rw[Wv];exact hz,_,r1.append r2,uV.new _ _⟩
end
end L2
namespace L2
open PySem PySem.Spec PyProof.Rows
def ixN (n:Nat)(i:Int):Option Nat:=if 0<=i then (if i < n then some i.toNat else none) else if -(n:Int)<=i then some (i+n).toNat else none
def atI {α:Type}(xs:List α)(i:Int):Option α:=(ixN xs.length i).bind λj=>xs[j]?
theorem My {n:Nat}{i:Int}{j:Nat}(h:ixN n i=some j):zce i n=some j/\j < n/\-(n:Int)<=i/\i < n:=by
 unfold ixN at h
 by_cases h0:0<=i
 ·rw[if_pos h0] at h
  by_cases h1:i < n
  ·rw[if_pos h1] at h
   have e:i.toNat=j:=Xg h
   exact ⟨by rw[seqIndex_of h0 h1,e],by omega,by omega,h1⟩
  ·rw[if_neg h1] at h;cases h
 ·rw[if_neg h0] at h
  by_cases h1:-(n:Int)<=i
  ·rw[if_pos h1] at h
   have e:(i+n).toNat=j:=Xg h
   exact ⟨by rw[seqIndex_neg (by omega) h1,e],by omega,h1,by omega⟩
  ·rw[if_neg h1] at h;cases h
theorem vc {α:Type}{xs:List α}{i:Int}{v:α}(h:atI xs i=some v):∃ j,zce i xs.length=some j/\xs[j]? = some v/\j < xs.length/\-(xs.length:Int)<=i/\i < xs.length:=by
 unfold atI at h
 cases e:ixN xs.length i with
 | none=>rw[e] at h;cases h
 | some j=>
  rw[e] at h
  obtain ⟨h1,h2,h3,h4⟩:=My e
  exact ⟨j,h1,h,h2,h3,h4⟩
def Ct (b:WX):Prop:=∀ o i,zbZ b false o i=operate [o,i] (zaq o i)
def IxR (X:Cx)(r:R2):Prop:=
 ∀ (value slice:WX) (pins:List (Addr×Obj)) (s:Wu) (σ:St) (H:Hp) (x y:V) (v u:Wo) (Q:VK),Inv X pins σ H s->RelV x v->RelV y u->r x y H Q->
  zbZ slice false v u=operate [v,u] (zaq v u)->WT (WW X.prog X.w) X.A (zct value slice v u) (EP X pins σ Q) X.xe s
def MtR (X:Cx)(id:String)(r:V->List V->Hp->VK->Prop):Prop:=
 ∀ (pins:List (Addr×Obj)) (s:Wu) (σ:St) (H:Hp) (x:V) (xs:List V) (v:Wo) (us:List Wo) (Q:VK),Inv X pins σ H s->RelV x v->Vals xs us->r x xs H Q->
  WT (WW X.prog X.w) X.A (zcj (.builtin id) (v::us)) (EP X pins σ Q) X.xe s
section
variable {X:Cx} {a b:WX} {ta tb:TE} {pos:Pos}
theorem IxR.or {r r':R2}(h:IxR X r)(h':IxR X r'):IxR X (λx y H Q=>r x y H Q∨r' x y H Q):=by
 intro value slice pins s σ H x y v u Q I rx ry q hs
 rcases q with q | q
 ·exact h value slice pins s σ H x y v u Q I rx ry q hs
 ·exact h' value slice pins s σ H x y v u Q I rx ry q hs
theorem SK {r:R2}(hr:IxR X r)(ha:PE X a ta)(hb:PE X b tb)(hs:Ct b):PE X (.Subscript a b pos) (tOp r ta tb):=by
 intro pins s σ H Q I h
 exact zdQ (RF ha hb I h λv u s2 x y H2 I2 rx ry q=>hr a b pins s2 σ H2 x y v u Q I2 rx ry q (hs _ _))
def T4 (K:Wj):R2:=λx y H Q=>∃ p xs i v,x=.ref p/\y=.int i/\SqL K H p xs/\atI xs i=some v/\Q v H
def SQ (K:Wj):R2:=λx y H Q=>∃ p xs i v,x=.ref p/\y=.int i/\SqT K H p xs/\atI xs i=some v/\Q v H
def TZ:R2:=λx y H Q=>∃ z i c,x=.str z/\y=.int i/\z.length<=sizeLine/\atI z.cps.toList i=some c/\Q (.str ⟨#[c]⟩) H
theorem KW:IxR X (T4 X.K):=by
 intro value slice pins s σ H x y v u Q I rx ry h hs
 obtain ⟨p,xs,i,z,rfl,rfl,hq,he,q⟩:=h
 cases rx
 obtain ⟨t,rfl⟩:=ry
 obtain ⟨its,r,pl,hz⟩:=I.list hq
 obtain ⟨j,h1,h2,h3,h4,h5⟩:=vc he
 obtain ⟨w,ew,rw'⟩:=r.get h2
 have hl:=r.length
 have hn:=pY
 have fin:EP X pins σ Q w s:=⟨z,H,I,rw',q⟩
 by_cases h0:0<=i
 ·have hj:i.toNat=j:=by
   rw[seqIndex_of h0 h5] at h1
   exact Xg h1
  exact item_listR pl.isList h0 (by omega) (by rw[hj];simpa using ew) fin hs
 ·have hj:(i+(its.toArray.size:Int)).toNat=j:=by
   rw[seqIndex_neg (by omega) h4] at h1
   rw[WR,← hl]
   exact Xg h1
  exact zbr (x:=w) pl.isList.typeIs zcX.lookup
   (wpAny_getItem_list_neg (Q:=λr s'=>r=w/\EP X pins σ Q r s') pl.isList (by omega) (by rw[WR]<;>omega) (by omega) (by rw[hj];simpa using ew) ⟨rfl,fin⟩) hs
theorem Qz:IxR X (SQ X.K):=by
 intro value slice pins s σ H x y v u Q I rx ry h hs
 obtain ⟨p,xs,i,z,rfl,rfl,hq,he,q⟩:=h
 cases rx
 obtain ⟨t,rfl⟩:=ry
 obtain ⟨its,r,pl,hz⟩:=I.tuple hq
 obtain ⟨j,h1,h2,h3,h4,h5⟩:=vc he
 obtain ⟨w,ew,rw'⟩:=r.get h2
 have hl:=r.length
 have hn:=pY
 have fin:EP X pins σ Q w s:=⟨z,H,I,rw',q⟩
 exact zbr (x:=w) pl.typeIs slot_tuple_getitem.lookup
  (getItem_tuple (j:=j) (Q:=λr s'=>r=w/\EP X pins σ Q r s') pl (by omega) (by omega) (by rw[WR,← hl];exact h1) (by simpa using ew) ⟨rfl,fin⟩) hs
theorem Qr:IxR X TZ:=by
 intro value slice pins s σ H x y v u Q I rx ry h hs
 obtain ⟨z,i,c,rfl,rfl,hz,he,q⟩:=h
 obtain ⟨t,rfl⟩:=rx
 obtain ⟨t',rfl⟩:=ry
 obtain ⟨j,h1,h2,h3,h4,h5⟩:=vc he
 have hl:z.cps.toList.length=z.length:=by simp[Str.length]
 rw[hl] at h1 h4 h5
 have hn:=pY
 exact tail_any (typeIs_str s z t) slot_str_getitem.lookup (getItem_str (c:=c) (by
  have e1:decide (i < -(2 ^ 63:Int))=false:=decide_eq_false (by omega)
  have e2:decide (i ≥ 2 ^ 63)=false:=decide_eq_false (by omega)
  rw[e1,e2,zd4]) (by rw[h1];simpa using h2) ⟨.str ⟨#[c]⟩,H,I.tok _,⟨_,rfl⟩,q⟩) hs
def rIx (K:Wj):R2:=λx y H Q=>T4 K x y H Q∨SQ K x y H Q∨TZ x y H Q
theorem QP:IxR X (rIx X.K):=KW.or (Qz.or Qr)
theorem Inv.lst {pins:List (Addr×Obj)}{σ:St}{H:Hp}{s:Wu}{p:Addr}{xs:List V}(I:Inv X pins σ H s)(h:H p=some (.lst xs)) :
  ∃ (its:List Wo) (n:Nat),Vals xs its/\s.heap.get? p=some { cls:=.type "list", data:=.seq its.toArray n }/\xs.length<=sizeLine:=by
 obtain ⟨z,its,n,r,e⟩:=I.hok p _ h
 exact ⟨its,n,r,e,z⟩
theorem vM (lo hi:Option Int)(n:Nat):(ZJ lo hi none n).1=((HT.sIx n 0 lo:Nat):Int)/\(ZJ lo hi none n).2.1=((HT.sIx n n hi:Nat):Int)/\(ZJ lo hi none n).2.2=1:=by
 refine ⟨?_,?_,rfl⟩
 ·cases lo with
  | none=>simp[ZJ,HT.sIx]
  | some i=>
   simp only[ZJ,HT.sIx,zdj,show (1:Int) > 0 by decide,if_true]
   by_cases h:i < 0
   ·simp only[h,if_true]<;>omega
   ·simp only[h,if_false]<;>omega
 ·cases hi with
  | none=>simp[ZJ,HT.sIx]
  | some i=>
   simp only[ZJ,HT.sIx,zdj,show (1:Int) > 0 by decide,if_true]
   by_cases h:i < 0
   ·simp only[h,if_true]<;>omega
   ·simp only[h,if_false]<;>omega
theorem tJ (its:List Wo)(lo hi:Option Int):slicePick its.toArray lo hi none=((its.drop (HT.sIx its.length 0 lo)).take (HT.sIx its.length its.length hi - HT.sIx its.length 0 lo)).toArray:=by
 obtain ⟨h1,h2,h3⟩:=vM lo hi its.toArray.size
 unfold slicePick
 rw[h1,h2,h3]
 simp only[sliceRange_one,pick_run,WR]<;>rfl
def Vm (K:Wj):V->Option Int->Option Int->Hp->VK->Prop:=λx lo hi H Q=>∃ a xs,x=.ref a/\SqL K H a xs/\∀ p,H p=none->Q (.ref p) (upd H p (.lst (xq xs lo hi)))
theorem MB:SlR X (Vm X.K):=by
 intro pins s σ H x v vl vu lo hi sl Q I rx hs pl pu h
 obtain ⟨a,xs,rfl,hx,q⟩:=h
 cases rx
 obtain ⟨its,r,ht,hz⟩:=I.list hx
 have hlen:=r.length
 refine ⟨"list", _,zcX.lookup,ht.isList.typeIs,?_⟩
 refine wpAny_getItem_list_slice ht.isList hs pl pu .none (by simp) ?_ (by rw[WR]<;>omega)
 rw[tJ,← hlen]
 refine ⟨.ref s.heap.objs.size,_,I.laid (t':=s.toks) (o:=.lst (xq xs lo hi)) (λb ob q=>Wn _ q) (WG _) ?_,rfl,q _ (I.hok.fresh (WG _))⟩
 exact ⟨Xi (nU xs lo hi) hz,_,0,(r.drop (HT.sIx xs.length 0 lo)).take (HT.sIx xs.length xs.length hi - HT.sIx xs.length 0 lo),WN _ rfl⟩
def Ot:V->Bool
 | .non=>true
 | .bl _=>true
 | .int _=>true
 | .str _=>true
 | _=>false
def eqV:V->V->Bool
 | .non,.non=>true
 | .bl a,.bl b=>a == b
 | .bl a,.int b=>(if a then 1 else 0) == b
 | .int a,.bl b=>a == (if b then 1 else 0)
 | .int a,.int b=>a == b
 | .str a,.str b=>a == b
 | _,_=>false
def inV (x:V)(xs:List V):Bool:=xs.any λy=>eqV y x
def rIn (K:Wj)(neg:Bool):R2:=λx y H Q=>∃ p xs,y=.ref p/\(SqL K H p xs∨SqT K H p xs)/\Ot x=true/\xs.all Ot=true/\Q (.bl (if neg then !inV x xs else inV x xs)) H
theorem vp:cH X (.builtin "len") (λxs H Q=>∃ p ys,xs=[.ref p]/\(SqL X.K H p ys∨SqT X.K H p ys)/\Q (.int ys.length) H):=by
 intro pins s σ H xs us Q I r h
 obtain ⟨p,ys,rfl,hq,q⟩:=h
 obtain ⟨u,rfl,rx⟩:=vals1 r
 cases rx
 have hn:=pY
 rcases hq with hq | hq
 ·obtain ⟨its,r',pl,hz⟩:=I.list hq
  have hlen:=r'.length
  exact Calls.call_len_list pl.isList (by simp only[WR]<;>omega) ⟨.int ys.length,H,I.tok _,⟨s.toks+1,by rw[WR,hlen]⟩,q⟩
 ·obtain ⟨its,r',pl,hz⟩:=I.tuple hq
  have hlen:=r'.length
  exact len_tuple pl (by simp only[WR]<;>omega) ⟨.int ys.length,H,I.tok _,⟨s.toks+1,by rw[WR,hlen]⟩,q⟩
theorem wo:cH X (.builtin "len") (λxs H Q=>∃ z,xs=[.str z]/\z.length<=sizeLine/\Q (.int z.length) H):=by
 intro pins s σ H xs us Q I r h
 obtain ⟨z,rfl,hz,q⟩:=h
 obtain ⟨u,rfl,t,rfl⟩:=vals1 r
 have hn:=pY
 exact len_str (by omega) ⟨.int z.length,H,I.tok _,⟨_,rfl⟩,q⟩
theorem cH.or {f:Wo}{r r':List V->Hp->VK->Prop}(h:cH X f r)(h':cH X f r'):cH X f (λxs H Q=>r xs H Q∨r' xs H Q):=by
 intro pins s σ H xs us Q I rs q
 rcases q with q | q
 ·exact h pins s σ H xs us Q I rs q
 ·exact h' pins s σ H xs us Q I rs q
theorem i7:cH X (.type "list") (λxs H Q=>∃ p ys,xs=[.ref p]/\(SqL X.K H p ys∨SqT X.K H p ys)/\∀ l,H l=none->Q (.ref l) (upd H l (.lst ys))):=by
 intro pins s σ H xs us Q I r h
 obtain ⟨p,ys,rfl,hq,q⟩:=h
 obtain ⟨u,rfl,rx⟩:=vals1 r
 cases rx
 have fin:∀ (its:List Wo),Vals ys its->ys.length<=sizeLine->∀ (h':Heap) (c':Nat),(∀ b o',s.heap.get? b=some o'->h'.get? b=some o')->
   h'.get? s.heap.objs.size=some { cls:=.type "list", dict:=none,data:=.seq its.toArray c',slots:=#[] }->EP X pins σ Q (.ref s.heap.objs.size) { s with heap:=h' }:=λits r' hz h' c' kp e=>
  ⟨.ref s.heap.objs.size,_,I.laid (t':=s.toks) kp (WG _) (show cQ X.prog X.w _ h' _ (.lst ys) from ⟨hz,its,c',r',e⟩),rfl,q _ (I.hok.fresh (WG _))⟩
 rcases hq with hq | hq
 ·obtain ⟨its,r',pl,hz⟩:=I.list hq
  have hlen:=r'.length
  obtain ⟨o,ho,hc,n,hd⟩:=pl.isList
  exact call_list_seq p (.inl rfl) ho hc hd (λh' c' kp e=>fin its r' hz h' c' kp e) (by simp only[WR]<;>omega)
 ·obtain ⟨its,r',pl,hz⟩:=I.tuple hq
  have hlen:=r'.length
  obtain ⟨o,ho,hc,n,hd⟩:=pl
  exact call_list_seq p (.inr rfl) ho hc hd (λh' c' kp e=>fin its r' hz h' c' kp e) (by simp only[WR]<;>omega)
theorem aQ:cH X (.type "tuple") (λxs H Q=>∃ p ys,xs=[.ref p]/\((SqL X.K H p ys/\∀ l,H l=none->Q (.ref l) (upd H l (.tup ys)))∨(SqT X.K H p ys/\Q (.ref p) H))):=by
 intro pins s σ H xs us Q I r h
 obtain ⟨p,ys,rfl,h⟩:=h
 obtain ⟨u,rfl,rx⟩:=vals1 r
 cases rx
 rcases h with ⟨hq,q⟩ | ⟨hq,q⟩
 ·obtain ⟨its,r',pl,hz⟩:=I.list hq
  have hlen:=r'.length
  refine call_tuple_list pl.isList (λh' kp=>?_) (by simp only[WR]<;>omega)
  have I1:Inv X pins σ H { s with heap:=h' }:=I.kept (t':=s.toks) kp
  have I2:Inv X pins σ (upd H h'.objs.size (.tup ys)) { s with heap:=h'.push { cls:=.type "tuple", data:=.seq its.toArray } }:=
   I1.laid (t':=s.toks) (λb o e=>Wn _ e) (WG _) (show cQ X.prog X.w _ _ _ (.tup ys) from ⟨hz,its,r',uV.new _ _⟩)
  exact ⟨.ref h'.objs.size,_,I2,rfl,q _ (I1.hok.fresh (WG _))⟩
 ·obtain ⟨its,r',pl,hz⟩:=I.tuple hq
  exact call_tuple_same pl ⟨.ref p,H,I,rfl,q⟩
def tyV (K:Wj)(T:String)(x:V)(H:Hp):Prop:=match x with
 | .str _=>T = "str"
 | .int _=>T = "int"
 | .ref p=>(T = "list" /\ ∃ xs,SqL K H p xs)∨(T = "tuple" /\ ∃ o,K.lookup p=some o/\o.cls=.type "tuple" /\ o.dict=none)∨
   (T = "dict" /\ ((∃ kvs,H p=some (.dK kvs))∨∃ kvs,H p=some (.dT kvs)))∨(T = "set" /\ ∃ S n,H p=some (.set S n))
 | _=>False
theorem RE {pins:List (Addr×Obj)}{σ:St}{H:Hp}{s:Wu}{T:String}{x:V}{v:Wo}(I:Inv X pins σ H s)(r:RelV x v)(ty:tyV X.K T x H) :
  s.TypeIs v T/\∀ a,v=.ref a->∃ ob,s.heap.get? a=some ob/\ob.dict=none:=by
 cases x with
 | str z=>
  obtain ⟨t,rfl⟩:=r
  cases (show T = "str" from ty)
  exact ⟨typeIs_str s z t,λ_ e=>nomatch e⟩
 | int i=>
  obtain ⟨t,rfl⟩:=r
  cases (show T = "int" from ty)
  exact ⟨typeIs_int s i t,λ_ e=>nomatch e⟩
 | ref p=>
  cases r
  rcases ty with ⟨rfl,xs,hq⟩ | ⟨rfl,o,hk,hc,hd⟩ | ⟨rfl,hk⟩ | ⟨rfl,S,n,hk⟩
  ·obtain ⟨its,_,pl,_⟩:=I.list hq
   refine ⟨pl.isList.typeIs,λa e=>?_⟩
   cases e
   obtain ⟨o,n,e,c,hd,_⟩:=pl
   exact ⟨o,e,hd⟩
  ·refine ⟨⟨o,I.kIn p o hk,hc⟩,λa e=>?_⟩
   cases e
   exact ⟨o,I.kIn _ o hk,hd⟩
  ·have z:∃ o,s.heap.get? p=some o/\o.ExactDict:=by
    rcases hk with ⟨kvs,hk⟩ | ⟨kvs,hk⟩
    ·obtain ⟨_,_,_,_,o,_,_,e,ex,_⟩:=I.hok p _ hk
     exact ⟨o,e,ex⟩
    ·obtain ⟨_,_,_,_,o,_,_,e,ex,_⟩:=I.hok p _ hk
     exact ⟨o,e,ex⟩
   obtain ⟨o,e,ex⟩:=z
   refine ⟨⟨o,e,ex.1⟩,λa e2=>?_⟩
   cases e2
   exact ⟨o,e,ex.2.1⟩
  ·obtain ⟨o,_,_,_,e,ex,_⟩:=I.hok p _ hk
   refine ⟨⟨o,e,ex.1⟩,λa e2=>?_⟩
   cases e2
   exact ⟨o,e,ex.2.1⟩
 | _=>exact Ww ty
def tBM (K:Wj)(T:String)(r:V->List V->Hp->VK->Prop)(to:TE)(t:TA):TE:=λσ H Q=>to σ H λx H1=>tyV K T x H1/\t σ H1 λxs H2=>r x xs H2 Q
variable {o e:WX} {es:List WX} {to:TE} {t:TA} {name:Str} {apos cpos:Pos} {T id:String} {r:V->List V->Hp->VK->Prop}
theorem zu (pa:PlainAttrs T)(slot:Slot T name id)(hty:typeOf (.builtin id)=pure (.type "method_descriptor"))(hm:MtR X id r)(ho:PE X o to)(ha:PA X (e::es) t)
  (hbase:Zu o name X.env (XJ o X.env)=XJ o X.env:=by rfl)
  (hfew:((X3 cpos (WH (e::es) X.env)).all (λx=>!x.1)&&(zax cpos (Y7 [] X.env)).all (λx=>x.1.isSome)
   && decide ((e::es).length+([]:List Zh).length+(if ([]:List Zh).isEmpty then 0 else 1) < 30))=true:=by rfl)
  (hline:(apos.endLine == cpos.line)=true:=by rfl) (hs:WH (e::es) X.env=(false,XJ e X.env)::WH es X.env:=by rfl) (hplain:(X3 cpos (WH es X.env)).any (·.1)=false:=by rfl) :
  PE X (.Call (.Attribute o name apos) (e::es) [] cpos) (tBM X.K T r to t):=by
 intro pins s σ H Q I h
 refine wpAny_Call_method_late hbase hfew hline rfl (thn (ho pins s σ H _ I h) λv s1 ⟨x,H1,I1,r1,ty,q1⟩=>?_)
 obtain ⟨h1,h2⟩:=RE I1 r1 ty
 refine ⟨T,id,pa,slot,hty,h1,h2,?_⟩
 have hA:=ha cpos pins s1 σ H1 _ I1 q1
 rw[hs] at hA ⊢
 refine Calls.callWith_builtin (by show (false || (X3 cpos (WH es X.env)).any (·.1))=false;rw[hplain]<;>rfl) (Calls.evalArgs_plain ?_)
 exact thn hA λus s2 ⟨vs,H2,I2,r2,q2⟩=>hm pins s2 σ H2 x vs v us Q I2 r1 r2 q2
end
end L2
namespace L2
open PySem PySem.Spec PyProof.Rows
def MtM (X:Cx)(id:String)(r:V->List V->Hp->VK->Prop):Prop:=
 ∀ (pins:List (Addr×Obj)) (s:Wu) (σ:St) (H:Hp) (x:V) (xs:List V) (v:Wo) (us:List Wo) (Q:VK),Inv X pins σ H s->RelV x v->Vals xs us->r x xs H Q->
  WT (WW X.prog X.w) X.A (zcj (.builtin id) (v::us)) (EP X pins σ Q) X.xe s
theorem Vals.one:∀ {x:V} {us:List Wo},Vals [x] us->∃ u,us=[u]/\RelV x u
 | _,_,.cons r .nil=>⟨_,rfl,r⟩
theorem Vals.zero:∀ {us:List Wo},Vals [] us->us=[]
 | _,.nil=>rfl
theorem Vals.eraseIdx:∀ {xs:List V} {us:List Wo} (i:Nat),Vals xs us->Vals (xs.eraseIdx i) (us.eraseIdx i)
 | _,_,_,.nil=>.nil
 | _,_,0,.cons _ t=>t
 | _,_,i+1,.cons r t=>.cons r (Vals.eraseIdx i t)
theorem uw {α:Type}:∀ (l:List α) (i:Nat),(l.eraseIdx i).length<=l.length
 | [],_=>WG _
 | _::_,0=>zab _
 | _::r,i+1=>za6 (uw r i)
section
variable {X:Cx} {pins:List (Addr×Obj)} {σ:St} {H:Hp} {s:Wu} {l b:Addr} {xs ys zs:List V}
theorem Inv.LN {its its':List Wo}{n:Nat}{f:Array Wo->Array Wo}{t':Nat}(I:Inv X pins σ H s)(hH:H l=some (.lst xs))
  (e:s.heap.get? l=some { cls:=.type "list", data:=.seq its.toArray n }) (hf:f its.toArray=its'.toArray) (hv:Vals ys its') (hz:ys.length<=sizeLine) :
  Inv X pins σ (upd H l (.lst ys)) { s with heap:=s.heap.update l (zbs f),toks:=t' }:=by
 have q:=PySem.IsL.update e f
 rw[hf] at q
 refine I.write (x:=l) (e:=l) (by rw[hH];exact trivial) (.inl rfl) (λb' u hb hu=>(XB s.heap (zbs f) (W9 hb)).trans hu) ⟨_,q⟩ ?_
 exact ⟨hz,its',_,hv,q⟩
theorem Inv.U7 {its:List Wo}{t':Nat}(I:Inv X pins σ H s)(hv:Vals ys its)(hz:ys.length<=sizeLine) :
  Inv X pins σ (upd H s.heap.objs.size (.lst ys)) { s with heap:=s.heap.push { cls:=.type "list", data:=.seq its.toArray },toks:=t' }:=
 I.laid (λ_ _ q=>Wn _ q) (WG _) ⟨hz,its,0,hv,WN _ rfl⟩
theorem Inv.fresh (I:Inv X pins σ H s):H s.heap.objs.size=none:=I.hok.fresh (WG _)
theorem Inv.NO (I:Inv X pins σ H s)(hH:H l=some (.lst xs)):xs.length<=sizeLine/\∃ (its:List Wo) (n:Nat),Vals xs its/\xs.length=its.length/\s.heap.get? l=some { cls:=.type "list", data:=.seq its.toArray n }:=by
 obtain ⟨z,its,n,r,e⟩:=I.hok l _ hH
 exact ⟨z,its,n,r,r.length,e⟩
theorem xh {n:Nat}(h:n<=sizeLine):XZ n=false:=by
 unfold XZ
 exact decide_eq_false (by omega)
end
section
variable {X:Cx}
def Mw:V->List V->Hp->VK->Prop:=λx vs H Q=>∃ l xs y,x=.ref l/\vs=[y]/\H l=some (.lst xs)/\xs.length < sizeLine/\Q .non (upd H l (.lst (xs++[y])))
theorem t9:MtM X "list.append" Mw:=by
 intro pins s σ H x vs v us Q I rx rv h
 obtain ⟨l,xs,y,rfl,rfl,hH,hz,q⟩:=h
 cases rx
 obtain ⟨u,rfl,ru⟩:=rv.one
 obtain ⟨z,its,n,r,hl,e⟩:=I.NO hH
 refine Z5 F.slot_list_append ⟨_,e,rfl⟩ F.entry_list_append (F.args_list_append_2 _ _) (PySem.list_append l its.toArray n u (by rw[WR];omega)) ⟨e,?_⟩
 refine ⟨.non,_,I.LN (its':=its++[u]) hH e (by simp) (r.append (.cons ru .nil)) ?_,rfl,q⟩
 rw[Wv,List.length_singleton]
 omega
def Ox:V->List V->Hp->VK->Prop:=λx vs H Q=>∃ l xs i k y,x=.ref l/\vs=[.int i]/\H l=some (.lst xs)/\-(2 ^ 63)<=i/\i < 2 ^ 63/\zce i xs.length=some k/\xs[k]? = some y/\Q y (upd H l (.lst (xs.eraseIdx k)))
theorem IC:MtM X "list.pop" Ox:=by
 intro pins s σ H x vs v us Q I rx rv h
 obtain ⟨l,xs,i,k,y,rfl,rfl,hH,h1,h2,hk,hy,q⟩:=h
 cases rx
 obtain ⟨u,rfl,ru⟩:=rv.one
 obtain ⟨t,rfl⟩:=ru
 obtain ⟨z,its,n,r,hl,e⟩:=I.NO hH
 obtain ⟨w,hw,rw'⟩:=r.get hy
 refine Z5 F.slot_list_pop ⟨_,e,rfl⟩ F.entry_list_pop (F.args_list_pop_2 _ _)
  (MeetsSeq.list_pop_at l its.toArray n i t k w (fitsIndex_both h1 h2) (by rw[WR,← hl];exact hk) (by rw[← Array.getElem?_toList];exact hw) (by rw[WR];omega)) ⟨e,?_⟩
 refine ⟨y,_,I.LN (its':=its.eraseIdx k) hH e ?_ (r.eraseIdx k) ?_,rw',q⟩
 ·show its.toArray.eraseIdxIfInBounds k=(its.eraseIdx k).toArray
  rw[List.eraseIdxIfInBounds_toArray]
 ·have:=uw xs k
  omega
end
section
variable {prog:W7} {w:Xh} {A:XA} {E:Wo->Wu->Prop} {s:Wu}
end
section
variable {X:Cx}
end
end L2
namespace Att
open PySem PySem.W PySem.Calls PyProof.Rows
theorem pD {P:Params}{h:Heap}:∀ (ns:List Int) (vs:List Wo),WellAll P h vs (ns.map WData.int)->Zx vs ns:=by
 intro ns
 induction ns with
 | nil=>
  intro vs w
  rw[Zk] at w
  cases w
  exact .nil
 | cons n ns ih=>
  intro vs w
  rw[WE] at w
  cases w with
  | cons a b=>
   cases a
   exact .cons _ _ (ih _ b)
theorem E4 {l:OpenLaw}{n:Nat}(hn:l.most=some n){P:Params}{h:Heap}{args:List WData}{vals:List Wo}
  (hpre:l.row.toRowW.claim.pre args=true) (hwl:WellAll P h vals args) :
  ∃ a vs ns,vals=[Xc a]/\args=[WData.list (ns.map WData.int)]/\h.get? a=some { cls:=.type "list", data:=.seq vs.toArray }/\Zx vs ns/\ns.length<=n:=by
 have hsh:WShape.hasAll [] args [.list .int]=true:=(pre_splitW hpre).1
 have hc:l.pre.holds [] { args:=args }=true:=(pre_splitW hpre).2
 obtain ⟨d,r,rfl,h1,h2⟩:=hasAllW_cons hsh
 obtain rfl:=hasAllW_nil h2
 obtain ⟨xs,rfl,h3⟩:=hasW_list h1
 obtain ⟨ns,rfl⟩:=items_int h3
 have hlen:ns.length<=n:=by
  unfold OpenLaw.pre at hc
  have h4:(WTm.not (.lt (.lit (.int (n:Int))) (.len (.arg 0)))).holds [] { args:=[.list (ns.map .int)] }=true:=by
   have h4:=(holds_andW hc).1
   rw[hn] at h4
   exact h4
  have h5:=condW_of h4 (w_not (w_lt w_lit (w_len_list (w_arg rfl))))
  rw[Wm] at h5
  refine Nat.le_of_not_lt λq=>?_
  have q':(n:Int) < ((ns.length:Nat):Int):=by omega
  first
   | (rw[decide_eq_true q'] at h5;exact absurd h5 (by decide))
   | (simp at h5;omega)
 cases hwl with
 | cons w1 w2=>
  cases w2
  cases w1 with
  | list ho hall=>exact ⟨_,_,ns,rfl,rfl,ho,pD ns _ hall,hlen⟩
theorem EZ (l:OpenLaw)(args:List WData):l.row.toRowW.claim.post args (.bool true) args=true:=
 postW_of (r:=l.row.toRowW) (X:=(true == true))
  (show zeu [] (.bool true) .bool=true by first | rfl | decide | simp[zeu,WShape.arms,WShape.armsAll])
  (show (WTm.eq .res (.lit (.bool true))).value [] { args:=args,res:=some (.bool true),after:=args }=some (.bool (true == true)) from w_eq_bool (w_res rfl) w_lit) rfl
theorem xw {l:OpenLaw}{n:Nat}{q:W7}{loose:List Str}{XP:(Str->Option Wo)->Heap->Prop}{YP:Xh->Heap->Prop}{d:DefRec}
  (hn:l.most=some n) (hdf:d.params.defaults=[])
  (zcj:∀ (w:Xh) (s₀ s₁:Wu) (mg mb:Str->Option Wo) (fa:Addr) (o:Obj) (pm cd doc:Wo) (a:Addr) (vs:List Wo) (ns:List Int),
   Ground q loose [] XP w s₀ mg mb s₁.heap->YP w s₁.heap->
   s₁.heap.get? fa=some o->o.data=.func (docDef d.name d.params d.body d.scope pm cd doc)->s₁.heap.CodeRec cd d.name->mg d.name=some (.ref fa)->
   s₁.heap.get? a=some { cls:=.type "list", data:=.seq vs.toArray }->Zx vs ns->ns.length<=n->s₁.gens = #[]->
   Y4 (WW l.prog w) zbt (.call (.ref fa) ⟨[.ref a],[]⟩) (λr s'=>r=.ok (.ret (.bool true))/\OldK s₁.heap s'.heap/\s'.os=s₁.os/\zaK s'.gens) s₁) :
  WalkO q loose XP YP l.row.toRowW d [] (λf vs=>zdR f vs):=by
 intro w s₀ s₁ mg mb G Y fa o pm cd doc dV kV ho hd hcd hD hmg hg args vals as hpre hlay hrd hwl hlo
 obtain rfl:dV=.none:=Dflts.none hD hdf
 obtain rfl:kV=.none:=Dflts.noKw hD
 obtain ⟨a,vs,ns,rfl,rfl,hobj,hints,hlen⟩:=E4 hn hpre hwl
 refine enter_call (zcV (zcj w s₀ s₁ mg mb fa o pm cd doc a vs ns G Y ho (fd_plain hd) hcd hmg hobj hints hlen hg) λr s' hq=>?_)
 obtain ⟨rfl,h2,h3,h4⟩:=hq
 exact ⟨.inl ⟨.bool true,.bool true,[],rfl,λ_=>rfl,.bool true,EZ l _,λ_=>⟨zew,λ_ hm=>(nomatch hm)⟩⟩,h2,h3,h4⟩
section
variable {prog:W7} {w:Xh} {A:XA} {E:Wo->Wu->Prop} {s:Wu} {K:Frag}
end
end Att
namespace L2
open PySem PySem.Spec PyProof.Rows
theorem tP:∀ {vs:List Wo} {ns:List Int},Zx vs ns->Vals (ns.map V.int) vs
 | _,_,.nil=>.nil
 | _,_,.cons n t h=>.cons ⟨t,rfl⟩ (tP h)
def M8 (H:Hp):Prop:=∀ b,H b=none∨∃ o xs,H b=some (.frz o (.lst xs))
theorem JJ {P:W7}{w:Xh}{K:Wj}{mg mb:Str->Option Wo}{CX:CXT}{k:Nat}{fa a:Addr}{fd:WV}{x:Str}{sp:Sp}{s₁:Wu}{vs:List Wo}{ns:List Int}
  (KX:K.In s₁.heap) (hns:s₁.heap.Ns X5 mg) (hb:s₁.heap.Ns zdJ mb) (hbb:∀ x:Str,x ≠ "__name__" -> mb x=Yp x) (hlim:s₁.heap.NoLimit) (hg:s₁.gens = #[])
  (ha:s₁.heap.get? a=some { cls:=.type "list", data:=.seq vs.toArray }) (hi:Zx vs ns) (hl:ns.length<=sizeLine) (hr:gD k zbt)
  (F:∀ base:Heap,K.In base->base.Ns X5 mg->lC P w K mg base CX k fa fd [x] sp) (hbind:∀ (s:Wu) (u:Wo),zcU s fd ⟨[u],[]⟩ [(x,u)])
  (hsp:∀ H:Hp,M8 H->SqL K H a (ns.map V.int)->sp [.ref a] H (λv _=>v=.bl true) λ_ _ _=>False)
  (hCX:∀ H e s',CX [] H s₁ (λ_ _ _=>False) e s'->False) :
  Y4 (WW P w) zbt (.call (.ref fa) ⟨[.ref a],[]⟩) (λr s'=>r=.ok (.ret (.bool true))/\OldK s₁.heap s'.heap/\s'.os=s₁.os/\zaK s'.gens) s₁:=by
 have rv:=tP hi
 have V4:=hi.length
 -- from an abstract heap in which nothing but the script may be tracked
 have core:∀ H:Hp,M8 H->SqL K H a (ns.map V.int)->HOk P w H s₁.heap->(∀ b,H b≠none->b=a)->(H a≠none->K.lookup a=none)->
   Y4 (WW P w) zbt (.call (.ref fa) ⟨[.ref a],[]⟩) (λr s'=>r=.ok (.ret (.bool true))/\OldK s₁.heap s'.heap/\s'.os=s₁.os/\zaK s'.gens) s₁:=by
  intro H hO hS hok hA hK
  have base_of:∀ {b:Addr} {o:Obj},s₁.heap.get? b=some o->H b=none->(uR s₁.heap H).get? b=some o:=λe n=>HC e n
  have noA:∀ {b:Addr} {o:Obj} {es:Array zcf} {ep:Nat},s₁.heap.get? b=some o->o.data=.dict es ep->H b=none:=λ{b o es ep} e d=>by
   cases q:H b with
   | none=>rfl
   | some u=>
    have e':b=a:=hA b (by rw[q];simp)
    subst e'
    rw[ha] at e;cases e
    have d':Data.seq vs.toArray _=Data.dict es ep:=d
    cases d'
  have nsK:∀ {b:Addr} {m:Str->Option Wo},s₁.heap.Ns b m->(uR s₁.heap H).Ns b m:=λ{b m} ⟨o,es,ep,e,d,r⟩=>⟨o,es,ep,base_of e (noA e d),d,r⟩
  have hKb:K.In (uR s₁.heap H):=λb o e=>base_of (KX b o e) (by
   cases q:H b with
   | none=>rfl
   | some u=>
    have e':b=a:=hA b (by rw[q];simp)
    subst e'
    rw[hK (by rw[q];simp)] at e;cases e)
  have hM:Mod K mg (uR s₁.heap H):=⟨hKb,nsK hns,⟨mb,nsK hb,hbb⟩,let ⟨mc,h1,h2⟩:=hlim;⟨mc,nsK h1,h2⟩⟩
  have e0:MV P w K mg (uR s₁.heap H) zbt [] s₁ H:=⟨rfl,hM,λb o e=>Nf e,zbu (D9 _ _),trivial,λb hb=>absurd (show b∈([]:List Addr) from hb) (by simp),hok,.of_eq hg⟩
  refine zcV ((F _ hKb (nsK hns)).run zbt [] s₁ H ⟨[.ref a],[]⟩ [.ref a] [.ref a] _ _ hr e0 (hbind s₁ (.ref a)) (.cons rfl .nil) (hsp H hO hS)) λr s' h=>?_
  cases r with
  | error e=>exact (hCX H e s' h).elim
  | ok fl=>
   cases fl with
   | next=>exact Ww h
   | brk=>exact Ww h
   | cont=>exact Ww h
   | ret u=>
    obtain ⟨v,H',os,bare,un,hok',r',q⟩:=h
    have q':v=.bl true:=q
    subst q'
    obtain rfl:u=zdI true:=r'
    refine ⟨rfl,OldK.of_keep λb o e=>?_,os,bare⟩
    cases q:H b with
    | none=>exact un.keep b o e q (by intro z;exact absurd (show b∈([]:List Addr) from z) (by simp)) (by simp)
    | some u=>
     rcases hO b with z | ⟨ob,xs,z⟩
     ·rw[q] at z;cases z
     ·have z2:=un.mU b ob _ z
      obtain ⟨e1,_⟩:=hok b _ z
      obtain ⟨e2,_⟩:=hok' b _ z2
      rw[e] at e1;cases e1
      exact e2
 cases hk:K.lookup a with
 | some o=>
  -- the script is one of the module's own objects
  have e:=KX a o hk
  rw[ha] at e
  cases e
  refine core (λ_=>none) (λ_=>.inl rfl) (.inr ⟨_,vs.toArray,_,hk,rfl,rfl,rfl,by rw[WR,V4];exact hl,by simpa using rv⟩) (λb u z=>by have z':(none:Option HO)=some u:=z;cases z') (λb z=>absurd rfl z) λz=>absurd rfl z
 | none=>
  refine core (λb=>if b=a then some (.frz { cls:=.type "list", data:=.seq vs.toArray } (.lst (ns.map V.int))) else none) (λb=>?_) (.inl (.inr ⟨{ cls:=.type "list", data:=.seq vs.toArray },if_pos rfl⟩)) (λb u z=>?_) (λb z=>?_) λ_=>hk
  ·by_cases hb:b=a
   ·exact .inr ⟨_,_,if_pos hb⟩
   ·exact .inl (if_neg hb)
  ·by_cases hb:b=a
   ·have z':=(if_pos hb).symm.trans z
    cases z'
    subst hb
    exact ⟨ha,by rw[Wm];exact hl,vs,_,rv,ha⟩
   ·have z':=(if_neg hb).symm.trans z
    cases z'
  ·by_cases hb:b=a
   ·exact hb
   ·exact absurd (if_neg hb) z
end L2
namespace L2
open PySem PySem.Spec PyProof.Rows
theorem MC {l:zbC}{n k:Nat}{q:W7}{loose:List Str}{XP:(Str->Option Wo)->Heap->Prop}{YP:Xh->Heap->Prop}{d:DefRec}{K:Params->Wj}{CX:Xh->CXT}{sp:Xh->Sp}{x:Str}
  (hn:l.most=some n) (hn2:n<=sizeLine) (hdf:d.params.defaults=[]) (hr:gD k zbt)
  (hY:∀ (w:Xh) (h:Heap),YP w h->(K w.params).In h)
  (F:∀ (w:Xh) (mg:Str->Option Wo) (fa:Addr) (h:Heap),(K w.params).In h->h.Ns X5 mg->mg d.name=some (.ref fa)->
   ∃ fd:WV,(∀ (s:Wu) (u:Wo),zcU s fd ⟨[u],[]⟩ [(x,u)])/\
    ∀ base:Heap,(K w.params).In base->base.Ns X5 mg->lC l.prog w (K w.params) mg base (CX w) k fa fd [x] (sp w))
  (hsp:∀ (w:Xh) (H:Hp) (a:Addr) (ns:List Int),ns.length<=n->M8 H->SqL (K w.params) H a (ns.map V.int)->sp w [.ref a] H (λv _=>v=.bl true) λ_ _ _=>False)
  (hCX:∀ (w:Xh) (H:Hp) (s:Wu) (e:Wo) (s':Wu),CX w [] H s (λ_ _ _=>False) e s'->False) :
  zd5 q loose XP YP l.row.toRowW d [] (λf vs=>zdR f vs):=by
 refine Att.xw hn hdf λw s₀ s₁ mg mb fa o pm cd doc a vs ns G Y ho hd hcd hmg hobj hints hlen hg=>?_
 have KX:=hY w _ Y
 obtain ⟨fd,hb,hF⟩:=F w mg fa _ KX G.T.g hmg
 exact JJ KX G.T.g G.T.b G.T.builtins G.T.nolimit hg hobj hints (Xi hlen hn2) hr hF hb (λH hO hS=>hsp w H a ns hlen hO hS) λH e s'=>hCX w H s₁ e s'
end L2
namespace L2
open PySem PySem.Spec PyProof.Rows
def lY (s:Stmt):Arguments:=match s with
 | .FunctionDef _ a _ _ _ _ _ _ _ _=>a
 | _=>{ posonlyargs:=[],args:=[],vararg:=none,kwonlyargs:=[],kw_defaults:=[],kwarg:=none,defaults:=[] }
def gM (s:Stmt):List Stmt:=match s with
 | .FunctionDef _ _ b _ _ _ _ _ _ _=>b
 | _=>[]
def aw (s:Stmt):Scope:=match s with
 | .FunctionDef _ _ _ _ _ _ sc _ _ _=>sc
 | _=>{ kind:=.function,names:=[],isGenerator:=false,isCoroutine:=false }
abbrev CX0:CXT:=λ_ _ _ _ _ _=>False
abbrev E0:XK:=λ_ _ _=>False
theorem Tn {X:Cx}:Passes CX0 X E0:=λ_ _ _ _ _ _ _ h=>h.elim
structure Fun (K:Wj) (x qual:Str) (st:Stmt) (f:Addr) (fd:WV):Prop where
 ex:∃ (oc:Wo) (od:Option Addr) (kV doc pm:Wo) (an:Option Addr) (cdv ct:Wo) (osl:Array (Option Wo)),
  fd=Zi x qual (lY st) (gM st) (aw st) .none kV doc pm an cdv ct/\K.lookup f=some ⟨oc,od,.func fd,osl⟩/\zbX K cdv qual=true
 kp:ZS K (.ref f)=true
section
variable {P:W7} {w:Xh} {K:Wj} {mg:Str->Option Wo} {base:Heap}
theorem Fun.ok {x qual:Str}{st:Stmt}{f:Addr}{fd:WV}{N ps:List Str}{k:Nat}{sp:Sp}(F:Fun K x qual st f fd)(S:aK N ps (aw st))(len:∀ vs H Q E,sp vs H Q E->vs.length=ps.length)
  (hbody:∀ (cdv:Wo) (A:XA) (outer:List Env) (s:Wu) (H:Hp) (vs:List V) (Q:VK) (E:XK),gD k (A.deeper (zay qual (aw st) s.heap.objs.size f cdv))->sp vs H Q E->
   ∃ t,PSs (yF CX0 P w K mg base N qual (aw st) f cdv A outer s H E).nox (gM st) t/\t { nx:=λ_ H'=>Q .non H',rt:=Q } (start N vs) H):lC P w K mg base CX0 (k+1) f fd ps sp:=by
 obtain ⟨oc,od,kV,doc,pm,an,cdv,ct,osl,rfl,lk,hcd⟩:=F.ex
 refine T6 lk hcd S len λA outer s H vs Q E hr hsp=>?_
 obtain ⟨t,h,q⟩:=hbody cdv A outer s H vs Q E hr hsp
 exact ⟨t,h.nox,q⟩
theorem Fun.binds {x qual:Str}{st:Stmt}{f:Addr}{fd:WV}{ps:List Str}(F:Fun K x qual st f fd)
  (h:∀ (kV doc pm:Wo) (an:Option Addr) (cdv ct:Wo) (us:List Wo),us.length=ps.length->bindArgs (Zi x qual (lY st) (gM st) (aw st) .none kV doc pm an cdv ct) ⟨us,[]⟩=pure (ps.zip us)):Binds K fd ps []:=by
 obtain ⟨oc,od,kV,doc,pm,an,cdv,ct,osl,rfl,lk,hcd⟩:=F.ex
 exact .all (h kV doc pm an cdv ct)
theorem aV {x qual:Str}{st:Stmt}{f:Addr}{oc:Wo}{od an:Option Addr}{osl:Array (Option Wo)}{kV doc pm cdv ct:Wo}(l:K.lookup f=some ⟨oc,od,.func (Zi x qual (lY st) (gM st) (aw st) .none kV doc pm an cdv ct),osl⟩)
  (c:zbX K cdv qual=true) (k:ZS K (.ref f)=true):Fun K x qual st f (Zi x qual (lY st) (gM st) (aw st) .none kV doc pm an cdv ct):=⟨⟨oc,od,kV,doc,pm,an,cdv,ct,osl,rfl,l,c⟩,k⟩
end
section
variable {X:Cx}
theorem pv (i:Nat){x:Str}{pos:Pos}(hN:X.N[i]? = some x:=by rfl)(hv:Vis X.env.scope x:=by first | exact ZV rfl | exact ZW (ZV rfl) | exact ZW (ZW rfl))(hd:(x == ("__debug__" : Str))=false:=by decide)
  (hcd:(x == ("__classdict__" : Str))=false:=by decide):PE X (.Name x pos) (TU i):=Gi hN hv hd hcd
end
theorem qd {A B:Prop}(h:B):if false=true then A else B:=by
 rw[if_neg YW]
 exact h
theorem qB {A B:Prop}(h:A):if true=true then A else B:=by
 rw[if_pos rfl]
 exact h
def xx (H H':Hp):Prop:=∀ b o,H b=some o->H' b=some o
theorem xx.trans {H H1 H2:Hp}(a:xx H H1)(b:xx H1 H2):xx H H2:=λc o h=>b c o (a c o h)
theorem xx.free {H H':Hp}(e:xx H H'){l:Addr}(h:H' l=zeo):H l=zeo:=by
 cases q:H l with
 | none=>rfl
 | some o=>
  rw[e l o q] at h
  cases h
theorem xx.seq {K:Wj}{H H':Hp}{a:Addr}{xs:List V}(e:xx H H')(h:SqL K H a xs):SqL K H' a xs:=by
 rcases h with (h | ⟨o,h⟩) | h
 ·exact .inl (.inl (e _ _ h))
 ·exact .inl (.inr ⟨o,e _ _ h⟩)
 ·exact .inr h
end L2
namespace L2
open PySem PySem.Spec PyProof.Rows
section
variable {κ:Type} [DecidableEq κ]
def gi (kvs:List (κ×V))(k:κ):Option V:=(kvs.find? λkv=>decide (kv.1=k)).map (·.2)
def putK (kvs:List (κ×V))(k:κ)(v:V):List (κ×V):=
 if (kvs.any λkv=>decide (kv.1=k))=true then kvs.map (λkv=>if kv.1=k then (kv.1,v) else kv) else kvs++[(k,v)]
def NX (kvs:List (κ×V))(k:κ):List (κ×V):=kvs.filter λkv=>decide (kv.1≠k)
theorem l9 {p:κ×V}{r:List (κ×V)}{k:κ}(e:p.1=k):gi (p::r) k=some p.2:=by simp[gi,Xx,e]
theorem mT {p:κ×V}{r:List (κ×V)}{k:κ}(e:¬ p.1=k):gi (p::r) k=gi r k:=by simp[gi,Xx,e]
theorem rq (k:κ):∀ kvs:List (κ×V),(kvs.any λkv=>decide (kv.1=k))=(gi kvs k).isSome
 | []=>rfl
 | p::r=>by
  rw[Zv]
  by_cases e:p.1=k
  ·simp only[l9 e,decide_eq_true e,zee,Option.isSome_some]
  ·rw[mT e,decide_eq_false e,zd6];exact rq k r
theorem ju (kvs:List (κ×V))(k:κ)(v:V):(putK kvs k v).length<=kvs.length+1:=by
 unfold putK
 split
 ·rw[Wm];omega
 ·rw[Wv,WY,zaj];omega
theorem G0 {kvs:List (κ×V)}{k:κ}(v:V)(h:gi kvs k=none):putK kvs k v=kvs++[(k,v)]:=by
 unfold putK
 rw[rq,h]
 exact if_neg (by decide)
theorem oZ.mW {o:Option V}{u:Option Wo}(r:oZ o u):o.isSome=u.isSome:=by
 cases o with
 | none=>cases u with
  | none=>rfl
  | some _=>exact (show False from r).elim
 | some _=>cases u with
  | none=>exact (show False from r).elim
  | some _=>rfl
theorem oZ.getD {o:Option V}{u:Option Wo}{d:V}{d':Wo}(r:oZ o u)(rd:RelV d d'):RelV (o.getD d) (u.getD d'):=by
 cases o with
 | none=>cases u with
  | none=>exact rd
  | some _=>exact (show False from r).elim
 | some _=>cases u with
  | none=>exact (show False from r).elim
  | some _=>exact r
theorem KV.val {kvs:List (κ×V)}{vs:List (κ×Wo)}(r:KV kvs vs)(k:κ):oZ (gi kvs k) (zcg vs k):=by
 unfold KV at r
 induction r with
 | nil=>exact zaB
 | @cons p q ps qs h t ih=>
  obtain ⟨h1,h2⟩:=h
  by_cases e:p.1=k
  ·have e':q.1=k:=h1.symm.trans e
   have b:zcg (q::qs) k=some q.2:=by simp[zcg,Xx,e']
   rw[l9 e,b];exact h2
  ·have e':¬ q.1=k:=λz=>e (h1.trans z)
   have b:zcg (q::qs) k=zcg qs k:=by simp[zcg,Xx,e']
   rw[mT e,b];exact ih
theorem KV.any {kvs:List (κ×V)}{vs:List (κ×Wo)}(r:KV kvs vs)(k:κ):(kvs.any λkv=>decide (kv.1=k))=vs.any λkv=>decide (kv.1=k):=by
 unfold KV at r
 induction r with
 | nil=>rfl
 | cons h t ih=>rw[Zv,Zv,ih,h.1]
theorem KV.RV {kvs:List (κ×V)}{vs:List (κ×Wo)}(r:KV kvs vs)(k:κ){y:V}{u:Wo}(ry:RelV y u) :
  KV (kvs.map λkv=>if kv.1=k then (kv.1,y) else kv) (vs.map λkv=>if kv.1=k then (kv.1,u) else kv):=by
 unfold KV at r ⊢
 induction r with
 | nil=>exact .nil
 | @cons p q ps qs h t ih=>
  rw[WE,WE]
  refine .cons ?_ ih
  obtain ⟨h1,h2⟩:=h
  by_cases e:p.1=k
  ·rw[if_pos e,if_pos (h1.symm.trans e)];exact ⟨h1,ry⟩
  ·rw[if_neg e,if_neg (λz=>e (h1.trans z))];exact ⟨h1,h2⟩
theorem KV.put {kvs:List (κ×V)}{vs:List (κ×Wo)}(r:KV kvs vs)(k:κ){y:V}{u:Wo}(ry:RelV y u):KV (putK kvs k y) (stored vs k u):=by
 unfold putK stored
 rw[r.any k]
 by_cases e:(vs.any λkv=>decide (kv.1=k))=true
 ·rw[if_pos e,if_pos e];exact r.RV k ry
 ·rw[if_neg e,if_neg e];exact zep r ⟨rfl,ry⟩
theorem KV.drop {kvs:List (κ×V)}{vs:List (κ×Wo)}(r:KV kvs vs)(k:κ):KV (NX kvs k) (without vs k):=by
 unfold KV at r ⊢
 unfold NX without
 induction r with
 | nil=>exact .nil
 | @cons p q ps qs h t ih=>
  obtain ⟨h1,h2⟩:=h
  rw[YQ,YQ]
  by_cases e:p.1=k
  ·have a:¬ decide (p.1≠k)=true:=by simp[e]
   have b:¬ decide (q.1≠k)=true:=by simp[h1.symm.trans e]
   rw[if_neg a,if_neg b];exact ih
  ·have e':¬ q.1=k:=λz=>e (h1.trans z)
   have a:decide (p.1≠k)=true:=by simp[e]
   have b:decide (q.1≠k)=true:=by simp[e']
   rw[if_pos a,if_pos b];exact .cons ⟨h1,h2⟩ ih
theorem KV.keys {kvs:List (κ×V)}{vs:List (κ×Wo)}(r:KV kvs vs):kvs.map (·.1)=vs.map (·.1):=by
 unfold KV at r
 induction r with
 | nil=>rfl
 | cons h t ih=>rw[WE,WE,ih,h.1]
theorem KV.length {kvs:List (κ×V)}{vs:List (κ×Wo)}(r:KV kvs vs):kvs.length=vs.length:=zcp r
end
theorem uI {P:W7}{w:Xh}{k:Key}{u:Wo}(r:RelV (kV k) u):(bI P w).is k u=true:=by
 cases k with
 | inl i=>obtain ⟨t,e⟩:=(show ∃ t,u=zat i t from r);subst e;exact zg P w i t
 | inr x=>obtain ⟨t,e⟩:=(show ∃ t,u=zcc x t from r);subst e;exact y9 P w x t
theorem uG {P:W7}{w:Xh}:∀ {ks:List Key} {us:List Wo},Vals (ks.map kV) us->ItemsAre (bI P w) ks us
 | [],_,r=>by rw[Zk] at r;cases r;exact .nil
 | k::ks,_,r=>by
  rw[WE] at r
  cases r with
  | cons h t=>exact .cons (uI h) (uG t)
abbrev KT (H:Hp):List (List Key×V)->List (List Key×Addr×Wo)->Prop:=zaP λp q=>p.1=q.1/\H q.2.1=some (.tup (p.1.map kV))/\RelV p.2 q.2.2
theorem KT.val {H:Hp}{kvs:List (List Key×V)}{xs:List (List Key×Addr×Wo)}(r:KT H kvs xs)(k:List Key):oZ (gi kvs k) ((zds xs k).map (·.2)):=by
 induction r with
 | nil=>exact zaB
 | @cons p q ps qs h t ih=>
  obtain ⟨h1,_,h2⟩:=h
  by_cases e:p.1=k
  ·have e':q.1=k:=h1.symm.trans e
   have b:zds (q::qs) k=some q.2:=by simp[zds,Xx,e']
   rw[l9 e,b];exact h2
  ·have e':¬ q.1=k:=λz=>e (h1.trans z)
   have b:zds (q::qs) k=zds qs k:=by simp[zds,Xx,e']
   rw[mT e,b];exact ih
theorem KT.RV {H:Hp}{kvs:List (List Key×V)}{xs:List (List Key×Addr×Wo)}(r:KT H kvs xs)(k:List Key){y:V}{u:Wo}(ry:RelV y u) :
  KT H (kvs.map λkv=>if kv.1=k then (kv.1,y) else kv) (xs.map (putAt k u)):=by
 induction r with
 | nil=>exact .nil
 | @cons p q ps qs h t ih=>
  rw[WE,WE]
  refine .cons ?_ ih
  obtain ⟨h1,h2,h3⟩:=h
  unfold putAt
  by_cases e:p.1=k
  ·rw[if_pos e,if_pos (h1.symm.trans e)];exact ⟨h1,h2,ry⟩
  ·rw[if_neg e,if_neg (λz=>e (h1.trans z))];exact ⟨h1,h2,h3⟩
theorem KT.put {H:Hp}{kvs:List (List Key×V)}{xs:List (List Key×Addr×Wo)}(r:KT H kvs xs)(k:List Key){b:Addr}{y:V}{u:Wo}(hb:H b=some (.tup (k.map kV)))(ry:RelV y u) :
  KT H (putK kvs k y) (storedH xs k b u):=by
 have e:(kvs.any λkv=>decide (kv.1=k))=(zds xs k).isSome:=by
  rw[rq,(r.val k).mW,zcY]
 unfold putK storedH
 rw[e]
 by_cases q:(zds xs k).isSome=true
 ·rw[if_pos q,if_pos q];exact r.RV k ry
 ·rw[if_neg q,if_neg q];exact zep r ⟨rfl,hb,ry⟩
theorem KT.keeps {H H':Hp}{kvs:List (List Key×V)}{xs:List (List Key×Addr×Wo)}(r:KT H kvs xs)(ht:∀ b ys,H b=some (.tup ys)->H' b=some (.tup ys)):KT H' kvs xs:=
 zaP.RL r λ_ _ z=>⟨z.1,ht _ _ z.2.1,z.2.2⟩
section
variable {P:W7} {w:Xh} {H:Hp} {h:Heap} {a:Addr}
theorem N8 {u:HO}(ok:HOk P w H h)(e:Rd H a u):cQ P w H h a u:=e.ok ok
theorem CL {kvs:List (Key×V)}(ok:HOk P w H h)(e:Rd H a (.dK kvs)):kvs.length<=sizeLine/\(a == YU)=false/\∃ vs,KV kvs vs/\h.DictOf (bI P w) a vs:=
 show cQ P w H h a (.dK kvs) from N8 ok e
theorem N9 {kvs:List (Key×V)}(ok:HOk P w H h)(e:H a=some (.dK kvs)):kvs.length<=sizeLine/\(a == YU)=false/\∃ vs,KV kvs vs/\h.DictOf (bI P w) a vs:=CL ok (.inl e)
theorem vC {ks:List Key}(ok:HOk P w H h)(e:H a=some (.tup (ks.map kV))):(zcd (bI P w)).is h ks a:=by
 obtain ⟨_,its,r,n,h1⟩:=(show cQ P w H h a (.tup (ks.map kV)) from ok a _ e)
 exact ⟨_,its.toArray,n,h1,rfl,rfl,by simpa using uG r⟩
theorem CY {kvs:List (List Key×V)}(ok:HOk P w H h)(e:Rd H a (.dT kvs)):kvs.length<=sizeLine/\(a == YU)=false/\
  ∃ xs,KT H kvs xs/\h.DictOfH (zcd (bI P w)) a xs:=by
 obtain ⟨z,y,xs,r,o,es,ep,h1,h2,h3,h4,h5⟩:=(show cQ P w H h a (.dT kvs) from N8 ok e)
 refine ⟨z,y,xs,r,o,es,ep,h1,h2,h3,h4,λx hx=>?_,h5⟩
 have all:∀ {l:List (List Key×V)} {m:List (List Key×Addr×Wo)},KT H l m->∀ x∈m,(zcd (bI P w)).is h x.1 x.2.1:=by
  intro l m q
  induction q with
  | nil=>intro x hx;exact nomatch hx
  | @cons p q ps qs hq t ih=>
   intro x hx
   rcases WM.mp hx with e | hx
   ·subst e
    exact vC ok (by rw[← hq.1];exact hq.2.1)
   ·exact ih x hx
 exact all r x hx
theorem Tx {kvs:List (List Key×V)}(ok:HOk P w H h)(e:H a=some (.dT kvs)):kvs.length<=sizeLine/\(a == YU)=false/\
  ∃ xs,KT H kvs xs/\h.DictOfH (zcd (bI P w)) a xs:=CY ok (.inl e)
end
def ni (H:Hp)(a:Addr)(y:V)(r:Option V):Prop:=
 (∃ kvs k,Rd H a (.dK kvs)/\y=kV k/\r=gi kvs k)∨∃ kvs k b,Rd H a (.dT kvs)/\y=.ref b/\H b=some (.tup (k.map kV))/\r=gi kvs k
def sP (H:Hp)(a:Addr)(y v:V)(H':Hp):Prop:=
 (∃ kvs k,H a=some (.dK kvs)/\y=kV k/\kvs.length < sizeLine/\H'=upd H a (.dK (putK kvs k v)))∨
 ∃ kvs k b,H a=some (.dT kvs)/\y=.ref b/\H b=some (.tup (k.map kV))/\kvs.length < sizeLine/\H'=upd H a (.dT (putK kvs k v))
theorem ni.k {H:Hp}{a:Addr}{kvs:List (Key×V)}{k:Key}(e:H a=some (.dK kvs)):ni H a (kV k) (gi kvs k):=.inl ⟨kvs,k,.inl e,rfl,rfl⟩
theorem ni.t {H:Hp}{a b:Addr}{kvs:List (List Key×V)}{k:List Key}(e:H a=some (.dT kvs))(eb:H b=some (.tup (k.map kV))):ni H a (.ref b) (gi kvs k):=.inr ⟨kvs,k,b,.inl e,rfl,eb,rfl⟩
theorem sP.k {H:Hp}{a:Addr}{kvs:List (Key×V)}{k:Key}{v:V}(e:H a=some (.dK kvs))(hl:kvs.length < sizeLine):sP H a (kV k) v (upd H a (.dK (putK kvs k v))):=.inl ⟨kvs,k,e,rfl,hl,rfl⟩
theorem sP.t {H:Hp}{a b:Addr}{kvs:List (List Key×V)}{k:List Key}{v:V}(e:H a=some (.dT kvs))(eb:H b=some (.tup (k.map kV)))(hl:kvs.length < sizeLine) :
  sP H a (.ref b) v (upd H a (.dT (putK kvs k v))):=.inr ⟨kvs,k,b,e,rfl,eb,hl,rfl⟩
section
variable {X:Cx} {pins:List (Addr×Obj)} {σ:St} {H:Hp} {s:Wu} {a:Addr} {y v:V} {u r:Wo} {o:Option V} {A:XA} {E:Wo->Wu->Prop}
theorem Inv.big (I:Inv X pins σ H s):YU < s.heap.objs.size:=by
 have h:X5 < s.heap.objs.size:=(I.mod.glob.keeps I.bk).lt
 exact zcZ (by decide) h
theorem uz {Q:Wo->Wu->Prop}(hu:A.units+1 < cLine)(I:Inv X pins σ H s)(g:ni H a y (some v))(ry:RelV y u)(h:∀ w' s',Inv X pins σ H s'->RelV v w'->Q w' s') :
  WT (WW X.prog X.w) A (zaq (.ref a) u) Q E s:=by
 rcases g with ⟨kvs,k,e,ey,l⟩ | ⟨kvs,k,b,e,ey,eb,l⟩
 ·subst ey
  obtain ⟨z,hd,vs,rel,dd⟩:=CL I.hok e
  obtain ⟨w',hw,rw'⟩:=oZ.some_of (v:=v) (o:=zcg vs k) (by rw[l];exact rel.val k)
  exact wpAny_getItem_of (uI ry) dd.mapOf hw (h w' _ (I.tok _) rw')
 ·subst ey
  cases (show u=Xc b from ry)
  obtain ⟨z,hd,xs,rel,dd⟩:=CY I.hok e
  obtain ⟨w',hw,rw'⟩:=oZ.some_of (v:=v) (o:=(zds xs k).map (·.2)) (by rw[l];exact rel.val k)
  obtain ⟨p,hp,hp2⟩:=zbv.mp hw
  refine wpAny_getItem_heap (zaC hu) (vC I.hok eb) dd hp ?_
  rw[hp2]
  exact h w' _ (I.tok _) rw'
theorem U9 {Q:Wo->Wu->Prop}(hu:A.units+1 < cLine)(I:Inv X pins σ H s)(g:ni H a y o)(ry:RelV y u)(h:∀ s',Inv X pins σ H s'->Q (.bool o.isSome) s') :
  WT (WW X.prog X.w) A (XI .In u (.ref a)) Q E s:=by
 rcases g with ⟨kvs,k,e,ey,l⟩ | ⟨kvs,k,b,e,ey,eb,l⟩
 ·subst ey
  obtain ⟨z,hd,vs,rel,dd⟩:=CL I.hok e
  refine wpAny_in_of (uI ry) hd dd.mapOf ?_
  rw[← (rel.val k).mW,← l]
  exact h _ (I.tok _)
 ·subst ey
  cases (show u=Xc b from ry)
  obtain ⟨z,hd,xs,rel,dd⟩:=CY I.hok e
  refine wpAny_in_heap (zaC hu) (vC I.hok eb) hd dd ?_
  have q:=(rel.val k).mW
  rw[zcY] at q
  rw[← q,← l]
  exact h _ (I.tok _)
theorem vA {h':Heap}{t':Nat}{ob:HO}(I:Inv X pins σ H s)(mu:Mut (H a))(hs:Zg a s.heap h')(he:∃ q,h'.get? a=some q)(new:cQ X.prog X.w (upd H a ob) h' a ob) :
  Inv X pins σ (upd H a ob) { s with heap:=h',toks:=t' }:=
 I.write (x:=a) (e:=a) mu (.inl rfl) (λb q hb z=>(hs.2 b hb).trans z) he new
theorem BG {P:W7}{w:Xh}{H':Hp}{h':Heap}{kvs:List (Key×V)}{vs:List (Key×Wo)}(z:kvs.length<=sizeLine)(hd:(a == YU)=false)(rel:KV kvs vs)(dd:h'.DictOf (bI P w) a vs) :
  cQ P w H' h' a (.dK kvs):=⟨z,hd,vs,rel,dd⟩
theorem uJ {H':Hp}{Q:Unit->Wu->Prop}(hu:A.units+1 < cLine)(I:Inv X pins σ H s)(g:sP H a y v H')(ry:RelV y u)(rv:RelV v r)(h:∀ s',Inv X pins σ H' s'->Q () s') :
  WT (WW X.prog X.w) A (setItem (.ref a) u r) Q E s:=by
 rcases g with ⟨kvs,k,e,ey,l,eH⟩ | ⟨kvs,k,b,e,ey,eb,l,eH⟩
 ·subst ey eH
  obtain ⟨z,hd,vs,rel,dd⟩:=N9 I.hok e
  have hz:vs.length<=sizeLine:=by rw[← rel.length];exact z
  have hl:(putK kvs k v).length<=sizeLine:=by have:=ju kvs k v;omega
  refine wpAny_setItem_pairs (hsz:=hz) (uI ry) dd λh' dd' hs=>h _ ?_
  have he:∃ q,h'.get? a=some q:=let ⟨q,_,_,hq,_⟩:=dd';⟨q,hq⟩
  exact vA I (by rw[e];exact zaB) hs he (BG hl hd (rel.put k rv) dd')
 ·subst ey eH
  cases (show u=Xc b from ry)
  obtain ⟨z,hd,xs,rel,dd⟩:=Tx I.hok e
  have hz:xs.length<=sizeLine:=by rw[← zcp rel];exact z
  have hl:(putK kvs k v).length<=sizeLine:=by have:=ju kvs k v;omega
  refine wpAny_setItem_heap (hsz:=hz) (zaC hu) (vC I.hok eb) dd λh' dd' hs=>h _ ?_
  obtain ⟨q,es,ep,hq,h2,h3,h4,_,h5⟩:=dd'
  refine vA I (by rw[e];exact zaB) hs ⟨q,hq⟩ ⟨hl,hd,_,(rel.put k eb rv).keeps λc ys ec=>?_,q,es,ep,hq,h2,h3,h4,h5⟩
  rw[aN (T8 ec e (λz=>nomatch z))]
  exact ec
end
section
variable {X:Cx} {pins:List (Addr×Obj)} {σ:St} {H:Hp} {s:Wu} {a:Addr} {kvs:List (Key×V)} {k:Key} {u:Wo} {A:XA} {E:Wo->Wu->Prop}
end
def Li (i:WX):Prop:=∀ ov iv,zbZ i false ov iv=operate [ov,iv] (zaq ov iv)
theorem Nw {prog:W7}{w:Xh}{A:XA}{E:Wo->Wu->Prop}{s:Wu}{env:Env}{value slice:WX}{pos:Pos}{T id:String}{Q:Wo->Wu->Prop}
  (hl:zdP (.type T) "__getitem__" = pure (some (.builtin id))) (hs:Li slice)
  (h:WT (WW prog w) A (XJ value env) (λo s₁=>WT (WW prog w) A (XJ slice env) (λi s₂=>s₂.TypeIs o T/\WT (WW prog w) A (zaq o i) Q E s₂) E s₁) E s) :
  WT (WW prog w) A (XJ (.Subscript value slice pos) env) Q E s:=by
 refine zdQ (XM h (λo s₁ h₁=>XM h₁ (λi s₂ h₂=>?_) λ_ _ x=>x) λ_ _ x=>x)
 obtain ⟨hT,h₂⟩:=h₂
 unfold zct
 refine Wl ?_
 rw[getitemInPython_of_ne hT.not_modules]
 refine Wl (wpAny_specialOf hT hl ?_)
 have fin:WT (WW prog w) A (zbZ slice false o i) (λr s₃=>WT (WW prog w) A (letTemporaryGo value o r >>= λ_=>pure r) Q E s₃) E s₂:=by
  rw[hs o i]
  exact wpAny_operating (XM h₂ (λr s₃ h₃=>Wl (wpAny_letTemporaryGo (WD h₃))) λ_ _ x=>x)
 first
  | exact WD (Wl fin)
  | exact Wl (WD (Wl fin))
  | exact Wl fin
theorem yJ {X:Cx}{pins:List (Addr×Obj)}{σ:St}{H:Hp}{s:Wu}{a:Addr}{y:V}{o:Option V}(I:Inv X pins σ H s)(g:ni H a y o):s.TypeIs (.ref a) "dict" := by
 rcases g with ⟨kvs,k,e,_,_⟩ | ⟨kvs,k,b,e,_,_,_⟩
 ·obtain ⟨_,_,vs,_,dd⟩:=CL I.hok e
  exact dd.typeIs
 ·obtain ⟨_,_,xs,_,dd⟩:=CY I.hok e
  exact dd.typeIs
def Sa (td ty:TE):TE:=λσ H Q=>td σ H λx H1=>ty σ H1 λy H2=>∃ a v,x=.ref a/\ni H2 a y (some v)/\Q v H2
def Ub (ty td:TE):TE:=λσ H Q=>ty σ H λy H1=>td σ H1 λx H2=>∃ a o,x=.ref a/\ni H2 a y o/\Q (.bl o.isSome) H2
def Uw (td ty tv:TE):TS:=λD σ H=>tv σ H λv H1=>td σ H1 λx H2=>ty σ H2 λy H3=>∃ a H4,x=.ref a/\sP H3 a y v H4/\D.nx σ H4
def Og (td ty tv:TE)(rd:V->V->Hp->VK->Prop):TS:=λD σ H=>td σ H λx H1=>ty σ H1 λy H2=>∃ a v,x=.ref a/\ni H2 a y (some v)/\
 tv σ H2 λy2 H3=>rd v y2 H3 λz H4=>∃ H5,sP H4 a y z H5/\D.nx σ H5
section
variable {X:Cx} {o i e value:WX} {pos pos' tpos:Pos} {td ty tv:TE}
theorem Dn (hu:X.A.units+1 < cLine)(ho:PE X o td)(hi:PE X i ty)(hs:Li i):PE X (.Subscript o i pos) (Sa td ty):=by
 intro pins s σ H Q I h
 refine Nw PySem.F.slot_dict_getitem.lookup hs (thn (ho pins s σ H _ I h) λu s1 ⟨x,H1,I1,rx,q1⟩=>thn (hi pins s1 σ H1 _ I1 q1) λiv s2 ⟨y,H2,I2,ry,a,v,ex,g,q2⟩=>?_)
 subst ex
 obtain rfl:u=Xc a:=rx
 exact ⟨yJ I2 g,uz hu I2 g ry λw' s3 I3 rw'=>⟨v,H2,I3,rw',q2⟩⟩
theorem Rz (hu:X.A.units+1 < cLine)(hi:PE X i ty)(ho:PE X o td):PC X .In i o (Ub ty td):=by
 intro pins s σ H Q I h
 refine thn (hi pins s σ H _ I h) λiv s1 ⟨y,H1,I1,ry,q1⟩=>thn (ho pins s1 σ H1 _ I1 q1) λu s2 ⟨x,H2,I2,rx,a,ov,ex,g,q2⟩=>?_
 subst ex
 obtain rfl:u=Xc a:=rx
 exact U9 hu I2 g ry λs3 I3=>⟨.bl ov.isSome,H2,I3,rfl,q2⟩
theorem Du (hu:X.A.units+1 < cLine)(ho:PE X o td)(hi:PE X i ty)(hv:PE X value tv)(hs:YA value (some (.Subscript o i pos')) pos.line X.env=pure false) :
  PS X (.Assign [.Subscript o i pos'] value pos) (Uw td ty tv):=by
 intro pins s σ H D I h
 refine wpAny_Assign_Subscript (thn (hv pins s σ H _ I h) λr s1 ⟨v,H1,I1,rv,q1⟩=>thn (ho pins s1 σ H1 _ I1 q1) λu s2 ⟨x,H2,I2,rx,q2⟩=>thn (hi pins s2 σ H2 _ I2 q2) λiv s3 ⟨y,H3,I3,ry,a,H4,ex,g,q3⟩=>?_) hs
 subst ex
 obtain rfl:u=Xc a:=rx
 exact uJ hu I3 g ry rv λs4 I4=>⟨σ,H4,I4,q3⟩
theorem Lr {op:zbV}{rd:V->V->Hp->VK->Prop}(hu:X.A.units+1 < cLine)(ho:PE X o td)(hi:PE X i ty)(hv:PE X value tv)(hop:TY X op rd)
  (ha:∀ ov iv new,augStore i ov iv new=(do zbm [new,ov,iv] (setItem ov iv new);release [new,ov,iv] [];pure .next)):PS X (.AugAssign (.Subscript o i tpos) op value pos) (Og td ty tv rd):=by
 intro pins s σ H D I h
 refine wpAny_AugAssign_SubscriptAny (thn (ho pins s σ H _ I h) λu s1 ⟨x,H1,I1,rx,q1⟩=>thn (hi pins s1 σ H1 _ I1 q1) λiv s2 ⟨y,H2,I2,ry,a,v,ex,g,q2⟩=>?_) ha
 subst ex
 obtain rfl:u=Xc a:=rx
 refine uz hu I2 g ry λw' s3 I3 rw'=>thn (hv pins s3 σ H2 _ I3 q2) λw2 s4 ⟨y2,H3,I4,ry2,q3⟩=>thn (hop pins s4 σ H3 v y2 w' w2 _ I4 rw' ry2 q3) λw3 s5 ⟨z,H4,I5,rz,H5,g5,q4⟩=>?_
 exact uJ hu I5 g5 ry rz λs6 I6=>⟨σ,H5,I6,q4⟩
end
theorem J1 {P:W7}{w:Xh}{H:Hp}(h:Heap)(hb:YU < h.objs.size):cQ P w H (h.push { cls:=.type "dict", data:=.dict #[] }) h.objs.size (.dK []):=
 ⟨XX _,beq_eq_false_iff_ne.mpr (W9 (W0 hb)),[],.nil,zdB h⟩
theorem II {P:W7}{w:Xh}{H:Hp}(h:Heap)(hb:YU < h.objs.size):cQ P w H (h.push { cls:=.type "dict", data:=.dict #[] }) h.objs.size (.dT []):=
 ⟨XX _,beq_eq_false_iff_ne.mpr (W9 (W0 hb)),[],.nil,_,#[],0,WN _ rfl,⟨rfl,rfl,rfl⟩,rfl,rfl,zdS⟩
def RC:TE:=λ_ H Q=>∀ p,H p=none->Q (.ref p) (upd H p (.dT []))
section
variable {X:Cx} {pos:Pos}
theorem Jo:PE X (.Dict [] [] pos) RC:=λpins s σ H Q I h=>
 wpAny_Dict_empty ⟨.ref s.heap.objs.size,_,I.laid (a:=s.heap.objs.size) (o:=.dT []) (t':=s.toks) (λ_ _ q=>Wn _ q) (WG _) (II s.heap I.big),rfl,h _ (I.hok.fresh (WG _))⟩
end
def wu:List (TE×TE)->St->Hp->(List (V×V)->Hp->Prop)->Prop
 | [],_,H,Q=>Q [] H
 | (tk,tv)::r,σ,H,Q=>tk σ H λx H1=>tv σ H1 λy H2=>wu r σ H2 λps H3=>Q ((x,y)::ps) H3
abbrev VV:List (V×V)->List (Wo×Wo)->Prop:=zaP λp q=>RelV p.1 q.1/\RelV p.2 q.2
def PPs (X:Cx)(pos:Pos)(keys:List (Option WX))(values:List WX)(trs:List (TE×TE)):Prop:=
 ∀ (pins:List (Addr×Obj)) (s:Wu) (σ:St) (H:Hp) (Q:List (V×V)->Hp->Prop),Inv X pins σ H s->wu trs σ H Q->
  WT (WW X.prog X.w) X.A (evalPairs (pairTrees keys values X.env pos)) (λvs s'=>∃ ps H',Inv X pins σ H' s'/\VV ps vs/\Q ps H') X.xe s
theorem MP {X:Cx}{pos:Pos}:PPs X pos [] [] []:=λpins s σ H Q I h=>pairTrees_nil_walk ⟨[],H,I,.nil,h⟩
theorem IZ {X:Cx}{pos:Pos}{k v:WX}{ks:List (Option WX)}{vs:List WX}{tk tv:TE}{trs:List (TE×TE)}(hk:PE X k tk)(hv:PE X v tv)(hr:PPs X pos ks vs trs) :
  PPs X pos (some k::ks) (v::vs) ((tk,tv)::trs):=λpins s σ H Q I h=>
 pairTrees_cons_walk (thn (hk pins s σ H _ I h) λu s1 ⟨x,H1,I1,rx,q1⟩=>thn (hv pins s1 σ H1 _ I1 q1) λw2 s2 ⟨y,H2,I2,ry,q2⟩=>
  thn (hr pins s2 σ H2 _ I2 q2) λws s3 ⟨ps,H3,I3,rel,q3⟩=>⟨(x,y)::ps,H3,I3,.cons ⟨rx,ry⟩ rel,q3⟩)
def eB (kvs more:List (Key×V)):List (Key×V):=more.foldl (λacc kv=>putK acc kv.1 kv.2) kvs
theorem KV.merge:∀ {more:List (Key×V)} {rs:List (Key×Wo)} {kvs:List (Key×V)} {vs:List (Key×Wo)},KV more rs->KV kvs vs->KV (eB kvs more) (merged vs rs):=by
 intro more rs kvs vs r
 unfold KV at r
 induction r generalizing kvs vs with
 | nil=>intro q;exact q
 | @cons p q ps qs h t ih=>
  intro r0
  have e:KV (putK kvs p.1 p.2) (stored vs q.1 q.2):=by
   have:=r0.put p.1 h.2
   rw[← h.1];exact this
  exact ih e
theorem ie:∀ (more kvs:List (Key×V)),(eB kvs more).length<=kvs.length+more.length
 | [],kvs=>by show kvs.length<=kvs.length+0;omega
 | p::r,kvs=>by
  have h1:=ie r (putK kvs p.1 p.2)
  have h2:=ju kvs p.1 p.2
  show (eB (putK kvs p.1 p.2) r).length<=_
  rw[WY];omega
theorem rA {P:W7}{w:Xh}:∀ {kvs:List (Key×V)} {ws:List (Wo×Wo)},VV (kvs.map λkv=>(kV kv.1,kv.2)) ws->∃ rs,Carries (bI P w) ws rs/\KV kvs rs
 | [],_,r=>by rw[Zk] at r;cases r;exact ⟨[],zaB,.nil⟩
 | p::kvs,_,r=>by
  rw[WE] at r
  cases r with
  | @cons a b as bs h t=>
   obtain ⟨rs,c,q⟩:=rA (P:=P) (w:=w) t
   obtain ⟨b1,b2⟩:=b
   exact ⟨(p.1,b2)::rs,⟨uI h.1,rfl,c⟩,.cons ⟨rfl,h.2⟩ q⟩
def S7 (trs:List (TE×TE)):TE:=λσ H Q=>∀ p,H p=none->wu trs σ (upd H p (.dK [])) λps H2=>H2 p=some (.dK [])/\∃ kvs:List (Key×V),ps=kvs.map (λkv=>(kV kv.1,kv.2))/\kvs.length<=15/\Q (.ref p) (upd H2 p (.dK (eB [] kvs)))
theorem Lo {X:Cx}{pos:Pos}{keys:List (Option WX)}{values:List WX}{trs:List (TE×TE)}(h:PPs X pos keys values trs)(hall:keys.all (·.isSome)=true)(hl:keys.length=values.length)(h0:keys≠[])
  (h15:keys.length<=15):PE X (.Dict keys values pos) (S7 trs):=by
 intro pins s σ H Q I q
 have hn:=I.hok.fresh (WG s.heap.objs.size)
 have I1:=I.laid (a:=s.heap.objs.size) (o:=.dK []) (h':=s.heap.push { cls:=.type "dict", data:=.dict #[] }) (t':=s.toks) (λ_ _ q=>Wn _ q) (WG _) (J1 s.heap I.big)
 refine wpAny_Dict_walk (knd:=bI X.prog X.w) hall hl h0 h15 (thn (h pins _ σ _ _ I1 (q _ hn)) λws s2 ⟨ps,H2,I2,rel,e,kvs,ep,lk,q2⟩=>?_)
 subst ep
 obtain ⟨rs,c,rk⟩:=rA (P:=X.prog) (w:=X.w) rel
 obtain ⟨z,hd,vs0,r0,dd⟩:=N9 I2.hok e
 cases r0
 refine ⟨rs,c,dd,λh' dd' hs=>⟨.ref s.heap.objs.size,_,?_,rfl,q2⟩⟩
 have hz:(eB [] kvs).length<=sizeLine:=by
  have h1:=ie kvs []
  rw[zaj] at h1
  rw[zbW];omega
 have he:∃ q,h'.get? s.heap.objs.size=some q:=let ⟨q,_,_,hq,_⟩:=dd';⟨q,hq⟩
 exact vA I2 (by rw[e];exact zaB) hs he (BG hz hd (rk.merge .nil) dd')
section
variable {X:Cx} {pins:List (Addr×Obj)} {σ:St} {H:Hp} {s:Wu} {a:Addr} {y d:V} {u r:Wo} {o:Option V} {A:XA} {E:Wo->Wu->Prop}
end
section
variable {X:Cx} {o e f:WX} {apos cpos:Pos} {td ty tx:TE}
end
section
variable {X:Cx} {pins:List (Addr×Obj)} {σ:St} {H:Hp} {s:Wu} {a:Addr} {kvs:List (Key×V)} {A:XA} {E:Wo->Wu->Prop}
end
section
variable {X:Cx} {pins:List (Addr×Obj)} {σ:St} {H:Hp} {s:Wu} {a:Addr} {y:V} {u:Wo} {A:XA} {E:Wo->Wu->Prop}
end
end L2
namespace L3
open PySem
local macro_rules | `(tactic| walk_at "ln")=>`(tactic| (intro ds μ Q h;split at h;rfl;exact h.elim))
theorem Jn {p q:Prop}(a:p)(b:q):p/\q:=⟨a,b⟩
inductive D where
 | non | bl (b:Bool) | int (i:Int) | str (x:Str) | ty (n:String) | tup (ds:List D) | ls (ds:List D) | obj (a:Addr)
inductive MO where
 | lst (ds:List D)
 | dct (kvs:List (L2.Key×D))
 | dcT (kvs:List (List L2.Key×D))
 | dcF (kvs:List (L2.Key×D))
abbrev Mu:=Addr->Option MO
def up (μ:Mu)(a:Addr)(o:MO):Mu:=λb=>if b=a then some o else μ b
theorem aE {μ:Mu}{a:Addr}{o:MO}:up μ a o a=some o:=by unfold up;rw[if_pos rfl]
theorem aS {μ:Mu}{a b:Addr}{o:MO}(h:b≠a):up μ a o b=μ b:=by unfold up;rw[if_neg h]
theorem iC {μ:Mu}{a:Addr}{o u:MO}:up (up μ a o) a u=up μ a u:=by
 funext b;unfold up;split<;>rfl
abbrev ST:=List (Option D)
abbrev DK:=D->Mu->Prop
abbrev ETr:=ST->Mu->DK->Prop
abbrev TTr:=ST->Mu->(Bool->Mu->Prop)->Prop
abbrev ATr:=ST->Mu->(List D->Mu->Prop)->Prop
abbrev DR:=D->Mu->DK->Prop
abbrev DR2:=D->D->Mu->DK->Prop
abbrev FSp:=List D->Mu->DK->Prop
def kcI (ds:List D)(f:Int->List D->Prop):Prop:=match ds with
 | .int i::r=>f i r
 | _=>False
theorem ecI {ds:List D}{f:Int->List D->Prop}(h:kcI ds f):∃ i r,ds=.int i::r/\f i r:=by
 cases ds with
 | nil=>exact Ww h
 | cons d r=>cases d<;>first | exact ⟨_,_,rfl,h⟩ | exact Ww h
theorem lcI {ds:List D}{f:Int->List D->Prop}{n:Nat}(h:kcI ds f)(k:∀ i r,f i r->r.length=n):ds.length=n+1:=by
 obtain ⟨i,r,e,h⟩:=ecI h
 rw[e,WY,k i r h]
def kcS (ds:List D)(f:Str->List D->Prop):Prop:=match ds with
 | .str i::r=>f i r
 | _=>False
theorem ecS {ds:List D}{f:Str->List D->Prop}(h:kcS ds f):∃ i r,ds=.str i::r/\f i r:=by
 cases ds with
 | nil=>exact Ww h
 | cons d r=>cases d<;>first | exact ⟨_,_,rfl,h⟩ | exact Ww h
theorem lcS {ds:List D}{f:Str->List D->Prop}{n:Nat}(h:kcS ds f)(k:∀ i r,f i r->r.length=n):ds.length=n+1:=by
 obtain ⟨i,r,e,h⟩:=ecS h
 rw[e,WY,k i r h]
def kcT (ds:List D)(f:List D->List D->Prop):Prop:=match ds with
 | .tup i::r=>f i r
 | _=>False
theorem ecT {ds:List D}{f:List D->List D->Prop}(h:kcT ds f):∃ i r,ds=.tup i::r/\f i r:=by
 cases ds with
 | nil=>exact Ww h
 | cons d r=>cases d<;>first | exact ⟨_,_,rfl,h⟩ | exact Ww h
theorem lcT {ds:List D}{f:List D->List D->Prop}{n:Nat}(h:kcT ds f)(k:∀ i r,f i r->r.length=n):ds.length=n+1:=by
 obtain ⟨i,r,e,h⟩:=ecT h
 rw[e,WY,k i r h]
def kcL (ds:List D)(f:List D->List D->Prop):Prop:=match ds with
 | .ls i::r=>f i r
 | _=>False
theorem ecL {ds:List D}{f:List D->List D->Prop}(h:kcL ds f):∃ i r,ds=.ls i::r/\f i r:=by
 cases ds with
 | nil=>exact Ww h
 | cons d r=>cases d<;>first | exact ⟨_,_,rfl,h⟩ | exact Ww h
theorem lcL {ds:List D}{f:List D->List D->Prop}{n:Nat}(h:kcL ds f)(k:∀ i r,f i r->r.length=n):ds.length=n+1:=by
 obtain ⟨i,r,e,h⟩:=ecL h
 rw[e,WY,k i r h]
def kcO (ds:List D)(f:Addr->List D->Prop):Prop:=match ds with
 | .obj i::r=>f i r
 | _=>False
theorem ecO {ds:List D}{f:Addr->List D->Prop}(h:kcO ds f):∃ i r,ds=.obj i::r/\f i r:=by
 cases ds with
 | nil=>exact Ww h
 | cons d r=>cases d<;>first | exact ⟨_,_,rfl,h⟩ | exact Ww h
theorem lcO {ds:List D}{f:Addr->List D->Prop}{n:Nat}(h:kcO ds f)(k:∀ i r,f i r->r.length=n):ds.length=n+1:=by
 obtain ⟨i,r,e,h⟩:=ecO h
 rw[e,WY,k i r h]
def kcA (ds:List D)(f:D->List D->Prop):Prop:=match ds with
 | i::r=>f i r
 | _=>False
theorem ecA {ds:List D}{f:D->List D->Prop}(h:kcA ds f):∃ i r,ds=i::r/\f i r:=by
 cases ds with
 | nil=>exact Ww h
 | cons d r=>exact ⟨_,_,rfl,h⟩
theorem lcA {ds:List D}{f:D->List D->Prop}{n:Nat}(h:kcA ds f)(k:∀ i r,f i r->r.length=n):ds.length=n+1:=by
 obtain ⟨i,r,e,h⟩:=ecA h
 rw[e,WY,k i r h]
def kcN (ds:List D)(P:Prop):Prop:=match ds with
 | []=>P
 | _=>False
theorem ecN {ds:List D}{P:Prop}(h:kcN ds P):ds=[]/\P:=by
 cases ds with
 | nil=>exact ⟨rfl,h⟩
 | cons d r=>exact Ww h
structure En where
 nx:ST->Mu->Prop
 rt:DK
 bk:ST->Mu->Prop:=λ_ _=>False
 ct:ST->Mu->Prop:=λ_ _=>False
abbrev STr:=En->ST->Mu->Prop
abbrev GTr:=D->ST->Mu->(ST->Mu->Prop)->Prop
def kIf (c:Bool)(A B:Prop):Prop:=match c with
 | true=>A
 | false=>B
def kB (x:D)(f:Bool->Prop):Prop:=match x with
 | .bl c=>f c
 | _=>False
def kI (x:D)(f:Int->Prop):Prop:=match x with
 | .int c=>f c
 | _=>False
def kO (x:Option D)(f:D->Prop):Prop:=match x with
 | some d=>f d
 | none=>False
def kS (x:D)(f:List D->Prop):Prop:=match x with
 | .tup ds=>f ds
 | .ls ds=>f ds
 | _=>False
def k2 (ds:List D)(f:D->D->Prop):Prop:=match ds with
 | [v,w]=>f v w
 | _=>False
def kL (μ:Mu)(a:Addr)(f:List D->Prop):Prop:=match μ a with
 | some (.lst ds)=>f ds
 | _=>False
def kD (μ:Mu)(a:Addr)(f:List (L2.Key×D)->Prop):Prop:=match μ a with
 | some (.dct ds)=>f ds
 | _=>False
def kN (x:Option Nat)(f:Nat->Prop):Prop:=match x with
 | some d=>f d
 | none=>False
def lk:ST->Nat->Option D
 | [],_=>none
 | o::_,0=>o
 | _::r,n+1=>lk r n
def ai (i:Nat):ETr:=λρ μ Q=>kO (lk ρ i) λd=>Q d μ
def TC (d:D):ETr:=λ_ μ Q=>Q d μ
def ak (r:DR2)(a b:ETr):ETr:=λρ μ Q=>a ρ μ λx μ1=>b ρ μ1 λy μ2=>r x y μ2 Q
def TUn (r:DR)(a:ETr):ETr:=λρ μ Q=>a ρ μ λx μ1=>r x μ1 Q
def S64 (i:Int):Prop:=-18446744073709551616 < i/\i < 18446744073709551616
def fB (i:Int):Prop:=-115792089237316195423570985008687907853269984665640564039457584007913129639936 < i/\i < 115792089237316195423570985008687907853269984665640564039457584007913129639936
def MulOk (i j:Int):Prop:=(S64 i∨S64 j)∨(fB i/\fB j)
def jm (j:Int):Prop:=j≠0/\fB j
def pW (i j:Int):Prop:=0<=j/\j<=1000000/\i.natAbs < 18446744073709551616
def TM:DR2:=λx y μ Q=>match x,y with
 | .int i,.int j=>Q (.int (i+j)) μ
 | .tup a,.tup b=>(a≠[]/\a.length+b.length<=1000000)/\Q (.tup (a++b)) μ
 | _,_=>False
def jr:DR2:=λx y μ Q=>match x,y with
 | .int i,.int j=>Q (.int (i - j)) μ
 | _,_=>False
def eC:DR2:=λx y μ Q=>match x,y with
 | .int i,.int j=>MulOk i j/\Q (.int (i*j)) μ
 | _,_=>False
def lB:DR2:=λx y μ Q=>match x,y with
 | .int i,.int j=>jm j/\Q (.int (i.fdiv j)) μ
 | _,_=>False
def kG:DR2:=λx y μ Q=>match x,y with
 | .int i,.int j=>j≠0/\Q (.int (i.fmod j)) μ
 | _,_=>False
def Js:DR2:=λx y μ Q=>match x,y with
 | .int i,.int j=>pW i j/\Q (.int (i ^ j.toNat)) μ
 | _,_=>False
def Bh:DR:=λx μ Q=>match x with
 | .int i=>Q (.int (-i)) μ
 | _=>False
def FQ (p:Int->Int->Bool):DR2:=λx y μ Q=>match x,y with
 | .int i,.int j=>Q (.bl (p i j)) μ
 | _,_=>False
def rLt:DR2:=FQ λi j=>decide (i < j)
def rLe:DR2:=FQ λi j=>decide (i<=j)
def rGt:DR2:=FQ λi j=>decide (j < i)
def rGe:DR2:=FQ λi j=>decide (j<=i)
mutual
def eqD:D->D->Bool
 | .non,.non=>true
 | .bl a,.bl b=>a == b
 | .int a,.int b=>decide (a=b)
 | .bl a,.int b=>decide ((if a then 1 else 0:Int)=b)
 | .int a,.bl b=>decide (a=(if b then 1 else 0:Int))
 | .str a,.str b=>decide (a=b)
 | .tup a,.tup b=>sM a b
 | .ls a,.ls b=>sM a b
 | _,_=>false
def sM:List D->List D->Bool
 | [],[]=>true
 | a::r,b::s=>eqD a b&&sM r s
 | _,_=>false
end
mutual
def okD:Nat->D->Bool
 | _,.non=>true
 | _,.bl _=>true
 | _,.int _=>true
 | _,.str x=>WC x
 | n+1,.tup ds=>cz n ds
 | n+1,.ls ds=>cz n ds
 | _,_=>false
def cz:Nat->List D->Bool
 | _,[]=>true
 | n,d::ds=>okD n d&&cz n ds
end
def rEq:DR2:=λx y μ Q=>(okD 40 x=true/\okD 40 y=true)/\Q (.bl (eqD x y)) μ
def rNe:DR2:=λx y μ Q=>(okD 40 x=true/\okD 40 y=true)/\Q (.bl (!eqD x y)) μ
def rIs:DR2:=λx y μ Q=>match y with
 | .non=>(match x with
  | .non=>Q (.bl true) μ
  | _=>Q (.bl false) μ)
 | _=>False
def iK:DR2:=λx y μ Q=>match y with
 | .non=>(match x with
  | .non=>Q (.bl false) μ
  | _=>Q (.bl true) μ)
 | _=>False
def FG (a b:ETr):ETr:=λρ μ Q=>a ρ μ λx μ1=>kB x λc=>kIf c (b ρ μ1 Q) (Q (.bl false) μ1)
def Ce (a b:ETr):ETr:=λρ μ Q=>a ρ μ λx μ1=>kB x λc=>kIf c (Q (.bl true) μ1) (b ρ μ1 Q)
def JR (a:ETr):ETr:=λρ μ Q=>a ρ μ λx μ1=>kB x λc=>Q (.bl (!c)) μ1
def TB (t:ETr):TTr:=λρ μ Q=>t ρ μ λx μ1=>kB x λc=>Q c μ1
def mL (t u:TTr):TTr:=λρ μ Q=>t ρ μ λc μ1=>kIf c (u ρ μ1 Q) (Q false μ1)
def TOr (t u:TTr):TTr:=λρ μ Q=>t ρ μ λc μ1=>kIf c (Q true μ1) (u ρ μ1 Q)
def rL (t:TTr):TTr:=λρ μ Q=>t ρ μ λc μ1=>Q (!c) μ1
def kM (c:TTr)(a b:ETr):ETr:=λρ μ Q=>c ρ μ λk μ1=>kIf k (a ρ μ1 Q) (b ρ μ1 Q)
def ij (r r':DR2)(a b c:ETr):ETr:=λρ μ Q=>a ρ μ λx μ1=>b ρ μ1 λy μ2=>r x y μ2 λz μ3=>kB z λk=>kIf k (c ρ μ3 λy' μ4=>r' y y' μ4 Q) (Q (.bl false) μ3)
def av:ATr:=λ_ μ Q=>Q [] μ
def ah (a:ETr)(r:ATr):ATr:=λρ μ Q=>a ρ μ λx μ1=>r ρ μ1 λxs μ2=>Q (x::xs) μ2
def bB (t:ATr):ETr:=λρ μ Q=>t ρ μ λds μ1=>ds.length<=1000000/\Q (.tup ds) μ1
def fv (t:ATr):ETr:=λρ μ Q=>t ρ μ λds μ1=>ds.length<=1000000/\Q (.ls ds) μ1
def nD (t:ATr):ETr:=λρ μ Q=>t ρ μ λds μ1=>ds.length<=1000000/\∀ p,μ1 p=none->Q (.obj p) (up μ1 p (.lst ds))
def au (sp:FSp)(t:ATr):ETr:=λρ μ Q=>t ρ μ λds μ1=>sp ds μ1 Q
def atD (ds:List D)(i:Int):Option D:=L2.atI ds i
def rIx:DR2:=λx y μ Q=>match x,y with
 | .tup ds,.int i=>kO (atD ds i) λd=>Q d μ
 | .ls ds,.int i=>kO (atD ds i) λd=>Q d μ
 | .obj a,.int i=>kL μ a λds=>kO (atD ds i) λd=>Q d μ
 | _,_=>False
def wR:FSp:=λds μ Q=>match ds with
 | [.int i]=>Q (.int (if i < 0 then -i else i)) μ
 | _=>False
def qj:FSp:=λds μ Q=>match ds with
 | [.int i,.int j]=>Q (.int (if j > i then j else i)) μ
 | _=>False
def tQ:FSp:=λds μ Q=>match ds with
 | [.int i,.int j]=>Q (.int (if j < i then j else i)) μ
 | _=>False
def AQ:FSp:=λds μ Q=>match ds with
 | [.int i]=>Q (.int i) μ
 | [.bl k]=>Q (.int (if k then 1 else 0)) μ
 | _=>False
def dg:FSp:=λds μ Q=>match ds with
 | [.tup xs]=>Q (.int xs.length) μ
 | [.ls xs]=>Q (.int xs.length) μ
 | [.str x]=>x.length<=1000000/\Q (.int x.length) μ
 | [.obj a]=>kL μ a λxs=>Q (.int xs.length) μ
 | _=>False
def tyD:D->Option String
 | .non=>some "NoneType"
 | .bl _=>some "bool"
 | .int _=>some "int"
 | .str _=>some "str"
 | .tup _=>some "tuple"
 | .ls _=>some "list"
 | _=>none
def l7 (t c:String):Bool:=t == c || (t == "bool" && c == "int")
def Eb (c:String):DR:=λx μ Q=>match tyD x with
 | some t=>Q (.bl (l7 t c)) μ
 | none=>False
def bo:STr:=λE ρ μ=>E.nx ρ μ
def aA (t u:STr):STr:=λE ρ μ=>t { E with nx:=u E } ρ μ
def BY:STr:=λE ρ μ=>E.bk ρ μ
def Jw:STr:=λE ρ μ=>E.ct ρ μ
def fE (e:ETr):STr:=λE ρ μ=>e ρ μ λ_ μ1=>E.nx ρ μ1
def a6 (e:ETr):STr:=λE ρ μ=>e ρ μ E.rt
def G8:STr:=λE _ μ=>E.rt .non μ
def bW (c:TTr)(t u:STr):STr:=λE ρ μ=>c ρ μ λb μ1=>kIf b (t E ρ μ1) (u E ρ μ1)
def ax (i:Nat):GTr:=λd ρ μ k=>k (ρ.set i (some d)) μ
def aP (e:ETr)(g:GTr):STr:=λE ρ μ=>e ρ μ λd μ1=>g d ρ μ1 E.nx
def qU (i j:Nat)(a:ATr):STr:=λE ρ μ=>a ρ μ λds μ1=>k2 ds λv w=>E.nx ((ρ.set i (some v)).set j (some w)) μ1
def TJ (x z y:D)(μ:Mu)(f:Mu->Prop):Prop:=match x,z with
 | .obj a,.int n=>kL μ a λds=>kN (L2.ixN ds.length n) λj=>f (up μ a (.lst (ds.set j y)))
 | _,_=>False
def BJ (o k e:ETr):STr:=λE ρ μ=>e ρ μ λy μ1=>o ρ μ1 λx μ2=>k ρ μ2 λz μ3=>TJ x z y μ3 λμ4=>E.nx ρ μ4
def vk (c:TTr)(b:STr):STr:=λE ρ μ=>∃ (P:ST->Mu->Prop) (m:ST->Mu->Nat),P ρ μ/\∀ ρ μ,P ρ μ->
 c ρ μ λk μ1=>kIf k (b { E with nx:=λρ' μ'=>P ρ' μ'/\m ρ' μ' < m ρ μ,ct:=λρ' μ'=>P ρ' μ'/\m ρ' μ' < m ρ μ,bk:=E.nx } ρ μ1) (E.nx ρ μ1)
def forR (g:GTr)(b:STr)(E:En):List D->ST->Mu->Prop
 | [],ρ,μ=>E.nx ρ μ
 | d::r,ρ,μ=>g d ρ μ λρ1 μ1=>b { E with nx:=forR g b E r,ct:=forR g b E r,bk:=E.nx } ρ1 μ1
def iJ (it:ATr)(g:GTr)(b:STr):STr:=λE ρ μ=>it ρ μ λds μ1=>forR g b E ds ρ μ1
def cE (lo:Int)(n:Nat):List D:=(W5 n).map λi=>.int (lo+(i:Nat))
def gL (a:ETr):ATr:=λρ μ Q=>a ρ μ λx μ1=>kI x λj=>(-4611686018427387904<=j/\j < 4611686018427387904)/\Q (cE 0 j.toNat) μ1
def dq (a:ETr):ATr:=λρ μ Q=>a ρ μ λx μ1=>kS x λds=>Q ds μ1
def dn (μ:Mu)(a:Addr):Mu:=λb=>if b=a then none else μ b
theorem uf {μ:Mu}{a:Addr}{o:MO}(h:μ a=none):dn (up μ a o) a=μ:=by
 funext b
 unfold dn up
 by_cases hb:b=a
 ·subst hb;simp[h]
 ·simp[hb]
def fe (ρ:ST)(n:Nat)(caps:List Nat):ST:=X9 n none++caps.map (lk ρ)
def fG (p:Addr)(G:GTr)(tt:TTr)(te:ETr)(ρc:ST)(K:Mu->Prop):List D->Mu->Prop
 | [],μ=>K μ
 | d::r,μ=>G d ρc μ λρ1 μ1=>tt ρ1 μ1 λb μ2=>kIf b (te ρ1 μ2 λy μ3=>kL μ3 p λzs=>zs.length < 1000000/\fG p G tt te ρc K r (up μ3 p (.lst (zs++[y])))) (fG p G tt te ρc K r μ2)
def bO (it:ATr)(G:GTr)(tt:TTr)(te:ETr)(n:Nat)(caps:List Nat):ETr:=λρ μ Q=>it ρ μ λds μ1=>∀ p,μ1 p=none->
 fG p G tt te (fe ρ n caps) (λμ'=>kL μ' p λzs=>Q (.ls zs) (dn μ' p)) ds (up μ1 p (.lst []))
def eG:TTr:=λ_ μ Q=>Q true μ
theorem bT {g:GTr}{b:STr}{E:En}(P:List D->ST->Mu->Prop)(hnil:∀ ρ μ,P [] ρ μ->E.nx ρ μ)
  (hcons:∀ d r ρ μ (N:ST->Mu->Prop),P (d::r) ρ μ->(∀ ρ' μ',P r ρ' μ'->N ρ' μ')->g d ρ μ λρ1 μ1=>b { E with nx:=N,ct:=N,bk:=E.nx } ρ1 μ1) :
  ∀ (ds:List D) (ρ:ST) (μ:Mu),P ds ρ μ->forR g b E ds ρ μ
 | [],ρ,μ,h=>hnil ρ μ h
 | d::r,ρ,μ,h=>hcons d r ρ μ _ h λρ' μ' q=>bT P hnil hcons r ρ' μ' q
section
open PySem PySem.Spec PyProof.Rows L2
def SqF (K:Wj)(H:Hp)(a:Addr)(xs:List V):Prop:=
 (∃ o,H a=some (.frz o (.lst xs)))∨
  ∃ (o:Obj) (its:Array Wo) (n:Nat),K.lookup a=some o/\o.cls=.type "list" /\ o.dict=none/\o.data=.seq its n/\its.size<=sizeLine/\Vals xs its.toList
theorem SqF.sq {K:Wj}{H:Hp}{a:Addr}{xs:List V}(h:SqF K H a xs):SqL K H a xs:=by
 rcases h with h | h
 ·exact .inl (.inr h)
 ·exact .inr h
mutual
inductive Dp (K:Wj) (H:Hp):V->D->Prop
 | non:Dp K H .non .non
 | bl (b:Bool):Dp K H (.bl b) (.bl b)
 | int (n:Int):Dp K H (.int n) (.int n)
 | str (z:Str):Dp K H (.str z) (.str z)
 | ty (n:String):Dp K H (.ty n) (.ty n)
 | tup {a:Addr} {xs:List V} {ds:List D}:SqT K H a xs->DpL K H xs ds->Dp K H (.ref a) (.tup ds)
 | ls {a:Addr} {xs:List V} {ds:List D}:SqF K H a xs->DpL K H xs ds->Dp K H (.ref a) (.ls ds)
 | obj (a:Addr):Dp K H (.ref a) (.obj a)
inductive DpL (K:Wj) (H:Hp):List V->List D->Prop
 | nil:DpL K H [] []
 | cons {v:V} {d:D} {vs:List V} {ds:List D}:Dp K H v d->DpL K H vs ds->DpL K H (v::vs) (d::ds)
end
structure Tk (H H':Hp):Prop where
 tup:∀ a xs,H a=some (.tup xs)->H' a=some (.tup xs)
 frz:∀ a o u,H a=some (.frz o u)->H' a=some (.frz o u)
theorem Tk.refl (H:Hp):Tk H H:=⟨λ_ _ h=>h,λ_ _ _ h=>h⟩
theorem Tk.trans {H H1 H2:Hp}(a:Tk H H1)(b:Tk H1 H2):Tk H H2:=⟨λc xs h=>b.tup c xs (a.tup c xs h),λc o u h=>b.frz c o u (a.frz c o u h)⟩
theorem Tk.upd {H:Hp}{a:Addr}{o:HO}(h1:∀ xs,H a≠some (.tup xs))(h2:∀ o u,H a≠some (.frz o u)):Tk H (L2.upd H a o):=
 ⟨λb xs h=>by rw[aN (λz=>by subst z;exact h1 _ h)];exact h,λb o u h=>by rw[aN (λz=>by subst z;exact h2 _ _ h)];exact h⟩
theorem Tk.new {H:Hp}{a:Addr}{o:HO}(h:H a=none):Tk H (L2.upd H a o):=.upd (λ_ e=>by rw[h] at e;cases e) λ_ _ e=>by rw[h] at e;cases e
theorem Tk.sqT {K:Wj}{H H':Hp}{a:Addr}{xs:List V}(t:Tk H H')(h:SqT K H a xs):SqT K H' a xs:=by
 rcases h with (h | ⟨o,h⟩) | h
 ·exact .inl (.inl (t.tup _ _ h))
 ·exact .inl (.inr ⟨o,t.frz _ _ _ h⟩)
 ·exact .inr h
theorem Tk.sqF {K:Wj}{H H':Hp}{a:Addr}{xs:List V}(t:Tk H H')(h:SqF K H a xs):SqF K H' a xs:=by
 rcases h with ⟨o,h⟩ | h
 ·exact .inl ⟨o,t.frz _ _ _ h⟩
 ·exact .inr h
mutual
theorem Dp.mono {K:Wj}{H H':Hp}(t:Tk H H'):∀ {v:V} {d:D},Dp K H v d->Dp K H' v d
 | _,_,.non=>.non
 | _,_,.bl b=>.bl b
 | _,_,.int i=>.int i
 | _,_,.str x=>.str x
 | _,_,.ty n=>.ty n
 | _,_,.tup h l=>.tup (t.sqT h) (DpL.mono t l)
 | _,_,.ls h l=>.ls (t.sqF h) (DpL.mono t l)
 | _,_,.obj a=>.obj a
theorem DpL.mono {K:Wj}{H H':Hp}(t:Tk H H'):∀ {vs:List V} {ds:List D},DpL K H vs ds->DpL K H' vs ds
 | _,_,.nil=>.nil
 | _,_,.cons h l=>.cons (Dp.mono t h) (DpL.mono t l)
end
theorem DpL.length {K:Wj}{H:Hp}:∀ {vs:List V} {ds:List D},DpL K H vs ds->vs.length=ds.length
 | _,_,.nil=>rfl
 | _,_,.cons _ l=>by rw[WY,WY,DpL.length l]
theorem DpL.get {K:Wj}{H:Hp}:∀ {vs:List V} {ds:List D} {i:Nat} {d:D},DpL K H vs ds->ds[i]? = some d->∃ v,vs[i]? = some v/\Dp K H v d
 | _,_,_,_,.nil,e=>by simp at e
 | _,_,0,_,.cons h _,e=>by simp at e;subst e;exact ⟨_,rfl,h⟩
 | _,_,i+1,d,.cons _ l,e=>by
  obtain ⟨v,e1,h⟩:=DpL.get (i:=i) (d:=d) l (by simpa using e)
  exact ⟨v,by simpa using e1,h⟩
theorem DpL.get' {K:Wj}{H:Hp}:∀ {vs:List V} {ds:List D} {i:Nat} {v:V},DpL K H vs ds->vs[i]? = some v->∃ d,ds[i]? = some d/\Dp K H v d
 | _,_,_,_,.nil,e=>by simp at e
 | _,_,0,_,.cons h _,e=>by simp at e;subst e;exact ⟨_,rfl,h⟩
 | _,_,i+1,d,.cons _ l,e=>by
  obtain ⟨v,e1,h⟩:=DpL.get' (i:=i) (v:=d) l (by simpa using e)
  exact ⟨v,by simpa using e1,h⟩
theorem DpL.set {K:Wj}{H:Hp}{v:V}{d:D}(h:Dp K H v d):∀ {vs:List V} {ds:List D} (i:Nat),DpL K H vs ds->DpL K H (vs.set i v) (ds.set i d)
 | _,_,_,.nil=>.nil
 | _,_,0,.cons _ l=>.cons h l
 | _,_,i+1,.cons q l=>.cons q (DpL.set h i l)
theorem DpL.append {K:Wj}{H:Hp}:∀ {vs ws:List V} {ds es:List D},DpL K H vs ds->DpL K H ws es->DpL K H (vs++ws) (ds++es)
 | _,_,_,_,.nil,s=>s
 | _,_,_,_,.cons h l,s=>.cons h (DpL.append l s)
theorem DpL.at {K:Wj}{H:Hp}{vs:List V}{ds:List D}{i:Int}{d:D}(l:DpL K H vs ds)(e:atD ds i=some d):∃ v,atI vs i=some v/\Dp K H v d:=by
 unfold atD atI at e
 unfold atI
 rw[l.length]
 cases q:ixN ds.length i with
 | none=>rw[q] at e;cases e
 | some j=>
  rw[q] at e
  exact l.get e
def DpK {κ:Type}(K:Wj)(H:Hp)(xs:List (κ×V))(kvs:List (κ×D)):Prop:=xs.map (·.1)=kvs.map (·.1)/\DpL K H (xs.map (·.2)) (kvs.map (·.2))
theorem DpK.mono {κ:Type}{K:Wj}{H H':Hp}(t:Tk H H'){xs:List (κ×V)}{kvs:List (κ×D)}(h:DpK K H xs kvs):DpK K H' xs kvs:=⟨h.1,h.2.mono t⟩
def zY (K:Wj)(H:Hp)(a:Addr):MO->Prop
 | .lst ds=>∃ xs,H a=some (.lst xs)/\DpL K H xs ds
 | .dct kvs=>∃ xs,H a=some (.dK xs)/\DpK K H xs kvs
 | .dcT kvs=>∃ xs,H a=some (.dT xs)/\DpK K H xs kvs
 | .dcF kvs=>∃ xs,(∃ o,H a=some (.frz o (.dK xs)))/\DpK K H xs kvs
theorem zY.go {K:Wj}{H H':Hp}{a:Addr}{o:MO}(h:zY K H a o)(t:Tk H H')(k:∀ u,H a=some u->H' a=some u):zY K H' a o:=by
 cases o<;>(obtain ⟨xs,z,l⟩:=h;first | exact ⟨xs,k _ z,l.mono t⟩ | (obtain ⟨o,z⟩:=z;exact ⟨xs,⟨o,k _ z⟩,l.mono t⟩))
theorem zY.ne {K:Wj}{H:Hp}{a q:Addr}{o:MO}{u:HO}(h:zY K H a o)(t:Tk H (L2.upd H q u))(k:a≠q):zY K (L2.upd H q u) a o:=h.go t λ_ e=>by rw[aN k];exact e
def bM (K:Wj)(H:Hp)(μ:Mu):Prop:=∀ a o,μ a=some o->zY K H a o
theorem bM.free {K:Wj}{H:Hp}{μ:Mu}(h:bM K H μ){a:Addr}(e:H a=none):μ a=none:=by
 cases q:μ a with
 | none=>rfl
 | some o=>
  cases o<;>(obtain ⟨xs,z,_⟩:=h a _ q;first | (rw[e] at z;cases z;done) | (obtain ⟨o,z⟩:=z;rw[e] at z;cases z))
theorem bM.keep {K:Wj}{H H':Hp}{μ:Mu}(h:bM K H μ)(t:Tk H H')(k:∀ a u,μ a≠none->H a=some u->H' a=some u):bM K H' μ:=λa o e=>by
 exact (h a _ e).go t λu z=>k a u (by rw[e];simp) z
def Sub (μ μ':Mu):Prop:=∀ a o,μ a=some o->μ' a=some o
theorem Sub.refl (μ:Mu):Sub μ μ:=λ_ _ h=>h
theorem Sub.new {μ:Mu}{p:Addr}{o:MO}(h:μ p=none):Sub μ (up μ p o):=λa u e=>by
 rw[aS (λz=>by subst z;rw[h] at e;cases e)];exact e
theorem Sub.trans {μ μ1 μ2:Mu}(a:Sub μ μ1)(b:Sub μ1 μ2):Sub μ μ2:=λc o h=>b c o (a c o h)
theorem bM.sub {K:Wj}{H:Hp}{μ μ':Mu}(h:bM K H μ')(s:Sub μ μ'):bM K H μ:=λa o e=>h a o (s a o e)
structure Rl (K:Wj) (σ:L2.St) (H:Hp) (ρ:ST) (μ:Mu):Prop where
 len:ρ.length=σ.length
 loc:∀ i d,lk ρ i=some d->∃ v,σ[i]? = some (some v)/\Dp K H v d
 mu:bM K H μ
theorem Rl.go {K:Wj}{σ:L2.St}{H H':Hp}{ρ:ST}{μ μ':Mu}(r:Rl K σ H ρ μ)(t:Tk H H')(m:bM K H' μ'):Rl K σ H' ρ μ':=
 ⟨r.len,λi d e=>let ⟨v,h1,h2⟩:=r.loc i d e;⟨v,h1,h2.mono t⟩,m⟩
theorem Kf:∀ (ρ:ST) (i j:Nat) (d:D),lk (ρ.set i (some d)) j=if i=j/\i < ρ.length then some d else lk ρ j
 | [],i,j,d=>by simp[lk]
 | o::r,0,0,d=>by simp[lk]
 | o::r,0,j+1,d=>by simp[lk]
 | o::r,i+1,0,d=>by simp[lk]
 | o::r,i+1,j+1,d=>by
  show lk (r.set i (some d)) j=_
  rw[Kf r i j d]
  simp[lk]
theorem Rl.set {K:Wj}{σ:L2.St}{H:Hp}{ρ:ST}{μ:Mu}(r:Rl K σ H ρ μ){v:V}{d:D}(h:Dp K H v d)(i:Nat):Rl K (σ.set i (some v)) H (ρ.set i (some d)) μ:=by
 refine ⟨by simp[r.len],λj e q=>?_,r.mu⟩
 rw[Kf] at q
 split at q
 ·rename_i hc
  obtain ⟨rfl,hlt⟩:=hc
  cases q
  exact ⟨v,by rw[ZQ (by rw[← r.len];exact hlt)],h⟩
 ·rename_i hc
  obtain ⟨u,h1,h2⟩:=r.loc j e q
  by_cases hij:i=j
  ·subst hij
   have:¬ i < ρ.length:=λz=>hc ⟨rfl,z⟩
   have hn:σ[i]? = none:=Zo.mpr (by rw[← r.len];omega)
   rw[hn] at h1;cases h1
  ·exact ⟨u,by rw[YC hij];exact h1,h2⟩
abbrev jG (K:Wj)(H:Hp)(Q:DK)(Q':VK):Prop:=∀ v H' d μ',Tk H H'->bM K H' μ'->Dp K H' v d->Q d μ'->Q' v H'
def Sim (K:Wj)(t:TE)(T:ETr):Prop:=∀ σ H ρ μ (Q:DK) (Q':VK),Rl K σ H ρ μ->T ρ μ Q->jG K H Q Q'->t σ H Q'
def KI (K:Wj)(t:TT)(T:TTr):Prop:=∀ σ H ρ μ (Q:Bool->Mu->Prop) (Q':Bool->Hp->Prop),Rl K σ H ρ μ->T ρ μ Q->(∀ b H' μ',Tk H H'->bM K H' μ'->Q b μ'->Q' b H')->t σ H Q'
def O8 (K:Wj)(t:TA)(T:ATr):Prop:=∀ σ H ρ μ (Q:List D->Mu->Prop) (Q':List V->Hp->Prop),Rl K σ H ρ μ->T ρ μ Q->(∀ vs H' ds μ',Tk H H'->bM K H' μ'->DpL K H' vs ds->Q ds μ'->Q' vs H')->t σ H Q'
abbrev um (K:Wj)(H:Hp)(N:ST->Mu->Prop)(N':L2.St->Hp->Prop):Prop:=∀ σ' H' ρ' μ',Tk H H'->Rl K σ' H' ρ' μ'->N ρ' μ'->N' σ' H'
structure Jv (K:Wj) (H:Hp) (E:En) (E':Ends):Prop where
 nx:um K H E.nx E'.nx
 rt:jG K H E.rt E'.rt
 bk:um K H E.bk E'.bk
 ct:um K H E.ct E'.ct
theorem Jv.go {K:Wj}{H H1:Hp}{E:En}{E':Ends}(e:Jv K H E E')(t:Tk H H1):Jv K H1 E E':=
 ⟨λ_ _ _ _ t'=>e.nx _ _ _ _ (t.trans t'),λ_ _ _ _ t'=>e.rt _ _ _ _ (t.trans t'),λ_ _ _ _ t'=>e.bk _ _ _ _ (t.trans t'),λ_ _ _ _ t'=>e.ct _ _ _ _ (t.trans t')⟩
def Iw (K:Wj)(t:TS)(T:STr):Prop:=∀ σ H ρ μ (E:En) (E':Ends),Rl K σ H ρ μ->T E ρ μ->Jv K H E E'->t E' σ H
def Qs (K:Wj)(g:TG)(G:GTr):Prop:=∀ σ H ρ μ v d (k:ST->Mu->Prop) (k':L2.St->Hp->Prop),Rl K σ H ρ μ->Dp K H v d->G d ρ μ k->um K H k k'->g v σ H k'
structure LE (X:Cx) (e:WX) (T:ETr):Prop where
 ex:∃ t,PE X e t/\Sim X.K t T
structure LT (X:Cx) (e:WX) (T:TTr):Prop where
 ex:∃ t,PT X e t/\KI X.K t T
structure LW (X:Cx) (e:WX) (T:TTr):Prop where
 ex:∃ t,PW X e t/\KI X.K t T
structure LA (X:Cx) (es:List WX) (T:ATr):Prop where
 ex:∃ t,PA X es t/\O8 X.K t T
structure LS (X:Cx) (st:Stmt) (T:STr):Prop where
 ex:∃ t,PS X st t/\Iw X.K t T
structure LSs (X:Cx) (sts:List Stmt) (T:STr):Prop where
 ex:∃ t,PSs X sts t/\Iw X.K t T
structure LG (X:Cx) (tg:WX) (G:GTr):Prop where
 ex:∃ g,PG X tg g/\Qs X.K g G
section
variable {X:Cx} {a b c e:WX} {Ta Tb Tc:ETr} {pos:Pos}
theorem af (i:Nat){x:Str}(hN:X.N[i]? = some x:=by rfl)(hv:Vis X.env.scope x:=by first | exact ZV rfl | exact ZW (ZV rfl) | exact ZW (ZW rfl))(hd:(x == ("__debug__" : Str))=false:=by decide)
  (hcd:(x == ("__classdict__" : Str))=false:=by decide):LE X (.Name x pos) (ai i):=
 ⟨_,Gi hN hv hd hcd,λσ H ρ μ Q Q' r h k=>by
  have h:kO (lk ρ i) λd=>Q d μ:=h
  cases q:lk ρ i with
  | none=>rw[q] at h;exact Ww h
  | some d=>
   rw[q] at h
   have h:Q d μ:=h
   obtain ⟨v,e1,p⟩:=r.loc i d q
   exact ⟨v,e1,k v H d μ (.refl H) r.mu p h⟩⟩
theorem le_int {i:Int}{j}:LE X (.Constant (.int i) j pos) (TC (.int i)):=⟨_,O3,λσ H ρ μ Q Q' r h k=>k _ H _ μ (.refl H) r.mu (.int i) h⟩
theorem iF {b:Bool}{j}:LE X (.Constant (.bool b) j pos) (TC (.bl b)):=⟨_,Uy,λσ H ρ μ Q Q' r h k=>k _ H _ μ (.refl H) r.mu (.bl b) h⟩
theorem df {j}:LE X (.Constant .none j pos) (TC .non):=⟨_,Qo,λσ H ρ μ Q Q' r h k=>k _ H _ μ (.refl H) r.mu .non h⟩
theorem le_str {x:Str}{j}:LE X (.Constant (.str x) j pos) (TC (.str x)):=⟨_,JM,λσ H ρ μ Q Q' r h k=>k _ H _ μ (.refl H) r.mu (.str x) h⟩
def eZ (K:Wj)(r:R2)(R:DR2):Prop:=∀ H μ x y dx dy (Q:DK) (Q':VK),bM K H μ->Dp K H x dx->Dp K H y dy->R dx dy μ Q->jG K H Q Q'->r x y H Q'
def TN (K:Wj)(r:V->Hp->VK->Prop)(R:DR):Prop:=∀ H μ x dx (Q:DK) (Q':VK),bM K H μ->Dp K H x dx->R dx μ Q->jG K H Q Q'->r x H Q'
theorem jG.go {K:Wj}{H H1:Hp}{Q:DK}{Q':VK}(k:jG K H Q Q')(t:Tk H H1):jG K H1 Q Q':=λv H' d μ' t'=>k v H' d μ' (t.trans t')
theorem pR {K:Wj}{r:R2}{R:DR2}{ta tb:TE}(hr:eZ K r R)(ha:Sim K ta Ta)(hb:Sim K tb Tb):Sim K (tOp r ta tb) (ak R Ta Tb):=λσ H ρ μ Q Q' rl h k=>
 ha σ H ρ μ _ _ rl h λx H1 dx μ1 t1 m1 p1 h1=>hb σ H1 ρ μ1 _ _ (rl.go t1 m1) h1 λy H2 dy μ2 t2 m2 p2 h2=>hr H2 μ2 x y dx dy Q Q' m2 (p1.mono t2) p2 h2 (k.go (t1.trans t2))
theorem sC {op:zbV}{r:R2}{R:DR2}(ho:OpR X (YN op) r)(hr:eZ X.K r R)(ha:LE X a Ta)(hb:LE X b Tb):LE X (.BinOp a op b pos) (ak R Ta Tb):=by
 obtain ⟨ta,pa,sa⟩:=ha.ex
 obtain ⟨tb,pb,sb⟩:=hb.ex
 exact ⟨_,Om ho pa pb,pR hr sa sb⟩
theorem pP {op:zcq}{r:R2}{R:DR2}(ho:OpR X (XI op) r)(hr:eZ X.K r R)(ha:LE X a Ta)(hb:LE X b Tb)(hm:XY op b=false):LE X (.Compare a [op] [b] pos) (ak R Ta Tb):=by
 obtain ⟨ta,pa,sa⟩:=ha.ex
 obtain ⟨tb,pb,sb⟩:=hb.ex
 exact ⟨_,NP ho pa pb hm,pR hr sa sb⟩
theorem Cg {K:Wj}{t:TE}{T:ETr}(h:Sim K t T):KI K (Gg t) (TB T):=λσ H ρ μ Q Q' rl hh k=>
 h σ H ρ μ _ _ rl hh λv H' d μ' t' m' p' h'=>by
  cases p' with
  | bl c=>exact ⟨c,rfl,k c H' μ' t' m' h'⟩
  | _=>exact Ww h'
theorem R5 {K:Wj}{t:TE}{T:ETr}(h:Sim K t T):KI K (tB t) (TB T):=λσ H ρ μ Q Q' rl hh k=>
 h σ H ρ μ _ _ rl hh λv H' d μ' t' m' p' h'=>by
  cases p' with
  | bl c=>exact ⟨c,rfl,k c H' μ' t' m' h'⟩
  | _=>exact Ww h'
theorem eO {op:zcq}{r:R2}{R:DR2}(ho:OpR X (XI op) r)(hr:eZ X.K r R)(ha:LE X a Ta)(hb:LE X b Tb)(hm:XY op b=false):LT X (.Compare a [op] [b] pos) (TB (ak R Ta Tb)):=by
 obtain ⟨ta,pa,sa⟩:=ha.ex
 obtain ⟨tb,pb,sb⟩:=hb.ex
 exact ⟨_,La ho pa pb hm,Cg (pR hr sa sb)⟩
theorem uS {K:Wj}{C:Int->Int->Prop}{g:Int->Int->V}{R:DR2}(f:Int->Int->D)(hg:∀ H i j,Dp K H (g i j) (f i j))(hR:∀ i j μ Q,R (.int i) (.int j) μ Q->C i j/\Q (f i j) μ)
  (hn:∀ dx dy μ Q,R dx dy μ Q->(∃ i,dx=.int i)/\∃ j,dy=.int j):eZ K (rI C g) R:=λH μ x y dx dy Q Q' m px py h k=>by
 obtain ⟨⟨i,rfl⟩,j,rfl⟩:=hn _ _ _ _ h
 cases px;cases py
 obtain ⟨h1,h2⟩:=hR _ _ _ _ h
 exact ⟨i,j,rfl,rfl,h1,k _ H _ μ (.refl H) m (hg H i j) h2⟩
theorem C2 {K:Wj}{g:Int->Int->V}{R:DR2}(f:Int->Int->D)(hg:∀ H i j,Dp K H (g i j) (f i j))(hR:∀ i j μ Q,R (.int i) (.int j) μ Q->Q (f i j) μ)
  (hn:∀ dx dy μ Q,R dx dy μ Q->(∃ i,dx=.int i)/\∃ j,dy=.int j):eZ K (rI0 g) R:=λH μ x y dx dy Q Q' m px py h k=>by
 obtain ⟨⟨i,rfl⟩,j,rfl⟩:=hn _ _ _ _ h
 cases px;cases py
 exact ⟨i,j,rfl,rfl,k _ H _ μ (.refl H) m (hg H i j) (hR _ _ _ _ h)⟩
theorem ff (ha:LE X a Ta)(hb:LE X b Tb):LE X (.BinOp a .Sub b pos) (ak jr Ta Tb):=sC PD (C2 (λi j=>.int (i - j)) (λ_ _ _=>.int _) (λ_ _ _ _ h=>h) (λdx dy μ Q h=>by cases dx<;>cases dy<;>first | exact ⟨⟨_,rfl⟩,_,rfl⟩ | exact Ww h)) ha hb
theorem fB.abs {j:Int}(h:fB j):j.natAbs < 2 ^ 256:=by
 have e:(2:Nat) ^ 256=115792089237316195423570985008687907853269984665640564039457584007913129639936:=by decide +kernel
 rw[e]
 obtain ⟨h1,h2⟩:=h
 omega
theorem MulOk.ok {i j:Int}(h:MulOk i j):IntMulOk i j:=by
 rcases h with (⟨h1,h2⟩ | ⟨h1,h2⟩) | ⟨h1,h2⟩
 ·exact .of_left (zaT h1 h2)
 ·exact .of_right (zaT h1 h2)
 ·exact .of_le (za7 h1.abs) (za7 h2.abs) (by decide)
theorem Np:OpR X (YN .Mult) (rI MulOk λi j=>.int (i*j)):=opI λ_ _ _ _ _ _ _ hc q=>mul_int q hc.ok
theorem jm.np {i j:Int}(h:jm j):Builtin.divisionGoesByPylong i j=false:=by
 refine PyProof.noPylong_of_log2 ?_
 have h0:j.natAbs≠0:=by have:=h.1;omega
 have:=(Nat.log2_lt h0).mpr h.2.abs
 omega
theorem Md:OpR X (YN .FloorDiv) (rI (λ_ j=>jm j) λi j=>.int (i.fdiv j)):=opI λ_ _ _ _ _ _ _ hc q=>floordiv_int hc.1 q (.inl hc.np)
theorem hE (ha:LE X a Ta)(hb:LE X b Tb):LE X (.BinOp a .FloorDiv b pos) (ak lB Ta Tb):=sC Md (uS (λi j=>.int (i.fdiv j)) (λ_ _ _=>.int _) (λ_ _ _ _ h=>⟨h.1,h.2⟩) (λdx dy μ Q h=>by cases dx<;>cases dy<;>first | exact ⟨⟨_,rfl⟩,_,rfl⟩ | exact Ww h)) ha hb
theorem le_mul (ha:LE X a Ta)(hb:LE X b Tb):LE X (.BinOp a .Mult b pos) (ak eC Ta Tb):=sC Np (uS (λi j=>.int (i*j)) (λ_ _ _=>.int _) (λ_ _ _ _ h=>⟨h.1,h.2⟩) (λdx dy μ Q h=>by cases dx<;>cases dy<;>first | exact ⟨⟨_,rfl⟩,_,rfl⟩ | exact Ww h)) ha hb
theorem f9 (ha:LE X a Ta)(hb:LE X b Tb):LE X (.BinOp a .Mod b pos) (ak kG Ta Tb):=sC LL (uS (λi j=>.int (i.fmod j)) (λ_ _ _=>.int _) (λ_ _ _ _ h=>⟨h.1,h.2⟩) (λdx dy μ Q h=>by cases dx<;>cases dy<;>first | exact ⟨⟨_,rfl⟩,_,rfl⟩ | exact Ww h)) ha hb
theorem le_pow (ha:LE X a Ta)(hb:LE X b Tb):LE X (.BinOp a .Pow b pos) (ak Js Ta Tb):=sC RI (uS (λi j=>.int (i ^ j.toNat)) (λ_ _ _=>.int _) (λ_ _ _ _ h=>⟨h.1,h.2⟩) (λdx dy μ Q h=>by cases dx<;>cases dy<;>first | exact ⟨⟨_,rfl⟩,_,rfl⟩ | exact Ww h)) ha hb
theorem cZ {K:Wj}(p:Int->Int->Bool):eZ K (rI0 λi j=>.bl (p i j)) (FQ p):=C2 (λi j=>.bl (p i j)) (λ_ _ _=>.bl _) (λ_ _ _ _ h=>h) (λdx dy μ Q h=>by cases dx<;>cases dy<;>first | exact ⟨⟨_,rfl⟩,_,rfl⟩ | exact Ww h)
theorem Up (ha:LE X a Ta)(hb:LE X b Tb):LE X (.Compare a [.Lt] [b] pos) (ak rLt Ta Tb):=pP uH (cZ _) ha hb (fh _)
theorem Um (ha:LE X a Ta)(hb:LE X b Tb):LE X (.Compare a [.LtE] [b] pos) (ak rLe Ta Tb):=pP uL (cZ _) ha hb (fh _)
theorem Tg (ha:LE X a Ta)(hb:LE X b Tb):LE X (.Compare a [.GtE] [b] pos) (ak rGe Ta Tb):=pP Oj (cZ _) ha hb (fh _)
theorem jW (ha:LE X a Ta)(hb:LE X b Tb):LT X (.Compare a [.Lt] [b] pos) (TB (ak rLt Ta Tb)):=eO uH (cZ _) ha hb (fh _)
theorem Uv (ha:LE X a Ta)(hb:LE X b Tb):LT X (.Compare a [.LtE] [b] pos) (TB (ak rLe Ta Tb)):=eO uL (cZ _) ha hb (fh _)
theorem kX (ha:LE X a Ta)(hb:LE X b Tb):LT X (.Compare a [.Gt] [b] pos) (TB (ak rGt Ta Tb)):=eO Uh (cZ _) ha hb (fh _)
theorem TV (ha:LE X a Ta)(hb:LE X b Tb):LT X (.Compare a [.GtE] [b] pos) (TB (ak rGe Ta Tb)):=eO Oj (cZ _) ha hb (fh _)
theorem S2 {op:UnaryOp}{r:V->Hp->VK->Prop}{R:DR}(ho:UnR X (unaryOp op) r)(hr:TN X.K r R)(ha:LE X a Ta):LE X (.UnaryOp op a pos) (TUn R Ta):=by
 obtain ⟨ta,pa,sa⟩:=ha.ex
 exact ⟨_,So ho pa,λσ H ρ μ Q Q' rl h k=>sa σ H ρ μ _ _ rl h λx H1 dx μ1 t1 m1 p1 h1=>hr H1 μ1 x dx Q Q' m1 p1 h1 (k.go t1)⟩
theorem qe (ha:LE X a Ta)(he:∀ whole,isTrue a X.env whole=(do let v ← whole;standAt a.pos;zbm [v] (truthy v)):=by intro _;rfl):LT X a (TB Ta):=by
 obtain ⟨ta,pa,sa⟩:=ha.ex
 exact ⟨_,OW pa he,R5 sa⟩
variable {tA tB' tC':TTr} {rest:List WX}
theorem ng (ha:LT X a tA):LT X (.UnaryOp .Not a pos) (rL tA):=by
 obtain ⟨ta,pa,sa⟩:=ha.ex
 exact ⟨_,Q6 pa,λσ H ρ μ Q Q' rl h k=>sa σ H ρ μ _ _ rl h λc H1 μ1 t1 m1 h1=>k (!c) H1 μ1 t1 m1 h1⟩
theorem LW.lt (h:LW X a tA):LT X a tA:=by
 obtain ⟨ta,pa,sa⟩:=h.ex
 exact ⟨_,pa.pt,sa⟩
theorem iU (ha:LT X a tA):LW X (.BoolOp .And [a] pos) tA:=by
 obtain ⟨ta,pa,sa⟩:=ha.ex
 exact ⟨_,pw_and1 pa,sa⟩
theorem h9 (ha:LT X a tA):LW X (.BoolOp .Or [a] pos) tA:=by
 obtain ⟨ta,pa,sa⟩:=ha.ex
 exact ⟨_,pw_or1 pa,sa⟩
theorem lK (ha:LT X a tA)(hb:LW X (.BoolOp .And (b::rest) pos) tB'):LW X (.BoolOp .And (a::b::rest) pos) (mL tA tB'):=by
 obtain ⟨ta,pa,sa⟩:=ha.ex
 obtain ⟨tb,pb,sb⟩:=hb.ex
 refine ⟨_,pw_and pa pb,λσ H ρ μ Q Q' rl h k=>sa σ H ρ μ _ _ rl h λc H1 μ1 t1 m1 h1=>?_⟩
 cases c with
 | true=>exact qB (sb σ H1 ρ μ1 Q Q' (rl.go t1 m1) h1 λb H2 μ2 t2=>k b H2 μ2 (t1.trans t2))
 | false=>exact qd (k false H1 μ1 t1 m1 h1)
theorem gR (ha:LT X a tA)(hb:LW X (.BoolOp .Or (b::rest) pos) tB'):LW X (.BoolOp .Or (a::b::rest) pos) (TOr tA tB'):=by
 obtain ⟨ta,pa,sa⟩:=ha.ex
 obtain ⟨tb,pb,sb⟩:=hb.ex
 refine ⟨_,pw_or pa pb,λσ H ρ μ Q Q' rl h k=>sa σ H ρ μ _ _ rl h λc H1 μ1 t1 m1 h1=>?_⟩
 cases c with
 | true=>exact qB (k true H1 μ1 t1 m1 h1)
 | false=>exact qd (sb σ H1 ρ μ1 Q Q' (rl.go t1 m1) h1 λb H2 μ2 t2=>k b H2 μ2 (t1.trans t2))
theorem GX {op}(h:LE X a Ta):LE X (.BoolOp op [a] pos) Ta:=by
 obtain ⟨ta,pa,sa⟩:=h.ex
 exact ⟨_,OK pa,sa⟩
theorem NW (ha:LE X a Ta)(hb:LE X (.BoolOp .Or (b::rest) pos) Tb):LE X (.BoolOp .Or (a::b::rest) pos) (Ce Ta Tb):=by
 obtain ⟨ta,pa,sa⟩:=ha.ex
 obtain ⟨tb,pb,sb⟩:=hb.ex
 refine ⟨_,Sj pa pb,λσ H ρ μ Q Q' rl h k=>sa σ H ρ μ _ _ rl h λx H1 dx μ1 t1 m1 p1 h1=>?_⟩
 cases p1 with
 | bl c=>
  refine ⟨c,rfl,?_⟩
  cases c with
  | true=>exact qB (k _ H1 _ μ1 t1 m1 (.bl _) h1)
  | false=>exact qd (sb σ H1 ρ μ1 Q Q' (rl.go t1 m1) h1 (k.go t1))
 | _=>exact Ww h1
theorem gA (hc:LT X c tC')(ha:LE X a Ta)(hb:LE X b Tb):LE X (.IfExp c a b pos) (kM tC' Ta Tb):=by
 obtain ⟨tc,pc,sc⟩:=hc.ex
 obtain ⟨ta,pa,sa⟩:=ha.ex
 obtain ⟨tb,pb,sb⟩:=hb.ex
 refine ⟨_,FJ pc pa pb,λσ H ρ μ Q Q' rl h k=>sc σ H ρ μ _ _ rl h λq H1 μ1 t1 m1 h1=>?_⟩
 cases q with
 | true=>exact qB (sa σ H1 ρ μ1 Q Q' (rl.go t1 m1) h1 (k.go t1))
 | false=>exact qd (sb σ H1 ρ μ1 Q Q' (rl.go t1 m1) h1 (k.go t1))
variable {es:List WX} {At:ATr}
theorem aj:LA X [] av:=⟨_,iQ,λσ H ρ μ Q Q' rl h k=>k [] H [] μ (.refl H) rl.mu .nil h⟩
theorem ae (ha:LE X e Ta)(hr:LA X es At)(hs:WH (e::es) X.env=(false,XJ e X.env)::WH es X.env:=by rfl):LA X (e::es) (ah Ta At):=by
 obtain ⟨ta,pa,sa⟩:=ha.ex
 obtain ⟨tr,pr,sr⟩:=hr.ex
 exact ⟨_,fm pa pr hs,λσ H ρ μ Q Q' rl h k=>sa σ H ρ μ _ _ rl h λx H1 dx μ1 t1 m1 p1 h1=>sr σ H1 ρ μ1 _ _ (rl.go t1 m1) h1 λxs H2 ds μ2 t2 m2 p2 h2=>k _ H2 _ μ2 (t1.trans t2) m2 (.cons (p1.mono t2) p2) h2⟩
theorem cw {K:Wj}{H:Hp}{μ:Mu}{p:Addr}{o:HO}(m:bM K H μ)(hp:H p=none):bM K (L2.upd H p o) μ:=m.keep (.new hp) λa' xs' _ e=>by rw[aN (bu e hp)];exact e
theorem big {n:Nat}(h:n<=1000000):n<=sizeLine:=Xi h (by decide)
theorem aT {x1}(h:LA X es At):LE X (.Tuple es x1 pos) (bB At):=by
 obtain ⟨ta,pa,sa⟩:=h.ex
 refine ⟨_,Bt pa,λσ H ρ μ Q Q' rl h k=>sa σ H ρ μ _ _ rl h λxs H1 ds μ1 t1 m1 p1 h1=>⟨by rw[p1.length];exact big h1.1,λp hp=>?_⟩⟩
 exact k _ _ _ μ1 (t1.trans (.new hp)) (cw m1 hp) (.tup (SqT.of aM) (p1.mono (.new hp))) h1.2
theorem jR (h:LA X es At):LE X (.List es pos) (nD At):=by
 obtain ⟨ta,pa,sa⟩:=h.ex
 refine ⟨_,GK pa,λσ H ρ μ Q Q' rl h k=>sa σ H ρ μ _ _ rl h λxs H1 ds μ1 t1 m1 p1 h1=>⟨by rw[p1.length];exact big h1.1,λp hp=>?_⟩⟩
 refine k _ _ _ (up μ1 p (.lst ds)) (t1.trans (.new hp)) (λa o e=>?_) (.obj p) (h1.2 p (m1.free hp))
 by_cases ha:a=p
 ·subst ha
  rw[aE] at e;cases e
  exact ⟨xs,aM,p1.mono (.new hp)⟩
 ·rw[aS ha] at e
  exact cw m1 hp a o e
def DV (t:TE):TE:=λσ H Q=>t σ H λv H1=>∃ a xs,v=.ref a/\H1 a=some (.lst xs)/\∀ o,Q v (L2.upd H1 a (.frz o (.lst xs)))
theorem jS {t:TE}(h:PE X e t):PE X e (DV t):=by
 intro pins s σ H Q I hh
 refine thn (h pins s σ H _ I hh) λu s1 ⟨v,H1,I1,r,a,xs,ev,ea,q⟩=>?_
 obtain ⟨z,its,n,rv,hg⟩:=(show cQ X.prog X.w H1 s1.heap a (.lst xs) from I1.hok a _ ea)
 have nl:∀ b o,H1 b=some o->(∀ ys,o≠.lst ys)->b≠a:=λb o e1 e2 z=>by subst z;rw[ea] at e1;cases e1;exact e2 _ rfl
 refine ⟨v,_,I1.un (h':=s1.heap) (t':=s1.toks) (H':=L2.upd H1 a (.frz { cls:=.type "list", data:=.seq its.toArray n } (.lst xs))) ⟨λb o e _ _ _=>e,λb o e _ _ _=>⟨o.slots,e⟩,λb o e n _=>?_,λb o e _=>⟨o,e⟩,λb ys e=>?_,λb o u e=>?_,λb ps e=>⟨#[],?_⟩⟩ (λb u e=>?_),r,q _⟩
 ·rw[aN (λz=>by subst z;rw[ea] at n;cases n)];exact n
 ·rw[aN (nl b _ e (λ_=>nofun))];exact e
 ·rw[aN (nl b _ e (λ_=>nofun))];exact e
 ·rw[aN (nl b _ e (λ_=>nofun)),e];simp
 ·by_cases hb:b=a
  ·subst hb
   rw[aM] at e;cases e
   exact ⟨hg,z,its,n,rv,hg⟩
  ·rw[aN hb] at e
   refine (I1.hok b u e).nK (λc w _ q=>q) (λc q=>?_) λc ys q=>?_
   ·rw[aN (nl c _ q (λ_=>nofun))];exact q
   ·rw[aN (nl c _ q (λ_=>nofun))];exact q
theorem dJ (h:LA X es At):LE X (.List es pos) (fv At):=by
 obtain ⟨ta,pa,sa⟩:=h.ex
 refine ⟨_,jS (GK pa),λσ H ρ μ Q Q' rl h k=>sa σ H ρ μ _ _ rl h λxs H1 ds μ1 t1 m1 p1 h1=>⟨by rw[p1.length];exact big h1.1,λp hp=>⟨p,xs,rfl,aM,λo=>?_⟩⟩⟩
 have e:L2.upd (L2.upd H1 p (.lst xs)) p (.frz o (.lst xs))=L2.upd H1 p (.frz o (.lst xs)):=wa
 rw[e]
 exact k _ _ _ μ1 (t1.trans (.new hp)) (cw m1 hp) (.ls (.inl ⟨o,aM⟩) (p1.mono (.new hp))) h1.2
end
end
section
open PySem PySem.Spec PyProof.Rows L2
mutual
def toP:D->PyData
 | .non=>.none
 | .bl b=>.bool b
 | .int i=>.int i
 | .str x=>.str x
 | .tup ds=>.tuple (mi ds)
 | .ls ds=>.list (mi ds)
 | .ty _=>.none
 | .obj _=>.none
def mi:List D->List PyData
 | []=>[]
 | d::r=>toP d::mi r
end
mutual
theorem gH:∀ (n:Nat) (d:D),okD n d=true->(toP d).canLay0=true/\(toP d).depth<=n
 | n,.non,_=>⟨rfl,XX _⟩
 | n,.bl b,_=>⟨rfl,XX _⟩
 | n,.int i,_=>⟨rfl,XX _⟩
 | n,.str x,h=>⟨by cases n<;>exact h,XX _⟩
 | n+1,.tup ds,h=>by
  obtain ⟨h1,h2⟩:=rh n ds h
  exact ⟨h1,za6 h2⟩
 | n+1,.ls ds,h=>by
  obtain ⟨h1,h2⟩:=rh n ds h
  exact ⟨h1,za6 h2⟩
 | 0,.tup ds,h=>by cases h
 | 0,.ls ds,h=>by cases h
 | n,.ty _,h=>by cases n<;>cases h
 | n,.obj _,h=>by cases n<;>cases h
theorem rh:∀ (n:Nat) (ds:List D),cz n ds=true->zc0 (mi ds)=true/\zdC (mi ds)<=n
 | n,[],_=>⟨rfl,XX _⟩
 | n,d::r,h=>by
  have h':okD n d=true/\cz n r=true:=by simpa[cz] using h
  obtain ⟨a1,a2⟩:=gH n d h'.1
  obtain ⟨b1,b2⟩:=rh n r h'.2
  refine ⟨?_,?_⟩
  ·show (zdT (toP d)&&zc0 (mi r))=true
   rw[a1,b1];rfl
  ·show max (PyData.depth (toP d)) (zdC (mi r))<=n
   exact Nat.max_le.mpr ⟨a2,b2⟩
end
theorem str_beq (a b:Str):(a == b)=decide (a=b):=by
 by_cases h:a=b
 ·subst h;simp
 ·rw[decide_eq_false h];exact beq_eq_false_iff_ne.mpr h
mutual
theorem mO:∀ (n m:Nat) (a b:D),okD n a=true->okD m b=true->YI (toP a) (toP b)=eqD a b
 | n,m,.non,b,_,hb=>by cases b<;>first | rfl | (cases m<;>cases hb)
 | n,m,.bl x,b,_,hb=>by
  cases b with
  | int y=>simp only[toP,YI,eqD];rw[Z1]
  | ty _=>cases m<;>cases hb
  | obj _=>cases m<;>cases hb
  | _=>rfl
 | n,m,.int x,b,_,hb=>by
  cases b with
  | int y=>simp only[toP,YI,eqD];rw[Z1]
  | bl y=>simp only[toP,YI,eqD];rw[Z1]
  | ty _=>cases m<;>cases hb
  | obj _=>cases m<;>cases hb
  | _=>rfl
 | n,m,.str x,b,_,hb=>by
  cases b with
  | str y=>simp only[toP,YI,eqD];exact str_beq x y
  | ty _=>cases m<;>cases hb
  | obj _=>cases m<;>cases hb
  | _=>rfl
 | n+1,m,.tup xs,b,ha,hb=>by
  cases b with
  | tup ys=>
   cases m with
   | zero=>cases hb
   | succ m=>simp only[toP,YI,eqD];exact sf n m xs ys ha hb
  | ty _=>cases m<;>cases hb
  | obj _=>cases m<;>cases hb
  | _=>rfl
 | n+1,m,.ls xs,b,ha,hb=>by
  cases b with
  | ls ys=>
   cases m with
   | zero=>cases hb
   | succ m=>simp only[toP,YI,eqD];exact sf n m xs ys ha hb
  | ty _=>cases m<;>cases hb
  | obj _=>cases m<;>cases hb
  | _=>rfl
 | 0,_,.tup ds,_,h,_=>by cases h
 | 0,_,.ls ds,_,h,_=>by cases h
 | n,_,.ty _,_,h,_=>by cases n<;>cases h
 | n,_,.obj _,_,h,_=>by cases n<;>cases h
theorem sf:∀ (n m:Nat) (a b:List D),cz n a=true->cz m b=true->zaV (mi a) (mi b)=sM a b
 | _,_,[],[],_,_=>rfl
 | _,_,[],_::_,_,_=>by simp[mi,zaV,sM]
 | _,_,_::_,[],_,_=>by simp[mi,zaV,sM]
 | n,m,a::r,b::s,ha,hb=>by
  have ha':okD n a=true/\cz n r=true:=by simpa[cz] using ha
  have hb':okD m b=true/\cz m s=true:=by simpa[cz] using hb
  show (YI (toP a) (toP b)&&zaV (mi r) (mi s))=(eqD a b&&sM r s)
  rw[mO n m a b ha'.1 hb'.1,sf n m r s ha'.2 hb'.2]
end
section
variable {X:Cx} {pins:List (Addr×Obj)} {σ:L2.St} {H:Hp} {s:Wu}
mutual
theorem dk (I:Inv X pins σ H s):∀ {n:Nat} {v:V} {d:D} {u:Wo},Dp X.K H v d->okD n d=true->RelV v u->∃ as,Reads s.heap u (toP d) as
 | n,_,_,u,.non,_,r=>by cases (show u=YG from r);exact ⟨_,.none⟩
 | n,_,_,u,.bl b,_,r=>by cases (show u=zdI b from r);exact ⟨_,.bool b⟩
 | n,_,_,u,.int i,_,r=>by obtain ⟨t,e⟩:=(show ∃ t,u=zat i t from r);subst e;exact ⟨_,.int i t⟩
 | n,_,_,u,.str x,_,r=>by obtain ⟨t,e⟩:=(show ∃ t,u=zcc x t from r);subst e;exact ⟨_,.str x t⟩
 | n,_,_,u,.ty _,h,_=>by cases n<;>cases h
 | n+1,_,_,u,@Dp.tup _ _ a xs ds q l,h,r=>by
  cases (show u=Xc a from r)
  obtain ⟨its,rv,⟨o,e1,e2,k,e3⟩,_⟩:=I.tuple q
  obtain ⟨as,ra⟩:=ke I (n:=n) l h rv
  exact ⟨_,.tuple e1 e2 e3 (by simpa using ra)⟩
 | n+1,_,_,u,@Dp.ls _ _ a xs ds q l,h,r=>by
  cases (show u=Xc a from r)
  obtain ⟨its,rv,⟨o,k,e1,e2,_,e3⟩,_⟩:=I.list q.sq
  obtain ⟨as,ra⟩:=ke I (n:=n) l h rv
  exact ⟨_,.list e1 e2 e3 (by simpa using ra)⟩
 | 0,_,_,u,@Dp.tup _ _ a xs ds q l,h,r=>by cases h
 | 0,_,_,u,@Dp.ls _ _ a xs ds q l,h,r=>by cases h
 | n,_,_,u,.obj _,h,_=>by cases n<;>cases h
theorem ke (I:Inv X pins σ H s):∀ {n:Nat} {vs:List V} {ds:List D} {us:List Wo},DpL X.K H vs ds->cz n ds=true->Vals vs us->∃ as,ReadsAll s.heap us (mi ds) as
 | n,_,_,_,.nil,_,.nil=>⟨_,.nil⟩
 | n,_,_,_,@DpL.cons _ _ v d vs ds h l,ho,.cons r rs=>by
  have ho':okD n d=true/\cz n ds=true:=by simpa[cz] using ho
  obtain ⟨as,ra⟩:=dk I h ho'.1 r
  obtain ⟨bs,rb⟩:=ke I l ho'.2 rs
  exact ⟨_,.cons ra rb⟩
end
end
def LZ (K:Wj)(f:Bool->Bool):R2:=λx y H Q=>∃ dx dy,Dp K H x dx/\Dp K H y dy/\okD 40 dx=true/\okD 40 dy=true/\Q (.bl (f (eqD dx dy))) H
section
variable {X:Cx} {a b c e:WX} {Ta Tb Tc:ETr} {pos:Pos}
theorem Gr (hu:X.A.units+64 < cLine):OpR X (XI .Eq) (LZ X.K id):=λpins s σ H x y v u Q I rx ry ⟨dx,dy,px,py,ox,oy,q⟩=>by
 obtain ⟨as,ra⟩:=dk I px ox rx
 obtain ⟨bs,rb⟩:=dk I py oy ry
 obtain ⟨l1,d1⟩:=gH 40 dx ox
 obtain ⟨l2,d2⟩:=gH 40 dy oy
 exact SeqAt.compareEq_reads ra rb l1 l2 (by have:=zbD (toP dx).depth (toP dy).depth;omega) ⟨.bl _,H,I,rfl,by rw[mO 40 40 dx dy ox oy];exact q⟩
theorem Q9 (hu:X.A.units+64 < cLine):OpR X (XI .NotEq) (LZ X.K not):=λpins s σ H x y v u Q I rx ry ⟨dx,dy,px,py,ox,oy,q⟩=>by
 obtain ⟨as,ra⟩:=dk I px ox rx
 obtain ⟨bs,rb⟩:=dk I py oy ry
 obtain ⟨l1,d1⟩:=gH 40 dx ox
 obtain ⟨l2,d2⟩:=gH 40 dy oy
 exact SeqAt.compareNe_reads ra rb l1 l2 (by have:=zbD (toP dx).depth (toP dy).depth;omega) ⟨.bl _,H,I,rfl,by rw[mO 40 40 dx dy ox oy];exact q⟩
theorem HW {K:Wj}:eZ K (LZ K id) rEq:=λH μ x y dx dy Q Q' m px py h k=>⟨dx,dy,px,py,h.1.1,h.1.2,k _ H _ μ (.refl H) m (.bl _) h.2⟩
theorem Oy {K:Wj}:eZ K (LZ K not) rNe:=λH μ x y dx dy Q Q' m px py h k=>⟨dx,dy,px,py,h.1.1,h.1.2,k _ H _ μ (.refl H) m (.bl _) h.2⟩
theorem le_eq (hu:X.A.units+64 < cLine)(ha:LE X a Ta)(hb:LE X b Tb):LE X (.Compare a [.Eq] [b] pos) (ak rEq Ta Tb):=pP (Gr hu) HW ha hb (fh _)
theorem lt_eq (hu:X.A.units+64 < cLine)(ha:LE X a Ta)(hb:LE X b Tb):LT X (.Compare a [.Eq] [b] pos) (TB (ak rEq Ta Tb)):=eO (Gr hu) HW ha hb (fh _)
theorem oj (hu:X.A.units+64 < cLine)(ha:LE X a Ta)(hb:LE X b Tb):LT X (.Compare a [.NotEq] [b] pos) (TB (ak rNe Ta Tb)):=eO (Q9 hu) Oy ha hb (fh _)
theorem OC {K:Wj}:eZ K (λx y H Q=>y=.non/\Q (.bl (decide (x=.non))) H) rIs:=λH μ x y dx dy Q Q' m px py h k=>by
 cases py with
 | non=>
  refine ⟨rfl,?_⟩
  cases px with
  | non=>exact k _ H _ μ (.refl H) m (.bl _) h
  | _=>exact k _ H _ μ (.refl H) m (.bl _) h
 | _=>exact Ww h
theorem DM {K:Wj}:eZ K (λx y H Q=>y=.non/\Q (.bl (!decide (x=.non))) H) iK:=λH μ x y dx dy Q Q' m px py h k=>by
 cases py with
 | non=>
  refine ⟨rfl,?_⟩
  cases px with
  | non=>exact k _ H _ μ (.refl H) m (.bl _) h
  | _=>exact k _ H _ μ (.refl H) m (.bl _) h
 | _=>exact Ww h
theorem nW (ha:LE X a Ta)(hb:LE X b Tb):LT X (.Compare a [.Is] [b] pos) (TB (ak rIs Ta Tb)):=eO OR OC ha hb (fh _)
theorem xm (ha:LE X a Ta)(hb:LE X b Tb):LT X (.Compare a [.IsNot] [b] pos) (TB (ak iK Ta Tb)):=eO Kl DM ha hb (fh _)
theorem DS {K:Wj}{r r':R2}{R R':DR2}{ta tb tc:TE}(hr:eZ K r R)(hr':eZ K r' R')(ha:Sim K ta Ta)(hb:Sim K tb Tb)(hc:Sim K tc Tc):Sim K (Gw r r' ta tb tc) (ij R R' Ta Tb Tc):=λσ H ρ μ Q Q' rl h k=>
 ha σ H ρ μ _ _ rl h λx H1 dx μ1 t1 m1 p1 h1=>hb σ H1 ρ μ1 _ _ (rl.go t1 m1) h1 λy H2 dy μ2 t2 m2 p2 h2=>hr H2 μ2 x y dx dy _ _ m2 (p1.mono t2) p2 h2 λz H3 dz μ3 t3 m3 p3 h3=>by
  cases p3 with
  | bl q=>
   refine ⟨q,rfl,?_⟩
   have t13:=t1.trans (t2.trans t3)
   cases q with
   | true=>exact qB (hc σ H3 ρ μ3 _ _ (rl.go t13 m3) h3 λw H4 dw μ4 t4 m4 p4 h4=>hr' H4 μ4 y w dy dw Q Q' m4 (p2.mono (t3.trans t4)) p4 h4 (k.go (t13.trans t4)))
   | false=>exact qd (k _ H3 _ μ3 t13 m3 (.bl _) h3)
  | _=>exact Ww h3
theorem Mn {K:Wj}:TN K (rU λi=>.int (-i)) Bh:=λH μ x dx Q Q' m px h k=>by
 cases px with
 | int i=>exact ⟨i,rfl,k _ H _ μ (.refl H) m (.int _) h⟩
 | _=>exact Ww h
theorem le_neg (ha:LE X a Ta):LE X (.UnaryOp .USub a pos) (TUn Bh Ta):=S2 QS Mn ha
theorem jz {o:Option D}{f:D->Prop}(h:kO o f):∃ d,o=some d/\f d:=by
 cases o with
 | none=>exact Ww h
 | some d=>exact ⟨d,rfl,h⟩
theorem bU {μ:Mu}{a:Addr}{f:List D->Prop}(h:kL μ a f):∃ ds,μ a=some (.lst ds)/\f ds:=by
 unfold kL at h
 cases e:μ a with
 | none=>rw[e] at h;exact Ww h
 | some o=>cases o with
  | lst ds=>rw[e] at h;exact ⟨ds,rfl,h⟩
  | _=>rw[e] at h;exact Ww h
theorem mY {μ:Mu}{a:Addr}{f:List (Key×D)->Prop}(h:kD μ a f):∃ ds,μ a=some (.dct ds)/\f ds:=by
 unfold kD at h
 cases e:μ a with
 | none=>rw[e] at h;exact Ww h
 | some o=>cases o with
  | dct ds=>rw[e] at h;exact ⟨ds,rfl,h⟩
  | _=>rw[e] at h;exact Ww h
theorem HM {o:Option Nat}{f:Nat->Prop}(h:kN o f):∃ d,o=some d/\f d:=by
 cases o with
 | none=>exact Ww h
 | some d=>exact ⟨d,rfl,h⟩
theorem Rx {K:Wj}:eZ K (L2.rIx K) L3.rIx:=λH μ x y dx dy Q Q' m px py h k=>by
 cases px with
 | @tup a xs ds q l=>
  cases py with
  | int i=>
   obtain ⟨d,e,h'⟩:=jz h
   obtain ⟨v,e1,p⟩:=l.at e
   exact .inr (.inl ⟨a,xs,i,v,rfl,rfl,q,e1,k _ H _ μ (.refl H) m p h'⟩)
  | _=>exact Ww h
 | @ls a xs ds q l=>
  cases py with
  | int i=>
   obtain ⟨d,e,h'⟩:=jz h
   obtain ⟨v,e1,p⟩:=l.at e
   exact .inl ⟨a,xs,i,v,rfl,rfl,q.sq,e1,k _ H _ μ (.refl H) m p h'⟩
  | _=>exact Ww h
 | obj a=>
  cases py with
  | int i=>
   obtain ⟨ds,e0,h1⟩:=bU h
   obtain ⟨d,e,h'⟩:=jz h1
   obtain ⟨xs,ex,l⟩:=m a _ e0
   obtain ⟨v,e1,p⟩:=l.at e
   exact .inl ⟨a,xs,i,v,rfl,rfl,SqL.of ex,e1,k _ H _ μ (.refl H) m p h'⟩
  | _=>exact Ww h
 | _=>cases py<;>exact Ww h
theorem aq (ha:LE X a Ta)(hb:LE X b Tb)(hs:Ct b:=by intro _ _;rfl):LE X (.Subscript a b pos) (ak L3.rIx Ta Tb):=by
 obtain ⟨ta,pa,sa⟩:=ha.ex
 obtain ⟨tb,pb,sb⟩:=hb.ex
 exact ⟨_,SK QP pa pb hs,pR Rx sa sb⟩
variable {es:List WX} {At:ATr} {x:Str} {p:Pos} {id T:String}
def mK (K:Wj)(r:List V->Hp->VK->Prop)(R:FSp):Prop:=∀ H μ xs ds (Q:DK) (Q':VK),bM K H μ->DpL K H xs ds->R ds μ Q->jG K H Q Q'->r xs H Q'
theorem ui {K:Wj}{r:List V->Hp->VK->Prop}{R:FSp}{ta:TA}(hr:mK K r R)(ha:O8 K ta At):Sim K (tCB r ta) (au R At):=λσ H ρ μ Q Q' rl h k=>
 ha σ H ρ μ _ _ rl h λxs H1 ds μ1 t1 m1 p1 h1=>hr H1 μ1 xs ds Q Q' m1 p1 h1 (k.go t1)
theorem aX {r:List V->Hp->VK->Prop}{R:FSp}(hc:cH X (.builtin id) r)(hr:mK X.K r R)(hg:Gl X x)(hm:X.mg x=none)(hv:Yp x=some (.builtin id))(ha:LA X (e::es) At)(hn:x ≠ "__name__" := by decide)(hdb:(x == ("__debug__" : Str))=false:=by decide)
  (h1:WH (e::es) X.env=(false,XJ e X.env)::WH es X.env:=by rfl) (h2:(X3 pos (WH es X.env)).any (·.1)=false:=by rfl):LE X (.Call (.Name x p) (e::es) [] pos) (au R At):=by
 obtain ⟨ta,pa,sa⟩:=ha.ex
 exact ⟨_,pZ hc hg hm hv pa hn hdb h1 h2,ui hr sa⟩
theorem aY {r:List V->Hp->VK->Prop}{R:FSp}(hc:cH X (.type T) r)(hr:mK X.K r R)(hg:Gl X x)(hm:X.mg x=none)(hv:Yp x=some (.type T))(ha:LA X (e::es) At)(hn:x ≠ "__name__" := by decide)(hdb:(x == ("__debug__" : Str))=false:=by decide)
  (h1:WH (e::es) X.env=(false,XJ e X.env)::WH es X.env:=by rfl) (h2:(X3 pos (WH es X.env)).any (·.1)=false:=by rfl):LE X (.Call (.Name x p) (e::es) [] pos) (au R At):=by
 obtain ⟨ta,pa,sa⟩:=ha.ex
 exact ⟨_,tR hc hg hm hv pa hn hdb h1 h2,ui hr sa⟩
theorem vK {K:Wj}:mK K (λxs H Q=>∃ i,xs=[.int i]/\Q (.int (if i < 0 then -i else i)) H) wR:=λH μ xs ds Q Q' m p h k=>by
 unfold wR at h
 split at h
 ·cases p with | cons p1 p2=>cases p2;cases p1;exact ⟨_,rfl,k _ H _ μ (.refl H) m (.int _) h⟩
 ·exact Ww h
theorem rj {K:Wj}:mK K (λxs H Q=>∃ i j,xs=[.int i,.int j]/\Q (.int (if j > i then j else i)) H) qj:=λH μ xs ds Q Q' m p h k=>by
 unfold qj at h
 split at h
 ·cases p with | cons p1 p2=>cases p2 with | cons p2 p3=>cases p3;cases p1;cases p2;exact ⟨_,_,rfl,k _ H _ μ (.refl H) m (.int _) h⟩
 ·exact Ww h
theorem Hj {K:Wj}:mK K (λxs H Q=>∃ i j,xs=[.int i,.int j]/\Q (.int (if j < i then j else i)) H) tQ:=λH μ xs ds Q Q' m p h k=>by
 unfold tQ at h
 split at h
 ·cases p with | cons p1 p2=>cases p2 with | cons p2 p3=>cases p3;cases p1;cases p2;exact ⟨_,_,rfl,k _ H _ μ (.refl H) m (.int _) h⟩
 ·exact Ww h
theorem NI {K:Wj}:mK K (λxs H Q=>(∃ i,xs=[.int i]/\Q (.int i) H)∨∃ k,xs=[.bl k]/\Q (.int (if k then 1 else 0)) H) AQ:=λH μ xs ds Q Q' m p h k=>by
 unfold AQ at h
 split at h
 ·cases p with | cons p1 p2=>cases p2;cases p1;exact .inl ⟨_,rfl,k _ H _ μ (.refl H) m (.int _) h⟩
 ·cases p with | cons p1 p2=>cases p2;cases p1;exact .inr ⟨_,rfl,k _ H _ μ (.refl H) m (.int _) h⟩
 ·exact Ww h
theorem cH.or {f:Wo}{r r':List V->Hp->VK->Prop}(h:cH X f r)(h':cH X f r'):cH X f (λxs H Q=>r xs H Q∨r' xs H Q):=λpins s σ H xs us Q I rx q=>by
 rcases q with q | q
 ·exact h pins s σ H xs us Q I rx q
 ·exact h' pins s σ H xs us Q I rx q
theorem bF {K:Wj}:mK K (λxs H Q=>(∃ p ys,xs=[.ref p]/\(SqL K H p ys∨SqT K H p ys)/\Q (.int ys.length) H)∨∃ z,xs=[.str z]/\z.length<=sizeLine/\Q (.int z.length) H) dg:=λH μ xs ds Q Q' m p h k=>by
 unfold dg at h
 split at h
 ·cases p with | cons p1 p2=>cases p2;cases p1 with | tup q l=>exact .inl ⟨_,_,rfl,.inr q,k _ H _ μ (.refl H) m (by rw[l.length];exact .int _) h⟩
 ·cases p with | cons p1 p2=>cases p2;cases p1 with | ls q l=>exact .inl ⟨_,_,rfl,.inl q.sq,k _ H _ μ (.refl H) m (by rw[l.length];exact .int _) h⟩
 ·cases p with | cons p1 p2=>cases p2;cases p1;exact .inr ⟨_,rfl,big h.1,k _ H _ μ (.refl H) m (.int _) h.2⟩
 ·rename_i a
  cases p with | cons p1 p2=>
  cases p2;cases p1
  obtain ⟨ys,e0,h⟩:=bU h
  obtain ⟨xs,ex,l⟩:=m a _ e0
  exact .inl ⟨_,_,rfl,.inl (SqL.of ex),k _ H _ μ (.refl H) m (by rw[l.length];exact .int _) h⟩
 ·exact Ww h
theorem bc:cH X (.builtin "len") (λxs H Q=>(∃ p ys,xs=[.ref p]/\(SqL X.K H p ys∨SqT X.K H p ys)/\Q (.int ys.length) H)∨∃ z,xs=[.str z]/\z.length<=sizeLine/\Q (.int z.length) H):=cH.or vp wo
end
end
section
open PySem PySem.Spec PyProof.Rows L2
section
variable {X:Cx} {a b c e tg o:WX} {Ta Tb Tc:ETr} {pos:Pos} {es:List WX} {At:ATr} {x:Str} {p:Pos} {id T:String} {st:Stmt} {rest:List Stmt} {T1 T2:STr} {tA:TTr}
theorem a8:LSs X [] bo:=⟨_,KY,λσ H ρ μ E E' rl h k=>k.nx _ _ _ _ (.refl H) rl h⟩
theorem ao (h1:LS X st T1)(h2:LSs X rest T2):LSs X (st::rest) (aA T1 T2):=by
 obtain ⟨t1,p1,s1⟩:=h1.ex
 obtain ⟨t2,p2,s2⟩:=h2.ex
 exact ⟨_,IF p1 p2,λσ H ρ μ E E' rl h k=>s1 σ H ρ μ _ _ rl h ⟨λσ' H' ρ' μ' t' r' q=>s2 σ' H' ρ' μ' E E' r' q (k.go t'),k.rt,k.bk,k.ct⟩⟩
theorem ay (h1:LS X st T1):LSs X [st] T1:=by
 obtain ⟨t1,p1,s1⟩:=h1.ex
 exact ⟨_,MZ p1,s1⟩
theorem eS (he:LE X e Ta)(hs:YA e none pos.line X.env=pure false:=by rfl):LS X (.Expr e pos) (fE Ta):=by
 obtain ⟨ta,pa,sa⟩:=he.ex
 exact ⟨_,NA pa hs,λσ H ρ μ E E' rl h k=>sa σ H ρ μ _ _ rl h λv H' d μ' t' m' p' h'=>k.nx _ _ _ _ t' (rl.go t' m') h'⟩
theorem aF (he:LE X e Ta):LS X (.Return (some e) pos) (a6 Ta):=by
 obtain ⟨ta,pa,sa⟩:=he.ex
 exact ⟨_,Rj pa,λσ H ρ μ E E' rl h k=>sa σ H ρ μ _ _ rl h k.rt⟩
theorem bQ {sa sb:List Stmt}(hc:LT X c tA)(ha:LSs X sa T1)(hb:LSs X sb T2):LS X (.If c sa sb pos) (bW tA T1 T2):=by
 obtain ⟨tc,pc,sc⟩:=hc.ex
 obtain ⟨t1,p1,s1⟩:=ha.ex
 obtain ⟨t2,p2,s2⟩:=hb.ex
 refine ⟨_,Tf pc p1 p2,λσ H ρ μ E E' rl h k=>sc σ H ρ μ _ _ rl h λq H1 μ1 t1' m1 h1=>?_⟩
 cases q with
 | true=>exact qB (s1 σ H1 ρ μ1 E E' (rl.go t1' m1) h1 (k.go t1'))
 | false=>exact qd (s2 σ H1 ρ μ1 E E' (rl.go t1' m1) h1 (k.go t1'))
theorem iH {K:Wj}(i:Nat):Qs K (mN i) (ax i):=λσ H ρ μ v d k k' rl p h q=>q _ _ _ _ (.refl H) (rl.set p i) h
theorem fI (i:Nat)(hN:X.N.Nodup)(hi:X.N[i]? = some x:=by rfl)(hx:Loc X.env.scope x:=by first | exact ZV rfl | exact ZW rfl)(hf:X.fn x=true∨X.env.scope.names.lookup x=some .local:=by first | exact .inl rfl | exact .inr rfl | assumption):LG X (.Name x pos) (ax i):=
 ⟨_,iL hN hi hx hf,iH i⟩
theorem aD (i:Nat){pos':Pos}(hN:X.N.Nodup)(he:LE X e Ta)(hi:X.N[i]? = some x:=by rfl)(hx:Loc X.env.scope x:=by first | exact ZV rfl | exact ZW rfl)(hs:YA e (some (.Name x pos')) pos.line X.env=pure false:=by rfl)
  (hf:X.fn x=true∨X.env.scope.names.lookup x=some .local:=by first | exact .inl rfl | exact .inr rfl | assumption):LS X (.Assign [.Name x pos'] e pos) (aP Ta (ax i)):=by
 obtain ⟨ta,pa,sa⟩:=he.ex
 exact ⟨_,OI hN hi hx pa hs hf,λσ H ρ μ E E' rl h k=>sa σ H ρ μ _ _ rl h λv H' d μ' t' m' p' h'=>iH i σ H' ρ μ' v d _ _ (rl.go t' m') p' h' (k.go t').nx⟩
theorem vO (i j:Nat){y:Str}{px py pt:Pos}{kt k2 pt2}(hc:X.calm=true)(hN:X.N.Nodup)(ha:LA X [a,b] At)(hi:X.N[i]? = some x:=by rfl)(hj:X.N[j]? = some y:=by rfl)(hij:i≠j:=by decide)
  (hx:X.env.scope.names.lookup x=some .local:=by rfl) (hy:X.env.scope.names.lookup y=some .local:=by rfl)
  (hw:zaR [.Tuple [.Name x px,.Name y py] kt pt] (.Tuple [a,b] k2 pt2) X.env=pure (some [x,y]):=by rfl)
  (hs:zaQ [.Tuple [.Name x px,.Name y py] kt pt] (.Tuple [a,b] k2 pt2) pos.line X.env=pure false:=by rfl) :
  LS X (.Assign [.Tuple [.Name x px,.Name y py] kt pt] (.Tuple [a,b] k2 pt2) pos) (qU i j At):=by
 obtain ⟨ta,pa,sa⟩:=ha.ex
 refine ⟨_,RS hc hN hi hj hij hx hy pa hw hs,λσ H ρ μ E E' rl h k=>sa σ H ρ μ _ _ rl h λvs H' ds μ' t' m' p' h'=>?_⟩
 unfold L3.k2 at h'
 split at h'
 ·rename_i dv dw
  cases p' with | cons p1 p2=>cases p2 with | cons p2 p3=>
  cases p3
  exact ⟨_,_,rfl,k.nx _ _ _ _ t' (((rl.go t' m').set p1 i).set p2 j) h'⟩
 ·exact Ww h'
theorem rn {body:List Stmt}(hp:zdf (WW X.prog X.w) X.A X.env X.xe)(hc:LT X c tA)(hb:LSs X body T1):LS X (.While c body [] pos) (vk tA T1):=by
 obtain ⟨tc,pc,sc⟩:=hc.ex
 obtain ⟨t1,p1,s1⟩:=hb.ex
 refine ⟨_,HI hp pc p1,λσ H ρ μ E E' rl h k=>?_⟩
 obtain ⟨P,m,h0,hs⟩:=h
 refine ⟨λn σ' H'=>∃ ρ' μ',Tk H H'/\Rl X.K σ' H' ρ' μ'/\P ρ' μ'/\n=m ρ' μ',⟨_,ρ,μ,.refl H,rl,h0,rfl⟩,?_⟩
 rintro n σ1 H1 ⟨ρ1,μ1,t1',rl1,hP,rfl⟩
 refine sc σ1 H1 ρ1 μ1 _ _ rl1 (hs ρ1 μ1 hP) λq H2 μ2 t2 m2 h2=>?_
 have t12:=t1'.trans t2
 cases q with
 | true=>
  refine qB ⟨λσ' H'=>∃ ρ' μ',Tk H H'/\Rl X.K σ' H' ρ' μ'/\P ρ' μ'/\m ρ' μ' < m ρ1 μ1,λσ' H' ⟨ρ',μ',a1,a2,a3,a4⟩=>⟨_,a4,ρ',μ',a1,a2,a3,rfl⟩,?_⟩
  have h2':=h2
  refine s1 σ1 H2 ρ1 μ2 _ _ (rl1.go t2 m2) h2' ⟨λσ' H' ρ' μ' t' r' q=>⟨ρ',μ',t12.trans t',r',q.1,q.2⟩,(k.go t12).rt,(k.go t12).nx,λσ' H' ρ' μ' t' r' q=>⟨ρ',μ',t12.trans t',r',q.1,q.2⟩⟩
 | false=>exact qd (k.nx _ _ _ _ t12 (rl1.go t2 m2) h2)
theorem om (lo:Int)(n:Nat):cE lo (n+1)=.int lo::cE (lo+1) n:=by
 unfold cE
 rw[ZX]
 rw[WE,Wz]
 congr 1
 ·simp
 ·refine W3 λi _=>?_
  show D.int _=D.int _
  congr 1
  show lo+((i+1:Nat):Int)=lo+1+(i:Int)
  omega
end
def lift (K:Wj)(sp:FSp):Sp:=λvs H Q _=>∃ ds μ QQ,DpL K H vs ds/\bM K H μ/\sp ds μ QQ/\jG K H QQ Q
def RT (Q:DK):DK:=λd μ'=>∃ μ,Sub μ μ'/\Q d μ
def ini (n:Nat)(ds:List D):ST:=ds.map some++X9 (n - ds.length) none
theorem PV:∀ (ds:List D) (n i:Nat) (d:D),lk (ini n ds) i=some d->ds[i]? = some d:=by
 intro ds
 have rep:∀ m i (d:D),lk (X9 m none) i=some d->False:=by
  intro m
  induction m with
  | zero=>intro i d h;cases i<;>cases h
  | succ m ih=>intro i d h;cases i with
   | zero=>cases h
   | succ i=>exact ih i d h
 have gen:∀ (ds:List D) m i d,lk (ds.map some++X9 m none) i=some d->ds[i]? = some d:=by
  intro ds
  induction ds with
  | nil=>intro m i d h;exact (rep m i d h).elim
  | cons x r ih=>intro m i d h;cases i with
   | zero=>simpa[lk] using h
   | succ i=>simpa using ih m i d h
 exact λn i d h=>gen ds _ i d h
section
variable {P:W7} {w:Xh} {K:Wj} {mg:Str->Option Wo} {base:Heap}
theorem NR {x qual:Str}{st:Stmt}{f:Addr}{fd:WV}{N ps:List Str}{k:Nat}{sp:FSp}{T:STr}(F:Fun K x qual st f fd)(S:aK N ps (aw st))(len:∀ ds μ Q,sp ds μ Q->ds.length=ps.length)
  (hb:∀ (cdv:Wo) (A:XA) (outer:List Env) (s:Wu) (H:Hp) (E:XK),gD k (A.deeper (zay qual (aw st) s.heap.objs.size f cdv))->
   LSs (yF CX0 P w K mg base N qual (aw st) f cdv A outer s H E).nox (gM st) T)
  (hr:∀ ds μ Q,sp ds μ Q->T { nx:=λ_ μ'=>RT Q .non μ',rt:=RT Q } (ini N.length ds) μ):lC P w K mg base CX0 (k+1) f fd ps (lift K sp):=by
 refine F.ok S (λvs H Q E h=>?_) (λcdv A outer s H vs Q E hroom h=>?_)
 ·obtain ⟨ds,μ,QQ,l,m,h1,k⟩:=h
  rw[l.length];exact len ds μ QQ h1
 ·obtain ⟨ds,μ,QQ,l,m,h1,k⟩:=h
  obtain ⟨t,pt,stt⟩:=(hb cdv A outer s H E hroom).ex
  have hl:vs.length=ds.length:=l.length
  refine ⟨t,pt,stt (L2.start N vs) H (ini N.length ds) μ _ _ ⟨?_,λi d e=>?_,m⟩ (hr ds μ QQ h1) ⟨λσ' H' ρ' μ' t' r' q=>?_,λv H' d μ' t' m' p' q=>?_,λ_ _ _ _ _ _ q=>q,λ_ _ _ _ _ _ q=>q⟩⟩
  ·unfold ini L2.start;simp[hl]
  ·have e':=PV ds _ i d e
   obtain ⟨v,e1,p⟩:=l.get e'
   refine ⟨v,?_,p⟩
   unfold L2.start
   have hi:i < vs.length:=(W4.mp e1).1
   rw[Zm (by simpa using hi),Xo,e1]
   rfl
  ·obtain ⟨μ2,s2,q2⟩:=q
   exact k _ _ _ μ2 t' (r'.mu.sub s2) .non q2
  ·obtain ⟨μ2,s2,q2⟩:=q
   exact k _ _ _ μ2 t' (m'.sub s2) p' q2
end
section
variable {X:Cx} {k:Nat} {f:Addr} {fd:WV} {ps:List Str} {sp:FSp} {x:Str} {p pos:Pos} {e:WX} {es:List WX} {At:ATr}
theorem Nu (F:lC X.prog X.w X.K X.mg X.base CX0 k f fd ps (lift X.K sp))(hr:gD k X.A)(hg:Gl X x)(hm:X.mg x=some (.ref f))(hk:ZS X.K (.ref f)=true)(hb:Binds X.K fd ps [])
  (ha:LA X (e::es) At) (hdb:(x == ("__debug__" : Str))=false:=by decide) (he:WH (e::es) X.env=(false,XJ e X.env)::WH es X.env:=by rfl) (hpl:(X3 pos (WH es X.env)).any (·.1)=false:=by rfl) :
  LE X (.Call (.Name x p) (e::es) [] pos) (au sp At):=by
 obtain ⟨ta,pa,sa⟩:=ha.ex
 refine ⟨_,Nx F hr hg hm hk hb .nil Tn pa hdb he hpl,λσ H ρ μ Q Q' rl h k=>sa σ H ρ μ _ _ rl h λxs H1 ds μ1 t1 m1 p1 h1=>?_⟩
 rw[W8]
 exact ⟨ds,μ1,Q,p1,m1,h1,k.go t1⟩
end
end
section
open PySem PySem.Spec PyProof.Rows L2
theorem DpL.ints {K:Wj}{H:Hp}:∀ ns:List Int,DpL K H (ns.map V.int) (ns.map D.int)
 | []=>.nil
 | n::r=>.cons (.int n) (DpL.ints r)
theorem SqF.only {K:Wj}{H:Hp}{a:Addr}{xs:List V}(hO:M8 H)(h:SqL K H a xs):SqF K H a xs:=by
 rcases h with (h | h) | h
 ·rcases hO a with z | ⟨o,ys,z⟩
  ·rw[h] at z;cases z
  ·rw[h] at z;cases z
 ·exact .inl h
 ·exact .inr h
theorem SD {l:zbC}{k:Nat}{q:W7}{loose:List Str}{XP:(Str->Option Wo)->Heap->Prop}{YP:Xh->Heap->Prop}{d:DefRec}{K:Params->Wj}{sp:FSp}{x:Str}
  (hn:l.most=some 63) (hdf:d.params.defaults=[]) (hr:gD k zbt) (hY:∀ (w:Xh) (h:Heap),YP w h->(K w.params).In h)
  (hl:∀ ns:List Int,ns.length<=63->∀ μ,sp [.ls (ns.map .int)] μ (λd _=>d=.bl true))
  (F:∀ (w:Xh) (mg:Str->Option Wo) (fa:Addr) (h:Heap),(K w.params).In h->h.Ns X5 mg->mg d.name=some (.ref fa)->
   ∃ fd:WV,(∀ (s:Wu) (u:Wo),zcU s fd ⟨[u],[]⟩ [(x,u)])/\∀ base:Heap,(K w.params).In base->base.Ns X5 mg->lC l.prog w (K w.params) mg base CX0 k fa fd [x] (lift (K w.params) sp)) :
  zd5 q loose XP YP l.row.toRowW d [] (λf vs=>zdR f vs):=
 L2.MC (n:=63) (k:=k) (x:=x) (CX:=λ_=>CX0) (sp:=λw=>lift (K w.params) sp) hn (by decide) hdf hr hY F
  (λw H a ns hl' hO hS=>⟨[.ls (ns.map .int)],λ_=>none,_,.cons (.ls (.only hO hS) (.ints ns)) .nil,(λa o e=>by cases e),hl ns hl' _,λv H' d μ' _ _ p e=>by
   have e':d=.bl true:=e
   subst e'
   cases p;rfl⟩) λ_ _ _ _ _ z=>z
end
section
open PySem PySem.Spec PyProof.Rows L2
def scB (N P:List Str)(sc:Scope):Bool:=decide N.Nodup&&decide (∀ x∈P,sc.names.lookup x=some .local∨sc.names.lookup x=some .cell)&&decide (∀ y∈sc.names,y.2≠.free)
theorem UA {N P:List Str}{sc:Scope}(h1:sc.kind=.function)(h2:sc.isCoroutine=false)(h3:sc.isGenerator=false)(h4:N.take P.length=P)(h:scB N P sc=true):aK N P sc:=by
 unfold scB at h
 rw[Xm,Xm] at h
 exact ⟨h1,h2,h3,of_decide_eq_true h.1.1,h4,of_decide_eq_true h.1.2,of_decide_eq_true h.2⟩
structure aU (P:W7) (w:Xh) (K:Wj) (mg:Str->Option Wo) (base:Heap) (k:Nat) (x:Str) (ps:List Str) (sp:FSp):Prop where
 ex:∃ f fd,lC P w K mg base CX0 k f fd ps (lift K sp)/\mg x=some (.ref f)/\ZS K (.ref f)=true/\Binds K fd ps []
section
variable {P:W7} {w:Xh} {K:Wj} {mg:Str->Option Wo} {base:Heap}
theorem aO {x qual:Str}{st:Stmt}{f:Addr}{fd:WV}{N ps:List Str}{k:Nat}{sp:FSp}{T:STr}(m:mg x=some (.ref f))(F:Fun K x qual st f fd)(S:aK N ps (aw st))(len:∀ ds μ Q,sp ds μ Q->ds.length=ps.length)
  (hr:∀ ds μ Q,sp ds μ Q->T { nx:=λ_ μ'=>RT Q .non μ',rt:=RT Q } (ini N.length ds) μ)
  (b:∀ (kV doc pm:Wo) (an:Option Addr) (cdv ct:Wo) (us:List Wo),us.length=ps.length->bindArgs (Zi x qual (lY st) (gM st) (aw st) .none kV doc pm an cdv ct) ⟨us,[]⟩=pure (ps.zip us))
  (hb:∀ (cdv:Wo) (A:XA) (outer:List Env) (s:Wu) (H:Hp) (E:XK),gD k (A.deeper (zay qual (aw st) s.heap.objs.size f cdv))->(A.deeper (zay qual (aw st) s.heap.objs.size f cdv)).units+64 < cLine->
   LSs (yF CX0 P w K mg base N qual (aw st) f cdv A outer s H E).nox (gM st) T):aU P w K mg base (k+1) x ps sp:=
 ⟨f,fd,NR F S len (λcdv A outer s H E h=>hb cdv A outer s H E h h.units) hr,m,F.kp,F.binds b⟩
end
theorem ar {X:Cx}{k n:Nat}{x:Str}{ps:List Str}{sp:FSp}{e:WX}{es:List WX}{At:ATr}{p pos:Pos}(C:aU X.prog X.w X.K X.mg X.base k x ps sp)(hr:gD n X.A)(hg:Gl X x)
  (ha:LA X (e::es) At) (hle:k<=n:=by decide) (hdb:(x == ("__debug__" : Str))=false:=by decide) (he:WH (e::es) X.env=(false,XJ e X.env)::WH es X.env:=by rfl) (hpl:(X3 pos (WH es X.env)).any (·.1)=false:=by rfl) :
  LE X (.Call (.Name x p) (e::es) [] pos) (au sp At):=by
 obtain ⟨f,fd,F,m,kp,b⟩:=C.ex
 exact Nu F (hr.mono hle) hg m kp b ha hdb he hpl
end
section
open PySem PySem.Spec PyProof.Rows L2
def bh (X:Cx)(scope:Scope)(Nc:List Str)(cl:List (Str×Addr))(C:Addr)(s₀:Wu)(H₀:Hp)(ex:List Addr):Cx:=
 { X with env:=zdU scope cl C X.env,N:=Nc,s₀:=s₀,H₀:=H₀,outer:=X.stack,ex:=ex,fn:=λ_=>false,pn:=[] }
theorem z9 {scope:Scope}{env:Env}(h:∀ y∈scope.names,y.2=.free->∃ c,env.cells.lookup y.1=some c) :
  ∃ cl,closureFor scope env=pure cl/\(∀ x c,cl.lookup x=some c->env.cells.lookup x=some c)/\∀ y∈scope.names,y.2=.free->∃ c,cl.lookup y.1=some c:=by
 have gen:∀ (ns:List (Str×zaa)) (cs:List (Str×Addr)),(∀ y∈ns,y.2=.free->∃ c,env.cells.lookup y.1=some c)->(∀ x c,cs.lookup x=some c->env.cells.lookup x=some c)->
   ∃ cl,(forIn ns cs λx r=>if (x.2 == Yh)=true then do let c ← cellOf env x.1;pure (Ym ((x.1,c)::r)) else pure (Ym r):Sem _)=pure cl/\(∀ x c,cl.lookup x=some c->env.cells.lookup x=some c)/\
    (∀ x,(cs.lookup x).isSome=true->(cl.lookup x).isSome=true)/\∀ y∈ns,y.2=.free->∃ c,cl.lookup y.1=some c:=by
  intro ns
  induction ns with
  | nil=>intro cs _ h2;exact ⟨cs,rfl,h2,λ_ z=>z,λ_ z=>nomatch z⟩
  | cons y r ih=>
   intro cs h1 h2
   obtain ⟨n,k⟩:=y
   by_cases hk:k=.free
   ·subst hk
    obtain ⟨c,hc⟩:=h1 (n,.free) WL rfl
    have h2':∀ x c',((n,c)::cs).lookup x=some c'->env.cells.lookup x=some c':=λx c' e=>by
     rw[Yf] at e
     split at e
     ·rename_i hx
      cases e
      have:x=n:=by simpa using hx
      subst this;exact hc
     ·exact h2 x c' e
    obtain ⟨cl,e1,e2,e3,e4⟩:=ih ((n,c)::cs) (λy hy=>h1 y (WU _ hy)) h2'
    refine ⟨cl,?_,e2,λx hx=>e3 x ?_,λy hy hf=>?_⟩
    ·rw[zak]
     have:cellOf env n=pure c:=by unfold cellOf;rw[hc]
     simp only[beq_self_eq_true,if_true,this,pure_bind]
     exact e1
    ·rw[Yf];split
     ·rfl
     ·exact hx
    ·obtain rfl | hy:=WM.mp hy
     ·have:(cl.lookup n).isSome=true:=e3 n (by simp[Yf])
      exact zaU.mp this
     ·exact e4 y hy hf
   ·obtain ⟨cl,e1,e2,e3,e4⟩:=ih cs (λy hy=>h1 y (WU _ hy)) h2
    refine ⟨cl,?_,e2,e3,λy hy hf=>?_⟩
    ·rw[zak]
     have:(k == Yh)=false:=by simpa using hk
     simp only[this,ZD,if_false,pure_bind]
     exact e1
    ·obtain rfl | hy:=WM.mp hy
     ·exact absurd hf hk
     ·exact e4 y hy hf
 obtain ⟨cl,e1,e2,_,e4⟩:=gen scope.names [] h λx c e=>by cases e
 refine ⟨cl,?_,e2,e4⟩
 show ((forIn scope.names ([]:List (Str×Addr)) λx r=>if (x.2 == Yh)=true then do let c ← cellOf env x.1;pure (Ym ((x.1,c)::r)) else pure (Ym r):Sem _) >>= λs=>pure s)=pure cl
 rw[e1]
 rfl
def zy (Y:Cx)(ifs:List WX)(t:TT):Prop:=
 ∀ (pins:List (Addr×Obj)) (s:Wu) (σ:L2.St) (H:Hp) (Q:Bool->Hp->Prop),Inv Y pins σ H s->t σ H Q->
  WT (WW Y.prog Y.w) Y.A (forIn ifs true λc r=>if r=true then do let ok ← isTrue c Y.env (XJ c Y.env);pure (Ym ok) else pure (Ym r)) (TP Y pins σ Q) Y.xe s
def U2:TT:=λ_ H Q=>Q true H
theorem MY {Y:Cx}:zy Y [] U2:=λpins s σ H Q I h=>wpAny_tests_nil ⟨H,I,h⟩
theorem K9 {Y:Cx}{c:WX}{t:TT}(h:PT Y c t):zy Y [c] t:=λpins s σ H Q I hh=>wpAny_tests_one (h pins s σ H Q I hh)
def kK (σ:L2.St)(n:Nat)(caps:List Nat):L2.St:=X9 n none++caps.map λi=>(σ[i]?).join
def Wk (σ' σ:L2.St):Prop:=σ'.length=σ.length/\∀ (i:Nat) v,σ'[i]? = some (some v)->σ[i]? = some (some v)
def kY (wi:TI)(g:TG)(tt:TT)(te:TE)(n:Nat)(caps:List Nat):TE:=λσ H Q=>wi σ H λJ H1=>∀ D,H1 D=none->
 ∃ W:Nat->Nat->List V->Hp->Prop,(∃ m,W 0 m [] (L2.upd H1 D (.lst [])))/\∀ i m ys H2,W i m ys H2->
  (J.stop i H2/\Q (.ref D) H2)∨(J.go i H2/\∃ N:List V->Hp->Prop,(∀ ys' H',N ys' H'->∃ m',m' < m/\W (i+1) m' ys' H')/\
   ∀ x H3,J.yld i H2 x H3->g x (kK σ n caps) H3 λσ4 H4=>Wk (kK σ n caps) σ4/\tt σ4 H4 λb H5=>if b=true then te σ4 H5 λy H6=>∃ zs,H6 D=some (.lst zs)/\zs.length < sizeLine/\N (zs++[y]) (L2.upd H6 D (.lst (zs++[y]))) else N ys H5)
theorem EY {prog:W7}{w:Xh}{A:XA}{R:zdh->Wu->Prop}{s:Wu}{elt target iter:WX}{ifs:List WX}{scope:Scope}{pos:Pos}{it acc:Wo}{env:Env}(J:Nat->Wu->Prop)
  (turn:∀ n s,J n s->WT (WW prog w) A (Zz it) (λo t₁=>match o with
   | none=>R (.ok .next) t₁
   | some v=>WT (WW prog w) A (zai target it v) (λ_ t₁=>WT (WW prog w) A (zbn target env v) (λ_ t₂=>
     WT (WW prog w) A (forIn ifs true λc r=>
      if r=true then do let ok ← isTrue c env (XJ c env);pure (Ym ok) else pure (Ym r)) (λok t₃=>
      if ok=true then WT (WW prog w) A (XJ elt env) (λx t₄=>
       WT (WW prog w) A (zcj (.builtin "list.append") [acc,x]) (λ_ t₅=>∃ m,m < n/\J m t₅) (λ_ _=>False) t₄) (λ_ _=>False) t₃
      else ∃ m,m < n/\J m t₃) (λ_ _=>False) t₂) (λ_ _=>False) t₁) (λ_ _=>False) t₁) (λ_ _=>False) s)
  (n:Nat) (h:J n s):Y4 (WW prog w) A (.compLoop (.ListComp elt [⟨target,iter,ifs,0⟩] scope pos) 0 it acc env) R s:=by
 refine codeAny_loop rfl J (λn s hJ=>?_) n h
 show WT _ A ((compTurn (.ListComp elt [⟨target,iter,ifs,0⟩] scope pos) 0 it acc env).onRaise
  (λx=>do noteFrame x env;theTreesLotGoes x)) _ _ s
 refine wpAny_noted ?_
 rw[compTurn_list]
 refine Wl (zaS (Wl (XM (turn n s hJ) (λr t₁ g₁=>?_) λ_ _ h'=>h'.elim)))
 cases r with
 | none=>exact WD g₁
 | some v=>
  refine Wl (XM g₁ (λ_ t₁' g₁'=>?_) λ_ _ h'=>h'.elim)
  refine Wl (XM g₁' (λ_ t₂ g₂=>Wl (XM g₂ (λok t₃ g₃=>?_) λ_ _ h'=>h'.elim)) λ_ _ h'=>h'.elim)
  cases ok with
  | false=>exact WD ⟨rfl,g₃⟩
  | true=>
   exact Wl (Wl (XM g₃ (λx t₄ g₄=>Wl (XM g₄ (λ_ t₅ g₅=>WD (WD ⟨rfl,g₅⟩)) λ_ _ h'=>h'.elim)) λ_ _ h'=>h'.elim))
theorem jO {σ:L2.St}{n:Nat}{caps:List Nat}{i:Nat}{v:V}(h:(kK σ n caps)[i]? = some (some v)):∃ j k,i=n+j/\caps[j]? = some k/\σ[k]? = some (some v):=by
 unfold kK at h
 by_cases hi:i < n
 ·rw[Zm (by simpa using hi),za4,if_pos hi] at h
  cases h
 ·rw[Y8 (by simpa using hi)] at h
  rw[Z0,Xo] at h
  cases e:caps[i - n]? with
  | none=>rw[e] at h;cases h
  | some k=>
   rw[e] at h
   have h':(σ[k]?).join=some v:=Xg h
   cases e2:σ[k]? with
   | none=>rw[e2] at h';cases h'
   | some o=>
    rw[e2] at h'
    have h'':o=some v:=h'
    subst h''
    exact ⟨i - n,k,by omega,e,e2⟩
theorem fF {env:Env}(hk:env.scope.kind=.function):∀ {names:List (Str×zaa)} {x:Str},env.kindOf x=some .cell->names.lookup x=some .free->
  (names.map λ(n,k)=>if (k == Yh&&env.scope.kind == .function&&env.kindOf n == some .cell) then (n,zcu) else (n,k)).lookup x=some .cell
 | [],_,_,h=>by simp at h
 | (n,k)::r,x,hc,h=>by
  have ih:=@fF env hk r x hc
  show List.lookup x ((if (k == Yh&&env.scope.kind == .function&&env.kindOf n == some .cell)=true
   then (n,zcu) else (n,k))::_)=_
  cases hx:x == n with
  | true=>
   simp only[hx,Yf] at h
   cases h
   have e:x=n:=by simpa using hx
   subst e
   simp[Yf,hk,hc]
  | false=>
   simp only[hx,Yf] at h
   by_cases hcc:(k == Yh&&env.scope.kind == .function&&env.kindOf n == some .cell)=true
   ·rw[if_pos hcc];simp only[Yf,hx];exact ih h
   ·rw[if_neg hcc];simp only[Yf,hx];exact ih h
theorem nR {env:Env}:∀ {names:List (Str×zaa)} {x:Str} {k':zaa},(∀ y∈names,y.2≠.cell)->(k'=.cell∨k'=.free)->
  (x,k')∈(names.map λ(n,k)=>if (k == Yh&&env.scope.kind == .function&&env.kindOf n == some .cell) then (n,zcu) else (n,k))->(x,Yh)∈names:=by
 intro names x k' hn hk h
 obtain ⟨⟨n,k⟩,hm,e⟩:=Wq.mp h
 dsimp only at e
 split at e
 ·rename_i hc
  cases e
  have:k=.free:=by simp at hc;exact hc.1.1
  subst this;exact hm
 ·cases e
  rcases hk with rfl | rfl
  ·exact absurd rfl (hn _ hm)
  ·exact hm
theorem IX {X:Cx}{pins:List (Addr×Obj)}{σ:L2.St}{H H5:Hp}{s:Wu}{C:Addr}{h':Heap}(I:Inv X pins σ H s)(f0:H C=none)(fC:qo X pins H5 C)(hs:Zg C s.heap h'):Inv X pins σ H { s with heap:=h' }:=by
 have keep:∀ b o',b≠C->s.heap.get? b=some o'->h'.get? b=some o':=λb o' hb e'=>(hs.2 b hb).trans e'
 refine I.NU (ch:=[C]) (s':={ s with heap:=h' }) rfl ⟨λb o' e' _ _ nx=>keep b o' (λz=>nx (by rw[z];exact WL)) e',λb o' e' _ _ nx=>⟨o'.slots,keep b o' (λz=>nx (by rw[z];exact WL)) e'⟩,λb o' _ w _=>w,λb o' e' nx=>⟨o',keep b o' (λz=>nx (by rw[z];exact WL)) e'⟩,λb ys e'=>e',λb o' u e'=>e',λb ps e'=>⟨#[],by simpa using e'⟩⟩ (λb u e'=>?_) I.bare λb hb=>?_
 ·refine (I.hok b u e').nK (λc w' hc q=>keep c w' ?_ q) (λ_ q=>q) λ_ _ q=>q
  rintro rfl
  rcases hc with z | z
  ·rw[← z,f0] at e';cases e'
  ·rw[f0] at z;cases z
 ·cases XO.mp hb
  exact ⟨fC.2.2.2.1,fC.2.1,fC.2.2.2.2.1,fC.2.2.2.2.2⟩
theorem wG {X:Cx}{tg iter elt:WX}{ifs:List WX}{scope:Scope}{pos:Pos}{wi:TI}{g:TG}{tt:TT}{te:TE}{Nc:List Str}{n:Nat}{caps:List Nat}
  (hxe:X.xe=λ_ _=>False) (hcalm:X.calm=true) (hi:PI X tg iter wi)
  (hbody:∀ (cl:List (Str×Addr)) (C:Addr) (s₀:Wu) (H₀:Hp) (ex:List Addr),PG (bh X scope Nc cl C s₀ H₀ ex) tg g/\zy (bh X scope Nc cl C s₀ H₀ ex) ifs tt/\PE (bh X scope Nc cl C s₀ H₀ ex) elt te)
  (hfree:∀ y∈scope.names,y.2=.free->X.env.kindOf y.1=some .cell) (hcell:∀ y∈scope.names,y.2≠.cell) (gB:scope.kind=.function)
  (hnames:∀ y∈scope.names,y.2=.local->scope.names.lookup y.1=some .local) (hlen:Nc.length=n+caps.length)
  (hcap:∀ (j k:Nat),caps[j]? = some k->∃ x,Nc[n+j]? = some x/\X.N[k]? = some x/\scope.names.lookup x=some .free)
  {use:Option (Wo->Sem Unit)} {Qv:Wo->Wu->Prop} {pins:List (Addr×Obj)} {s:Wu} {σ:L2.St} {H:Hp} {Q:VK} {ps:Pos} (I:Inv X pins σ H s) (h:kY wi g tt te n caps σ H Q)
  (hfin:∀ (D C:Addr) (s5:Wu) (H5:Hp) (m:Str->Option Wo),Inv X pins σ H5 s5->qo X pins H5 C->s5.heap.Ns C m->Q (.ref D) H5->zdV (WW X.prog X.w) X.A (λ_ _=>False) use Qv (.ref D) C (.ok .next) s5)
  (hs:∀ x,Xn iter X.env x=pure x:=by intro _;rfl) :
  WT (WW X.prog X.w) X.A (comprehension (.ListComp elt [⟨tg,iter,ifs,0⟩] scope pos) scope X.env ps (newList []) false (XJ iter X.env) use) Qv (λ_ _=>False) s:=by
 obtain ⟨cl,hclos,clin,clfree⟩:=z9 (scope:=scope) (env:=X.env) λy hy hf=>I.ok.has y.1 (.inl (hfree y hy hf))
 refine wpAny_comprehension_free (use:=use) rfl hs hclos gB hnames ?_
 have hi':=hi pins s σ H _ I h
 rw[hxe] at hi'
 refine XM hi' (λxv s1 h1=>XM h1 (λitv s2 h2=>?_) λ_ _ z=>z) λ_ _ z=>z
 obtain ⟨it,fp,tn,J,H1,rfl,I2,T,st2,f2,hh⟩:=h2
 -- the new list
 refine Xz ?_
 have hD:H1 s2.heap.objs.size=none:=I2.hok.fresh (WG _)
 obtain ⟨W,⟨m0,w0⟩,turn⟩:=hh _ hD
 have I3:Inv X pins σ (L2.upd H1 s2.heap.objs.size (.lst [])) { s2 with heap:=s2.heap.push { cls:=.type "list", dict:=none,data:=.seq ([]:List Wo).toArray } }:=
  I2.laid (t':=s2.toks) (λb u e=>Wn _ e) (WG _) ⟨XX _,[],0,.nil,WN _ rfl⟩
 have k3:∀ b u,s2.heap.get? b=some u->(s2.heap.push { cls:=.type "list", dict:=none,data:=.seq ([]:List Wo).toArray }).get? b=some u:=λb u e=>Wn _ e
 have fne:∀ b∈fp,b≠s2.heap.objs.size:=λb hb=>by
  obtain ⟨o,ho,_⟩:=T.obj 0 _ st2 b hb
  exact W0 (WJ ho)
 generalize eD:s2.heap.objs.size=D at *
 generalize eh3:s2.heap.push { cls:=.type "list", dict:=none,data:=.seq ([]:List Wo).toArray }=h3 at *
 generalize eH3:L2.upd H1 D (.lst [])=H3 at *
 have st3:tn 0 h3:=T.keep 0 _ _ st2 λb hb o e=>k3 b o e
 have f3:∀ b∈fp,qo X pins H3 b:=λb hb=>⟨by rw[← eH3,aN (fne b hb)];exact (f2 b hb).1,(f2 b hb).2⟩
 have lt3:∀ b∈fp,b < h3.objs.size:=λb hb=>by
  obtain ⟨o,ho,_⟩:=T.obj 0 _ st3 b hb
  exact WJ ho
 generalize es3:({ s2 with heap:=h3 }:Wu)=s3 at *
 have hs3:s3.heap=h3:=by rw[← es3]
 refine wpAny_newFunctionEnv hcell (λy hy=>(by cases hy)) (λh4 hns hsb=>?_) gB
 show Y4 _ _ (.compStart _ 0 (.ref it) (.ref D) (zdU scope cl s3.heap.objs.size X.env)) (zdV _ _ _ _ _ (.ref D) s3.heap.objs.size) _
 have k4:∀ b u,s3.heap.get? b=some u->h4.get? b=some u:=λb u e=>hsb.extBut b u (W0 (WJ e)) (Wn _ e)
 have okY:(bh X scope Nc cl s3.heap.objs.size s3 H3 fp).Ok:=by
  refine ⟨I3.ok.mod,gB,I3.ok.glob,I3.ok.blt,WG _,λx y c e1 e2=>I3.ok.inj x y c (clin _ _ e1) (clin _ _ e2),λx hx=>?_,λx c hf=>(by cases hf),I3.ok.hd,I3.ok.frames,.inl rfl,λb hb=>⟨?_,λx c e z=>?_⟩,I3.bs,Xi I3.ok.bsz I3.sz,λb o e hb=>?_,λb hb hz=>?_,I3.stack,I3.CG⟩
  ·have hx':(relabel scope X.env).names.lookup x=some .cell∨(relabel scope X.env).names.lookup x=some .free:=hx
   have hm:(x,Yh)∈scope.names:=by
    rcases hx' with q | q
    ·exact nR hcell (.inl rfl) (XT q)
    ·exact nR hcell (.inr rfl) (XT q)
   exact clfree _ hm rfl
  ·show b≠s3.heap.objs.size
   rw[hs3];exact W0 (lt3 b hb)
  ·exact (f3 b hb).2.2.2.2.1 x c (clin _ _ e) z
  ·rcases (f3 b hb).2.2.2.1 with z | z
   ·exact I3.ok.JC b o e z
   ·exact absurd (WS (WJ e) (Xi I3.ok.bsz z)) (YH _)
  ·rcases WM.mp (I3.zO b hz) with z | z
   ·exact (f3 b hb).2.1 z
   ·exact (f3 b hb).2.2.1 z
 have Su:∀ c v,s3.heap.IsCell c v->h4.IsCell c v:=λc v ⟨o,ho,hd⟩=>⟨o,k4 c o ho,hd⟩
 have J0:Inv (bh X scope Nc cl s3.heap.objs.size s3 H3 fp) [] (kK σ n caps) H3 { s3 with heap:=h4,toks:=s3.toks+([]:List (Str×Wo)).length }:=by
  refine ⟨okY,rfl,I3.bare,Un.kept k4,⟨_,hns,λi x v e1 e2 e3=>?_⟩,λx c e=>?_,I3.hok.fresh (WG _),λx c e=>I3.jU x c (clin _ _ e),(λp hp=>(by cases hp)),I3.hok.kept k4,?_⟩
  ·obtain ⟨j,k,rfl,ej,ek⟩:=jO e2
   obtain ⟨x',n1,n2,n3⟩:=hcap j k ej
   have e1':Nc[n+j]? = some x:=e1
   rw[n1] at e1';cases e1'
   have hmem:(x,Yh)∈scope.names:=XT n3
   have hcellx:X.env.kindOf x=some .cell:=hfree _ hmem rfl
   obtain ⟨m,hn,hl⟩:=I3.loc
   obtain ⟨u,ru,lk⟩:=hl k x v n2 ek (.inr (.inl hcellx))
   refine ⟨u,ru,.inr ⟨.inl (fF I3.ok.kind hcellx n3),?_⟩⟩
   rcases lk with ⟨q,_⟩ | ⟨_,c,ec,ic⟩
   ·rw[hcellx] at q;cases q
   ·obtain ⟨c',ec'⟩:=clfree _ hmem rfl
    have:=clin _ _ ec'
    rw[ec] at this;cases this
    exact ⟨c,ec',Su _ _ ic⟩
  ·obtain ⟨v,q⟩:=I3.cell x c (clin _ _ e)
   exact ⟨v,Su _ _ q⟩
  ·unfold kK
   show _=Nc.length
   rw[Wv,Z0,Wm,hlen]
 obtain ⟨pg,pifs,pelt⟩:=hbody cl s3.heap.objs.size s3 H3 fp
 generalize eY:bh X scope Nc cl s3.heap.objs.size s3 H3 fp=Y at *
 have yP:Y.prog=X.prog:=by rw[← eY];rfl
 have yw:Y.w=X.w:=by rw[← eY];rfl
 have yK:Y.K=X.K:=by rw[← eY];rfl
 have yA:Y.A=X.A:=by rw[← eY];rfl
 have yx:Y.xe=λ_ _=>False:=by rw[← eY];exact hxe
 have yc:Y.calm=true:=by rw[← eY];exact hcalm
 have ye:Y.env=zdU scope cl s3.heap.objs.size X.env:=by rw[← eY];rfl
 have yfs:Y.fs=frs X.stack:=by rw[← eY];rfl
 have yex:Y.ex=fp:=by rw[← eY];rfl
 have ys0:Y.s₀=s3:=by rw[← eY];rfl
 have yH0:Y.H₀=H3:=by rw[← eY];rfl
 have ypn:Y.pn=[]:=by rw[← eY];rfl
 have Aa:∀ {H':Hp},(∀ b∈fp,H' b=none)->∀ b∈fp,qo Y [] H' b:=λhn b hb=>⟨hn b hb,by rw[ye];show b≠s3.heap.objs.size;rw[hs3];exact W0 (lt3 b hb),okY.GW b (by rw[yex];exact hb),.inl (by rw[yex];exact hb),
  λx c e=>by rw[ye] at e;exact (f3 b hb).2.2.2.2.1 x c (clin _ _ e),λp hp=>by rw[ypn] at hp;exact nomatch hp⟩
 have tn4:∀ t,tn 0 ({ s3 with heap:=h4,toks:=t }:Wu).heap:=λt=>T.keep 0 _ _ st3 λb hb o e=>k4 b o (by rw[hs3];exact e)
 -- the end
 have fin:∀ (s5:Wu) (H5:Hp),Inv Y [] (kK σ n caps) H5 s5->Q (.ref D) H5->zdV (WW X.prog X.w) X.A (λ_ _=>False) use Qv (.ref D) s3.heap.objs.size (.ok .next) s5:=λs5 H5 I5 q5=>by
  obtain ⟨m,hn,_⟩:=I5.loc
  rw[ye] at hn
  have un:=I5.base
  rw[yfs,yex,yH0,ys0] at un
  have hfreeC0:=I5.free
  rw[ye] at hfreeC0
  have hfreeC:H5 s3.heap.objs.size=none:=hfreeC0
  have hok5:=I5.hok
  rw[yP,yw] at hok5
  have I5X:Inv X pins σ H5 s5:=I3.NU (ch:=fp) (s':=s5) (by have:=I5.os;rw[ys0] at this;exact this) un hok5 I5.bare λb hb=>⟨(f3 b hb).2.2.2.1,(f3 b hb).2.1,(f3 b hb).2.2.2.2.1,(f3 b hb).2.2.2.2.2⟩
  exact hfin _ _ s5 H5 m I5X (I3.A7 (WG _) hfreeC) hn q5
 have loop:Y4 (WW X.prog X.w) X.A (.compLoop (.ListComp elt [⟨tg,iter,ifs,0⟩] scope pos) 0 (.ref it) (.ref D) (zdU scope cl s3.heap.objs.size X.env)) (zdV (WW X.prog X.w) X.A (λ_ _=>False) use Qv (.ref D) s3.heap.objs.size)
   { s3 with heap:=h4,toks:=s3.toks+([]:List (Str×Wo)).length }:=by
  refine EY (λk s'=>∃ i ys H',Inv Y [] (kK σ n caps) H' s'/\tn i s'.heap/\(∀ b∈fp,H' b=none)/\W i k ys H') ?_ m0 ⟨0,[],H3,J0,tn4 _,λb hb=>(f3 b hb).1,w0⟩
  rintro k s5 ⟨i,ys,H5,I5,st5,fr5,w5⟩
  rcases turn i k ys H5 w5 with ⟨stop,q⟩ | ⟨go,N,hN,step⟩
  ·have d:=T.done Y yP yw yK yc i [] s5 _ H5 (λ_ _=>False) I5 (Aa fr5) st5 stop
   rw[yA] at d
   refine thn d λr s6 ⟨hr,I6⟩=>?_
   subst hr
   exact fin s6 H5 I6 q
  ·have d:=T.item Y yP yw yK yc i [] s5 _ H5 (λ_ _=>False) I5 (Aa fr5) st5 go
   rw[yA] at d
   refine thn d λr s6 ⟨u,hr,h6⟩=>?_
   subst hr
   refine thn h6 λ_ s7 ⟨x,H7,I7,r7,y7,st7,fr7⟩=>?_
   have I7':=I7.pinned (Aa fr7) (T.obj _ _ st7)
   have a:=pg _ s7 _ H7 x u _ I7' r7 (step x H7 y7)
   rw[yP,yw,yA,yx,ye] at a
   refine thn a λ_ s8 ⟨σ8,H8,I8,wk,q8⟩=>?_
   have b:=pifs _ s8 σ8 H8 _ I8 q8
   rw[yP,yw,yA,yx,ye] at b
   have again:∀ {s9:Wu} {ys9:List V} {H9:Hp},Inv Y ([]++rP fp s7.heap) σ8 H9 s9->N ys9 H9->∃ m,m < k/\∃ i ys H',Inv Y [] (kK σ n caps) H' s9/\tn i s9.heap/\(∀ b∈fp,H' b=none)/\W i m ys H':=λ{s9 ys9 H9} I9 n9=>by
    obtain ⟨m',hm,w9⟩:=hN ys9 H9 n9
    have hp:∀ b∈fp,∀ o,s7.heap.get? b=some o->s9.heap.get? b=some o/\H9 b=none:=λb hb o e=>
     ⟨(I9.pin (b,o) (WZ _ (WZ _ (gu hb e)))).1,(I9.pin (b,o) (WZ _ (WZ _ (gu hb e)))).2.1⟩
    refine ⟨m',hm,i+1,ys9,H9,I9.j9.weak wk.1 wk.2,T.keep _ _ _ st7 λb hb o e=>(hp b hb o e).1,λb hb=>?_,w9⟩
    obtain ⟨o,e,_⟩:=T.obj _ _ st7 b hb
    exact (hp b hb o e).2
   refine thn b λok s9 ⟨H9,I9,q9⟩=>?_
   cases ok with
   | false=>
    rw[if_neg YW] at q9 ⊢
    exact again I9 q9
   | true=>
    rw[if_pos rfl] at q9 ⊢
    have c:=pelt _ s9 σ8 H9 _ I9 q9
    rw[yP,yw,yA,yx,ye] at c
    refine thn c λv s10 ⟨y,H10,I10,r10,zs,ez,lz,n10⟩=>?_
    have d:=t9 (X:=Y) _ s10 σ8 H10 (.ref D) [y] (.ref D) [v] (λ_ H'=>N (zs++[y]) H') I10 rfl (.cons r10 .nil) ⟨D,zs,y,rfl,rfl,ez,lz,n10⟩
    rw[yP,yw,yA,yx] at d
    exact thn d λ_ s11 ⟨_,H11,I11,_,q11⟩=>again I11 q11
 refine codeAny_compStart_list loop ?_
 exact T.self X.A 0 _ _ _ (tn4 _) loop
theorem DC {X:Cx}{tg iter elt:WX}{ifs:List WX}{scope:Scope}{pos:Pos}{wi:TI}{g:TG}{tt:TT}{te:TE}{Nc:List Str}{n:Nat}{caps:List Nat}
  (hxe:X.xe=λ_ _=>False) (hcalm:X.calm=true) (hi:PI X tg iter wi)
  (hbody:∀ (cl:List (Str×Addr)) (C:Addr) (s₀:Wu) (H₀:Hp) (ex:List Addr),PG (bh X scope Nc cl C s₀ H₀ ex) tg g/\zy (bh X scope Nc cl C s₀ H₀ ex) ifs tt/\PE (bh X scope Nc cl C s₀ H₀ ex) elt te)
  (hfree:∀ y∈scope.names,y.2=.free->X.env.kindOf y.1=some .cell) (hcell:∀ y∈scope.names,y.2≠.cell) (gB:scope.kind=.function)
  (hnames:∀ y∈scope.names,y.2=.local->scope.names.lookup y.1=some .local) (hlen:Nc.length=n+caps.length)
  (hcap:∀ (j k:Nat),caps[j]? = some k->∃ x,Nc[n+j]? = some x/\X.N[k]? = some x/\scope.names.lookup x=some .free)
  (hs:∀ x,Xn iter X.env x=pure x:=by intro _;rfl) :
  PE X (.ListComp elt [⟨tg,iter,ifs,0⟩] scope pos) (kY wi g tt te n caps):=by
 intro pins s σ H Q I h
 rw[hxe,eval_ListComp]
 exact wG hxe hcalm hi hbody hfree hcell gB hnames hlen hcap (use:=none) I h (λD C s5 H5 m I5 fC hn q=>⟨m,hn,λh6 hs6=>⟨.ref D,H5,IX I5 fC.1 fC hs6,rfl,q⟩⟩) hs
theorem xf {X:Cx}{tg iter elt:WX}{ifs:List WX}{scope:Scope}{pos spos py:Pos}{y:Str}{iy:Nat}{wi:TI}{g:TG}{tt:TT}{te:TE}{Nc:List Str}{n:Nat}{caps:List Nat}{Z:TE->TE}
  (hxe:X.xe=λ_ _=>False) (hcalm:X.calm=true) (hi:PI X tg iter wi)
  (hbody:∀ (cl:List (Str×Addr)) (C:Addr) (s₀:Wu) (H₀:Hp) (ex:List Addr),PG (bh X scope Nc cl C s₀ H₀ ex) tg g/\zy (bh X scope Nc cl C s₀ H₀ ex) ifs tt/\PE (bh X scope Nc cl C s₀ H₀ ex) elt te)
  (hfree:∀ y∈scope.names,y.2=.free->X.env.kindOf y.1=some .cell) (hcell:∀ y∈scope.names,y.2≠.cell) (gB:scope.kind=.function)
  (hnames:∀ y∈scope.names,y.2=.local->scope.names.lookup y.1=some .local) (hlen:Nc.length=n+caps.length)
  (hcap:∀ (j k:Nat),caps[j]? = some k->∃ x,Nc[n+j]? = some x/\X.N[k]? = some x/\scope.names.lookup x=some .free)
  (pgy:PG X (.Name y py) (mN iy))
  (hsw:YA (.ListComp elt [⟨tg,iter,ifs,0⟩] scope pos) (some (.Name y py)) spos.line X.env=pure true)
  (hz:∀ (σ:L2.St) (H:Hp) (Q:VK),Z (kY wi g tt te n caps) σ H Q->∃ Q',kY wi g tt te n caps σ H Q'/\∀ pins D H5 s5,Inv X pins σ H5 s5->Q' (.ref D) H5->∃ H6,(∀ b,H5 b=none->H6 b=none)/\Inv X pins σ H6 s5/\Q (.ref D) H6)
  (hs:∀ x,Xn iter X.env x=pure x:=by intro _;rfl) :
  PS X (.Assign [.Name y py] (.ListComp elt [⟨tg,iter,ifs,0⟩] scope pos) spos) (IG (Z (kY wi g tt te n caps)) (mN iy)):=by
 intro pins s σ H E' I h
 rw[hxe]
 rewrite [exec_Assign_Name_used _ _ _ _ hsw]
 refine Wl (zaS ?_)
 refine Wl ?_
 refine (show WT _ X.A (do let _ ← comprehension (.ListComp elt [⟨tg,iter,ifs,0⟩] scope pos) scope X.env _ (newList []) false (XJ iter X.env) (some (zbn (.Name y py) X.env))) _ _ s from ?_)
 obtain ⟨Q',h',hq⟩:=hz σ H _ h
 refine Wl (XM (wG hxe hcalm hi hbody hfree hcell gB hnames hlen hcap (use:=some (zbn (.Name y py) X.env)) (Qv:=λ_ s'=>SP X pins E' .next s') I h' (λD C s5 H5 m I5 fC hn q=>?_) hs) (λ_ s' hq=>WD (WD hq)) λ_ _ e=>e)
 obtain ⟨H6,fr,I6,q6⟩:=hq pins D H5 s5 I5 q
 have f0:=fr C fC.1
 have fC6:qo X pins H6 C:=⟨f0,fC.2⟩
 obtain ⟨oC,gC,dC⟩:∃ oC,s5.heap.get? C=some oC/\∀ v,oC.data≠.cell v:=by
  obtain ⟨oC,es,ep,ho,hd,_⟩:=hn
  exact ⟨oC,ho,λv z=>by rw[hd] at z;cases z⟩
 have I5P:=I6.pinned (fp:=[C]) (λb hb=>by cases XO.mp hb;exact fC6) (λb hb=>by cases XO.mp hb;exact ⟨oC,gC,dC⟩)
 have as:=pgy _ s5 σ _ (.ref D) (.ref D) E'.nx I5P rfl q6
 rw[hxe] at as
 refine thn as λ_ s6 ⟨σ6,H7,I7,n7⟩=>?_
 obtain ⟨g7,f7,_⟩:=I7.pin (C,oC) (WZ _ (WZ _ (gu WL gC)))
 exact ⟨m,hn.at' (λo' e'=>by have e'':s5.heap.get? C=some o':=e';rw[gC] at e'';cases e'';exact g7),λh8 hs8=>⟨σ6,H7,IX I7.j9 f7 fC6 hs8,n7⟩⟩
end
section
open PySem PySem.Spec PyProof.Rows L2
structure Iu (K:Wj) (J:It) (H1:Hp) (ds:List D):Prop where
 go:∀ i H',Tk H1 H'->i < ds.length->J.go i H'
 yld:∀ i H' x H'',Tk H1 H'->i < ds.length->J.yld i H' x H''->Tk H' H''/\(∃ d,ds[i]? = some d/\Dp K H'' x d)/\∀ μ,bM K H' μ->bM K H'' μ
 stop:∀ i H',Tk H1 H'->ds.length<=i->J.stop i H'
def Pb (K:Wj)(wi:TI)(It':ATr):Prop:=∀ σ H ρ μ (Q:List D->Mu->Prop) (R:It->Hp->Prop),Rl K σ H ρ μ->It' ρ μ Q->(∀ J H1 ds μ1,Tk H H1->bM K H1 μ1->Iu K J H1 ds->Q ds μ1->R J H1)->wi σ H R
structure LI (X:Cx) (tg iter:WX) (It':ATr):Prop where
 ex:∃ wi,PI X tg iter wi/\Pb X.K wi It'
section
variable {X:Cx} {tg a b c e elt iter:WX} {Ta Tb Te:ETr} {Tt:TTr} {pos:Pos} {It':ATr} {G:GTr}
theorem Jy {K:Wj}{H:Hp}{p:Addr}{xs:List V}{ds:List D}(q:SqT K H p xs)(l:DpL K H xs ds):Iu K (Itt K p) H ds where
 go:=λi H' t hi=>by
  have hl:=l.length
  exact ⟨xs,xs[i],t.sqT q,by simp[show i < xs.length by omega]⟩
 yld:=λi H' x H'' t hi ⟨e,y⟩=>by
  subst e
  have ex:=y xs (t.sqT q)
  obtain ⟨d,ed,p⟩:=l.get' ex
  exact ⟨.refl _,⟨d,ed,p.mono t⟩,λ_ m=>m⟩
 stop:=λi H' t hi=>⟨xs,t.sqT q,by rw[l.length];exact hi⟩
theorem Lw {K:Wj}{H:Hp}{p:Addr}{xs:List V}{ds:List D}(q:SqF K H p xs)(l:DpL K H xs ds):Iu K (Itl K p) H ds where
 go:=λi H' t hi=>by
  have hl:=l.length
  exact ⟨xs,xs[i],(t.sqF q).sq,by simp[show i < xs.length by omega]⟩
 yld:=λi H' x H'' t hi ⟨e,y⟩=>by
  subst e
  have ex:=y xs (t.sqF q).sq
  obtain ⟨d,ed,p⟩:=l.get' ex
  exact ⟨.refl _,⟨d,ed,p.mono t⟩,λ_ m=>m⟩
 stop:=λi H' t hi=>⟨xs,(t.sqF q).sq,by rw[l.length];exact hi⟩
theorem eu (lo:Int)(n:Nat):(cE lo n).length=n:=by unfold cE;simp
theorem G7 {K:Wj}{H:Hp}(lo:Int)(n:Nat):Iu K (Itr lo n) H (cE lo n) where
 go:=λi H' t hi=>by rw[eu] at hi;exact hi
 yld:=λi H' x H'' t hi ⟨e,y⟩=>by
  rw[eu] at hi
  subst e y
  exact ⟨.refl _,⟨.int (lo+i),by unfold cE;simp[hi],.int _⟩,λ_ m=>m⟩
 stop:=λi H' t hi=>by rw[eu] at hi;exact hi
def Tq (a:ETr):ATr:=λρ μ Q=>a ρ μ λx μ1=>match x with
 | .tup ds=>Q ds μ1
 | _=>False
def ILs (a:ETr):ATr:=λρ μ Q=>a ρ μ λx μ1=>match x with
 | .ls ds=>Q ds μ1
 | _=>False
theorem nL {rp rpos:Pos}(hg:Gl X "range")(hm:X.mg "range" = none)(ha:LE X a Ta)(hs:WH [a] X.env=[(false,XJ a X.env)]:=by rfl):LI X tg (.Call (.Name "range" rp) [a] [] rpos) (gL Ta):=by
 obtain ⟨ta,pa,sa⟩:=ha.ex
 refine ⟨_,Fg hg hm (fm pa iQ hs) hs,λσ H ρ μ Q R rl h k=>sa σ H ρ μ _ _ rl h λx H1 d μ1 t1 m1 p1 h1=>?_⟩
 cases p1 with
 | int j=>
  obtain ⟨⟨h2,h3⟩,h4⟩:=h1
  exact ⟨j,rfl,by simpa using h2,by simpa using h3,k _ H1 _ μ1 t1 m1 (G7 0 _) h4⟩
 | _=>exact Ww h1
theorem SG {t1:TS}{T1:STr}{g:TG}{E:En}{E':Ends}{K:Wj}{H0 H1:Hp}{J:It}{ds:List D}(sg:Qs K g G)(s1:Iw K t1 T1)(k:Jv K H0 E E')(Y:Iu K J H1 ds){σ:L2.St}{ρ:ST}{μ:Mu}(t0:Tk H0 H1)(rl:Rl K σ H1 ρ μ)(h:forR G T1 E ds ρ μ) :
  ∃ W:Nat->Nat->L2.St->Hp->Prop,(∃ m,W 0 m σ H1)/\∀ i m σ H,W i m σ H->
   (J.stop i H/\E'.nx σ H)∨(J.go i H/\∃ N:L2.St->Hp->Prop,(∀ σ' H',N σ' H'->∃ m',m' < m/\W (i+1) m' σ' H')/\∀ x H',J.yld i H x H'->g x σ H' λσ2 H2=>t1 { E' with nx:=N,ct:=N,bk:=E'.nx } σ2 H2):=by
 refine ⟨λi m σ' H'=>m=ds.length - i/\i<=ds.length/\Tk H1 H'/\∃ ρ' μ',Rl K σ' H' ρ' μ'/\forR G T1 E (ds.drop i) ρ' μ',⟨ds.length,by simp,XX _,.refl _,ρ,μ,rl,by simpa using h⟩,?_⟩
 rintro i m σ1 H2 ⟨rfl,hi,t12,ρ1,μ1,r1,h1⟩
 by_cases hlt:i < ds.length
 ·refine .inr ⟨Y.go i H2 t12 hlt,λσ' H'=>Tk H1 H'/\∃ ρ' μ',Rl K σ' H' ρ' μ'/\forR G T1 E (ds.drop (i+1)) ρ' μ',λσ' H' ⟨t',ρ',μ',r',h'⟩=>⟨ds.length - (i+1),by omega,rfl,hlt,t',ρ',μ',r',h'⟩,λx H3 y=>?_⟩
  obtain ⟨t23,⟨d,ed,pd⟩,mk⟩:=Y.yld i H2 x H3 t12 hlt y
  have e:ds.drop i=d::ds.drop (i+1):=by
   refine (Ye hlt).trans ?_
   congr 1
   rw[WK hlt] at ed
   exact Xg ed
  rw[e] at h1
  have t13:=t12.trans t23
  refine sg σ1 H3 ρ1 μ1 _ _ _ _ (r1.go t23 (mk _ r1.mu)) pd h1 λσ4 H4 ρ4 μ4 t4 r4 h4=>?_
  have t14:=t13.trans t4
  have t04:=t0.trans t14
  exact s1 σ4 H4 ρ4 μ4 _ _ r4 h4 ⟨λσ' H' ρ' μ' t' r' q=>⟨t14.trans t',ρ',μ',r',q⟩,(k.go t04).rt,(k.go t04).nx,λσ' H' ρ' μ' t' r' q=>⟨t14.trans t',ρ',μ',r',q⟩⟩
 ·have e:i=ds.length:=by omega
  subst e
  rw[Ys] at h1
  exact .inl ⟨Y.stop _ H2 t12 (WG _),k.nx _ _ _ _ (t0.trans t12) r1 h1⟩
theorem eA {body:List Stmt}{T1:STr}(hp:zdf (WW X.prog X.w) X.A X.env X.xe)(hc:X.calm=true)(hi:LI X tg iter It')(hG:LG X tg G)(hb:LSs X body T1)(hf:∀ x,Xn iter X.env x=pure x:=by intro _;rfl) :
  LS X (.For tg iter body [] pos) (iJ It' G T1):=by
 obtain ⟨wi,pi,si⟩:=hi.ex
 obtain ⟨g,pg,sg⟩:=hG.ex
 obtain ⟨t1,p1,s1⟩:=hb.ex
 exact ⟨_,QY hp hc pi pg p1 hf,λσ H ρ μ E E' rl h k=>si σ H ρ μ _ _ rl h λJ H1 ds μ1 t1' m1 Y h1=>SG sg s1 k Y t1' (rl.go t1' m1) h1⟩
def mB (K:Wj)(T:ETr):TE:=λσ H Q'=>∃ ρ μ Q,Rl K σ H ρ μ/\T ρ μ Q/\jG K H Q Q'
def liftT (K:Wj)(T:TTr):TT:=λσ H Q'=>∃ ρ μ Q,Rl K σ H ρ μ/\T ρ μ Q/\∀ b H' μ',Tk H H'->bM K H' μ'->Q b μ'->Q' b H'
abbrev Oh (K:Wj)(n:Nat)(σ:L2.St)(H:Hp)(k:ST->Mu->Prop)(k':L2.St->Hp->Prop):Prop:=∀ σ' H' ρ' μ',Tk H H'->Rl K σ' H' ρ' μ'->(σ'.length=σ.length/\∀ j,n<=j->σ'[j]? = σ[j]?)->k ρ' μ'->k' σ' H'
def mC (K:Wj)(n:Nat)(G:GTr):TG:=λv σ H k'=>∃ ρ μ d k,Rl K σ H ρ μ/\Dp K H v d/\G d ρ μ k/\Oh K n σ H k k'
theorem LE.pe (h:LE X e Te):PE X e (mB X.K Te):=by
 obtain ⟨t,p,s⟩:=h.ex
 exact λpins st σ H Q I ⟨ρ,μ,Q0,rl,hT,k⟩=>p pins st σ H Q I (s σ H ρ μ Q0 Q rl hT k)
structure xA (X:Cx) (ifs:List WX) (Tt:TTr):Prop where
 pe:zy X ifs (liftT X.K Tt)
theorem bJ:xA X [] eG:=⟨λpins s σ H Q I ⟨ρ,μ,Q0,rl,hT,k⟩=>MY pins s σ H Q I (k true H μ (.refl H) rl.mu hT)⟩
theorem fq (h:LT X c Tt):xA X [c] Tt:=by
 obtain ⟨t,p,s⟩:=h.ex
 exact ⟨λpins st σ H Q I ⟨ρ,μ,Q0,rl,hT,k⟩=>K9 p pins st σ H Q I (s σ H ρ μ Q0 Q rl hT k)⟩
structure LGc (X:Cx) (n:Nat) (tg:WX) (G:GTr):Prop where
 pe:PG X tg (mC X.K n G)
theorem bf {x:Str}{n:Nat}(i:Nat)(hN:X.N.Nodup)(hin:i < n:=by decide)(hi:X.N[i]? = some x:=by rfl)(hx:Loc X.env.scope x:=by first | exact ZV rfl | exact ZW rfl)(hf:X.fn x=true∨X.env.scope.names.lookup x=some .local:=by first | exact .inr rfl | exact .inl rfl | assumption):LGc X n (.Name x pos) (ax i):=
 ⟨λpins s σ H v u k' I r ⟨ρ,μ,d,k,rl,p,h,post⟩=>iL hN hi hx hf pins s σ H v u k' I r (post _ H _ μ (.refl H) (rl.set p i) ⟨by simp,λj hj=>by rw[YC (by omega)]⟩ h)⟩
theorem pG {K:Wj}{σ:L2.St}{H:Hp}{ρ:ST}{μ:Mu}(rl:Rl K σ H ρ μ)(n:Nat)(caps:List Nat):Rl K (kK σ n caps) H (fe ρ n caps) μ:=by
 refine ⟨by unfold kK fe;simp,λi d e=>?_,rl.mu⟩
 have gen:∀ (n i:Nat),lk (X9 n none++caps.map (lk ρ)) i=some d->∃ j,i=n+j/\∃ k,caps[j]? = some k/\lk ρ k=some d:=by
  intro n
  induction n with
  | zero=>
   intro i h
   have h':lk (caps.map (lk ρ)) i=some d:=by simpa using h
   have g2:∀ (cs:List Nat) (i:Nat),lk (cs.map (lk ρ)) i=some d->∃ k,cs[i]? = some k/\lk ρ k=some d:=by
    intro cs
    induction cs with
    | nil=>intro i h;cases i<;>cases h
    | cons c r ih=>intro i h;cases i with
     | zero=>exact ⟨c,rfl,h⟩
     | succ i=>simpa using ih i h
   exact ⟨i,by omega,g2 caps i h'⟩
  | succ n ih=>
   intro i h
   cases i with
   | zero=>cases h
   | succ i=>
    obtain ⟨j,rfl,k,h1,h2⟩:=ih i h
    exact ⟨j,by omega,k,h1,h2⟩
 obtain ⟨j,rfl,k,h1,h2⟩:=gen n i e
 obtain ⟨v,h3,h4⟩:=rl.loc k d h2
 refine ⟨v,?_,h4⟩
 unfold kK
 rw[Y8 (by simp)]
 simp[h1,h3]
theorem Ms {ifs:List WX}{scope:Scope}{Nc:List Str}{n:Nat}{caps:List Nat}(hxe:X.xe=λ_ _=>False)(hcalm:X.calm=true)(hi:LI X tg iter It')
  (hbody:∀ (cl:List (Str×Addr)) (C:Addr) (s₀:Wu) (H₀:Hp) (ex:List Addr),LGc (bh X scope Nc cl C s₀ H₀ ex) n tg G/\xA (bh X scope Nc cl C s₀ H₀ ex) ifs Tt/\LE (bh X scope Nc cl C s₀ H₀ ex) elt Te)
  (hfree:∀ y∈scope.names,y.2=.free->X.env.kindOf y.1=some .cell) (hcell:∀ y∈scope.names,y.2≠.cell) (gB:scope.kind=.function)
  (hnames:∀ y∈scope.names,y.2=.local->scope.names.lookup y.1=some .local) (hlen:Nc.length=n+caps.length)
  (hcap:∀ (j k:Nat),caps[j]? = some k->∃ x,Nc[n+j]? = some x/\X.N[k]? = some x/\scope.names.lookup x=some .free)
  (hs:∀ x,Xn iter X.env x=pure x:=by intro _;rfl) :
  LE X (.ListComp elt [⟨tg,iter,ifs,0⟩] scope pos) (bO It' G Tt Te n caps):=by
 obtain ⟨wi,pi,si⟩:=hi.ex
 refine ⟨_,jS (DC (g:=mC X.K n G) (tt:=liftT X.K Tt) (te:=mB X.K Te) hxe hcalm pi (λcl C s₀ H₀ ex=>let ⟨h1,h2,h3⟩:=hbody cl C s₀ H₀ ex;⟨h1.pe,h2.pe,h3.pe⟩) hfree hcell gB hnames hlen hcap hs),?_⟩
 intro σ H ρ μ Q Q' rl h k
 refine si σ H ρ μ _ _ rl h λJ H1 ds μ1 t1 m1 Y h1 D hD=>?_
 have hp:=h1 D (m1.free hD)
 have tD:Tk H1 (L2.upd H1 D (.lst [])):=.new hD
 have mD:bM X.K (L2.upd H1 D (.lst [])) (up μ1 D (.lst [])):=λa o e=>by
  by_cases ha:a=D
  ·subst ha
   rw[aE] at e;cases e
   exact ⟨[],aM,.nil⟩
  ·rw[aS ha] at e
   exact cw m1 hD a o e
 refine ⟨λi m ys H2=>m=ds.length - i/\i<=ds.length/\Tk H1 H2/\∃ μ2,bM X.K H2 μ2/\fG D G Tt Te (fe ρ n caps) (λμ'=>kL μ' D λzs=>Q (.ls zs) (dn μ' D)) (ds.drop i) μ2,
  ⟨ds.length,by simp,XX _,tD,_,mD,by simpa using hp⟩,?_⟩
 rintro i m ys H2 ⟨rfl,hi,t12,μ2,m2,h2⟩
 by_cases hlt:i < ds.length
 ·refine .inr ⟨Y.go i H2 t12 hlt,λys' H'=>Tk H1 H'/\∃ μ',bM X.K H' μ'/\fG D G Tt Te (fe ρ n caps) (λμ'=>kL μ' D λzs=>Q (.ls zs) (dn μ' D)) (ds.drop (i+1)) μ',λys' H' ⟨t',μ',m',h'⟩=>⟨ds.length - (i+1),by omega,rfl,hlt,t',μ',m',h'⟩,λx H3 y=>?_⟩
  obtain ⟨t23,⟨d,ed,pd⟩,mk⟩:=Y.yld i H2 x H3 t12 hlt y
  have e:ds.drop i=d::ds.drop (i+1):=by
   refine (Ye hlt).trans ?_
   congr 1
   rw[WK hlt] at ed
   exact Xg ed
  rw[e] at h2
  have t13:=t12.trans t23
  have r3:Rl X.K (kK σ n caps) H3 (fe ρ n caps) μ2:=pG (rl.go (t1.trans t13) (mk _ m2)) n caps
  refine ⟨_,_,d,_,r3,pd,h2,λσ4 H4 ρ4 μ4 t4 r4 kp h4=>⟨⟨kp.1.symm,λj v ej=>?_⟩,_,_,_,r4,h4,λb H5 μ5 t5 m5 h5=>?_⟩⟩
  ·by_cases hj:n<=j
   ·rw[kp.2 j hj];exact ej
   ·obtain ⟨j',k',e1,_⟩:=jO ej
    omega
  ·have t15:=t13.trans (t4.trans t5)
   cases b with
   | false=>exact qd ⟨t15,μ5,m5,h5⟩
   | true=>
    refine qB ⟨_,_,_,r4.go t5 m5,h5,λv H6 d6 μ6 t6 m6 p6 h6=>?_⟩
    obtain ⟨zs,ez,lz,h7⟩:=bU h6
    obtain ⟨xs,ex,lx⟩:=m6 D _ ez
    have t67:Tk H6 (L2.upd H6 D (.lst (xs++[v]))):=.upd (λys z=>by rw[ex] at z;cases z) λo' u z=>by rw[ex] at z;cases z
    refine ⟨xs,ex,by rw[lx.length];exact WS lz (by decide),(t15.trans t6).trans t67,up μ6 D (.lst (zs++[d6])),λa o ea=>?_,h7⟩
    by_cases ha:a=D
    ·subst ha
     rw[aE] at ea;cases ea
     exact ⟨_,aM,(lx.append (.cons p6 .nil)).mono t67⟩
    ·rw[aS ha] at ea
     exact (m6 a _ ea).ne t67 ha
 ·have e:i=ds.length:=by omega
  subst e
  rw[Ys] at h2
  obtain ⟨zs,ez,hq⟩:=bU (show kL μ2 D λzs=>Q (.ls zs) (dn μ2 D) from h2)
  obtain ⟨xs,ex,lx⟩:=m2 D _ ez
  refine .inl ⟨Y.stop _ H2 t12 (WG _),D,xs,rfl,ex,λo=>?_⟩
  have t2f:Tk H2 (L2.upd H2 D (.frz o (.lst xs))):=.upd (λys z=>by rw[ex] at z;cases z) λo' u z=>by rw[ex] at z;cases z
  refine k _ _ _ (dn μ2 D) ((t1.trans t12).trans t2f) (λa o' ea=>?_) (.ls (.inl ⟨o,aM⟩) (lx.mono t2f)) hq
  have ha:a≠D:=λz=>by subst z;unfold dn at ea;rw[if_pos rfl] at ea;cases ea
  have ea':μ2 a=some o':=by unfold dn at ea;rw[if_neg ha] at ea;exact ea
  exact (m2 a _ ea').ne t2f ha
end
end
section
open PySem PySem.Spec PyProof.Rows L2
def ip (fn:List (Str×zaa))(XN:List Str)(sc:Scope)(Nc:List Str)(n:Nat)(caps:List Nat):Bool:=
 sc.names.all (λy=>(y.2 != .free || fn.lookup y.1 == some .cell)&&y.2 != .cell&&(y.2 != .local || sc.names.lookup y.1 == some .local))&&sc.kind == .function&&Nc.length == n+caps.length &&
 (W5 caps.length).all λj=>match caps[j]? with
  | some k=>(match XN[k]? with
   | some x=>Nc[n+j]? == some x&&sc.names.lookup x == some .free
   | none=>false)
  | none=>false
section
variable {X:Cx} {tg a b c e elt iter:WX} {Ta Tb Te:ETr} {Tt:TTr} {pos:Pos} {It':ATr} {G:GTr}
theorem bE {ifs:List WX}{scope fsc:Scope}(XN Nc:List Str)(n:Nat)(caps:List Nat)(hxe:X.xe=λ_ _=>False)(hcalm:X.calm=true)(hi:LI X tg iter It')
  (hbody:∀ (cl:List (Str×Addr)) (C:Addr) (s₀:Wu) (H₀:Hp) (ex:List Addr),LGc (bh X scope Nc cl C s₀ H₀ ex) n tg G/\xA (bh X scope Nc cl C s₀ H₀ ex) ifs Tt/\LE (bh X scope Nc cl C s₀ H₀ ex) elt Te)
  (hsc:X.env.scope=fsc) (hXN:X.N=XN) (hok:ip fsc.names XN scope Nc n caps=true)
  (hs:∀ x,Xn iter X.env x=pure x:=by intro _;rfl) :
  LE X (.ListComp elt [⟨tg,iter,ifs,0⟩] scope pos) (bO It' G Tt Te n caps):=by
 unfold ip at hok
 simp only[Xm,Zl] at hok
 obtain ⟨⟨⟨h1,h2⟩,h3⟩,h4⟩:=hok
 refine Ms hxe hcalm hi hbody (λy hy hf=>?_) (λy hy hf=>?_) (by simpa using h2) (λy hy hf=>?_) (by simpa using h3) (λj k hj=>?_) hs
 ·have:=(h1 y hy).1.1
  show X.env.scope.names.lookup y.1=_
  rw[hsc]
  simpa[hf] using this
 ·have:=(h1 y hy).1.2
  simp[hf] at this
 ·have:=(h1 y hy).2
  simpa[hf] using this
 ·have hl:j < caps.length:=(W4.mp hj).1
  have:=h4 j (YM.mpr hl)
  rw[hj] at this
  dsimp only at this
  rw[hXN]
  cases e:XN[k]? with
  | none=>rw[e] at this;cases this
  | some x=>
   rw[e] at this
   dsimp only at this
   rw[Xm] at this
   exact ⟨x,by simpa using this.1,rfl,by simpa using this.2⟩
end
end
section
open PySem PySem.Spec PyProof.Rows L2
def GV (K:Wj)(mg:Str->Option Wo)(x:Str)(d:D):Prop:=∃ u v,mg x=some u/\RelV v u/\∀ H,Dp K H v d
theorem aH {X:Cx}{x:Str}{pos:Pos}{d:D}(hg:Gl X x)(h:GV X.K X.mg x d)(hd:(x == ("__debug__" : Str))=false:=by decide):LE X (.Name x pos) (TC d):=by
 obtain ⟨u,v,hm,r,p⟩:=h
 exact ⟨_,M3 hg hm r hd,λσ H ρ μ Q Q' rl h k=>k v H d μ (.refl H) rl.mu (p H) h⟩
section
variable {K:Wj} {h:Heap} {mg:Str->Option Wo} {x:Str}
theorem bw {i:Int}{t:Tok}(X:K.In h)(G:h.Ns X5 mg)(a:zef K X5 x=some (some (.int i t))):GV K mg x (.int i):=⟨_,.int i,zd7 X G a,⟨t,rfl⟩,λ_=>.int i⟩
theorem AA {p:Addr}{o:Obj}{its:Array Wo}{n:Nat}{xs:List V}{ds:List D}(X:K.In h)(G:h.Ns X5 mg)(a:zef K X5 x=some (some (.ref p)))(l:K.lookup p=some o)(c:o.cls=.type "tuple")(dn:o.dict=none)(d:o.data=.seq its n)
  (z:its.size<=sizeLine) (r:Vals xs its.toList) (q:∀ H,DpL K H xs ds):GV K mg x (.tup ds):=⟨_,.ref p,zd7 X G a,rfl,λH=>.tup (.inr ⟨o,its,n,l,c,dn,d,z,r⟩) (q H)⟩
end
def iS:ST->List Nat->List D->ST
 | ρ,i::is,d::ds=>iS (ρ.set i (some d)) is ds
 | ρ,_,_=>ρ
def de (is:List Nat):GTr:=λd ρ μ k=>match d with
 | .tup ds=>ds.length=is.length/\k (iS ρ is ds) μ
 | _=>False
def Uc (K:Wj)(t:TGs)(is:List Nat):Prop:=∀ σ H ρ μ vs ds (k:ST->Mu->Prop) (k':L2.St->Hp->Prop),Rl K σ H ρ μ->DpL K H vs ds->ds.length=is.length->k (iS ρ is ds) μ->um K H k k'->t vs σ H k'
structure LGs (X:Cx) (es:List WX) (is:List Nat):Prop where
 ex:∃ t,PGs X es t/\Uc X.K t is
section
variable {X:Cx} {e tg:WX} {es:List WX} {is:List Nat} {pos:Pos} {x:Str} {Ta:ETr} {G:GTr}
theorem fo:LGs X [] []:=⟨_,vj,λσ H ρ μ vs ds k k' rl l hl h q=>by
 cases ds with
 | nil=>cases l;exact ⟨rfl,q _ _ _ _ (.refl H) rl h⟩
 | cons=>cases hl⟩
theorem a7 (i:Nat)(hN:X.N.Nodup)(h2:LGs X es is)(hi:X.N[i]? = some x:=by rfl)(hx:Loc X.env.scope x:=by first | exact ZV rfl | exact ZW rfl)(hf:X.fn x=true∨X.env.scope.names.lookup x=some .local:=by first | exact .inl rfl | exact .inr rfl | assumption)
  (hs:(XD (.Name x pos::es) X.env).map (·.2)=zbn (.Name x pos) X.env::(XD es X.env).map (·.2):=by rfl):LGs X (.Name x pos::es) (i::is):=by
 obtain ⟨t,pt,st⟩:=h2.ex
 refine ⟨_,qW (iL hN hi hx hf) pt hs,λσ H ρ μ vs ds k k' rl l hl h q=>?_⟩
 cases l with
 | nil=>cases hl
 | @cons v d vs ds p l=>exact ⟨v,vs,rfl,st _ H _ μ vs ds k k' (rl.set p i) l (by simpa using hl) h q⟩
theorem g9 {k:Nat}(hc:X.calm=true)(h:LGs X es is)(hn:(XD es X.env).length=is.length:=by rfl)(hst:(XD es X.env).findIdx? (·.1)=none:=by rfl):LG X (.Tuple es k pos) (de is):=by
 obtain ⟨t,pt,st⟩:=h.ex
 refine ⟨_,B4 hc pt hn hst,λσ H ρ μ v d k k' rl p h q=>?_⟩
 cases p with
 | @tup a xs ds sq l=>exact ⟨a,xs,rfl,sq,by rw[l.length];exact h.1,st σ H ρ μ xs ds k k' rl l h.1 h.2 q⟩
 | _=>exact Ww h
theorem zL (he:LE X e Ta)(hG:LG X tg G)(hs:zaQ [tg] e pos.line X.env=pure false:=by rfl)(hw:zaR [tg] e X.env=pure none:=by rfl)
  (h1:(XD [tg] X.env).map (·.2)=[zbn tg X.env]:=by rfl):LS X (.Assign [tg] e pos) (aP Ta G):=by
 obtain ⟨ta,pa,sa⟩:=he.ex
 obtain ⟨g,pg,sg⟩:=hG.ex
 exact ⟨_,Qy pa pg hs hw h1,λσ H ρ μ E E' rl h k=>sa σ H ρ μ _ _ rl h λv H' d μ' t' m' p' h'=>sg σ H' ρ μ' v d _ _ (rl.go t' m') p' h' (k.go t').nx⟩
theorem lt_chain {a b c:WX}{Ta Tb Tc:ETr}{op op':zcq}{r r':L2.R2}{R R':DR2}(ho:OpR X (XI op) r)(ho':OpR X (XI op') r')(hr:eZ X.K r R)(hr':eZ X.K r' R')(ha:LE X a Ta)(hb:LE X b Tb)(hc:LE X c Tc)
  (hm:lastMarks [op,op'] [b,c]=false:=by with_unfolding_all rfl):LT X (.Compare a [op,op'] [b,c] pos) (TB (ij R R' Ta Tb Tc)):=by
 obtain ⟨ta,pa,sa⟩:=ha.ex
 obtain ⟨tb,pb,sb⟩:=hb.ex
 obtain ⟨tc,pc,sc⟩:=hc.ex
 exact ⟨_,FD ho ho' pa pb pc hm,Cg (DS hr hr' sa sb sc)⟩
end
end
section
open PySem PySem.Spec PyProof.Rows L2
def iE (tp:Bool)(h:Heap)(it a:Addr)(i:Nat):Prop:=match tp with
 | true=>h.IsTupleIter it a i
 | false=>h.IsListIter it a i
def fU (tp:Bool)(h:Heap)(a:Addr)(xs:Array Wo):Prop:=match tp with
 | true=>h.IsTuple a xs
 | false=>h.IsList a xs
theorem iE.at {tp:Bool}{h g:Heap}{it a:Addr}{i:Nat}(x:iE tp h it a i)(k:∀ o,h.get? it=some o->g.get? it=some o):iE tp g it a i:=by
 cases tp with
 | true=>obtain ⟨o,e,r⟩:=x;exact ⟨o,k o e,r⟩
 | false=>obtain ⟨o,e,r⟩:=x;exact ⟨o,k o e,r⟩
theorem fU.at {tp:Bool}{h g:Heap}{a:Addr}{xs:Array Wo}(x:fU tp h a xs)(k:∀ o,h.get? a=some o->g.get? a=some o):fU tp g a xs:=by
 cases tp with
 | true=>obtain ⟨o,e,r⟩:=x;exact ⟨o,k o e,r⟩
 | false=>obtain ⟨o,e,r⟩:=x;exact ⟨o,k o e,r⟩
theorem iE.ex {tp:Bool}{h:Heap}{it a:Addr}{i:Nat}(x:iE tp h it a i):∃ o,h.get? it=some o/\∃ vs,o.data=.fields vs:=by
 cases tp with
 | true=>obtain ⟨o,e,_,d⟩:=x;exact ⟨o,e,_,d⟩
 | false=>obtain ⟨o,e,_,d⟩:=x;exact ⟨o,e,_,d⟩
section
variable {prog:W7} {w:Xh} {A:XA} {E:Wo->Wu->Prop} {s:Wu}
theorem HU {it t:Addr}{i:Nat}{xs:Array Wo}{x:Wo}{Q:Wo->Wu->Prop}(hi:s.heap.IsTupleIter it t i)(ht:s.heap.IsTuple t xs)(hx:xs[i]? = some x)
  (k:∀ g,g.IsTupleIter it t (i+1)->Zg it s.heap g->Q x { s with heap:=g }):WT (WW prog w) A (Xa (.ref it)) Q E s:=by
 obtain ⟨ob,gb,cb,db⟩:=id hi
 obtain ⟨ot,gt,_,nt,dt⟩:=ht
 delta Xa
 refine Wl (Xy (name:=OF "__next__") hi.typeIs Yu (X6 Yu hi.typeIs zar ?_ (zal _)))
 refine Wl (m:=zb0 (.ref it) 0) (Xp gb db (x:=.ref t) rfl ?_)
 refine (show WT _ _ (if (Xc t == YG)=true then _ else _) _ _ s from ?_)
 rw[if_neg (show ¬ ((Xc t == YG)=true) by intro z;cases z)]
 refine Wl (m:=zb0 (.ref it) 1) (Xp gb db (x:=.int i 0) rfl ?_)
 refine Wl (m:=zch (.ref t)) (XQ gt dt ?_)
 simp only[hx,ZU]
 refine Wl (wpAny_setField gb db (by simp) (WD ⟨x,rfl,WD (k _ ⟨_,Z2 _ gb (Obj.isFreed_of_fields (zcK db _)),(Obj.cls_mapFields ..).trans cb,?_⟩ (zcl ..))⟩))
 rw[zcK db];simp[zaw]
theorem pN {tp:Bool}{it a:Addr}{i:Nat}{xs:Array Wo}{x:Wo}{Q:Wo->Wu->Prop}(hi:iE tp s.heap it a i)(hs:fU tp s.heap a xs)(hx:xs[i]? = some x)
  (k:∀ g,iE tp g it a (i+1)->Zg it s.heap g->Q x { s with heap:=g }):WT (WW prog w) A (Xa (.ref it)) Q E s:=by
 cases tp with
 | true=>exact HU hi hs hx k
 | false=>exact wpAny_nextOf_list_item hi hs hx k
theorem L5 {it t:Addr}{i:Nat}{xs:Array Wo}{Q:Wo->Wu->Prop}(hh:A.handled=none)(hi:s.heap.IsTupleIter it t i)(ht:s.heap.IsTuple t xs)(hx:xs[i]? = none)
  (k:∀ g e,zdt it s.heap g->(∃ o,g.get? e=some o/\o.cls=.type "StopIteration")->E (.ref e) { s with heap:=g }):WT (WW prog w) A (Xa (.ref it)) Q E s:=by
 obtain ⟨ob,gb,cb,db⟩:=id hi
 obtain ⟨ot,gt,_,nt,dt⟩:=ht
 delta Xa
 refine Wl (Xy (name:=OF "__next__") hi.typeIs Yu (X6 Yu hi.typeIs zar ?_ (zal _)))
 refine Wl (m:=zb0 (.ref it) 0) (Xp gb db (x:=.ref t) rfl ?_)
 refine (show WT _ _ (if (Xc t == YG)=true then _ else _) _ _ s from ?_)
 rw[if_neg (show ¬ ((Xc t == YG)=true) by intro z;cases z)]
 refine Wl (m:=zb0 (.ref it) 1) (Xp gb db (x:=.int i 0) rfl ?_)
 refine Wl (m:=zch (.ref t)) (XQ gt dt ?_)
 simp only[hx,ZU]
 refine Wl (YV (Wl (wpAny_setField gb db (by simp) (Wl (m:=newExc (.type "StopIteration") []) ?_))))
 simp only[newExc,newTuple]
 refine Wl (Xz (Wl (m:=firstArgMember _ _) (zdu (a:=YG) (by first | rfl | (simp only[firstArgMember];rfl)) (Xz ?_ (by size_fits)))) (by size_fits))
 simp only[raiseNew]
 refine Wl <| wpAny_handled ?_
 rw[(show A.in1.handled=none from hh)]
 exact Wl (WD (wpAny_throw (k _ _ (((zcl ..).extBut.push _).push _) ⟨_,WN _ rfl,rfl⟩)))
theorem Bw {tp:Bool}{it a:Addr}{i:Nat}{xs:Array Wo}{Q:Wo->Wu->Prop}(hh:A.handled=none)(hi:iE tp s.heap it a i)(hs:fU tp s.heap a xs)(hx:xs[i]? = none)
  (k:∀ g e,zdt it s.heap g->(∃ o,g.get? e=some o/\o.cls=.type "StopIteration")->E (.ref e) { s with heap:=g }):WT (WW prog w) A (Xa (.ref it)) Q E s:=by
 cases tp with
 | true=>exact L5 hh hi hs hx k
 | false=>exact wpAny_nextOf_list_end hh hi hs hx k
structure Zp (z ti to i j a b:Addr):Prop where
 nd:[z,ti,to,i,j].Nodup
 na:a ∉ [z,to,i,j]
 nb:b ∉ [z,to,i,j]
structure ZAt (ta tb:Bool) (h:Heap) (z ti to i j a b:Addr) (k:Nat):Prop where
 zz:YE h z ti to .none
 zt:Ya h ti (.ref i) (.ref j)
 zo:∃ u v,Ya h to u v
 zi:iE ta h i a k
 zj:iE tb h j b k
theorem Ey {ta tb:Bool}{z ti to i j a b:Addr}{k:Nat}{xs ys:Array Wo}{x y:Wo}{Q:Option Wo->Wu->Prop}(Z:Zp z ti to i j a b)(S:ZAt ta tb s.heap z ti to i j a b k)(ha:fU ta s.heap a xs)(hb:fU tb s.heap b ys)(hx:xs[k]? = some x)(hy:ys[k]? = some y)
  (q:∀ g,YE g z ti to (zaw s.heap.objs.size)->Ya g ti (.ref i) (.ref j)->Ya g to x y->iE ta g i a (k+1)->iE tb g j b (k+1)->Ya g s.heap.objs.size x y->
   (∀ c o,c≠z->c≠to->c≠i->c≠j->s.heap.get? c=some o->g.get? c=some o)->Q (some (.ref s.heap.objs.size)) { s with heap:=g }):WT (WW prog w) A (Zz (.ref z)) Q E s:=by
 obtain ⟨zz,zt,⟨u,v,zo⟩,zi,zj⟩:=S
 obtain ⟨nd,na,nb⟩:=Z
 simp only[Xk,WM,Xj,or_false,not_or] at nd na nb
 obtain ⟨⟨n1,n2,n3,n4⟩,⟨n5,n6,n7⟩,⟨n8,n9⟩,n10,_⟩:=nd
 obtain ⟨a1,a2,a3,a4⟩:=na
 obtain ⟨b1,b2,b3,b4⟩:=nb
 have hT:s.TypeIs (.ref z) "zip" := ⟨_,zz,rfl⟩
 unfold Zz
 refine Wl (zaW (Xy (name:=OF "__next__") hT zam (X6 zam hT zdk ?_ (zc1 _))))
 refine Wl (m:=zb0 (.ref z) 2) (Xp zz rfl (x:=.bool false) rfl ?_)
 refine Wl (m:=zb0 (.ref z) 3) (Xp zz rfl (x:=.ref ti) rfl (Wl (XQ zt rfl (Wl (m:=Xl (.ref z)) ?_))))
 delta Xl
 refine Wl (Xp zz rfl (x:=.none) rfl (WD ?_))
 simp only[if_true]
 refine Wl (YV (Wl (Xp zz rfl (x:=.ref to) rfl (Wl (Xt zz (by simp) λg1 zz1 k1=>Wl ?_)))))
 have zz1:YE g1 z ti to .ellipsis:=zz1
 simp only[zdD,zdl,zdW,zak]
 refine Wl (Wl (zaX (Wl (m:=Xa (.ref i)) (pN (s:={ s with heap:=g1 }) (zi.at λo e=>(k1.2 i (W9 n3)).trans e) (ha.at λo e=>(k1.2 a a1).trans e) hx λg2 zi2 k2=>WD ?_))))
 have zo2:Ya g2 to u v:=(k2.2 to n8).trans ((k1.2 to (W9 n2)).trans zo)
 refine Wl (XQ zo2 rfl (Wl (Y9 zo2 λg3 zo3 k3=>Wl (Za (WD ?_)))))
 have zo3:Ya g3 to x v:=zo3
 refine Wl (Wl (zaX (Wl (m:=Xa (.ref j)) (pN (s:={ s with heap:=g3 }) (zj.at λo e=>(k3.2 j (W9 n9)).trans ((k2.2 j (W9 n10)).trans ((k1.2 j (W9 n4)).trans e)))
  (hb.at λo e=>(k3.2 b b2).trans ((k2.2 b b3).trans ((k1.2 b b1).trans e))) hy λg4 zj4 k4=>WD ?_))))
 have zo4:Ya g4 to x v:=(k4.2 to n9).trans zo3
 refine Wl (XQ zo4 rfl (Wl (Y9 zo4 λg5 zo5 k5=>Wl (Za (WD (WD ?_))))))
 have zo5:Ya g5 to x y:=zo5
 refine Wl (XQ zo5 rfl (Wl (wpAny_newTuple (Wl (m:=XU (.ref z) (.ref g5.objs.size)) ?_))))
 have sz:g5.objs.size=s.heap.objs.size:=by rw[k5.1,k4.1,k3.1,k2.1,k1.1]
 have zz5:YE g5 z ti to .ellipsis:=(k5.2 z n2).trans ((k4.2 z n4).trans ((k3.2 z n2).trans ((k2.2 z n3).trans zz1)))
 have zlt:z < g5.objs.size:=WJ zz5
 delta XU
 have zz6:YE (g5.push { cls:=.type "tuple", data:=.seq #[x,y] }) z ti to .ellipsis:=Wn _ zz5
 refine Wl (Xt zz6 (by simp) λg7 zz7 k7=>?_)
 have zz7:YE g7 z ti to (zaw g5.objs.size):=zz7
 refine Xt zz7 (by simp) λg8 zz8 k8=>WD ⟨_,rfl,WD ?_⟩
 have up5:∀ c o,c≠z->g5.get? c=some o->g8.get? c=some o:=λc o c1 e=>(k8.2 c c1).trans ((k7.2 c c1).trans (Wn _ e))
 have TL:Ya g8 g5.objs.size x y:=(k8.2 _ (YX zlt)).trans ((k7.2 _ (YX zlt)).trans (WN _ rfl))
 have zz8:YE g8 z ti to (zaw g5.objs.size):=zz8
 rw[sz] at zz8 TL
 have all:∀ c o,c≠z->c≠to->c≠i->c≠j->s.heap.get? c=some o->g8.get? c=some o:=λc o c1 c2 c3 c4 e=>up5 c o c1 ((k5.2 c c2).trans ((k4.2 c c4).trans ((k3.2 c c2).trans ((k2.2 c c3).trans ((k1.2 c c1).trans e)))))
 have fin:=q g8 zz8 (all ti _ (W9 n1) n5 n6 n7 zt) (up5 to _ (W9 n2) zo5) (zi2.at λo e=>up5 i o (W9 n3) ((k5.2 i (W9 n8)).trans ((k4.2 i n10).trans ((k3.2 i (W9 n8)).trans e)))) (zj4.at λo e=>up5 j o (W9 n4) ((k5.2 j (W9 n9)).trans e)) TL all
 rw[← sz] at fin
 exact fin
theorem GP {ta tb:Bool}{z ti to i j a b:Addr}{k:Nat}{xs ys:Array Wo}{Q:Option Wo->Wu->Prop}(hh:A.handled=none)(Z:Zp z ti to i j a b)(S:ZAt ta tb s.heap z ti to i j a b k)(ha:fU ta s.heap a xs)(hb:fU tb s.heap b ys)(he:xs[k]? = none∨ys[k]? = none)
  (q:∀ g,(∀ c o,c≠z->c≠to->c≠i->c≠j->s.heap.get? c=some o->g.get? c=some o)->Q none { s with heap:=g }):WT (WW prog w) A (Zz (.ref z)) Q E s:=by
 obtain ⟨zz,zt,⟨u,v,zo⟩,zi,zj⟩:=S
 obtain ⟨nd,na,nb⟩:=Z
 simp only[Xk,WM,Xj,or_false,not_or] at nd na nb
 obtain ⟨⟨n1,n2,n3,n4⟩,⟨n5,n6,n7⟩,⟨n8,n9⟩,n10,_⟩:=nd
 obtain ⟨a1,a2,a3,a4⟩:=na
 obtain ⟨b1,b2,b3,b4⟩:=nb
 have hT:s.TypeIs (.ref z) "zip" := ⟨_,zz,rfl⟩
 have stop:∀ g e,(∃ o,g.get? e=some o/\o.cls=.type "StopIteration")->(∀ c o,c≠z->c≠to->c≠i->c≠j->s.heap.get? c=some o->g.get? c=some o)->
   WT (WW prog w) A (isInstance (.ref e) (.type "StopIteration") >>= λy=>if y=true then pure none else throw (.ref e)) Q E { s with heap:=g }:=λg e ⟨o,ho,hc⟩ al=>by
  refine Wl <| wpAny_isInstance (T := "StopIteration") (b:=true) ⟨o,ho,hc⟩ isSubtype_stop ?_
  exact WD (q g al)
 unfold Zz
 refine Wl (zaW (Xy (name:=OF "__next__") hT zam (X6 zam hT zdk ?_ (zc1 _))))
 refine Wl (m:=zb0 (.ref z) 2) (Xp zz rfl (x:=.bool false) rfl ?_)
 refine Wl (m:=zb0 (.ref z) 3) (Xp zz rfl (x:=.ref ti) rfl (Wl (XQ zt rfl (Wl (m:=Xl (.ref z)) ?_))))
 delta Xl
 refine Wl (Xp zz rfl (x:=.none) rfl (WD ?_))
 simp only[if_true]
 refine Wl (YV (Wl (Xp zz rfl (x:=.ref to) rfl (Wl (Xt zz (by simp) λg1 zz1 k1=>Wl ?_)))))
 have zz1:YE g1 z ti to .ellipsis:=zz1
 simp only[zdD,zdl,zdW,zak]
 have zi1:iE ta g1 i a k:=zi.at λo e=>(k1.2 i (W9 n3)).trans e
 have ha1:fU ta g1 a xs:=ha.at λo e=>(k1.2 a a1).trans e
 refine Wl (Wl (zaX (Wl (m:=Xa (.ref i)) ?_)))
 cases hx:xs[k]? with
 | none=>
  refine Bw (s:={ s with heap:=g1 }) hh zi1 ha1 hx λg2 e k2 he2=>?_
  obtain ⟨oe,ge,ce⟩:=he2
  have zz2:YE g2 z ti to .ellipsis:=k2 z _ n3 zz1
  have ez:e≠z:=λy=>by subst y;rw[zz2] at ge;cases ge;simp at ce
  refine Xt zz2 (by simp) λg3 _ k3=>stop g3 e ⟨oe,(k3.2 e ez).trans ge,ce⟩ λc o c1 _ c3 _ y=>(k3.2 c c1).trans (k2 c o c3 ((k1.2 c c1).trans y))
 | some x=>
  have hy:ys[k]? = none:=by rcases he with h | h;rw[hx] at h;cases h;exact h
  refine pN (s:={ s with heap:=g1 }) zi1 ha1 hx λg2 zi2 k2=>WD ?_
  have zo2:Ya g2 to u v:=(k2.2 to n8).trans ((k1.2 to (W9 n2)).trans zo)
  refine Wl (XQ zo2 rfl (Wl (Y9 zo2 λg3 zo3 k3=>Wl (Za (WD ?_)))))
  refine Wl (Wl (zaX (Wl (m:=Xa (.ref j)) (Bw (s:={ s with heap:=g3 }) hh (zj.at λo e=>(k3.2 j (W9 n9)).trans ((k2.2 j (W9 n10)).trans ((k1.2 j (W9 n4)).trans e)))
   (hb.at λo e=>(k3.2 b b2).trans ((k2.2 b b3).trans ((k1.2 b b1).trans e))) hy λg4 e k4 he4=>?_))))
  obtain ⟨oe,ge,ce⟩:=he4
  have zz4:YE g4 z ti to .ellipsis:=k4 z _ n4 ((k3.2 z n2).trans ((k2.2 z n3).trans zz1))
  have ez:e≠z:=λy=>by subst y;rw[zz4] at ge;cases ge;simp at ce
  refine Xt zz4 (by simp) λg5 _ k5=>stop g5 e ⟨oe,(k5.2 e ez).trans ge,ce⟩ λc o c1 c2 c3 c4 y=>(k5.2 c c1).trans (k4 c o c4 ((k3.2 c c2).trans ((k2.2 c c3).trans ((k1.2 c c1).trans y))))
abbrev itO (tp:Bool)(a:Addr):Obj:={ cls:=.type (match tp with | true => "tuple_iterator" | false => "list_iterator"),data:=.fields #[.ref a,.int 0 0] }
theorem L6 {tp:Bool}{a:Addr}{xs:Array Wo}{Q:Wo->Wu->Prop}(h:fU tp s.heap a xs)(q:Q (.ref s.heap.objs.size) { s with heap:=s.heap.push (itO tp a) }):WT (WW prog w) A (pyIter (.ref a)) Q E s:=by
 cases tp with
 | true=>exact zcL h q
 | false=>exact ZR h q
abbrev zg1 (ta:Bool)(h:Heap)(a:Addr):Heap:=h.push (itO ta a)
abbrev zg2 (ta tb:Bool)(h:Heap)(a b:Addr):Heap:=(zg1 ta h a).push (itO tb b)
abbrev zg3 (ta tb:Bool)(h:Heap)(a b:Addr):Heap:=(zg2 ta tb h a b).push { cls:=.type "tuple", data:=.seq #[.ref h.objs.size,.ref (zg1 ta h a).objs.size] }
abbrev zg4 (ta tb:Bool)(h:Heap)(a b:Addr):Heap:=(zg3 ta tb h a b).push { cls:=.type "tuple", data:=.seq #[.none,.none] }
abbrev zg5 (ta tb:Bool)(h:Heap)(a b:Addr):Heap:=(zg4 ta tb h a b).push { cls:=.type "zip", data:=.fields #[.none,.bool false,.bool false,.ref (zg2 ta tb h a b).objs.size,.ref (zg3 ta tb h a b).objs.size] }
theorem HX (ta tb:Bool)(a b:Addr)(xs ys:Array Wo):Meets (Z9.«zip.__new__» ⟨[.type "zip", .ref a,.ref b],[]⟩) (λ_ R s=>fU ta s.heap a xs/\fU tb s.heap b ys/\R (.ok (.ret (.ref (zg4 ta tb s.heap a b).objs.size))) { s with heap:=zg5 ta tb s.heap a b }):=
 .of_wp λprog w A R s h=>by
  rcases s with ⟨hp,g,d,tk,os⟩
  obtain ⟨h1,h2,h⟩:=h
  have hs0:=PySem.sub_zip
  have H1:fU ta (zdv ⟨hp,g,d,tk,os⟩) a xs:=h1
  have H2:fU tb (zdv ⟨hp.push (itO ta a),g,d,tk,os⟩) b ys:=fU.at h2 λo e=>Wn _ e
  wp_walk using L6 H1,L6 H2
  exact ⟨_,rfl,h⟩
theorem EV {ta tb:Bool}{a b:Addr}{xs ys:Array Wo}{Q:Wo->Wu->Prop}(h1:fU ta s.heap a xs)(h2:fU tb s.heap b ys)
  (q:∀ g,ZAt ta tb g (s.heap.objs.size+4) (s.heap.objs.size+2) (s.heap.objs.size+3) s.heap.objs.size (s.heap.objs.size+1) a b 0->(∀ c o,s.heap.get? c=some o->g.get? c=some o)->Q (.ref (s.heap.objs.size+4)) { s with heap:=g }) :
  WT (WW prog w) A (zcj (.type "zip") [.ref a,.ref b]) Q E s:=by
 refine callType_new F.called_zip (by decide) (F.typeCall_zip_2 _ _) (F.newCall_zip_2 _ _) (λobj=>F.args_object_init_3 obj _ _) F.entry_zip_new (HX ta tb a b xs ys) ⟨h1,h2,?_⟩
 have s1:(zg1 ta s.heap a).objs.size=s.heap.objs.size+1:=Zb ..
 have s2:(zg2 ta tb s.heap a b).objs.size=s.heap.objs.size+2:=by rw[Zb,s1]
 have s3:(zg3 ta tb s.heap a b).objs.size=s.heap.objs.size+3:=by rw[Zb,s2]
 have s4:(zg4 ta tb s.heap a b).objs.size=s.heap.objs.size+4:=by rw[Zb,s3]
 have p5:(zg5 ta tb s.heap a b).get? (zg4 ta tb s.heap a b).objs.size=some _:=WN _ rfl
 have p4:(zg5 ta tb s.heap a b).get? (zg3 ta tb s.heap a b).objs.size=some _:=Wn _ (WN _ rfl)
 have p3:(zg5 ta tb s.heap a b).get? (zg2 ta tb s.heap a b).objs.size=some _:=Wn _ (Wn _ (WN _ rfl))
 have p2:(zg5 ta tb s.heap a b).get? (zg1 ta s.heap a).objs.size=some (itO tb b):=Wn _ (Wn _ (Wn _ (WN _ rfl)))
 have p1:(zg5 ta tb s.heap a b).get? s.heap.objs.size=some (itO ta a):=Wn _ (Wn _ (Wn _ (Wn _ (WN _ rfl))))
 have i1:iE ta (zg5 ta tb s.heap a b) s.heap.objs.size a 0:=by cases ta<;>exact ⟨_,p1,rfl,rfl⟩
 have i2:iE tb (zg5 ta tb s.heap a b) (zg1 ta s.heap a).objs.size b 0:=by cases tb<;>exact ⟨_,p2,rfl,rfl⟩
 show _/\_
 rw[s2,s3,s4] at p5
 rw[s1,s2] at p3
 rw[s3] at p4
 rw[s1] at i2
 rw[s4]
 exact ⟨⟨_,p5,rfl⟩,q _ ⟨p5,p3,⟨_,_,p4⟩,i1,i2⟩ λc o x=>Wn _ (Wn _ (Wn _ (Wn _ (Wn _ x))))⟩
end
def Sq (tp:Bool)(K:Wj)(H:Hp)(a:Addr)(xs:List V):Prop:=match tp with
 | true=>SqT K H a xs
 | false=>SqL K H a xs
def SqX (tp:Bool)(K:Wj)(H:Hp)(a:Addr)(xs:List V):Prop:=match tp with
 | true=>SqT K H a xs
 | false=>SqF K H a xs
theorem SqX.sq {tp:Bool}{K:Wj}{H:Hp}{a:Addr}{xs:List V}(h:SqX tp K H a xs):Sq tp K H a xs:=by
 cases tp with
 | true=>exact h
 | false=>exact SqF.sq h
theorem Inv.sq {X:Cx}{pins:List (Addr×Obj)}{σ:L2.St}{H:Hp}{s:Wu}{tp:Bool}{a:Addr}{xs:List V}(I:Inv X pins σ H s)(h:Sq tp X.K H a xs):∃ its:List Wo,Vals xs its/\fU tp s.heap a its.toArray:=by
 cases tp with
 | true=>obtain ⟨its,r,p,_⟩:=I.tuple h;exact ⟨its,r,p⟩
 | false=>
  obtain ⟨its,r,⟨o,n,e1,e2,_,e3⟩,_⟩:=I.list h
  exact ⟨its,r,o,e1,e2,n,e3⟩
theorem Inv.Bu {X:Cx}{pins:List (Addr×Obj)}{σ:L2.St}{H:Hp}{s:Wu}{tp:Bool}{a:Addr}{xs ys:List V}(I:Inv X pins σ H s)(h:Sq tp X.K H a xs)(h':Sq tp X.K H a ys):xs=ys:=by
 cases tp with
 | true=>exact I.uv h h'
 | false=>exact I.zl h h'
def Itz (ta tb:Bool)(K:Wj)(a b:Addr):It:=
 ⟨λi H=>∃ xs ys x y,Sq ta K H a xs/\Sq tb K H b ys/\xs[i]? = some x/\ys[i]? = some y,
  λi H v H'=>∃ x y p,(∀ xs,Sq ta K H a xs->xs[i]? = some x)/\(∀ ys,Sq tb K H b ys->ys[i]? = some y)/\v=.ref p/\H p=none/\H'=L2.upd H p (.tup [x,y]),
  λi H=>∃ xs ys,Sq ta K H a xs/\Sq tb K H b ys/\(xs.length<=i∨ys.length<=i)⟩
theorem Ft {P:W7}{w:Xh}{K:Wj}{es:List WX}{ek:Nat}{ep:Pos}{ta tb:Bool}{z ti to i j a b:Addr}(Z:Zp z ti to i j a b) :
  Turn P w K (.Tuple es ek ep) (Itz ta tb K a b) [z,ti,to,i,j] z (λk h=>ZAt ta tb h z ti to i j a b k) where
 mem:=by simp
 obj:=λk h S c hc=>by
  obtain ⟨zz,zt,⟨u,v,zo⟩,zi,zj⟩:=S
  simp only[WM,Xj,or_false] at hc
  rcases hc with rfl | rfl | rfl | rfl | rfl
  ·exact ⟨_,zz,λv y=>by cases y⟩
  ·exact ⟨_,zt,λv y=>by cases y⟩
  ·exact ⟨_,zo,λv y=>by cases y⟩
  ·obtain ⟨o,e,vs,d⟩:=zi.ex;exact ⟨o,e,λv y=>by rw[d] at y;cases y⟩
  ·obtain ⟨o,e,vs,d⟩:=zj.ex;exact ⟨o,e,λv y=>by rw[d] at y;cases y⟩
 keep:=λk h g S kp=>by
  obtain ⟨zz,zt,⟨u,v,zo⟩,zi,zj⟩:=S
  exact ⟨kp z (by simp) _ zz,kp ti (by simp) _ zt,⟨u,v,kp to (by simp) _ zo⟩,zi.at λo e=>kp i (by simp) o e,zj.at λo e=>kp j (by simp) o e⟩
 item:=by
  intro X hP hw hK hc k pins s σ H E I hf S hg
  subst hP hw hK
  obtain ⟨xs,ys,x,y,qa,qb,ex,ey⟩:=hg
  obtain ⟨ia,ra,sa⟩:=Inv.sq I qa
  obtain ⟨ib,rb,sb⟩:=Inv.sq I qb
  obtain ⟨ux,hux,rx⟩:=ra.get ex
  obtain ⟨uy,huy,ry⟩:=rb.get ey
  refine Ey Z S sa sb (x:=ux) (y:=uy) (by simpa using hux) (by simpa using huy) λg zz zt zo zi zj new al=>⟨_,rfl,wpAny_letOwnedTupleGo_zip zz λg2 zz2 k2=>?_⟩
  have nd:=Z.nd
  simp only[Xk,WM,Xj,or_false,not_or] at nd
  obtain ⟨⟨n1,n2,n3,n4⟩,_⟩:=nd
  have zlt:z < s.heap.objs.size:=WJ S.zz
  have fr:H s.heap.objs.size=none:=I.hok.fresh (WG _)
  have new2:Ya g2 s.heap.objs.size ux uy:=(k2.2 _ (YX zlt)).trans new
  have all:∀ c o,c ∉ [z,ti,to,i,j]->s.heap.get? c=some o->g2.get? c=some o:=λc o hc e=>by
   simp only[WM,Xj,or_false,not_or] at hc
   exact (k2.2 c hc.1).trans (al c o hc.1 hc.2.2.1 hc.2.2.2.1 hc.2.2.2.2 e)
  have nfp:∀ c u,H c=some u->c ∉ [z,ti,to,i,j]:=λc u e hc=>by rw[(hf c hc).1] at e;cases e
  refine ⟨.ref s.heap.objs.size,L2.upd H s.heap.objs.size (.tup [x,y]),?_,rfl,⟨x,y,_,λxs' q=>by rw[Inv.Bu I q qa];exact ex,λys' q=>by rw[Inv.Bu I q qb];exact ey,rfl,fr,rfl⟩,⟨zz2,(k2.2 ti (W9 n1)).trans zt,⟨_,_,(k2.2 to (W9 n2)).trans zo⟩,zi.at λo e=>(k2.2 i (W9 n3)).trans e,zj.at λo e=>(k2.2 j (W9 n4)).trans e⟩,λc hc=>?_⟩
  ·refine L2.Inv.step (s:=s) (H:=H) (H':=L2.upd H s.heap.objs.size (.tup [x,y])) (g':=s.gens) (d':=s.drawn) (t':=s.toks) (h':=g2) (ch:=[z,ti,to,i,j]) I (λc hc=>⟨(hf c hc).2.2.2.1,(hf c hc).2.1,(hf c hc).2.2.2.2.1,(hf c hc).2.2.2.2.2⟩) (λc o _ _ hc e _=>all c o hc e) (λc o _ _ hc e _=>⟨o.slots,all c o hc e⟩) (λc o hc e n=>?_) (λc o hc e=>⟨o,all c o hc e⟩)
    (λc xs e=>?_) (λc o u e=>?_) (λc ps e=>⟨#[],?_⟩) (λm hm=>?_) (λc u e=>?_) I.bare
   ·rw[aN (W0 (WJ e))];exact n
   ·rw[aN (bu e fr)];exact e
   ·rw[aN (bu e fr)];exact e
   ·rw[aN (bu e fr),e];simp
   ·obtain ⟨o,es',ep',ho,r⟩:=hm
    exact ⟨o,es',ep',all _ o (λhc=>(hf _ hc).2.1 rfl) ho,r⟩
   ·by_cases hcT:c=s.heap.objs.size
    ·subst hcT
     rw[aM] at e;cases e
     exact ⟨by show 2<=sizeLine;decide,[ux,uy],.cons rx (.cons ry .nil),⟨_,new2⟩⟩
    ·rw[aN hcT] at e
     refine (I.hok c u e).nK (λc' v hc' q=>all c' v ?_ q) (λc' q=>by rw[aN (bu q fr)];exact q) λc' xs q=>by rw[aN (bu q fr)];exact q
     rcases hc' with rfl | hc'
     ·exact nfp _ _ e
     ·exact nfp _ _ hc'
  ·have hcl:c≠s.heap.objs.size:=by
    obtain ⟨zz,zt,⟨u,v,zo⟩,zi,zj⟩:=S
    simp only[WM,Xj,or_false] at hc
    rcases hc with rfl | rfl | rfl | rfl | rfl
    ·exact W0 (WJ zz)
    ·exact W0 (WJ zt)
    ·exact W0 (WJ zo)
    ·obtain ⟨o,e,_⟩:=zi.ex;exact W0 (WJ e)
    ·obtain ⟨o,e,_⟩:=zj.ex;exact W0 (WJ e)
   rw[aN hcl];exact (hf c hc).1
 done:=by
  intro X hP hw hK hc k pins s σ H E I hf S hg
  subst hP hw hK
  obtain ⟨xs,ys,qa,qb,he⟩:=hg
  obtain ⟨ia,ra,sa⟩:=Inv.sq I qa
  obtain ⟨ib,rb,sb⟩:=Inv.sq I qb
  have la:=ra.length
  have lb:=rb.length
  refine GP (I.ok.hd hc) Z S sa sb (he.imp (λh=>by simp;omega) λh=>by simp;omega) λg al=>⟨rfl,?_⟩
  have all:∀ c o,c ∉ [z,ti,to,i,j]->s.heap.get? c=some o->g.get? c=some o:=λc o hc e=>by
   simp only[WM,Xj,or_false,not_or] at hc
   exact al c o hc.1 hc.2.2.1 hc.2.2.2.1 hc.2.2.2.2 e
  have nfp:∀ c u,H c=some u->c ∉ [z,ti,to,i,j]:=λc u e hc=>by rw[(hf c hc).1] at e;cases e
  refine L2.Inv.step (s:=s) (H:=H) (H':=H) (g':=s.gens) (d':=s.drawn) (t':=s.toks) (h':=g) (ch:=[z,ti,to,i,j]) I (λc hc=>⟨(hf c hc).2.2.2.1,(hf c hc).2.1,(hf c hc).2.2.2.2.1,(hf c hc).2.2.2.2.2⟩) (λc o _ _ hc e _=>all c o hc e) (λc o _ _ hc e _=>⟨o.slots,all c o hc e⟩) (λc o hc e n=>n) (λc o hc e=>⟨o,all c o hc e⟩)
   (λc xs e=>e) (λc o u e=>e) (λc ps e=>⟨#[],by rw[e];simp⟩) (λm hm=>?_) (λc u e=>?_) I.bare
  ·obtain ⟨o,es',ep',ho,r⟩:=hm
   exact ⟨o,es',ep',all _ o (λhc=>(hf _ hc).2.1 rfl) ho,r⟩
  ·refine (I.hok c u e).nK (λc' v hc' q=>all c' v ?_ q) (λc' q=>q) λc' xs q=>q
   rcases hc' with rfl | hc'
   ·exact nfp _ _ e
   ·exact nfp _ _ hc'
 self:=λ_ _ _ _ _ S h=>zdm S.zz h
theorem SE (n a b:Nat)(ha:a < n)(hb:b < n):Zp (n+4) (n+2) (n+3) n (n+1) a b:=by
 refine ⟨?_,?_,?_⟩
 ·show ([n+4,n+2,n+3,n,n+1]:List Nat).Nodup
  simp only[Xk,WM,Xj,or_false,not_or,zdS,and_true,not_false_eq_true]
  and_intros<;>omega
 ·show a ∉ ([n+4,n+3,n,n+1]:List Nat)
  simp only[WM,Xj,or_false,not_or]
  omega
 ·show b ∉ ([n+4,n+3,n,n+1]:List Nat)
  simp only[WM,Xj,or_false,not_or]
  omega
theorem NY (n c:Nat)(h:c∈([n+4,n+2,n+3,n,n+1]:List Nat)):n<=c:=by
 simp only[WM,Xj,or_false] at h
 omega
section
variable {X:Cx} {ea eb:WX} {es:List WX} {ek:Nat} {ep p pos:Pos}
def kQ (tp:Bool)(x:D)(f:List D->Prop):Prop:=match tp,x with
 | true,.tup ds=>f ds
 | false,.ls ds=>f ds
 | _,_=>False
theorem Bi {K:Wj}{H:Hp}{tp:Bool}{v:V}{x:D}{f:List D->Prop}(p:Dp K H v x)(h:kQ tp x f):∃ a xs ds,v=.ref a/\SqX tp K H a xs/\DpL K H xs ds/\f ds:=by
 cases tp with
 | true=>cases p with
  | @tup a xs ds q l=>exact ⟨a,xs,ds,rfl,q,l,h⟩
  | _=>exact Ww h
 | false=>cases p with
  | @ls a xs ds q l=>exact ⟨a,xs,ds,rfl,q,l,h⟩
  | _=>exact Ww h
theorem Tk.sq {K:Wj}{H H':Hp}{tp:Bool}{a:Addr}{xs:List V}(t:Tk H H')(h:SqX tp K H a xs):Sq tp K H' a xs:=by
 cases tp with
 | true=>exact t.sqT h
 | false=>exact (t.sqF h).sq
end
end
section
open PySem PySem.Spec PyProof.Rows L2
def kObj (x:D)(f:Addr->Prop):Prop:=match x with
 | .obj a=>f a
 | _=>False
theorem je (a:Addr)(f):kObj (.obj a) f=f a:=rfl
section
variable {X:Cx} {o a b c e:WX} {To Ta Tb Tc Te T T':ETr} {pos:Pos}
theorem Uo {K:Wj}{H:Hp}{μ:Mu}{q:Addr}{u:HO}(m:bM K H μ)(t:Tk H (L2.upd H q u)):bM K (L2.upd H q u) (dn μ q):=λz y ez=>by
 have zq:z≠q:=λw=>by subst w;unfold dn at ez;rw[if_pos rfl] at ez;cases ez
 have ez':μ z=some y:=by unfold dn at ez;rw[if_neg zq] at ez;exact ez
 exact (m z _ ez').ne t zq
theorem lI {H:Hp}{q:Addr}{u:HO}{xs:List V}(ex:H q=some (.lst xs)):Tk H (L2.upd H q u):=
 .upd (λys z=>by rw[ex] at z;cases z) λo' w z=>by rw[ex] at z;cases z
theorem J2 {K:Wj}{H:Hp}{μ:Mu}{q:Addr}{xs ys:List V}{ds:List D}(m:bM K H μ)(ex:H q=some (.lst xs))(l:DpL K H ys ds):bM K (L2.upd H q (.lst ys)) (up μ q (.lst ds)):=λz y ez=>by
 by_cases zq:z=q
 ·subst zq
  rw[aE] at ez;cases ez
  exact ⟨ys,aM,l.mono (lI ex)⟩
 ·rw[aS zq] at ez
  exact (m z _ ez).ne (lI ex) zq
theorem zI {K:Wj}{H:Hp}{μ:Mu}{q:Addr}{ys:List V}{ds:List D}(m:bM K H μ)(hq:H q=none)(l:DpL K H ys ds):bM K (L2.upd H q (.lst ys)) (up μ q (.lst ds)):=λz y ez=>by
 by_cases zq:z=q
 ·subst zq
  rw[aE] at ez;cases ez
  exact ⟨ys,aM,l.mono (.new hq)⟩
 ·rw[aS zq] at ez
  exact cw m hq z y ez
def yS (T:ETr):ETr:=λρ μ Q=>T ρ μ λx μ1=>kObj x λa=>kL μ1 a λds=>Q (.ls ds) (dn μ1 a)
theorem AK (h:LE X e T):LE X e (yS T):=by
 obtain ⟨t,p,s⟩:=h.ex
 refine ⟨_,jS p,λσ H ρ μ Q Q' rl h k=>s σ H ρ μ _ _ rl h λv H1 d μ1 t1 m1 p1 h1=>?_⟩
 cases p1 with
 | obj q=>
  obtain ⟨ds,e0,h2⟩:=bU h1
  obtain ⟨xs,ex,l⟩:=m1 q _ e0
  refine ⟨q,xs,rfl,ex,λu=>?_⟩
  have t2:Tk H1 (L2.upd H1 q (.frz u (.lst xs))):=lI ex
  exact k _ _ _ (dn μ1 q) (t1.trans t2) (Uo m1 t2) (.ls (.inl ⟨u,aM⟩) (l.mono t2)) h2
 | _=>exact Ww h1
def o7 (To Te:ETr):ETr:=λρ μ Q=>To ρ μ λx μ1=>kObj x λa=>kL μ1 a λ_=>Te ρ μ1 λy μ2=>kL μ2 a λds=>ds.length < 1000000/\Q .non (up μ2 a (.lst (ds++[y])))
theorem le_app {apos cpos:Pos}(ho:LE X o To)(he:LE X e Te)
  (hbase:Zu o (OF "append") X.env (XJ o X.env)=XJ o X.env:=by rfl)
  (hfew:((X3 cpos (WH [e] X.env)).all (λx=>!x.1)&&(zax cpos (Y7 [] X.env)).all (λx=>x.1.isSome)
   && decide ([e].length+([]:List Zh).length+(if ([]:List Zh).isEmpty then 0 else 1) < 30))=true:=by rfl)
  (hline:(apos.endLine == cpos.line)=true:=by rfl) (hs:WH [e] X.env=(false,XJ e X.env)::WH [] X.env:=by rfl) (hplain:(X3 cpos (WH [] X.env)).any (·.1)=false:=by rfl) :
  LE X (.Call (.Attribute o (OF "append") apos) [e] [] cpos) (o7 To Te):=by
 obtain ⟨to,po,so⟩:=ho.ex
 obtain ⟨te,pe,se⟩:=he.ex
 refine ⟨_,zu Yk PySem.F.slot_list_append PySem.F.type_list_append t9 po (fm pe iQ hs) hbase hfew hline hs hplain,λσ H ρ μ Q Q' rl h k=>so σ H ρ μ _ _ rl h λx H1 dx μ1 t1 m1 p1 h1=>?_⟩
 cases p1 with
 | obj q=>
  obtain ⟨ds0,e0,h2⟩:=bU h1
  obtain ⟨xs0,ex0,_⟩:=m1 q _ e0
  refine ⟨.inl ⟨rfl,_,SqL.of ex0⟩,se σ H1 ρ μ1 _ _ (rl.go t1 m1) h2 λy H2 dy μ2 t2 m2 p2 h3=>?_⟩
  obtain ⟨ds,e1,lz,h4⟩:=bU h3
  obtain ⟨xs,ex,l⟩:=m2 q _ e1
  exact ⟨q,xs,y,rfl,rfl,ex,by rw[l.length];exact WS lz (by decide),k _ _ _ _ ((t1.trans t2).trans (lI ex)) (J2 m2 ex (l.append (.cons p2 .nil))) .non h4⟩
 | _=>exact Ww h1
def bG:FSp:=λds μ Q=>match ds with
 | [.tup xs]=>Q (.tup xs) μ
 | [.ls xs]=>Q (.tup xs) μ
 | [.obj a]=>kL μ a λxs=>Q (.tup xs) μ
 | _=>False
theorem bj {K:Wj}:mK K (λxs H Q=>∃ p ys,xs=[.ref p]/\((SqL K H p ys/\∀ l,H l=none->Q (.ref l) (L2.upd H l (.tup ys)))∨(SqT K H p ys/\Q (.ref p) H))) bG:=λH μ xs ds Q Q' m p h k=>by
 unfold bG at h
 split at h
 ·cases p with | cons p1 p2=>cases p2;cases p1 with | tup q l=>exact ⟨_,_,rfl,.inr ⟨q,k _ H _ μ (.refl H) m (.tup q l) h⟩⟩
 ·cases p with | cons p1 p2=>cases p2;cases p1 with | ls q l=>exact ⟨_,_,rfl,.inl ⟨q.sq,λz hz=>k _ _ _ μ (.new hz) (cw m hz) (.tup (SqT.of aM) (l.mono (.new hz))) h⟩⟩
 ·rename_i q
  cases p with | cons p1 p2=>
  cases p2;cases p1
  obtain ⟨ys,e0,h⟩:=bU h
  obtain ⟨xs,ex,l⟩:=m q _ e0
  exact ⟨_,_,rfl,.inl ⟨SqL.of ex,λz hz=>k _ _ _ μ (.new hz) (cw m hz) (.tup (SqT.of aM) (l.mono (.new hz))) h⟩⟩
 ·exact Ww h
def jA:FSp:=λds μ Q=>match ds with
 | [.tup xs]=>∀ p,μ p=none->Q (.obj p) (up μ p (.lst xs))
 | [.ls xs]=>∀ p,μ p=none->Q (.obj p) (up μ p (.lst xs))
 | [.obj a]=>kL μ a λxs=>∀ p,μ p=none->Q (.obj p) (up μ p (.lst xs))
 | _=>False
theorem tX {K:Wj}:mK K (λxs H Q=>∃ p ys,xs=[.ref p]/\(SqL K H p ys∨SqT K H p ys)/\∀ l,H l=none->Q (.ref l) (L2.upd H l (.lst ys))) jA:=λH μ xs ds Q Q' m p h k=>by
 unfold jA at h
 split at h
 ·cases p with | cons p1 p2=>cases p2;cases p1 with | tup q l=>exact ⟨_,_,rfl,.inr q,λz hz=>k _ _ _ _ (.new hz) (zI m hz l) (.obj _) (h z (m.free hz))⟩
 ·cases p with | cons p1 p2=>cases p2;cases p1 with | ls q l=>exact ⟨_,_,rfl,.inl q.sq,λz hz=>k _ _ _ _ (.new hz) (zI m hz l) (.obj _) (h z (m.free hz))⟩
 ·rename_i q
  cases p with | cons p1 p2=>
  cases p2;cases p1
  obtain ⟨ys,e0,h⟩:=bU h
  obtain ⟨xs,ex,l⟩:=m q _ e0
  exact ⟨_,_,rfl,.inl (SqL.of ex),λz hz=>k _ _ _ _ (.new hz) (zI m hz l) (.obj _) (h z (m.free hz))⟩
 ·exact Ww h
def jZ:FSp:=λds μ Q=>match ds with
 | [.tup xs]=>Q (.ls xs) μ
 | [.ls xs]=>Q (.ls xs) μ
 | [.obj a]=>kL μ a λxs=>Q (.ls xs) μ
 | _=>False
def FN (Q:VK):VK:=λv H1=>∃ a xs,v=.ref a/\H1 a=some (.lst xs)/\∀ o,Q v (L2.upd H1 a (.frz o (.lst xs)))
theorem fH {K:Wj}{H:Hp}{μ:Mu}{ys:List V}{ds:List D}{Q:DK}{Q':VK}{z:Addr}(m:bM K H μ)(l:DpL K H ys ds)(h:Q (.ls ds) μ)(k:jG K H Q Q')(hz:H z=none):FN Q' (.ref z) (L2.upd H z (.lst ys)):=
 ⟨z,ys,rfl,aM,λo=>by
  have e:L2.upd (L2.upd H z (.lst ys)) z (.frz o (.lst ys))=L2.upd H z (.frz o (.lst ys)):=wa
  rw[e]
  exact k _ _ _ μ (.new hz) (cw m hz) (.ls (.inl ⟨o,aM⟩) (l.mono (.new hz))) h⟩
theorem Fo {K:Wj}:mK K (λxs H Q=>∃ p ys,xs=[.ref p]/\(SqL K H p ys∨SqT K H p ys)/\∀ l,H l=none->FN Q (.ref l) (L2.upd H l (.lst ys))) jZ:=λH μ xs ds Q Q' m p h k=>by
 unfold jZ at h
 split at h
 ·cases p with | cons p1 p2=>cases p2;cases p1 with | tup q l=>exact ⟨_,_,rfl,.inr q,λz hz=>fH m l h k hz⟩
 ·cases p with | cons p1 p2=>cases p2;cases p1 with | ls q l=>exact ⟨_,_,rfl,.inl q.sq,λz hz=>fH m l h k hz⟩
 ·rename_i q
  cases p with | cons p1 p2=>
  cases p2;cases p1
  obtain ⟨ys,e0,h⟩:=bU h
  obtain ⟨xs,ex,l⟩:=m q _ e0
  exact ⟨_,_,rfl,.inl (SqL.of ex),λz hz=>fH m l h k hz⟩
 ·exact Ww h
theorem JK {x:Str}{p:Pos}{At:ATr}(hx:x = "list")(hg:Gl X x)(hm:X.mg x=none)(hv:Yp x=some (.type "list"))(ha:LA X [e] At)(hn:x ≠ "__name__" := by decide)(hdb:(x == ("__debug__" : Str))=false:=by decide)
  (h1:WH [e] X.env=(false,XJ e X.env)::WH [] X.env:=by rfl) (h2:(X3 pos (WH [] X.env)).any (·.1)=false:=by rfl):LE X (.Call (.Name x p) [e] [] pos) (au jZ At):=by
 obtain ⟨ta,pa,sa⟩:=ha.ex
 exact ⟨_,jS (tR i7 hg hm hv pa hn hdb h1 h2),λσ H ρ μ Q Q' rl h k=>sa σ H ρ μ _ _ rl h λxs H1 ds μ1 t1 m1 p1 h1=>Fo H1 μ1 xs ds Q Q' m1 p1 h1 (k.go t1)⟩
def ji:D->Bool
 | .non=>true
 | .bl _=>true
 | .int _=>true
 | .str _=>true
 | _=>false
def inD (x:D)(xs:List D):Bool:=xs.any λy=>eqD y x
def rIn (neg:Bool):DR2:=λx y μ Q=>match y with
 | .tup xs=>(ji x=true/\xs.all ji=true)/\Q (.bl (if neg then !inD x xs else inD x xs)) μ
 | .ls xs=>(ji x=true/\xs.all ji=true)/\Q (.bl (if neg then !inD x xs else inD x xs)) μ
 | .obj a=>kL μ a λxs=>(ji x=true/\xs.all ji=true)/\Q (.bl (if neg then !inD x xs else inD x xs)) μ
 | _=>False
end
end
section
open PySem PySem.Spec PyProof.Rows L2
section
variable {X:Cx} {a b e:WX} {Ta Tb T:ETr} {pos:Pos}
def TX (t:TE):TE:=λσ H Q=>t σ H λv H1=>Q v H1∨FN Q v H1
theorem Cv {t:TE}(h:PE X e t):PE X e (TX t):=by
 have g:PE X e (λσ H Q=>∃ P:VK,DV t σ H P/\∀ v H',P v H'->Q v H'):=λpins s σ H Q I ⟨P,hP,k⟩=>
  thn (jS h pins s σ H P I hP) λu s1 ⟨v,H1,I1,r,q⟩=>⟨v,H1,I1,r,k _ _ q⟩
 intro pins s σ H Q I hh
 refine thn (h pins s σ H _ I hh) λu s1 ⟨v,H1,I1,r,q⟩=>?_
 rcases q with q | ⟨c,xs,rfl,ec,q⟩
 ·exact ⟨v,H1,I1,r,q⟩
 ·have hz:=I1.hok c _ ec
  obtain ⟨z,its,n,rv,hg⟩:=hz
  have nl:∀ d o,H1 d=some o->(∀ ys,o≠.lst ys)->d≠c:=λd o e1 e2 w=>by subst w;rw[ec] at e1;cases e1;exact e2 _ rfl
  refine ⟨.ref c,_,I1.un (h':=s1.heap) (t':=s1.toks) (H':=L2.upd H1 c (.frz { cls:=.type "list", data:=.seq its.toArray n } (.lst xs))) ⟨λd o e _ _ _=>e,λd o e _ _ _=>⟨o.slots,e⟩,λd o e w _=>?_,λd o e _=>⟨o,e⟩,λd ys e=>?_,λd o u e=>?_,λd ps e=>⟨#[],?_⟩⟩ (λd u e=>?_),r,q _⟩
  ·rw[aN (λz=>by subst z;rw[ec] at w;cases w)];exact w
  ·rw[aN (nl d _ e (λ_=>nofun))];exact e
  ·rw[aN (nl d _ e (λ_=>nofun))];exact e
  ·rw[aN (nl d _ e (λ_=>nofun)),e];simp
  ·by_cases hd:d=c
   ·subst hd
    rw[aM] at e;cases e
    exact ⟨hg,z,its,n,rv,hg⟩
   ·rw[aN hd] at e
    refine (I1.hok d u e).nK (λk w _ q=>q) (λk q=>?_) λk ys q=>?_
    ·rw[aN (nl k _ q (λ_=>nofun))];exact q
    ·rw[aN (nl k _ q (λ_=>nofun))];exact q
def N7 (K:Wj):R2:=λx y H Q=>∃ p q ys,x=.ref p/\y=.ref q/\SqT K H p []/\SqT K H q ys/\Q (.ref q) H
theorem NM:OpR X (YN .Add) (N7 X.K):=λpins s σ H x y v u Q I rx ry ⟨p,q,ys,e1,e2,hp,hq,h⟩=>by
 subst e1 e2
 cases rx
 cases ry
 obtain ⟨its,r1,p1,_⟩:=I.tuple hp
 obtain ⟨its2,r2,p2,_⟩:=I.tuple hq
 cases r1
 obtain ⟨⟨c1,d1,t1,l1⟩,ho,hc,n,hd⟩:=id p1
 obtain ⟨⟨c2,d2,t2,l2⟩,ho2,hc2,n2,hd2⟩:=id p2
 simp only at hc hd hc2 hd2
 subst hc hd hc2 hd2
 exact zbq ⟨_,ho,rfl⟩ ⟨_,ho2,rfl⟩ za5 zcs ZT ZI (Zt _ _)
  (tuple_addW0 p q #[] its2.toArray n n2 d1 d2 l1 l2 rfl) ⟨ho,ho2,⟨.ref q,H,I,rfl,h⟩⟩
def NZ (K:Wj):R2:=λx y H Q=>∃ p q xs ys,x=.ref p/\y=.ref q/\SqL K H p xs/\SqL K H q ys/\xs.length+ys.length<=sizeLine/\∀ z,H z=none->Q (.ref z) (L2.upd H z (.lst (xs++ys)))
theorem MH:OpR X (YN .Add) (NZ X.K):=λpins s σ H x y v u Q I rx ry ⟨p,q,xs,ys,e1,e2,hp,hq,hz,h⟩=>by
 subst e1 e2
 cases rx
 cases ry
 obtain ⟨its,r1,p1,_⟩:=I.list hp
 obtain ⟨its2,r2,p2,_⟩:=I.list hq
 obtain ⟨⟨c1,d1,t1,l1⟩,n,ho,hc,hx,hd⟩:=id p1
 obtain ⟨⟨c2,d2,t2,l2⟩,n2,ho2,hc2,hx2,hd2⟩:=id p2
 simp only at hc hd hc2 hd2
 subst hc hd hc2 hd2
 have z1:=r1.length
 have z2:=r2.length
 refine zbq ⟨_,ho,rfl⟩ ⟨_,ho2,rfl⟩ PySem.noFill_list_add PySem.seq_list_add PySem.F.slot_list_add PySem.F.entry_list_add (PySem.F.args_list_add_2 _ _)
  (list_addW p q its.toArray its2.toArray n n2 d1 d2 l1 l2 (by rw[WR,WR];omega)) ⟨ho,ho2,?_⟩
 have ea:its.toArray++its2.toArray=(its++its2).toArray:=by simp
 rw[ea]
 exact ⟨.ref _,_,I.U7 (t':=s.toks) (r1.append r2) (by rw[Wv];omega),rfl,h _ I.fresh⟩
def aR:DR2:=λx y μ Q=>match x,y with
 | .int i,.int j=>Q (.int (i+j)) μ
 | .str i,.str j=>i.length+j.length<=1000000/\Q (.str (i++j)) μ
 | .tup a,.tup b=>a.length+b.length<=1000000/\Q (.tup (a++b)) μ
 | .ls a,.ls b=>a.length+b.length<=1000000/\Q (.ls (a++b)) μ
 | _,_=>False
def rPl (K:Wj):R2:=λx y H Q=>(rI0 λi j=>.int (i+j)) x y H Q∨(∃ i j,x=.str i/\y=.str j/\i.length+j.length<=sizeLine/\Q (.str (i++j)) H)∨Oc K x y H Q∨N7 K x y H Q∨NZ K x y H Q
theorem K6:OpR X (YN .Add) (rPl X.K):=λpins s σ H x y v u Q I rx ry h=>by
 rcases h with h | h | h | h | h
 ·exact O2 pins s σ H x y v u Q I rx ry h
 ·exact AE pins s σ H x y v u Q I rx ry h
 ·exact KZ pins s σ H x y v u Q I rx ry h
 ·exact NM pins s σ H x y v u Q I rx ry h
 ·exact MH pins s σ H x y v u Q I rx ry h
theorem aI (ha:LE X a Ta)(hb:LE X b Tb):LE X (.BinOp a .Add b pos) (ak aR Ta Tb):=by
 obtain ⟨ta,pa,sa⟩:=ha.ex
 obtain ⟨tb,pb,sb⟩:=hb.ex
 refine ⟨_,Cv (Om K6 pa pb),λσ H ρ μ Q Q' rl h k=>sa σ H ρ μ _ _ rl h λx H1 dx μ1 t1 m1 p1 h1=>sb σ H1 ρ μ1 _ _ (rl.go t1 m1) h1 λy H2 dy μ2 t2 m2 p2 h2=>?_⟩
 have p1:=p1.mono t2
 have k:=k.go (t1.trans t2)
 cases p1 with
 | int i=>
  cases p2 with
  | int j=>exact .inl ⟨i,j,rfl,rfl,.inl (k _ H2 _ μ2 (.refl H2) m2 (.int _) h2)⟩
  | _=>exact Ww h2
 | str i=>
  cases p2 with
  | str j=>exact .inr (.inl ⟨i,j,rfl,rfl,big h2.1,.inl (k _ H2 _ μ2 (.refl H2) m2 (.str _) h2.2)⟩)
  | _=>exact Ww h2
 | @tup q xs ds sq l=>
  cases p2 with
  | @tup q' ys es sq' l'=>
   obtain ⟨hz,h3⟩:=h2
   by_cases hx:xs=[]
   ·subst hx
    cases l
    exact .inr (.inr (.inr (.inl ⟨q,q',ys,rfl,rfl,sq,sq',.inl (k _ H2 _ μ2 (.refl H2) m2 (.tup sq' l') h3)⟩)))
   ·refine .inr (.inr (.inl ⟨q,q',xs,ys,rfl,rfl,sq,sq',hx,by rw[l.length,l'.length];exact big hz,λhy=>?_,λ_ z hzn=>.inl ?_⟩))
    ·subst hy
     cases l'
     rw[W8] at h3
     exact .inl (k _ H2 _ μ2 (.refl H2) m2 (.tup sq l) h3)
    ·exact k _ _ _ μ2 (.new hzn) (cw m2 hzn) (.tup (SqT.of aM) ((l.append l').mono (.new hzn))) h3
  | _=>exact Ww h2
 | @ls q xs ds sq l=>
  cases p2 with
  | @ls q' ys es sq' l'=>exact .inr (.inr (.inr (.inr ⟨q,q',xs,ys,rfl,rfl,sq.sq,sq'.sq,by rw[l.length,l'.length];exact big h2.1,λz hz=>.inr (fH m2 (l.append l') h2.2 k hz)⟩)))
  | _=>exact Ww h2
 | _=>cases p2<;>exact Ww h2
abbrev OTr:=ST->Mu->(Option Int->Mu->Prop)->Prop
def ONo:OTr:=λ_ μ Q=>Q none μ
def mS (T:ETr):OTr:=λρ μ Q=>T ρ μ λx μ1=>kI x λi=>Q (some i) μ1
def V7 (K:Wj)(t:TO)(T:OTr):Prop:=∀ σ H ρ μ (Q:Option Int->Mu->Prop) (Q':Option Int->Hp->Prop),Rl K σ H ρ μ->T ρ μ Q->(∀ i H' μ',Tk H H'->bM K H' μ'->Q i μ'->Q' i H')->t σ H Q'
structure LO (X:Cx) (o:Option WX) (T:OTr):Prop where
 ex:∃ t,PO X o t/\V7 X.K t T
theorem qf:LO X none ONo:=⟨_,KS,λσ H ρ μ Q Q' rl h k=>k none H μ (.refl H) rl.mu h⟩
theorem i6 (h:LE X e T):LO X (some e) (mS T):=by
 obtain ⟨t,p,s⟩:=h.ex
 refine ⟨_,Nl p,λσ H ρ μ Q Q' rl h k=>s σ H ρ μ _ _ rl h λv H1 d μ1 t1 m1 p1 h1=>?_⟩
 cases p1 with
 | int i=>exact ⟨i,rfl,k _ H1 μ1 t1 m1 h1⟩
 | _=>exact Ww h1
def cutD {α:Type}(xs:List α)(lo hi:Option Int):List α:=(xs.drop (HT.sIx xs.length 0 lo)).take (HT.sIx xs.length xs.length hi - HT.sIx xs.length 0 lo)
theorem AU {α:Type}{xs:List α}{lo hi:Option Int}(h:HT.sIx xs.length 0 lo=0/\HT.sIx xs.length xs.length hi=xs.length):cutD xs lo hi=xs:=by
 unfold cutD;rw[h.1,h.2];simp
theorem DpL.take {K:Wj}{H:Hp}:∀ {vs:List V} {ds:List D} (n:Nat),DpL K H vs ds->DpL K H (vs.take n) (ds.take n)
 | _,_,0,_=>.nil
 | _,_,_+1,.nil=>.nil
 | _,_,n+1,.cons h l=>.cons h (DpL.take n l)
theorem DpL.drop {K:Wj}{H:Hp}:∀ {vs:List V} {ds:List D} (n:Nat),DpL K H vs ds->DpL K H (vs.drop n) (ds.drop n)
 | _,_,0,l=>l
 | _,_,_+1,.nil=>.nil
 | _,_,n+1,.cons _ l=>DpL.drop n l
theorem DpL.cut {K:Wj}{H:Hp}{vs:List V}{ds:List D}(lo hi:Option Int)(l:DpL K H vs ds):DpL K H (xq vs lo hi) (cutD ds lo hi):=by
 unfold xq cutD;rw[l.length];exact (l.drop _).take _
theorem wL {prog:W7}{w:Xh}{A:XA}{E:Wo->Wu->Prop}{s:Wu}{t sl:Addr}{items:Array Wo}{vl vu:Wo}{lo hi:Option Int}{Q:Wo->Wu->Prop}(ht:zdr s.heap t items)(hs:s.heap.IsSliceOf sl vl vu .none)(pl:IsPart vl lo)(pu:IsPart vu hi)
  (hw:HT.sIx items.size 0 lo=0/\HT.sIx items.size items.size hi=items.size) (h:Q (.ref t) s):WT (WW prog w) A (zaq (.ref t) (.ref sl)) Q E s:=by
 obtain ⟨os,hos,hcs,hds⟩:=id hs
 have hTs:s.TypeIs (.ref sl) "slice" := ⟨os,hos,hcs⟩
 unfold zaq
 try with_reducible refine Y1 ?_
 first | refine Wl (WD ?_) | skip
 refine Wl (zcW ht.typeIs (by decide) ?_)
 refine Wl (Xy (name:=OF "__getitem__") ht.typeIs Xu (X6 Xu ht.typeIs zck ?_ (zcJ _ _)))
 show WT _ _ (zaA (.ref t) >>= _) _ _ s
 refine Wl (tupleItemsOf_ ht ?_)
 refine Wl <| wpAny_typeOf hTs ?_
 rw[if_pos (by decide)]
 refine Wl (HT.iw hs pl pu ?_)
 rw[hw.1,hw.2]
 refine (show WT _ _ (if (((0:Nat):Int) == 0&&(1:Int) == 1&&(items.size - 0) == items.size)=true then _ else _) _ _ s from ?_)
 rw[if_pos (by simp)]
 unfold zdX
 refine Wl (Wl (wpAny_typeOf ht.typeIs (WD ?_)))
 rw[if_pos (by decide)]
 first
  | exact Wl (YV (Wl (WD (WD ⟨_,rfl,WD h⟩))))
  | exact Wl (YV (WD ⟨_,rfl,WD h⟩))
  | exact Wl (Wl (YV (WD (WD ⟨_,rfl,WD h⟩))))
def VI (K:Wj):V->Option Int->Option Int->Hp->VK->Prop:=λx lo hi H Q=>∃ a xs,x=.ref a/\SqT K H a xs/\(HT.sIx xs.length 0 lo=0/\HT.sIx xs.length xs.length hi=xs.length)/\Q (.ref a) H
theorem IQ:SlR X (VI X.K):=λpins s σ H x v vl vu lo hi sl Q I rx hs pl pu ⟨q,xs,e,hx,hw,h⟩=>by
 subst e
 cases rx
 obtain ⟨its,r,ht,_⟩:=I.tuple hx
 have hlen:its.toArray.size=xs.length:=by rw[WR];exact r.length.symm
 exact ⟨"tuple", _,Xu.lookup,ht.typeIs,wL ht hs pl pu (by rw[hlen];exact hw) ⟨.ref q,H,I,rfl,h⟩⟩
def rSl:D->Option Int->Option Int->Mu->DK->Prop:=λx lo hi μ Q=>match x with
 | .tup xs=>Q (.tup (cutD xs lo hi)) μ
 | .ls xs=>Q (.ls (cutD xs lo hi)) μ
 | .obj a=>kL μ a λxs=>Q (.ls (cutD xs lo hi)) μ
 | _=>False
def TSl (a:ETr)(lo hi:OTr):ETr:=λρ μ Q=>a ρ μ λx μ1=>lo ρ μ1 λl μ2=>hi ρ μ2 λh μ3=>rSl x l h μ3 Q
theorem oB {lo hi:Option WX}{Tl Th:OTr}{p2:Pos}(ha:LE X a Ta)(hl:LO X lo Tl)(hh:LO X hi Th):LE X (.Subscript a (.Slice lo hi none p2) pos) (TSl Ta Tl Th):=by
 obtain ⟨ta,pa,sa⟩:=ha.ex
 obtain ⟨tl,pl,sl⟩:=hl.ex
 obtain ⟨th,ph,sh⟩:=hh.ex
 refine ⟨_,Cv (JY (SlR.or IQ (SlR.or Rn MB)) pa pl ph),λσ H ρ μ Q Q' rl h k=>sa σ H ρ μ _ _ rl h λx H1 dx μ1 t1 m1 p1 h1=>sl σ H1 ρ μ1 _ _ (rl.go t1 m1) h1 λi H2 μ2 t2 m2 h2=>sh σ H2 ρ μ2 _ _ (rl.go (t1.trans t2) m2) h2 λj H3 μ3 t3 m3 h3=>?_⟩
 have p1:=p1.mono (t2.trans t3)
 have k:=k.go (t1.trans (t2.trans t3))
 cases p1 with
 | @tup q xs ds sq l=>
  by_cases hw:HT.sIx xs.length 0 i=0/\HT.sIx xs.length xs.length j=xs.length
  ·refine .inl ⟨q,xs,rfl,sq,hw,.inl (k _ H3 _ μ3 (.refl H3) m3 (.tup sq l) ?_)⟩
   rw[l.length] at hw
   have h3:Q (.tup (cutD ds i j)) μ3:=h3
   rw[AU hw] at h3;exact h3
  ·exact .inr (.inl ⟨q,xs,rfl,sq,hw,λz hz=>.inl (k _ _ _ μ3 (.new hz) (cw m3 hz) (.tup (SqT.of aM) ((l.cut i j).mono (.new hz))) h3)⟩)
 | @ls q xs ds sq l=>exact .inr (.inr ⟨q,xs,rfl,sq.sq,λz hz=>.inr (fH m3 (l.cut i j) h3 k hz)⟩)
 | obj q=>
  obtain ⟨ds,e0,h4⟩:=bU h3
  obtain ⟨xs,ex,l⟩:=m3 q _ e0
  exact .inr (.inr ⟨q,xs,rfl,SqL.of ex,λz hz=>.inr (fH m3 (l.cut i j) h4 k hz)⟩)
 | _=>exact Ww h3
theorem Cw {α:Type}(xs:List α)(k:Nat):cutD xs none (some (k:Int))=xs.take k:=by
 unfold cutD
 rw[HT.yL,HT.Dx,List.drop_zero,Nat.sub_zero]
 rcases zeg k xs.length with h | h
 ·rw[zbE h]
 ·rw[za8 h,List.take_length,YY h]
theorem uu {α:Type}(xs:List α)(k:Nat):cutD xs (some (k:Int)) none=xs.drop k:=by
 unfold cutD
 rw[HT.yL,HT.Dx]
 rcases zeg k xs.length with h | h
 ·rw[zbE h,YY (by rw[Zj];omega)]
 ·rw[za8 h,Ys,List.drop_of_length_le h];simp
end
end
section
open PySem PySem.Spec PyProof.Rows L2
theorem iY:∀ {us:List Wo} {ns:List Int},Zx us ns->Vals (ns.map V.int) us
 | _,_,.nil=>.nil
 | _,_,.cons n t h=>.cons ⟨t,rfl⟩ (iY h)
def Rp (K:Wj):List V->Hp->VK->Prop:=λxs H Q=>∃ (p:Addr) (ns:List Int),xs=[.ref p]/\SqL K H p (ns.map V.int)/\ns.length < 64/\∀ ns':List Int,ns'.Perm ns->ns'.Pairwise (·<=·)->∀ z,H z=none->Q (.ref z) (L2.upd H z (.lst (ns'.map V.int)))
theorem B7 {X:Cx}:cH X (.builtin "sorted") (Rp X.K):=λpins s σ H xs us Q I rx ⟨p,ns,e1,sq,hl,q⟩=>by
 subst e1
 obtain ⟨u,rfl,ru⟩:=vals1 rx
 cases ru
 obtain ⟨its,rv,pl,hz⟩:=I.list sq
 have hi:Zx its ns:=intsAre_of rv
 have hlen:its.length < 64:=by rw[hi.length];exact hl
 refine sorted_ints pl.isList hi hlen λout ns' a1 a2 a3=>?_
 obtain ⟨n,en⟩:=sortedAll_at s.heap its out
 refine ⟨.ref _,_,I.laid (t':=s.toks) (o:=.lst (ns'.map V.int)) (λb o e=>sortedAll_old e) (zab _) ?_,rfl,q ns' a2 a3 _ (I.hok.fresh (zab _))⟩
 have z1:ns'.length=ns.length:=a2.length_eq
 exact ⟨by rw[Wm,z1];exact ZP (WS hl (by decide)),out.toList,n,iY a1,by simpa[zan] using en⟩
theorem DpL.ints_of {K:Wj}{H:Hp}:∀ {xs:List V} {ns:List Int},DpL K H xs (ns.map .int)->xs=ns.map V.int
 | _,[],.nil=>rfl
 | _,n::r,.cons h l=>by cases h;rw[DpL.ints_of l];rfl
end
section
open PySem PySem.Spec PyProof.Rows L2
theorem _root_.L2.Inv.frz {X:Cx}{pins:List (Addr×Obj)}{σ:L2.St}{H:Hp}{s:Wu}{c:Addr}{xs:List V}(I1:Inv X pins σ H s)(ec:H c=some (.lst xs)):∃ o,Inv X pins σ (L2.upd H c (.frz o (.lst xs))) s:=by
 obtain ⟨z,its,n,rv,hg⟩:=I1.hok c _ ec
 have nl:∀ d o,H d=some o->(∀ ys,o≠.lst ys)->d≠c:=λd o e1 e2 w=>by subst w;rw[ec] at e1;cases e1;exact e2 _ rfl
 refine ⟨_,I1.un (h':=s.heap) (t':=s.toks) (H':=L2.upd H c (.frz { cls:=.type "list", data:=.seq its.toArray n } (.lst xs))) ⟨λd o e _ _ _=>e,λd o e _ _ _=>⟨o.slots,e⟩,λd o e w _=>?_,λd o e _=>⟨o,e⟩,λd ys e=>?_,λd o u e=>?_,λd ps e=>⟨#[],?_⟩⟩ (λd u e=>?_)⟩
 ·rw[aN (λz=>by subst z;rw[ec] at w;cases w)];exact w
 ·rw[aN (nl d _ e (λ_=>nofun))];exact e
 ·rw[aN (nl d _ e (λ_=>nofun))];exact e
 ·rw[aN (nl d _ e (λ_=>nofun)),e];simp
 ·by_cases hd:d=c
  ·subst hd
   rw[aM] at e;cases e
   exact ⟨hg,z,its,n,rv,hg⟩
  ·rw[aN hd] at e
   refine (I1.hok d u e).nK (λk w _ q=>q) (λk q=>?_) λk ys q=>?_
   ·rw[aN (nl k _ q (λ_=>nofun))];exact q
   ·rw[aN (nl k _ q (λ_=>nofun))];exact q
theorem DA {X:Cx}{tg iter elt:WX}{ifs:List WX}{scope:Scope}{pos spos py:Pos}{y:Str}{iy:Nat}{wi:TI}{g:TG}{tt:TT}{te:TE}{Nc:List Str}{n:Nat}{caps:List Nat}
  (hxe:X.xe=λ_ _=>False) (hcalm:X.calm=true) (hi:PI X tg iter wi)
  (hbody:∀ (cl:List (Str×Addr)) (C:Addr) (s₀:Wu) (H₀:Hp) (ex:List Addr),PG (bh X scope Nc cl C s₀ H₀ ex) tg g/\zy (bh X scope Nc cl C s₀ H₀ ex) ifs tt/\PE (bh X scope Nc cl C s₀ H₀ ex) elt te)
  (hfree:∀ y∈scope.names,y.2=.free->X.env.kindOf y.1=some .cell) (hcell:∀ y∈scope.names,y.2≠.cell) (gB:scope.kind=.function)
  (hnames:∀ y∈scope.names,y.2=.local->scope.names.lookup y.1=some .local) (hlen:Nc.length=n+caps.length)
  (hcap:∀ (j k:Nat),caps[j]? = some k->∃ x,Nc[n+j]? = some x/\X.N[k]? = some x/\scope.names.lookup x=some .free)
  (pgy:PG X (.Name y py) (mN iy))
  (hsw:YA (.ListComp elt [⟨tg,iter,ifs,0⟩] scope pos) (some (.Name y py)) spos.line X.env=pure true)
  (hs:∀ x,Xn iter X.env x=pure x:=by intro _;rfl) :
  PS X (.Assign [.Name y py] (.ListComp elt [⟨tg,iter,ifs,0⟩] scope pos) spos) (IG (DV (kY wi g tt te n caps)) (mN iy)):=
 xf (Z:=DV) hxe hcalm hi hbody hfree hcell gB hnames hlen hcap pgy hsw (λσ H Q h=>⟨_,h,λpins D H5 s5 I5 ⟨a,xs,ea,eH,q⟩=>by
  cases ea
  obtain ⟨o,I6⟩:=I5.frz eH
  exact ⟨_,λb hb=>by rw[aN (λz=>by rw[z,eH] at hb;cases hb)];exact hb,I6,q o⟩⟩) hs
theorem Hh {K:Wj}{wi:TI}{It':ATr}{G:GTr}{Tt:TTr}{Te:ETr}{n:Nat}{caps:List Nat}(si:Pb K wi It'):Sim K (DV (kY wi (mC K n G) (liftT K Tt) (mB K Te) n caps)) (bO It' G Tt Te n caps):=by
 intro σ H ρ μ Q Q' rl h k
 refine si σ H ρ μ _ _ rl h λJ H1 ds μ1 t1 m1 Y h1 D hD=>?_
 have hp:=h1 D (m1.free hD)
 have tD:Tk H1 (L2.upd H1 D (.lst [])):=.new hD
 have mD:bM K (L2.upd H1 D (.lst [])) (up μ1 D (.lst [])):=λa o e=>by
  by_cases ha:a=D
  ·subst ha
   rw[aE] at e;cases e
   exact ⟨[],aM,.nil⟩
  ·rw[aS ha] at e
   exact cw m1 hD a o e
 refine ⟨λi m ys H2=>m=ds.length - i/\i<=ds.length/\Tk H1 H2/\∃ μ2,bM K H2 μ2/\fG D G Tt Te (fe ρ n caps) (λμ'=>kL μ' D λzs=>Q (.ls zs) (dn μ' D)) (ds.drop i) μ2,
  ⟨ds.length,by simp,XX _,tD,_,mD,by simpa using hp⟩,?_⟩
 rintro i m ys H2 ⟨rfl,hi,t12,μ2,m2,h2⟩
 by_cases hlt:i < ds.length
 ·refine .inr ⟨Y.go i H2 t12 hlt,λys' H'=>Tk H1 H'/\∃ μ',bM K H' μ'/\fG D G Tt Te (fe ρ n caps) (λμ'=>kL μ' D λzs=>Q (.ls zs) (dn μ' D)) (ds.drop (i+1)) μ',λys' H' ⟨t',μ',m',h'⟩=>⟨ds.length - (i+1),by omega,rfl,hlt,t',μ',m',h'⟩,λx H3 y=>?_⟩
  obtain ⟨t23,⟨d,ed,pd⟩,mk⟩:=Y.yld i H2 x H3 t12 hlt y
  have e:ds.drop i=d::ds.drop (i+1):=by
   refine (Ye hlt).trans ?_
   congr 1
   rw[WK hlt] at ed
   exact Xg ed
  rw[e] at h2
  have t13:=t12.trans t23
  have r3:Rl K (kK σ n caps) H3 (fe ρ n caps) μ2:=pG (rl.go (t1.trans t13) (mk _ m2)) n caps
  refine ⟨_,_,d,_,r3,pd,h2,λσ4 H4 ρ4 μ4 t4 r4 kp h4=>⟨⟨kp.1.symm,λj v ej=>?_⟩,_,_,_,r4,h4,λb H5 μ5 t5 m5 h5=>?_⟩⟩
  ·by_cases hj:n<=j
   ·rw[kp.2 j hj];exact ej
   ·obtain ⟨j',k',e1,_⟩:=jO ej
    omega
  ·have t15:=t13.trans (t4.trans t5)
   cases b with
   | false=>exact qd ⟨t15,μ5,m5,h5⟩
   | true=>
    refine qB ⟨_,_,_,r4.go t5 m5,h5,λv H6 d6 μ6 t6 m6 p6 h6=>?_⟩
    obtain ⟨zs,ez,lz,h7⟩:=bU h6
    obtain ⟨xs,ex,lx⟩:=m6 D _ ez
    have t67:Tk H6 (L2.upd H6 D (.lst (xs++[v]))):=.upd (λys z=>by rw[ex] at z;cases z) λo' u z=>by rw[ex] at z;cases z
    refine ⟨xs,ex,by rw[lx.length];exact WS lz (by decide),(t15.trans t6).trans t67,up μ6 D (.lst (zs++[d6])),λa o ea=>?_,h7⟩
    by_cases ha:a=D
    ·subst ha
     rw[aE] at ea;cases ea
     exact ⟨_,aM,(lx.append (.cons p6 .nil)).mono t67⟩
    ·rw[aS ha] at ea
     exact (m6 a _ ea).ne t67 ha
 ·have e:i=ds.length:=by omega
  subst e
  rw[Ys] at h2
  obtain ⟨zs,ez,hq⟩:=bU (show kL μ2 D λzs=>Q (.ls zs) (dn μ2 D) from h2)
  obtain ⟨xs,ex,lx⟩:=m2 D _ ez
  refine .inl ⟨Y.stop _ H2 t12 (WG _),D,xs,rfl,ex,λo=>?_⟩
  have t2f:Tk H2 (L2.upd H2 D (.frz o (.lst xs))):=.upd (λys z=>by rw[ex] at z;cases z) λo' u z=>by rw[ex] at z;cases z
  refine k _ _ _ (dn μ2 D) ((t1.trans t12).trans t2f) (λa o' ea=>?_) (.ls (.inl ⟨o,aM⟩) (lx.mono t2f)) hq
  have ha:a≠D:=λz=>by subst z;unfold dn at ea;rw[if_pos rfl] at ea;cases ea
  have ea':μ2 a=some o':=by unfold dn at ea;rw[if_neg ha] at ea;exact ea
  exact (m2 a _ ea').ne t2f ha
theorem gw {X:Cx}{tg elt iter:WX}{Te:ETr}{Tt:TTr}{pos spos py:Pos}{y:Str}{It':ATr}{G:GTr}{ifs:List WX}{scope fsc:Scope}(iy:Nat)(hN:X.N.Nodup)(XN Nc:List Str)(n:Nat)(caps:List Nat)(hxe:X.xe=λ_ _=>False)(hcalm:X.calm=true)(hi:LI X tg iter It')
  (hbody:∀ (cl:List (Str×Addr)) (C:Addr) (s₀:Wu) (H₀:Hp) (ex:List Addr),LGc (bh X scope Nc cl C s₀ H₀ ex) n tg G/\xA (bh X scope Nc cl C s₀ H₀ ex) ifs Tt/\LE (bh X scope Nc cl C s₀ H₀ ex) elt Te)
  (hsc:X.env.scope=fsc) (hXN:X.N=XN) (hok:ip fsc.names XN scope Nc n caps=true)
  (hiy:X.N[iy]? = some y:=by rfl) (hx:Loc X.env.scope y:=by first | exact ZV rfl | exact ZW rfl) (hf:X.fn y=true∨X.env.scope.names.lookup y=some .local:=by first | exact .inl rfl | exact .inr rfl | assumption)
  (hsw:YA (.ListComp elt [⟨tg,iter,ifs,0⟩] scope pos) (some (.Name y py)) spos.line X.env=pure true:=by rfl)
  (hs:∀ x,Xn iter X.env x=pure x:=by intro _;rfl) :
  LS X (.Assign [.Name y py] (.ListComp elt [⟨tg,iter,ifs,0⟩] scope pos) spos) (aP (bO It' G Tt Te n caps) (ax iy)):=by
 unfold ip at hok
 simp only[Xm,Zl] at hok
 obtain ⟨⟨⟨h1,h2⟩,h3⟩,h4⟩:=hok
 obtain ⟨wi,pi,si⟩:=hi.ex
 refine ⟨_,DA (g:=mC X.K n G) (tt:=liftT X.K Tt) (te:=mB X.K Te) hxe hcalm pi (λcl C s₀ H₀ ex=>let ⟨h1,h2,h3⟩:=hbody cl C s₀ H₀ ex;⟨h1.pe,h2.pe,h3.pe⟩) (λy hy hf=>?_) (λy hy hf=>?_) (by simpa using h2) (λy hy hf=>?_) (by simpa using h3) (λj k hj=>?_) (iL hN hiy hx hf) hsw hs,λσ H ρ μ E E' rl h k=>Hh si σ H ρ μ _ _ rl h λv H' d μ' t' m' p' h'=>iH iy σ H' ρ μ' v d _ _ (rl.go t' m') p' h' (k.go t').nx⟩
 ·have:=(h1 y hy).1.1
  show X.env.scope.names.lookup y.1=_
  rw[hsc]
  simpa[hf] using this
 ·have:=(h1 y hy).1.2
  simp[hf] at this
 ·have:=(h1 y hy).2
  simpa[hf] using this
 ·have hl:j < caps.length:=(W4.mp hj).1
  have:=h4 j (YM.mpr hl)
  rw[hj] at this
  dsimp only at this
  rw[hXN]
  cases e:XN[k]? with
  | none=>rw[e] at this;cases this
  | some x=>
   rw[e] at this
   dsimp only at this
   rw[Xm] at this
   exact ⟨x,by simpa using this.1,rfl,by simpa using this.2⟩
end
section
open PySem PySem.Spec PyProof.Rows L2
section
variable {X:Cx} {ea:WX} {es:List WX} {ek:Nat} {ep p pos:Pos}
def kW (ds:List D):List D:=(W5 ds.length).zipWith (λi d=>.tup [.int (i:Nat),d]) ds
def SX (t:ATr):ATr:=λρ μ Q=>t ρ μ λvs μ1=>match vs with
 | [.ls ds]=>Q (kW ds) μ1
 | _=>False
theorem ue (ds:List D)(i:Nat):(kW ds)[i]? = (ds[i]?).map λd=>.tup [.int (i:Nat),d]:=by
 unfold kW
 rw[zbP]
 by_cases h:i < ds.length
 ·rw[zcm h,WK h];rfl
 ·rw[Zo.mpr (by simpa using h),Zo.mpr (by simpa using h)];rfl
theorem uF (ds:List D):(kW ds).length=ds.length:=by unfold kW;simp
variable {eb:WX} {tg:WX} {Ta Tb:ETr}
end
end
section
open PySem PySem.Spec PyProof PyProof.Rows L2
theorem gX:∀ {us:List Wo} {ns:List Int},Zx us ns->∃ ps:List (Int×Tok),us=ps.map (λp=>zat p.1 p.2)/\ps.map zdY=ns
 | _,_,.nil=>⟨[],⟨rfl,rfl⟩⟩
 | _,_,.cons n t h=>by
  obtain ⟨ps,e1,e2⟩:=gX h
  exact ⟨(n,t)::ps,by rw[e1];rfl,by rw[← e2];rfl⟩
theorem qy (ps:List (Int×Tok))(i:Nat):zdw ps.toArray i=((ps.map zdY)[i]?).getD 0:=by
 unfold zdw
 simp only[List.getElem?_toArray,Xo]
section
variable {X:Cx} {a b:WX} {Ta Tb:ETr} {pos:Pos}
end
end
theorem vU (i j:Int)(μ Q):aR (.int i) (.int j) μ Q=Q (.int (i+j)) μ:=rfl
theorem wq (i j:Str)(μ Q):aR (.str i) (.str j) μ Q=(i.length+j.length<=1000000/\Q (.str (i++j)) μ):=rfl
theorem wb (a b:List D)(μ Q):aR (.tup a) (.tup b) μ Q=(a.length+b.length<=1000000/\Q (.tup (a++b)) μ):=rfl
theorem vd (a b:List D)(μ Q):aR (.ls a) (.ls b) μ Q=(a.length+b.length<=1000000/\Q (.ls (a++b)) μ):=rfl
theorem rD (a:List D)(μ Q):bG [.tup a] μ Q=Q (.tup a) μ:=rfl
theorem r6 (a:List D)(μ Q):bG [.ls a] μ Q=Q (.tup a) μ:=rfl
theorem ro (a:Addr)(μ Q):bG [.obj a] μ Q=kL μ a λxs=>Q (.tup xs) μ:=rfl
theorem qr (a:List D)(μ Q):jZ [.tup a] μ Q=Q (.ls a) μ:=rfl
theorem sJ (a:List D)(μ Q):jZ [.ls a] μ Q=Q (.ls a) μ:=rfl
theorem qw (a:Addr)(μ Q):jZ [.obj a] μ Q=kL μ a λxs=>Q (.ls xs) μ:=rfl
theorem qY (a:List D)(μ Q):jA [.tup a] μ Q = ∀ p,μ p=none->Q (.obj p) (up μ p (.lst a)):=rfl
theorem qK (a:List D)(μ Q):jA [.ls a] μ Q = ∀ p,μ p=none->Q (.obj p) (up μ p (.lst a)):=rfl
theorem rJ (a:Addr)(μ Q):jA [.obj a] μ Q=kL μ a λxs=>∀ p,μ p=none->Q (.obj p) (up μ p (.lst xs)):=rfl
theorem Ha (a:List D)(lo hi)(μ Q):rSl (.tup a) lo hi μ Q=Q (.tup (cutD a lo hi)) μ:=rfl
theorem Fu (a:List D)(lo hi)(μ Q):rSl (.ls a) lo hi μ Q=Q (.ls (cutD a lo hi)) μ:=rfl
theorem Ii (a:Addr)(lo hi)(μ Q):rSl (.obj a) lo hi μ Q=kL μ a λxs=>Q (.ls (cutD xs lo hi)) μ:=rfl
theorem GA (n:Bool)(x:D)(a:List D)(μ Q):L3.rIn n x (.tup a) μ Q=((ji x=true/\a.all ji=true)/\Q (.bl (if n then !inD x a else inD x a)) μ):=rfl
theorem FZ (n:Bool)(x:D)(a:List D)(μ Q):L3.rIn n x (.ls a) μ Q=((ji x=true/\a.all ji=true)/\Q (.bl (if n then !inD x a else inD x a)) μ):=rfl
theorem Ik (n:Bool)(x:D)(a:Addr)(μ Q):L3.rIn n x (.obj a) μ Q=kL μ a λxs=>(ji x=true/\xs.all ji=true)/\Q (.bl (if n then !inD x xs else inD x xs)) μ:=rfl
theorem AR (a:Addr)(μ Q):dg [.obj a] μ Q=kL μ a λxs=>Q (.int xs.length) μ:=rfl
theorem BS (x:Str)(μ Q):dg [.str x] μ Q=(x.length<=1000000/\Q (.int x.length) μ):=rfl
theorem JF (μ Q):rIs .non .non μ Q=Q (.bl true) μ:=rfl
theorem Jc (i:Int)(μ Q):rIs (.int i) .non μ Q=Q (.bl false) μ:=rfl
theorem Hb (i:List D)(μ Q):rIs (.tup i) .non μ Q=Q (.bl false) μ:=rfl
theorem rE (μ Q):iK .non .non μ Q=Q (.bl false) μ:=rfl
theorem rK (i:Int)(μ Q):iK (.int i) .non μ Q=Q (.bl true) μ:=rfl
theorem rV (i:List D)(μ Q):iK (.tup i) .non μ Q=Q (.bl true) μ:=rfl
theorem B3 (c:String)(i:List D)(μ Q):Eb c (.ls i) μ Q=Q (.bl (l7 "list" c)) μ:=rfl
theorem BU (c:String)(i:Str)(μ Q):Eb c (.str i) μ Q=Q (.bl (l7 "str" c)) μ:=rfl
theorem AI (c:String)(μ Q):Eb c .non μ Q=Q (.bl (l7 "NoneType" c)) μ:=rfl
theorem bZ (k:Nat)(ds:List D):atD ds (k:Int)=ds[k]?:=by
 unfold atD L2.atI L2.ixN
 rw[if_pos (ZE k)]
 by_cases h:k < ds.length
 ·rw[if_pos (by omega)];simp
 ·rw[if_neg (by omega)];simp;omega
theorem zd (ds:List D):atD ds 0=ds[0]?:=bZ 0 ds
theorem xl (ds:List D):atD ds 1=ds[1]?:=bZ 1 ds
theorem C6 (ds:List D):atD ds 2=ds[2]?:=bZ 2 ds
theorem CI (ds:List D):atD ds 3=ds[3]?:=bZ 3 ds
theorem CC (ds:List D):atD ds 4=ds[4]?:=bZ 4 ds
theorem Cs (ds:List D):atD ds 5=ds[5]?:=bZ 5 ds
theorem Kt (n k:Nat):L2.ixN n (k:Int)=if k < n then some k else none:=by
 unfold L2.ixN
 rw[if_pos (ZE k)]
 by_cases h:k < n
 ·rw[if_pos (by omega),if_pos h];simp
 ·rw[if_neg (by omega),if_neg h]
theorem fV:l7 "int" "int" = true:=by decide
theorem fL:l7 "int" "bool" = false:=by decide
theorem fX:l7 "bool" "bool" = true:=by decide
theorem fS:l7 "bool" "int" = true:=by decide
theorem fO:l7 "tuple" "tuple" = true:=by decide
theorem fQ:l7 "int" "tuple" = false:=by decide
theorem fK:l7 "bool" "tuple" = false:=by decide
theorem fm0 {a n:Int}(h:0 < n):0<=a.fmod n:=Int.fmod_nonneg_of_pos a h
theorem fm1 {a n:Int}(h:0 < n):a.fmod n < n:=Int.fmod_lt_of_pos a h
theorem F7 (A B:Prop):kIf true A B=A:=rfl
theorem Jt (A B:Prop):kIf false A B=B:=rfl
theorem HQ (p:Prop) [Decidable p] (A B:Prop):kIf (decide p) A B=if p then A else B:=by by_cases h:p<;>simp[h,kIf]
theorem J9 (c:Bool)(A B:Prop):kIf (!c) A B=kIf c B A:=by cases c<;>rfl
theorem Iz (c:Bool)(f):kB (.bl c) f=f c:=rfl
theorem Bk (c:Int)(f):kI (.int c) f=f c:=rfl
theorem pO (c:D)(f):kO (some c) f=f c:=rfl
theorem BZ (c:List D)(f):kS (.tup c) f=f c:=rfl
theorem FL (c:List D)(f):kS (.ls c) f=f c:=rfl
theorem Bf (a b:D)(f):k2 [a,b] f=f a b:=rfl
theorem vB (c:Nat)(f):kN (some c) f=f c:=rfl
theorem Cm (μ:Mu)(a:Addr)(ds:List D)(f):kL (up μ a (.lst ds)) a f=f ds:=by unfold kL;rw[aE]
theorem S5 {μ:Mu}{a:Addr}{ds:List D}(h:μ a=some (.lst ds))(f):kL μ a f=f ds:=by unfold kL;rw[h]
theorem qF (a:Addr)(n:Int)(y:D)(μ:Mu)(f):TJ (.obj a) (.int n) y μ f=kL μ a λds=>kN (L2.ixN ds.length n) λj=>f (up μ a (.lst (ds.set j y))):=rfl
theorem Ay (i j:Int)(μ Q):jr (.int i) (.int j) μ Q=Q (.int (i - j)) μ:=rfl
theorem BQ (i j:Int)(μ Q):eC (.int i) (.int j) μ Q=(MulOk i j/\Q (.int (i*j)) μ):=rfl
theorem zW (i j:Int)(μ Q):lB (.int i) (.int j) μ Q=(jm j/\Q (.int (i.fdiv j)) μ):=rfl
theorem zV (i j:Int)(μ Q):kG (.int i) (.int j) μ Q=(j≠0/\Q (.int (i.fmod j)) μ):=rfl
theorem zJ (i j:Int)(μ Q):Js (.int i) (.int j) μ Q=(pW i j/\Q (.int (i ^ j.toNat)) μ):=rfl
theorem zT (i:Int)(μ Q):Bh (.int i) μ Q=Q (.int (-i)) μ:=rfl
theorem Kj (i j:Int)(μ Q):rLt (.int i) (.int j) μ Q=Q (.bl (decide (i < j))) μ:=rfl
theorem Gx (i j:Int)(μ Q):rLe (.int i) (.int j) μ Q=Q (.bl (decide (i<=j))) μ:=rfl
theorem Hk (i j:Int)(μ Q):rGt (.int i) (.int j) μ Q=Q (.bl (decide (j < i))) μ:=rfl
theorem HS (i j:Int)(μ Q):rGe (.int i) (.int j) μ Q=Q (.bl (decide (j<=i))) μ:=rfl
theorem Gf (x y:D)(μ Q):L3.rEq x y μ Q=((okD 40 x=true/\okD 40 y=true)/\Q (.bl (eqD x y)) μ):=rfl
theorem FX (x y:D)(μ Q):L3.rNe x y μ Q=((okD 40 x=true/\okD 40 y=true)/\Q (.bl (!eqD x y)) μ):=rfl
theorem rZ (ds:List D)(i:Int)(μ Q):L3.rIx (.tup ds) (.int i) μ Q=kO (atD ds i) λd=>Q d μ:=rfl
theorem IV (ds:List D)(i:Int)(μ Q):L3.rIx (.ls ds) (.int i) μ Q=kO (atD ds i) λd=>Q d μ:=rfl
theorem IW (a:Addr)(i:Int)(μ Q):L3.rIx (.obj a) (.int i) μ Q=kL μ a λds=>kO (atD ds i) λd=>Q d μ:=rfl
theorem As (c:String)(i:Int)(μ Q):Eb c (.int i) μ Q=Q (.bl (l7 "int" c)) μ:=rfl
theorem BC (c:String)(i:Bool)(μ Q):Eb c (.bl i) μ Q=Q (.bl (l7 "bool" c)) μ:=rfl
theorem Aj (c:String)(i:List D)(μ Q):Eb c (.tup i) μ Q=Q (.bl (l7 "tuple" c)) μ:=rfl
theorem BR (i:Int)(μ Q):wR [.int i] μ Q=Q (.int (if i < 0 then -i else i)) μ:=rfl
theorem Ag (i j:Int)(μ Q):qj [.int i,.int j] μ Q=Q (.int (if j > i then j else i)) μ:=rfl
theorem BP (i j:Int)(μ Q):tQ [.int i,.int j] μ Q=Q (.int (if j < i then j else i)) μ:=rfl
theorem AH (i:Int)(μ Q):AQ [.int i] μ Q=Q (.int i) μ:=rfl
theorem AZ (i:Bool)(μ Q):AQ [.bl i] μ Q=Q (.int (if i then 1 else 0)) μ:=rfl
theorem BB (i:List D)(μ Q):dg [.tup i] μ Q=Q (.int i.length) μ:=rfl
theorem B6 (i:List D)(μ Q):dg [.ls i] μ Q=Q (.int i.length) μ:=rfl
local macro_rules | `(tactic| walk_at "rd")=>zzS "L3.ai L3.TC L3.ak L3.TUn L3.FG L3.Ce L3.JR L3.TB L3.mL L3.TOr L3.rL L3.kM L3.ij L3.av L3.ah L3.bB L3.fv L3.nD L3.au L3.bo L3.aA L3.BY L3.Jw L3.fE L3.a6 L3.G8 L3.bW L3.ax L3.aP L3.qU L3.BJ L3.iJ L3.gL L3.dq L3.F7 L3.Jt L3.HQ L3.J9 L3.Iz L3.Bk L3.pO L3.BZ L3.FL L3.Bf L3.vB L3.Cm L3.qF L3.vU L3.wq L3.wb L3.vd L3.o7 L3.je L3.yS L3.rD L3.r6 L3.ro L3.qr L3.sJ L3.qw L3.qY L3.qK L3.rJ L3.TSl L3.ONo L3.mS L3.Ha L3.Fu L3.Ii L3.GA L3.FZ L3.Ik L3.AR L3.BS L3.JF L3.Jc L3.Hb L3.rE L3.rK L3.rV L3.B3 L3.BU L3.AI L3.Ay L3.BQ L3.zW L3.zV L3.zJ L3.zT L3.Kj L3.Gx L3.Hk L3.HS L3.Gf L3.FX L3.rZ L3.IV L3.IW L3.As L3.BC L3.Aj L3.BR L3.Ag L3.BP L3.AH L3.AZ L3.BB L3.B6 L3.lk L3.ini zc2 Xr X9 zdx zeq za9 Yc zc3 zcv zcw L3.zd L3.xl L3.C6 L3.CI L3.CC L3.Cs ZK ZL L3.aE zc4 zba if_true if_false true_and and_true zcx zb1 zb2 zbb zac zbF decide_eq_true_eq ZD ite_false ite_true ne_eq not_false_eq_true zbG zcy zcz zcA zcB zcC zc5 L3.okD L3.cz L3.eqD L3.sM zcD zcE zcF L3.fV L3.fL L3.fX L3.fS L3.fO L3.fQ L3.fK"
local macro_rules | `(tactic| walk_at "ok")=>`(tactic| (simp only[L3.jm,L3.MulOk,L3.S64,L3.fB,L3.pW] at *;omega))
def Box (μ:Mu)(b:Addr):Prop:=∃ g s c:Int,μ b=some (.lst [.int g,.int s,.int c])/\0<=s/\s < 2147483647
structure rQ (b:Addr) (μ μ':Mu):Prop where
 box:Box μ' b
 oth:∀ a,a≠b->μ' a=μ a
theorem rQ.trans {b:Addr}{μ μ1 μ2:Mu}(x:rQ b μ μ1)(y:rQ b μ1 μ2):rQ b μ μ2:=⟨y.box,λa h=>(y.oth a h).trans (x.oth a h)⟩
theorem xO (x y:Int):W6 y (x.fmod y)=W6 x y:=by
 rw[Int.fmod_def,Int.gcd_sub_mul_left_right,zbw]
theorem HY (a:Int):(if a < 0 then -a else a)=(a.natAbs:Int):=by
 split<;>omega
def mz (i:Nat):ST->Mu->Nat:=λρ _=>match lk ρ i with
 | some (.int z)=>z.toNat
 | _=>0
structure Fr (p q:Int):Prop where
 q0:0 < q
 q1:q < 100000000000
 p0:-100000000000 < p
 p1:p < 100000000000
 g:W6 p q=1
theorem jK {a b:Int}(h:0 < b):a.fdiv b=a / b:=Yv a (zbx h)
theorem HB {ns:List Int}{k:Int}(h0:0<=k)(h1:k < (ns.length:Int)):∃ z,atD (ns.map D.int) k=some (.int z):=by
 rcases ZM h0 with ⟨j,rfl⟩
 rw[bZ]
 have hj:j < ns.length:=by omega
 exact ⟨ns[j],by simp[hj]⟩
theorem By {lo:Int}{n:Nat}{d:D}(h:d∈cE lo n):∃ k:Int,d=.int k/\lo<=k/\k < lo+n:=by
 unfold cE at h
 rcases Wq.mp h with ⟨i,hi,rfl⟩
 have:=YM.mp hi
 exact ⟨_,rfl,by omega,by omega⟩
def hX:FSp:=λds μ Q=>kcL ds λxs ds=>kcN ds ((∃ ns:List Int,xs=ns.map .int/\ns.length<=63)/\∀ μ',Q (.bl true) μ')
theorem we:∀ ds μ Q,hX ds μ Q->ds.length=1:=λ_ _ _ h=>lcL h λ_ _ h=>by rw[(ecN h).1];rfl
theorem nG (ns:List Int)(h:ns.length<=63)(μ:Mu):hX [.ls (ns.map .int)] μ (λd _=>d=.bl true):=⟨⟨ns,rfl,h⟩,λ_=>rfl⟩
local macro_rules | `(tactic| walk_at "rd")=>zzS "L3.ai L3.TC L3.ak L3.TUn L3.FG L3.Ce L3.JR L3.TB L3.mL L3.TOr L3.rL L3.kM L3.ij L3.av L3.ah L3.bB L3.fv L3.nD L3.au L3.bo L3.aA L3.BY L3.Jw L3.fE L3.a6 L3.G8 L3.bW L3.ax L3.aP L3.qU L3.BJ L3.iJ L3.gL L3.dq L3.bO L3.fG L3.fe L3.eG L3.Tq L3.ILs L3.F7 L3.Jt L3.HQ L3.J9 L3.Iz L3.Bk L3.pO L3.BZ L3.FL L3.Bf L3.vB L3.Cm L3.qF L3.vU L3.wq L3.wb L3.vd L3.o7 L3.je L3.yS L3.rD L3.r6 L3.ro L3.qr L3.sJ L3.qw L3.qY L3.qK L3.rJ L3.TSl L3.ONo L3.mS L3.Ha L3.Fu L3.Ii L3.GA L3.FZ L3.Ik L3.AR L3.BS L3.JF L3.Jc L3.Hb L3.rE L3.rK L3.rV L3.B3 L3.BU L3.AI L3.Ay L3.BQ L3.zW L3.zV L3.zJ L3.zT L3.Kj L3.Gx L3.Hk L3.HS L3.Gf L3.FX L3.rZ L3.IV L3.IW L3.As L3.BC L3.Aj L3.BR L3.Ag L3.BP L3.AH L3.AZ L3.BB L3.B6 L3.lk L3.ini zc2 Xr X9 zdx zeq za9 Yc zc3 zcv zcw L3.zd L3.xl L3.C6 L3.CI L3.CC L3.Cs ZK ZL L3.aE L3.iC zc4 zba if_true if_false true_and and_true zcx zb1 zb2 zbb zac zbF decide_eq_true_eq ZD ite_false ite_true ne_eq not_false_eq_true zbG zcy zcz zcA zcB zcC zc5 L3.okD L3.cz L3.eqD L3.sM zcD zcE zcF L3.fV L3.fL L3.fX L3.fS L3.fO L3.fQ L3.fK"
structure IsPart (a b p q:Int):Prop where
 q0:0 < q
 g:W6 p q=1
 e:p*b=a*q
 pa:p.natAbs<=a.natAbs
 qb:q.natAbs<=b.natAbs
theorem p7 {g c:Int}(hg:0 < g):c.natAbs<=(g*c).natAbs:=by
 rw[zdZ]
 exact Nat.le_mul_of_pos_left _ (by omega)
theorem C5 {a b:Int}(hb:b≠0):IsPart a b (a.fdiv (if b < 0 then -(W6 a b:Int) else W6 a b)) (b.fdiv (if b < 0 then -(W6 a b:Int) else W6 a b)):=by
 have gp:0 < W6 a b:=X0 a hb
 have gz:0 < (W6 a b:Int):=by omega
 obtain ⟨c,hc⟩:=zbc a b
 obtain ⟨d,hd⟩:=zaL a b
 have g1:=zaG gp
 have e1:a / (W6 a b:Int)=c:=Yq (by omega) hc
 have e2:b / (W6 a b:Int)=d:=Yq (by omega) hd
 rw[e1,e2] at g1
 generalize (W6 a b:Int)=g at *
 clear e1 e2 gp
 subst hc hd
 have p1:=p7 (c:=c) gz
 have p2:=p7 (c:=d) gz
 split
 ·rename_i hneg
  have d0:d < 0:=by
   rcases ZY d 0 with h | h | h
   ·exact h
   ·subst h;omega
   ·have:=X7 gz h;omega
  have x1:(g*c).fdiv (-g) = -c:=by rw[show g*c = -g * -c by rw[zdE]];exact YJ _ (by omega)
  have x2:(g*d).fdiv (-g) = -d:=by rw[show g*d = -g * -d by rw[zdE]];exact YJ _ (by omega)
  rw[x1,x2]
  refine ⟨by omega,by rw[Int.neg_gcd,Int.gcd_neg];exact g1,?_,by omega,by omega⟩
  rw[Int.neg_mul,Int.mul_neg,zc6,zcG]
 ·rename_i hneg
  have d0:0 < d:=by
   rcases ZY d 0 with h | h | h
   ·have:=Zq gz h;omega
   ·subst h;omega
   ·exact h
  have x1:(g*c).fdiv g=c:=YJ _ (by omega)
  have x2:(g*d).fdiv g=d:=YJ _ (by omega)
  rw[x1,x2]
  refine ⟨d0,g1,?_,by omega,by omega⟩
  rw[zc6,zcG]
theorem LP {p q p' q':Int}(q0:0 < q)(q0':0 < q')(g:W6 p q=1)(g':W6 p' q'=1)(e:p*q'=p'*q):p=p'/\q=q':=by
 have h1:q ∣ q':=by
  have:q ∣ p*q':=⟨p',by rw[e,X1]⟩
  have h:=Yr.mpr this
  rw[zbw,g] at h
  simpa using h
 have h2:q' ∣ q:=by
  have:q' ∣ p'*q:=⟨p,by rw[← e,X1]⟩
  have h:=Yr.mpr this
  rw[zbw,g'] at h
  simpa using h
 have e3:q=q':=Int.dvd_antisymm (by omega) (by omega) h1 h2
 subst e3
 exact ⟨Zc (by omega) e,rfl⟩
theorem IsPart.same {a b p q a' b' p' q':Int}(h:IsPart a b p q)(h':IsPart a' b' p' q')(hb:b≠0)(hb':b'≠0)(e:a*b'=a'*b):p=p'/\q=q':=by
 refine LP h.q0 h'.q0 h.g h'.g ?_
 have e1:=h.e
 have e2:=h'.e
 have x:(p*q')*(b*b')=(p'*q)*(b*b'):=by
  calc (p*q')*(b*b')=(p*b)*(q'*b'):=by ac_rfl
   _=(a*q)*(q'*b'):=by rw[e1]
   _=(a*b')*(q*q'):=by ac_rfl
   _=(a'*b)*(q*q'):=by rw[e]
   _=(a'*q')*(q*b):=by ac_rfl
   _=(p'*b')*(q*b):=by rw[e2]
   _=(p'*q)*(b*b'):=by ac_rfl
 exact Zc (Int.mul_ne_zero hb hb') x
def fT:FSp:=λds μ Q=>kcI ds λa ds=>kcI ds λb ds=>kcN ds (Q (.int (W6 a b)) μ)
theorem tw:∀ ds μ Q,fT ds μ Q->ds.length=2:=λ_ _ _ h=>lcI h λ_ _ h=>lcI h λ_ _ h=>by rw[(ecN h).1];rfl
def oh:STr:=aA (aP (au wR (ah (ai 0) (av))) (ax 2)) (aA (aP (au wR (ah (ai 1) (av))) (ax 3)) (aA (vk (TB (ak rGt (ai 3) (TC (.int 0)))) (aA (aP (ak kG (ai 2) (ai 3)) (ax 4)) (aA (aP (ai 3) (ax 2)) (aP (ai 4) (ax 3))))) (a6 (ai 2))))
theorem uU:∀ ds μ Q,fT ds μ Q->oh { nx:=λ_ μ'=>RT Q .non μ',rt:=RT Q } (ini 5 ds) μ:=by
 intro ds μ Q k
 replace k:=ecI k
 obtain ⟨a,ds,rfl,k⟩:=k
 replace k:=ecI k
 obtain ⟨b,ds,rfl,k⟩:=k
 replace k:=ecN k
 obtain ⟨rfl,k⟩:=k
 unfold oh
 walk_at "rd"
 refine ⟨λρ μ'=>μ'=μ/\∃ (x y:Int) (z:Option D),ρ=[some (.int a),some (.int b),some (.int x),some (.int y),z]/\0<=x/\0<=y/\W6 x y=W6 a b,mz 3,⟨rfl,_,_,_,rfl,?_,?_,?_⟩,?_⟩
 ·split<;>omega
 ·split<;>omega
 ·rw[HY,HY];unfold W6;rw[zcM,zcM]
 ·rintro ρ _ ⟨rfl,x,y,z,rfl,x0,y0,e⟩
  walk_at "rd"
  split
  ·rename_i hy
   refine ⟨by omega,⟨_,_,_,rfl,y0,fm0 hy,?_⟩,?_⟩
   ·rw[xO];exact e
   ·have:=fm1 (a:=x) hy
    have:=fm0 (a:=x) hy
    simp only[mz,lk]
    omega
  ·rename_i hy
   have hy0:y=0:=by omega
   subst hy0
   rw[zcN] at e
   have hx:x=(W6 a b:Int):=by omega
   subst hx
   exact ⟨_,.refl _,k⟩
def gW:FSp:=λds μ Q=>kcI ds λa ds=>kcI ds λb ds=>kcN ds ((b≠0/\fB b)/\∀ p q,IsPart a b p q->Q (.tup [.int p,.int q]) μ)
theorem IK:∀ ds μ Q,gW ds μ Q->ds.length=2:=λ_ _ _ h=>lcI h λ_ _ h=>lcI h λ_ _ h=>by rw[(ecN h).1];rfl
def Gz:STr:=aA (aP (au fT (ah (ai 0) (ah (ai 1) (av)))) (ax 2)) (aA (bW (TB (ak rLt (ai 1) (TC (.int 0)))) (aP (TUn Bh (ai 2)) (ax 2)) (bo)) (a6 (bB (ah (ak lB (ai 0) (ai 2)) (ah (ak lB (ai 1) (ai 2)) (av))))))
theorem Nr:∀ ds μ Q,gW ds μ Q->Gz { nx:=λ_ μ'=>RT Q .non μ',rt:=RT Q } (ini 3 ds) μ:=by
 intro ds μ Q h
 replace h:=ecI h
 obtain ⟨a,ds,rfl,h⟩:=h
 replace h:=ecI h
 obtain ⟨b,ds,rfl,h⟩:=h
 replace h:=ecN h
 obtain ⟨rfl,h⟩:=h
 obtain ⟨⟨hb,hm⟩,k⟩:=h
 have P:=k _ _ (C5 (a:=a) hb)
 have gp:0 < W6 a b:=X0 a hb
 have gl:W6 a b<=b.natAbs:=Int.gcd_le_natAbs_right a hb
 unfold Gz
 walk_at "rd"
 show (if b < 0 then _ else _)
 split
 ·rename_i hn
  rw[if_pos hn] at P
  have dv:jm (-(W6 a b:Int)):=by walk_at "ok"
  exact ⟨dv,dv,_,.refl _,P⟩
 ·rename_i hn
  rw[if_neg hn] at P
  have dv:jm (W6 a b:Int):=by walk_at "ok"
  exact ⟨dv,dv,_,.refl _,P⟩
structure FrB (lo hi p q:Int):Prop where
 q0:0 < q
 q1:q<=10000002
 g:W6 p q=1
 ge:lo*q<=p
 le:p<=hi*q
structure FrA (lo hi p q:Int):Prop extends FrB lo hi p q where
 ab:lo*q < p
structure FrL (hi p q:Int):Prop extends FrB 0 hi p q where
 ab:0 < p
 be:p < hi*q
theorem km {a b:Int}(b0:0 < b):∃ g p q:Int,0 < g/\a=g*p/\b=g*q/\a.fdiv (W6 a b)=p/\b.fdiv (W6 a b)=q/\0 < q/\q<=b/\W6 p q=1:=by
 have gp:0 < W6 a b:=X0 a (by omega)
 have gz:0 < (W6 a b:Int):=by omega
 obtain ⟨c,hc⟩:=zbc a b
 obtain ⟨d,hd⟩:=zaL a b
 have g1:=zaG gp
 have e1:a / (W6 a b:Int)=c:=Yq (by omega) hc
 have e2:b / (W6 a b:Int)=d:=Yq (by omega) hd
 rw[e1,e2] at g1
 refine ⟨_,c,d,gz,hc,hd,by rw[jK gz];exact e1,by rw[jK gz];exact e2,?_,?_,g1⟩
 all_goals generalize (W6 a b:Int)=g at *
 ·rcases ZY d 0 with h | h | h
  ·have:=Zq gz h;omega
  ·subst h;omega
  ·exact h
 ·have d0:0 < d:=by
   rcases ZY d 0 with h | h | h
   ·have:=Zq gz h;omega
   ·subst h;omega
   ·exact h
  have h:=WO (show (1:Int)<=g by omega) (show (0:Int)<=d by omega)
  omega
theorem HG {lo hi a b:Int}(b0:0 < b)(b1:b<=10000002)(h1:lo*b<=a)(h2:a<=hi*b):FrB lo hi (a.fdiv (W6 a b)) (b.fdiv (W6 a b)):=by
 obtain ⟨g,p,q,g0,ea,eb,ep,eq,q0,qb,gg⟩:=km (a:=a) b0
 rw[ep,eq]
 subst ea
 have e1:lo*b=g*(lo*q):=by rw[eb];ac_rfl
 have e2:hi*b=g*(hi*q):=by rw[eb];ac_rfl
 exact ⟨q0,by omega,gg,Yz (by rw[← e1];exact h1) g0,Yz (by rw[← e2];exact h2) g0⟩
theorem FH {lo hi a b:Int}(b0:0 < b)(b1:b<=10000002)(h1:lo*b < a)(h2:a<=hi*b):FrA lo hi (a.fdiv (W6 a b)) (b.fdiv (W6 a b)):=by
 refine ⟨HG b0 b1 (by omega) h2,?_⟩
 obtain ⟨g,p,q,g0,ea,eb,ep,eq,q0,qb,gg⟩:=km (a:=a) b0
 rw[ep,eq]
 have e1:lo*b=g*(lo*q):=by rw[eb];ac_rfl
 exact Zr (by rw[← e1,← ea];exact h1) (by omega)
theorem R8 {hi a b:Int}(b0:0 < b)(b1:b<=10000002)(h1:0 < a)(h2:a < hi*b):FrL hi (a.fdiv (W6 a b)) (b.fdiv (W6 a b)):=by
 refine ⟨HG b0 b1 (by omega) (by omega),?_,?_⟩
 all_goals
  obtain ⟨g,p,q,g0,ea,eb,ep,eq,q0,qb,gg⟩:=km (a:=a) b0
 ·rw[ep]
  exact Zr (a:=g) (by rw[← ea];simpa using h1) (by omega)
 ·rw[ep,eq]
  have e1:hi*b=g*(hi*q):=by rw[eb];ac_rfl
  exact Zr (by rw[← e1,← ea];exact h2) (by omega)
theorem dQ:(OF "still" = OF "step")=False:=eq_false (by decide +kernel)
theorem di:(OF "still" = OF "swell")=False:=eq_false (by decide +kernel)
theorem dX:(OF "still" = OF "heed")=False:=eq_false (by decide +kernel)
theorem dU:(OF "still" = OF "calm")=False:=eq_false (by decide +kernel)
theorem dR:(OF "step" = OF "still")=False:=eq_false (by decide +kernel)
theorem dP:(OF "step" = OF "swell")=False:=eq_false (by decide +kernel)
theorem eV:(OF "step" = OF "heed")=False:=eq_false (by decide +kernel)
theorem eL:(OF "step" = OF "calm")=False:=eq_false (by decide +kernel)
theorem dj:(OF "swell" = OF "still")=False:=eq_false (by decide +kernel)
theorem dY:(OF "swell" = OF "step")=False:=eq_false (by decide +kernel)
theorem dN:(OF "swell" = OF "heed")=False:=eq_false (by decide +kernel)
theorem d7:(OF "swell" = OF "calm")=False:=eq_false (by decide +kernel)
theorem dZ:(OF "heed" = OF "still")=False:=eq_false (by decide +kernel)
theorem eN:(OF "heed" = OF "step")=False:=eq_false (by decide +kernel)
theorem d8:(OF "heed" = OF "swell")=False:=eq_false (by decide +kernel)
theorem eP:(OF "heed" = OF "calm")=False:=eq_false (by decide +kernel)
theorem dM:(OF "calm" = OF "still")=False:=eq_false (by decide +kernel)
theorem eM:(OF "calm" = OF "step")=False:=eq_false (by decide +kernel)
theorem dS:(OF "calm" = OF "swell")=False:=eq_false (by decide +kernel)
theorem eK:(OF "calm" = OF "heed")=False:=eq_false (by decide +kernel)
theorem nh:WC (OF "still")=true:=by decide +kernel
theorem qi:WC (OF "step")=true:=by decide +kernel
theorem m9:WC (OF "swell")=true:=by decide +kernel
theorem sH:WC (OF "heed")=true:=by decide +kernel
theorem qm:WC (OF "calm")=true:=by decide +kernel
abbrev fr (p q:Int):D:=.tup [.int p,.int q]
theorem cq (i:Decidable (OF "still" = OF "step")):@decide (OF "still" = OF "step") i=false:=by cases i with | isTrue h=>exact absurd h (by rw[dQ];exact not_false) | isFalse _=>rfl
theorem bY (i:Decidable (OF "still" = OF "swell")):@decide (OF "still" = OF "swell") i=false:=by cases i with | isTrue h=>exact absurd h (by rw[di];exact not_false) | isFalse _=>rfl
theorem cC (i:Decidable (OF "still" = OF "heed")):@decide (OF "still" = OF "heed") i=false:=by cases i with | isTrue h=>exact absurd h (by rw[dX];exact not_false) | isFalse _=>rfl
theorem cf (i:Decidable (OF "still" = OF "calm")):@decide (OF "still" = OF "calm") i=false:=by cases i with | isTrue h=>exact absurd h (by rw[dU];exact not_false) | isFalse _=>rfl
theorem ck (i:Decidable (OF "step" = OF "still")):@decide (OF "step" = OF "still") i=false:=by cases i with | isTrue h=>exact absurd h (by rw[dR];exact not_false) | isFalse _=>rfl
theorem cD (i:Decidable (OF "step" = OF "swell")):@decide (OF "step" = OF "swell") i=false:=by cases i with | isTrue h=>exact absurd h (by rw[dP];exact not_false) | isFalse _=>rfl
theorem cS (i:Decidable (OF "step" = OF "heed")):@decide (OF "step" = OF "heed") i=false:=by cases i with | isTrue h=>exact absurd h (by rw[eV];exact not_false) | isFalse _=>rfl
theorem cV (i:Decidable (OF "step" = OF "calm")):@decide (OF "step" = OF "calm") i=false:=by cases i with | isTrue h=>exact absurd h (by rw[eL];exact not_false) | isFalse _=>rfl
theorem bX (i:Decidable (OF "swell" = OF "still")):@decide (OF "swell" = OF "still") i=false:=by cases i with | isTrue h=>exact absurd h (by rw[dj];exact not_false) | isFalse _=>rfl
theorem cv (i:Decidable (OF "swell" = OF "step")):@decide (OF "swell" = OF "step") i=false:=by cases i with | isTrue h=>exact absurd h (by rw[dY];exact not_false) | isFalse _=>rfl
theorem cu (i:Decidable (OF "swell" = OF "heed")):@decide (OF "swell" = OF "heed") i=false:=by cases i with | isTrue h=>exact absurd h (by rw[dN];exact not_false) | isFalse _=>rfl
theorem cx (i:Decidable (OF "swell" = OF "calm")):@decide (OF "swell" = OF "calm") i=false:=by cases i with | isTrue h=>exact absurd h (by rw[d7];exact not_false) | isFalse _=>rfl
theorem cA (i:Decidable (OF "heed" = OF "still")):@decide (OF "heed" = OF "still") i=false:=by cases i with | isTrue h=>exact absurd h (by rw[dZ];exact not_false) | isFalse _=>rfl
theorem cT (i:Decidable (OF "heed" = OF "step")):@decide (OF "heed" = OF "step") i=false:=by cases i with | isTrue h=>exact absurd h (by rw[eN];exact not_false) | isFalse _=>rfl
theorem cF (i:Decidable (OF "heed" = OF "swell")):@decide (OF "heed" = OF "swell") i=false:=by cases i with | isTrue h=>exact absurd h (by rw[d8];exact not_false) | isFalse _=>rfl
theorem c6 (i:Decidable (OF "heed" = OF "calm")):@decide (OF "heed" = OF "calm") i=false:=by cases i with | isTrue h=>exact absurd h (by rw[eP];exact not_false) | isFalse _=>rfl
theorem cB (i:Decidable (OF "calm" = OF "still")):@decide (OF "calm" = OF "still") i=false:=by cases i with | isTrue h=>exact absurd h (by rw[dM];exact not_false) | isFalse _=>rfl
theorem cX (i:Decidable (OF "calm" = OF "step")):@decide (OF "calm" = OF "step") i=false:=by cases i with | isTrue h=>exact absurd h (by rw[eM];exact not_false) | isFalse _=>rfl
theorem cj (i:Decidable (OF "calm" = OF "swell")):@decide (OF "calm" = OF "swell") i=false:=by cases i with | isTrue h=>exact absurd h (by rw[dS];exact not_false) | isFalse _=>rfl
theorem c5 (i:Decidable (OF "calm" = OF "heed")):@decide (OF "calm" = OF "heed") i=false:=by cases i with | isTrue h=>exact absurd h (by rw[eK];exact not_false) | isFalse _=>rfl
theorem jf (a:Str)(i:Decidable (a=a)):@decide (a=a) i=true:=by cases i with | isTrue _=>rfl | isFalse h=>exact absurd rfl h
def kLs (x:D)(f:List D->Prop):Prop:=match x with
 | .ls ds=>f ds
 | _=>False
def iW (sp:FSp)(ds:List D)(μ:Mu)(Q:DK):Prop:=sp ds μ Q
def LEN (ds:List D)(P:Prop):Prop:=ds.length<=1000000/\P
theorem RJ (d:D)(r:ST)(μ:Mu)(Q:DK):ai 0 (some d::r) μ Q=Q d μ:=propext Wr
theorem Lx (x0:Option D)(r:ST)(d:D)(μ:Mu)(k:ST->Mu->Prop):ax 0 d (x0::r) μ k=k (some d::r) μ:=propext Wr
theorem Pa (x0:Option D)(d:D)(r:ST)(μ:Mu)(Q:DK):ai 1 (x0::some d::r) μ Q=Q d μ:=propext Wr
theorem Ld (x0 x1:Option D)(r:ST)(d:D)(μ:Mu)(k:ST->Mu->Prop):ax 1 d (x0::x1::r) μ k=k (x0::some d::r) μ:=propext Wr
theorem RU (x0 x1:Option D)(d:D)(r:ST)(μ:Mu)(Q:DK):ai 2 (x0::x1::some d::r) μ Q=Q d μ:=propext Wr
theorem K1 (x0 x1 x2:Option D)(r:ST)(d:D)(μ:Mu)(k:ST->Mu->Prop):ax 2 d (x0::x1::x2::r) μ k=k (x0::x1::some d::r) μ:=propext Wr
theorem Pu (x0 x1 x2:Option D)(d:D)(r:ST)(μ:Mu)(Q:DK):ai 3 (x0::x1::x2::some d::r) μ Q=Q d μ:=propext Wr
theorem NJ (x0 x1 x2 x3:Option D)(r:ST)(d:D)(μ:Mu)(k:ST->Mu->Prop):ax 3 d (x0::x1::x2::x3::r) μ k=k (x0::x1::x2::some d::r) μ:=propext Wr
theorem Qg (x0 x1 x2 x3:Option D)(d:D)(r:ST)(μ:Mu)(Q:DK):ai 4 (x0::x1::x2::x3::some d::r) μ Q=Q d μ:=propext Wr
theorem LV (x0 x1 x2 x3 x4:Option D)(r:ST)(d:D)(μ:Mu)(k:ST->Mu->Prop):ax 4 d (x0::x1::x2::x3::x4::r) μ k=k (x0::x1::x2::x3::some d::r) μ:=propext Wr
theorem OA (x0 x1 x2 x3 x4:Option D)(d:D)(r:ST)(μ:Mu)(Q:DK):ai 5 (x0::x1::x2::x3::x4::some d::r) μ Q=Q d μ:=propext Wr
theorem Lj (x0 x1 x2 x3 x4 x5:Option D)(r:ST)(d:D)(μ:Mu)(k:ST->Mu->Prop):ax 5 d (x0::x1::x2::x3::x4::x5::r) μ k=k (x0::x1::x2::x3::x4::some d::r) μ:=propext Wr
theorem OG (x0 x1 x2 x3 x4 x5:Option D)(d:D)(r:ST)(μ:Mu)(Q:DK):ai 6 (x0::x1::x2::x3::x4::x5::some d::r) μ Q=Q d μ:=propext Wr
theorem LF (x0 x1 x2 x3 x4 x5 x6:Option D)(r:ST)(d:D)(μ:Mu)(k:ST->Mu->Prop):ax 6 d (x0::x1::x2::x3::x4::x5::x6::r) μ k=k (x0::x1::x2::x3::x4::x5::some d::r) μ:=propext Wr
theorem RD (x0 x1 x2 x3 x4 x5 x6:Option D)(d:D)(r:ST)(μ:Mu)(Q:DK):ai 7 (x0::x1::x2::x3::x4::x5::x6::some d::r) μ Q=Q d μ:=propext Wr
theorem LK (x0 x1 x2 x3 x4 x5 x6 x7:Option D)(r:ST)(d:D)(μ:Mu)(k:ST->Mu->Prop):ax 7 d (x0::x1::x2::x3::x4::x5::x6::x7::r) μ k=k (x0::x1::x2::x3::x4::x5::x6::some d::r) μ:=propext Wr
theorem QE (x0 x1 x2 x3 x4 x5 x6 x7:Option D)(d:D)(r:ST)(μ:Mu)(Q:DK):ai 8 (x0::x1::x2::x3::x4::x5::x6::x7::some d::r) μ Q=Q d μ:=propext Wr
theorem Kn (x0 x1 x2 x3 x4 x5 x6 x7 x8:Option D)(r:ST)(d:D)(μ:Mu)(k:ST->Mu->Prop):ax 8 d (x0::x1::x2::x3::x4::x5::x6::x7::x8::r) μ k=k (x0::x1::x2::x3::x4::x5::x6::x7::some d::r) μ:=propext Wr
theorem OB (x0 x1 x2 x3 x4 x5 x6 x7 x8:Option D)(d:D)(r:ST)(μ:Mu)(Q:DK):ai 9 (x0::x1::x2::x3::x4::x5::x6::x7::x8::some d::r) μ Q=Q d μ:=propext Wr
theorem Kw (x0 x1 x2 x3 x4 x5 x6 x7 x8 x9:Option D)(r:ST)(d:D)(μ:Mu)(k:ST->Mu->Prop):ax 9 d (x0::x1::x2::x3::x4::x5::x6::x7::x8::x9::r) μ k=k (x0::x1::x2::x3::x4::x5::x6::x7::x8::some d::r) μ:=propext Wr
theorem MU (x0 x1 x2 x3 x4 x5 x6 x7 x8 x9:Option D)(d:D)(r:ST)(μ:Mu)(Q:DK):ai 10 (x0::x1::x2::x3::x4::x5::x6::x7::x8::x9::some d::r) μ Q=Q d μ:=propext Wr
theorem GJ (x0 x1 x2 x3 x4 x5 x6 x7 x8 x9 x10:Option D)(r:ST)(d:D)(μ:Mu)(k:ST->Mu->Prop):ax 10 d (x0::x1::x2::x3::x4::x5::x6::x7::x8::x9::x10::r) μ k=k (x0::x1::x2::x3::x4::x5::x6::x7::x8::x9::some d::r) μ:=propext Wr
theorem LY (x0 x1 x2 x3 x4 x5 x6 x7 x8 x9 x10:Option D)(d:D)(r:ST)(μ:Mu)(Q:DK):ai 11 (x0::x1::x2::x3::x4::x5::x6::x7::x8::x9::x10::some d::r) μ Q=Q d μ:=propext Wr
theorem G9 (x0 x1 x2 x3 x4 x5 x6 x7 x8 x9 x10 x11:Option D)(r:ST)(d:D)(μ:Mu)(k:ST->Mu->Prop):ax 11 d (x0::x1::x2::x3::x4::x5::x6::x7::x8::x9::x10::x11::r) μ k=k (x0::x1::x2::x3::x4::x5::x6::x7::x8::x9::x10::some d::r) μ:=propext Wr
theorem Ku (x0 x1 x2 x3 x4 x5 x6 x7 x8 x9 x10 x11:Option D)(d:D)(r:ST)(μ:Mu)(Q:DK):ai 12 (x0::x1::x2::x3::x4::x5::x6::x7::x8::x9::x10::x11::some d::r) μ Q=Q d μ:=propext Wr
theorem Ke (x0 x1 x2 x3 x4 x5 x6 x7 x8 x9 x10 x11 x12:Option D)(r:ST)(d:D)(μ:Mu)(k:ST->Mu->Prop):ax 12 d (x0::x1::x2::x3::x4::x5::x6::x7::x8::x9::x10::x11::x12::r) μ k=k (x0::x1::x2::x3::x4::x5::x6::x7::x8::x9::x10::x11::some d::r) μ:=propext Wr
theorem Ks (x0 x1 x2 x3 x4 x5 x6 x7 x8 x9 x10 x11 x12:Option D)(d:D)(r:ST)(μ:Mu)(Q:DK):ai 13 (x0::x1::x2::x3::x4::x5::x6::x7::x8::x9::x10::x11::x12::some d::r) μ Q=Q d μ:=propext Wr
theorem GR (x0 x1 x2 x3 x4 x5 x6 x7 x8 x9 x10 x11 x12 x13:Option D)(r:ST)(d:D)(μ:Mu)(k:ST->Mu->Prop):ax 13 d (x0::x1::x2::x3::x4::x5::x6::x7::x8::x9::x10::x11::x12::x13::r) μ k=k (x0::x1::x2::x3::x4::x5::x6::x7::x8::x9::x10::x11::x12::some d::r) μ:=propext Wr
theorem L0 (x0 x1 x2 x3 x4 x5 x6 x7 x8 x9 x10 x11 x12 x13:Option D)(d:D)(r:ST)(μ:Mu)(Q:DK):ai 14 (x0::x1::x2::x3::x4::x5::x6::x7::x8::x9::x10::x11::x12::x13::some d::r) μ Q=Q d μ:=propext Wr
theorem Il (x0 x1 x2 x3 x4 x5 x6 x7 x8 x9 x10 x11 x12 x13 x14:Option D)(r:ST)(d:D)(μ:Mu)(k:ST->Mu->Prop):ax 14 d (x0::x1::x2::x3::x4::x5::x6::x7::x8::x9::x10::x11::x12::x13::x14::r) μ k=k (x0::x1::x2::x3::x4::x5::x6::x7::x8::x9::x10::x11::x12::x13::some d::r) μ:=propext Wr
theorem K4 (x0 x1 x2 x3 x4 x5 x6 x7 x8 x9 x10 x11 x12 x13 x14:Option D)(d:D)(r:ST)(μ:Mu)(Q:DK):ai 15 (x0::x1::x2::x3::x4::x5::x6::x7::x8::x9::x10::x11::x12::x13::x14::some d::r) μ Q=Q d μ:=propext Wr
theorem Gu (x0 x1 x2 x3 x4 x5 x6 x7 x8 x9 x10 x11 x12 x13 x14 x15:Option D)(r:ST)(d:D)(μ:Mu)(k:ST->Mu->Prop):ax 15 d (x0::x1::x2::x3::x4::x5::x6::x7::x8::x9::x10::x11::x12::x13::x14::x15::r) μ k=k (x0::x1::x2::x3::x4::x5::x6::x7::x8::x9::x10::x11::x12::x13::x14::some d::r) μ:=propext Wr
theorem VX (d:D)(ρ:ST)(μ:Mu)(Q:DK):TC d ρ μ Q=Q d μ:=propext Wr
theorem Qu (r:DR2)(a b:ETr)(ρ:ST)(μ:Mu)(Q:DK):ak r a b ρ μ Q=a ρ μ λx μ1=>b ρ μ1 λy μ2=>r x y μ2 Q:=propext Wr
theorem Tz (r:DR)(a:ETr)(ρ:ST)(μ:Mu)(Q:DK):TUn r a ρ μ Q=a ρ μ λx μ1=>r x μ1 Q:=propext Wr
theorem O7 (a b:ETr)(ρ:ST)(μ:Mu)(Q:DK):Ce a b ρ μ Q=a ρ μ λx μ1=>kB x λc=>kIf c (Q (.bl true) μ1) (b ρ μ1 Q):=propext Wr
theorem V9 (t:ETr)(ρ:ST)(μ:Mu)(Q:Bool->Mu->Prop):TB t ρ μ Q=t ρ μ λx μ1=>kB x λc=>Q c μ1:=propext Wr
theorem Qx (t u:TTr)(ρ:ST)(μ:Mu)(Q:Bool->Mu->Prop):mL t u ρ μ Q=t ρ μ λc μ1=>kIf c (u ρ μ1 Q) (Q false μ1):=propext Wr
theorem Ur (t u:TTr)(ρ:ST)(μ:Mu)(Q:Bool->Mu->Prop):TOr t u ρ μ Q=t ρ μ λc μ1=>kIf c (Q true μ1) (u ρ μ1 Q):=propext Wr
theorem Pz (t:TTr)(ρ:ST)(μ:Mu)(Q:Bool->Mu->Prop):rL t ρ μ Q=t ρ μ λc μ1=>Q (!c) μ1:=propext Wr
theorem Py (c:TTr)(a b:ETr)(ρ:ST)(μ:Mu)(Q:DK):kM c a b ρ μ Q=c ρ μ λk μ1=>kIf k (a ρ μ1 Q) (b ρ μ1 Q):=propext Wr
theorem JI (r r':DR2)(a b c:ETr)(ρ:ST)(μ:Mu)(Q:DK):ij r r' a b c ρ μ Q=a ρ μ λx μ1=>b ρ μ1 λy μ2=>r x y μ2 λz μ3=>kB z λk=>kIf k (c ρ μ3 λy' μ4=>r' y y' μ4 Q) (Q (.bl false) μ3):=propext Wr
theorem PB (ρ:ST)(μ:Mu)(Q:List D->Mu->Prop):av ρ μ Q=Q [] μ:=propext Wr
theorem Lz (a:ETr)(r:ATr)(ρ:ST)(μ:Mu)(Q:List D->Mu->Prop):ah a r ρ μ Q=a ρ μ λx μ1=>r ρ μ1 λxs μ2=>Q (x::xs) μ2:=propext Wr
theorem QW (t:ATr)(ρ:ST)(μ:Mu)(Q:DK):bB t ρ μ Q=t ρ μ λds μ1=>LEN ds (Q (.tup ds) μ1):=propext Wr
theorem QH (t:ATr)(ρ:ST)(μ:Mu)(Q:DK):fv t ρ μ Q=t ρ μ λds μ1=>LEN ds (Q (.ls ds) μ1):=propext Wr
theorem Rq (t:ATr)(ρ:ST)(μ:Mu)(Q:DK):nD t ρ μ Q=t ρ μ λds μ1=>LEN ds (∀ p,μ1 p=none->Q (.obj p) (up μ1 p (.lst ds))):=propext Wr
theorem Mq (sp:FSp)(t:ATr)(ρ:ST)(μ:Mu)(Q:DK):au sp t ρ μ Q=t ρ μ λds μ1=>iW sp ds μ1 Q:=propext Wr
theorem LB (nx:ST->Mu->Prop)(rt:DK)(bk ct:ST->Mu->Prop)(ρ:ST)(μ:Mu):bo ⟨nx,rt,bk,ct⟩ ρ μ=nx ρ μ:=propext Wr
theorem OJ (t u:STr)(nx:ST->Mu->Prop)(rt:DK)(bk ct:ST->Mu->Prop)(ρ:ST)(μ:Mu):aA t u ⟨nx,rt,bk,ct⟩ ρ μ=t ⟨u ⟨nx,rt,bk,ct⟩,rt,bk,ct⟩ ρ μ:=propext Wr
theorem KH (e:ETr)(nx:ST->Mu->Prop)(rt:DK)(bk ct:ST->Mu->Prop)(ρ:ST)(μ:Mu):fE e ⟨nx,rt,bk,ct⟩ ρ μ=e ρ μ λ_ μ1=>nx ρ μ1:=propext Wr
theorem RQ (e:ETr)(nx:ST->Mu->Prop)(rt:DK)(bk ct:ST->Mu->Prop)(ρ:ST)(μ:Mu):a6 e ⟨nx,rt,bk,ct⟩ ρ μ=e ρ μ rt:=propext Wr
theorem Qd (c:TTr)(t u:STr)(nx:ST->Mu->Prop)(rt:DK)(bk ct:ST->Mu->Prop)(ρ:ST)(μ:Mu):bW c t u ⟨nx,rt,bk,ct⟩ ρ μ=c ρ μ λb μ1=>kIf b (t ⟨nx,rt,bk,ct⟩ ρ μ1) (u ⟨nx,rt,bk,ct⟩ ρ μ1):=propext Wr
theorem Qk (e:ETr)(g:GTr)(nx:ST->Mu->Prop)(rt:DK)(bk ct:ST->Mu->Prop)(ρ:ST)(μ:Mu):aP e g ⟨nx,rt,bk,ct⟩ ρ μ=e ρ μ λd μ1=>g d ρ μ1 nx:=propext Wr
theorem Rr (i j:Nat)(a:ATr)(nx:ST->Mu->Prop)(rt:DK)(bk ct:ST->Mu->Prop)(ρ:ST)(μ:Mu):qU i j a ⟨nx,rt,bk,ct⟩ ρ μ=a ρ μ λds μ1=>k2 ds λv w=>ax i v ρ μ1 λρ2 μ2=>ax j w ρ2 μ2 nx:=propext Wr
theorem OX (it:ATr)(g:GTr)(b:STr)(nx:ST->Mu->Prop)(rt:DK)(bk ct:ST->Mu->Prop)(ρ:ST)(μ:Mu):iJ it g b ⟨nx,rt,bk,ct⟩ ρ μ=it ρ μ λds μ1=>forR g b ⟨nx,rt,bk,ct⟩ ds ρ μ1:=propext Wr
theorem EA (a:ETr)(ρ:ST)(μ:Mu)(Q:List D->Mu->Prop):gL a ρ μ Q=a ρ μ λx μ1=>kI x λj=>(-4611686018427387904<=j/\j < 4611686018427387904)/\Q (cE 0 j.toNat) μ1:=propext Wr
theorem kC (a:ETr)(ρ:ST)(μ:Mu)(Q:List D->Mu->Prop):SX (ah a av) ρ μ Q=a ρ μ λx μ1=>kLs x λds=>Q (kW ds) μ1:=propext (Iff.of_eq (congrArg (a ρ μ) (funext λx=>funext λμ1=>by cases x<;>rfl)))
theorem Rv (a:ETr)(ρ:ST)(μ:Mu)(Q:DK):yS a ρ μ Q=a ρ μ λx μ1=>kObj x λb=>kL μ1 b λds=>Q (.ls ds) (dn μ1 b):=propext Wr
theorem PF (To Te:ETr)(ρ:ST)(μ:Mu)(Q:DK):o7 To Te ρ μ Q=To ρ μ λx μ1=>kObj x λa=>kL μ1 a λ_=>Te ρ μ1 λy μ2=>kL μ2 a λds=>ds.length < 1000000/\Q .non (up μ2 a (.lst (ds++[y]))):=propext Wr
theorem R9 (a:ETr)(lo hi:OTr)(ρ:ST)(μ:Mu)(Q:DK):TSl a lo hi ρ μ Q=a ρ μ λx μ1=>lo ρ μ1 λl μ2=>hi ρ μ2 λh μ3=>rSl x l h μ3 Q:=propext Wr
theorem SN (ρ:ST)(μ:Mu)(Q:Option Int->Mu->Prop):ONo ρ μ Q=Q none μ:=propext Wr
theorem RB (T:ETr)(ρ:ST)(μ:Mu)(Q:Option Int->Mu->Prop):mS T ρ μ Q=T ρ μ λx μ1=>kI x λi=>Q (some i) μ1:=propext Wr
theorem OS (i0 i1:Nat)(d0 d1:D)(ρ:ST)(μ:Mu)(k:ST->Mu->Prop):de [i0,i1] (.tup [d0,d1]) ρ μ k=ax i0 d0 ρ μ λρ1 _=>ax i1 d1 ρ1 μ λρ2 _=>k ρ2 μ:=by simp[de,iS,ax]
theorem O6 (i0 i1 i2:Nat)(d0 d1 d2:D)(ρ:ST)(μ:Mu)(k:ST->Mu->Prop):de [i0,i1,i2] (.tup [d0,d1,d2]) ρ μ k=ax i0 d0 ρ μ λρ1 _=>ax i1 d1 ρ1 μ λρ2 _=>ax i2 d2 ρ2 μ λρ3 _=>k ρ3 μ:=by simp[de,iS,ax]
theorem Rh (i0 i1 i2 i3 i4:Nat)(d0 d1 d2 d3 d4:D)(ρ:ST)(μ:Mu)(k:ST->Mu->Prop):de [i0,i1,i2,i3,i4] (.tup [d0,d1,d2,d3,d4]) ρ μ k=ax i0 d0 ρ μ λρ1 _=>ax i1 d1 ρ1 μ λρ2 _=>ax i2 d2 ρ2 μ λρ3 _=>ax i3 d3 ρ3 μ λρ4 _=>ax i4 d4 ρ4 μ λρ5 _=>k ρ5 μ:=by simp[de,iS,ax]
theorem R0 (i0 i1 i2 i3 i4 i5:Nat)(d0 d1 d2 d3 d4 d5:D)(ρ:ST)(μ:Mu)(k:ST->Mu->Prop):de [i0,i1,i2,i3,i4,i5] (.tup [d0,d1,d2,d3,d4,d5]) ρ μ k=ax i0 d0 ρ μ λρ1 _=>ax i1 d1 ρ1 μ λρ2 _=>ax i2 d2 ρ2 μ λρ3 _=>ax i3 d3 ρ3 μ λρ4 _=>ax i4 d4 ρ4 μ λρ5 _=>ax i5 d5 ρ5 μ λρ6 _=>k ρ6 μ:=by simp[de,iS,ax]
theorem T3 (P:Prop):LEN [] P=P:=by simp[LEN]
theorem T7 (x0:D)(P:Prop):LEN [x0] P=P:=by simp[LEN]
theorem SV (x0 x1:D)(P:Prop):LEN [x0,x1] P=P:=by simp[LEN]
theorem SR (x0 x1 x2:D)(P:Prop):LEN [x0,x1,x2] P=P:=by simp[LEN]
theorem Sy (x0 x1 x2 x3:D)(P:Prop):LEN [x0,x1,x2,x3] P=P:=by simp[LEN]
theorem SW (x0 x1 x2 x3 x4:D)(P:Prop):LEN [x0,x1,x2,x3,x4] P=P:=by simp[LEN]
theorem S4 (x0 x1 x2 x3 x4 x5:D)(P:Prop):LEN [x0,x1,x2,x3,x4,x5] P=P:=by simp[LEN]
theorem SS (x0 x1 x2 x3 x4 x5 x6 x7:D)(P:Prop):LEN [x0,x1,x2,x3,x4,x5,x6,x7] P=P:=by simp[LEN]
theorem OO (x0 x1 x2 x3 x4 x5 x6 x7 x8 x9 x10:D)(P:Prop):LEN [x0,x1,x2,x3,x4,x5,x6,x7,x8,x9,x10] P=P:=by simp[LEN]
theorem OL (x0:D)(r:List D)(μ:Mu)(Q:DK):L3.rIx (.tup (x0::r)) (.int 0) μ Q=Q x0 μ:=by rw[rZ];exact congrArg (λo=>kO o λd=>Q d μ) (bZ 0 _)
theorem RG (x0 x1:D)(r:List D)(μ:Mu)(Q:DK):L3.rIx (.tup (x0::x1::r)) (.int 1) μ Q=Q x1 μ:=by rw[rZ];exact congrArg (λo=>kO o λd=>Q d μ) (bZ 1 _)
theorem QF (x0 x1 x2:D)(r:List D)(μ:Mu)(Q:DK):L3.rIx (.tup (x0::x1::x2::r)) (.int 2) μ Q=Q x2 μ:=by rw[rZ];exact congrArg (λo=>kO o λd=>Q d μ) (bZ 2 _)
theorem PN (x0 x1 x2 x3:D)(r:List D)(μ:Mu)(Q:DK):L3.rIx (.tup (x0::x1::x2::x3::r)) (.int 3) μ Q=Q x3 μ:=by rw[rZ];exact congrArg (λo=>kO o λd=>Q d μ) (bZ 3 _)
theorem Pe (i j:Int)(μ:Mu)(Q:DK):L3.rEq (.int i) (.int j) μ Q=Q (.bl (decide (i=j))) μ:=by simp[L3.rEq,okD,eqD]
theorem Qf (i j:Str)(μ:Mu)(Q:DK):L3.rEq (.str i) (.str j) μ Q=((WC i=true/\WC j=true)/\Q (.bl (decide (i=j))) μ):=by simp[L3.rEq,okD,eqD]
theorem Qh (i j:Str)(μ:Mu)(Q:DK):L3.rNe (.str i) (.str j) μ Q=((WC i=true/\WC j=true)/\Q (.bl (!decide (i=j))) μ):=by simp[L3.rNe,okD,eqD]
theorem Rf (i:Int)(μ:Mu)(Q:DK):iW wR [.int i] μ Q=Q (.int (if i < 0 then -i else i)) μ:=propext Wr
theorem Q3 (i j:Int)(μ:Mu)(Q:DK):iW qj [.int i,.int j] μ Q=Q (.int (max i j)) μ:=by show Q (.int (if j > i then j else i)) μ=_;congr 2;omega
theorem Ql (i j:Int)(μ:Mu)(Q:DK):iW tQ [.int i,.int j] μ Q=Q (.int (min i j)) μ:=by show Q (.int (if j < i then j else i)) μ=_;congr 2;omega
theorem OY (i:Bool)(μ:Mu)(Q:DK):iW AQ [.bl i] μ Q=Q (.int (if i then 1 else 0)) μ:=propext Wr
theorem Jx (a:List D)(μ:Mu)(Q:DK):iW bG [.tup a] μ Q=Q (.tup a) μ:=propext Wr
theorem IM (a:List D)(μ:Mu)(Q:DK):iW bG [.ls a] μ Q=Q (.tup a) μ:=propext Wr
theorem JT (a:Addr)(μ:Mu)(Q:DK):iW bG [.obj a] μ Q=kL μ a λxs=>Q (.tup xs) μ:=propext Wr
theorem F4 (a:List D)(μ:Mu)(Q:DK):iW jZ [.ls a] μ Q=Q (.ls a) μ:=propext Wr
theorem J4 (a:List D)(μ:Mu)(Q:DK):iW jA [.tup a] μ Q = ∀ p,μ p=none->Q (.obj p) (up μ p (.lst a)):=propext Wr
theorem Pj (a:Addr)(μ:Mu)(Q:DK):iW dg [.obj a] μ Q=kL μ a λxs=>Q (.int xs.length) μ:=propext Wr
theorem m7 (a:List D)(μ:Mu)(Q:DK):iW dg [.tup a] μ Q=Q (.int a.length) μ:=propext Wr
theorem nM (a:List D)(μ:Mu)(Q:DK):iW dg [.ls a] μ Q=Q (.int a.length) μ:=propext Wr
theorem DY (n:Nat)(i:Int):okD n (.int i)=true:=by cases n<;>simp[okD]
theorem DZ (n:Nat):okD n .non=true:=by cases n<;>simp[okD]
theorem uY (n:Nat)(x:Str):okD n (.str x)=WC x:=by cases n<;>simp[okD]
theorem kj (n:Nat):cz n []=true:=by simp[cz]
theorem fu (n:Nat)(d:D)(r:List D):cz n (d::r)=(okD n d&&cz n r):=by simp[cz]
theorem uC (i j:Int):eqD (.int i) (.int j)=decide (i=j):=by simp[eqD]
theorem gU (i j:Str):eqD (.str i) (.str j)=decide (i=j):=by simp[eqD]
theorem Na (A B:Prop):kIf true A B=A:=propext Wr
theorem NN (A B:Prop):kIf false A B=B:=propext Wr
theorem Mz (c:Bool)(f):kB (.bl c) f=f c:=propext Wr
theorem JV (c:Int)(f):kI (.int c) f=f c:=propext Wr
theorem D7 (c:D)(f):kO (some c) f=f c:=propext Wr
theorem HZ (c:List D)(f):kS (.tup c) f=f c:=propext Wr
theorem Lc (c:List D)(f):kS (.ls c) f=f c:=propext Wr
theorem Ka (a b:D)(f):k2 [a,b] f=f a b:=propext Wr
theorem Ex (c:Nat)(f):kN (some c) f=f c:=propext Wr
theorem Fe (i j:Int)(μ Q):aR (.int i) (.int j) μ Q=Q (.int (i+j)) μ:=propext Wr
theorem Ek (a b:List D)(μ Q):aR (.tup a) (.tup b) μ Q=(a.length+b.length<=1000000/\Q (.tup (a++b)) μ):=propext Wr
theorem EX (a b:List D)(μ Q):aR (.ls a) (.ls b) μ Q=(a.length+b.length<=1000000/\Q (.ls (a++b)) μ):=propext Wr
theorem Hr (i j:Int)(μ Q):jr (.int i) (.int j) μ Q=Q (.int (i - j)) μ:=propext Wr
theorem Iq (i j:Int)(μ Q):eC (.int i) (.int j) μ Q=(MulOk i j/\Q (.int (i*j)) μ):=propext Wr
theorem Ia (i j:Int)(μ Q):lB (.int i) (.int j) μ Q=(jm j/\Q (.int (i.fdiv j)) μ):=propext Wr
theorem Jg (i j:Int)(μ Q):kG (.int i) (.int j) μ Q=(j≠0/\Q (.int (i.fmod j)) μ):=propext Wr
theorem Kg (i j:Int)(μ Q):Js (.int i) (.int j) μ Q=(pW i j/\Q (.int (i ^ j.toNat)) μ):=propext Wr
theorem Hl (i:Int)(μ Q):Bh (.int i) μ Q=Q (.int (-i)) μ:=propext Wr
theorem KD (i j:Int)(μ Q):rLt (.int i) (.int j) μ Q=Q (.bl (decide (i < j))) μ:=propext Wr
theorem Nq (i j:Int)(μ Q):rLe (.int i) (.int j) μ Q=Q (.bl (decide (i<=j))) μ:=propext Wr
theorem M5 (i j:Int)(μ Q):rGt (.int i) (.int j) μ Q=Q (.bl (decide (j < i))) μ:=propext Wr
theorem M6 (i j:Int)(μ Q):rGe (.int i) (.int j) μ Q=Q (.bl (decide (j<=i))) μ:=propext Wr
theorem L8 (μ Q):rIs .non .non μ Q=Q (.bl true) μ:=propext Wr
theorem MW (i:Int)(μ Q):rIs (.int i) .non μ Q=Q (.bl false) μ:=propext Wr
theorem zP (μ Q):iK .non .non μ Q=Q (.bl false) μ:=propext Wr
theorem AD (i:Int)(μ Q):iK (.int i) .non μ Q=Q (.bl true) μ:=propext Wr
theorem Nm (a:List D)(lo hi)(μ Q):rSl (.tup a) lo hi μ Q=Q (.tup (cutD a lo hi)) μ:=propext Wr
theorem kx (ds:List D)(i:Int)(μ Q):L3.rIx (.tup ds) (.int i) μ Q=kO (atD ds i) λd=>Q d μ:=propext Wr
theorem ki (ds:List D)(i:Int)(μ Q):L3.rIx (.ls ds) (.int i) μ Q=kO (atD ds i) λd=>Q d μ:=propext Wr
theorem ky (x y:D)(μ Q):L3.rEq x y μ Q=((okD 40 x=true/\okD 40 y=true)/\Q (.bl (eqD x y)) μ):=propext Wr
theorem kq (x y:D)(μ Q):L3.rNe x y μ Q=((okD 40 x=true/\okD 40 y=true)/\Q (.bl (!eqD x y)) μ):=propext Wr
theorem kif {p:Prop} [Decidable p] {A B:Prop}(h1:p->A)(h2:¬ p->B):kIf (decide p) A B:=by
 by_cases h:p
 ·rw[decide_eq_true h];exact h1 h
 ·rw[decide_eq_false h];exact h2 h
theorem UP {p:Prop} [Decidable p] {A B:Prop}(h1:¬ p->A)(h2:p->B):kIf (!decide p) A B:=by
 by_cases h:p
 ·rw[decide_eq_true h];exact h2 h
 ·rw[decide_eq_false h];exact h1 h
theorem jP {p:Prop} [Decidable p] {A B:Prop}(h:p)(hA:A):kIf (decide p) A B:=by rw[decide_eq_true h];exact hA
theorem iu {p:Prop} [Decidable p] {A B:Prop}(h:¬ p)(hB:B):kIf (decide p) A B:=by rw[decide_eq_false h];exact hB
theorem ik {p:Prop} [Decidable p] {A B:Prop}(h:p)(hB:B):kIf (!decide p) A B:=by rw[decide_eq_true h];exact hB
theorem Co {c:Bool}{A B:Prop}(h1:c=true->A)(h2:c=false->B):kIf c A B:=by
 cases c
 ·exact h2 rfl
 ·exact h1 rfl
theorem ml {o:Option D}{d:D}{f:D->Prop}(e:o=some d)(h:f d):kO o f:=by rw[e];exact h
theorem bx {μ:Mu}{a:Addr}{ds:List D}{f:List D->Prop}(e:μ a=some (.lst ds))(h:f ds):kL μ a f:=by rw[S5 e];exact h
section
open PySem PySem.Spec PyProof.Rows L2
def Oa (kvs:List (Str×D))(s:Str):Option D:=(kvs.find? λkv=>decide (kv.1=s)).map (·.2)
def C9 (K:Wj):List zcf->List (Str×D)->Prop
 | [],[]=>True
 | e::es,(x,d)::r=>(∃ t,e.key=.str x t)/\(∃ v,RelV v e.val/\∀ H,Dp K H v d)/\C9 K es r
 | _,_=>False
theorem y8 (s x:Str)(t:Tok):Y0 s (.str x t)=decide (x=s):=by
 by_cases h:x=s
 ·subst h;simp[Y0]
 ·rw[decide_eq_false h];simp[Y0];first | exact h | exact λz=>h z.symm
theorem C9.find {K:Wj}(s:Str):∀ {es:List zcf} {kvs:List (Str×D)},C9 K es kvs->
  match Oa kvs s with
  | none=>(es.find? λe=>Y0 s e.key)=none
  | some d=>∃ e v,(es.find? λe=>Y0 s e.key)=some e/\RelV v e.val/\∀ H,Dp K H v d
 | [],[],_=>rfl
 | e::es,(x,d)::r,h=>by
  obtain ⟨⟨t,ht⟩,⟨v,rv,pv⟩,hr⟩:=h
  have ih:=C9.find s hr
  unfold Oa at ih ⊢
  rw[Xx,Xx,ht,y8]
  by_cases hx:x=s
  ·simp only[decide_eq_true hx,zbH]
   exact ⟨e,v,rfl,rv,pv⟩
  ·simp only[decide_eq_false hx]
   exact ih
 | [],_::_,h=>Ww h
 | _::_,[],h=>Ww h
section
variable {X:Cx} {a b c e:WX} {Ta Tb Te:ETr} {pos gpos:Pos} {x:Str} {kvs:List (Str×D)}
end
section
variable {X:Cx} {a b:WX} {Ta Tb:ETr} {pos:Pos}
end
end
section
open PySem PySem.Spec PyProof.Rows L2
def bP {κ:Type} [DecidableEq κ] (kvs:List (κ×D))(k:κ):Option D:=(kvs.find? λkv=>decide (kv.1=k)).map (·.2)
def putD {κ:Type} [DecidableEq κ] (kvs:List (κ×D))(k:κ)(v:D):List (κ×D):=
 if (kvs.any λkv=>decide (kv.1=k))=true then kvs.map (λkv=>if kv.1=k then (kv.1,v) else kv) else kvs++[(k,v)]
def mV (x:D)(f:Key->Prop):Prop:=match x with
 | .int i=>f (.inl i)
 | .str s=>f (.inr s)
 | _=>False
theorem DpK.nil {κ:Type}{K:Wj}{H:Hp}:DpK (κ:=κ) K H [] []:=⟨rfl,.nil⟩
theorem DpK.cons {κ:Type}{K:Wj}{H:Hp}{k:κ}{v:V}{d:D}{xs:List (κ×V)}{kvs:List (κ×D)}(h:Dp K H v d)(r:DpK K H xs kvs):DpK K H ((k,v)::xs) ((k,d)::kvs):=
 ⟨by simp[r.1],.cons h r.2⟩
theorem DpK.ind {κ:Type}{K:Wj}{H:Hp}{P:List (κ×V)->List (κ×D)->Prop}(h0:P [] [])(h1:∀ k v d xs kvs,Dp K H v d->DpK K H xs kvs->P xs kvs->P ((k,v)::xs) ((k,d)::kvs)) :
  ∀ {xs:List (κ×V)} {kvs:List (κ×D)},DpK K H xs kvs->P xs kvs
 | [],[],_=>h0
 | [],_::_,h=>by cases h.1
 | _::_,[],h=>by cases h.1
 | (k,v)::xs,(k',d)::kvs,h=>by
  obtain ⟨h2,h3⟩:=h
  simp only[WE,List.cons.injEq] at h2
  obtain ⟨rfl,h2⟩:=h2
  cases h3 with
  | cons p l=>exact h1 k v d xs kvs p ⟨h2,l⟩ (DpK.ind h0 h1 ⟨h2,l⟩)
theorem DpK.look {κ:Type} [DecidableEq κ] {K:Wj}{H:Hp}{xs:List (κ×V)}{kvs:List (κ×D)}(h:DpK K H xs kvs)(k:κ) :
  (bP kvs k=none/\gi xs k=none)∨∃ v d,bP kvs k=some d/\gi xs k=some v/\Dp K H v d:=by
 refine DpK.ind (P:=λxs kvs=>(bP kvs k=none/\gi xs k=none)∨∃ v d,bP kvs k=some d/\gi xs k=some v/\Dp K H v d) (.inl ⟨rfl,rfl⟩) (λj v d xs kvs p _ ih=>?_) h
 by_cases e:j=k
 ·refine .inr ⟨v,d,?_,l9 (p:=(j,v)) e,p⟩
  unfold bP;rw[Xx];simp[e]
 ·have e1:bP ((j,d)::kvs) k=bP kvs k:=by unfold bP;rw[Xx];simp[e]
  rw[e1,mT (p:=(j,v)) e]
  exact ih
theorem DpK.any {κ:Type} [DecidableEq κ] {K:Wj}{H:Hp}{xs:List (κ×V)}{kvs:List (κ×D)}(h:DpK K H xs kvs)(k:κ):(xs.any λkv=>decide (kv.1=k))=kvs.any λkv=>decide (kv.1=k):=by
 refine DpK.ind (P:=λxs kvs=>(xs.any λkv=>decide (kv.1=k))=kvs.any λkv=>decide (kv.1=k)) rfl (λj v d xs kvs p _ ih=>?_) h
 rw[Zv,Zv,ih]
theorem DpK.put {κ:Type} [DecidableEq κ] {K:Wj}{H:Hp}{xs:List (κ×V)}{kvs:List (κ×D)}(h:DpK K H xs kvs)(k:κ){v:V}{d:D}(p:Dp K H v d):DpK K H (putK xs k v) (putD kvs k d):=by
 unfold putK putD
 rw[h.any k]
 split
 ·refine DpK.ind (P:=λxs kvs=>DpK K H (xs.map λkv=>if kv.1=k then (kv.1,v) else kv) (kvs.map λkv=>if kv.1=k then (kv.1,d) else kv)) .nil (λj v' d' xs kvs p' _ ih=>?_) h
  rw[WE,WE]
  by_cases e:j=k
  ·rw[if_pos e,if_pos e];exact .cons p ih
  ·rw[if_neg e,if_neg e];exact .cons p' ih
 ·refine DpK.ind (P:=λxs kvs=>DpK K H (xs++[(k,v)]) (kvs++[(k,d)])) (.cons p .nil) (λj v' d' xs kvs p' _ ih=>?_) h
  exact .cons p' ih
theorem DpK.length {κ:Type}{K:Wj}{H:Hp}{xs:List (κ×V)}{kvs:List (κ×D)}(h:DpK K H xs kvs):xs.length=kvs.length:=by
 have:=h.2.length
 simpa using this
theorem kc {K:Wj}{H:Hp}{y:V}{dy:D}{f:Key->Prop}(p:Dp K H y dy)(h:mV dy f):∃ k,y=kV k/\f k:=by
 cases p with
 | int i=>exact ⟨.inl i,rfl,h⟩
 | str s=>exact ⟨.inr s,rfl,h⟩
 | _=>exact Ww h
theorem dD {K:Wj}{H:Hp}{x:V}{dx:D}{f:Addr->Prop}(p:Dp K H x dx)(h:kObj dx f):∃ a,x=.ref a/\f a:=by
 cases p with
 | obj a=>exact ⟨a,rfl,h⟩
 | _=>exact Ww h
theorem nj {H:Hp}{q:Addr}{u:HO}{xs:List (Key×V)}(ex:H q=some (.dK xs)):Tk H (L2.upd H q u):=
 .upd (λys z=>by rw[ex] at z;cases z) λo' w z=>by rw[ex] at z;cases z
theorem Cf {K:Wj}{H:Hp}{μ:Mu}{q:Addr}{xs ys:List (Key×V)}{ds:List (Key×D)}(m:bM K H μ)(ex:H q=some (.dK xs))(l:DpK K H ys ds):bM K (L2.upd H q (.dK ys)) (up μ q (.dct ds)):=λz y ez=>by
 by_cases zq:z=q
 ·subst zq
  rw[aE] at ez;cases ez
  exact ⟨ys,aM,l.mono (nj ex)⟩
 ·rw[aS zq] at ez
  exact (m z _ ez).ne (nj ex) zq
theorem Cq {K:Wj}{H:Hp}{μ:Mu}{q:Addr}{ys:List (Key×V)}{ds:List (Key×D)}(m:bM K H μ)(hq:H q=none)(l:DpK K H ys ds):bM K (L2.upd H q (.dK ys)) (up μ q (.dct ds)):=λz y ez=>by
 by_cases zq:z=q
 ·subst zq
  rw[aE] at ez;cases ez
  exact ⟨ys,aM,l.mono (.new hq)⟩
 ·rw[aS zq] at ez
  exact cw m hq z y ez
section
variable {X:Cx} {o i a b c e value:WX} {To Ti Ta Tb Te:ETr} {pos tpos:Pos}
theorem hu1 (hu:X.A.units+64 < cLine):X.A.units+1 < cLine:=by omega
def bS (To Ti:ETr):ETr:=λρ μ Q=>To ρ μ λx μ1=>Ti ρ μ1 λy μ2=>kObj x λa=>kD μ2 a λkvs=>mV y λk=>kO (bP kvs k) λd=>Q d μ2
theorem cI (hu:X.A.units+64 < cLine)(ho:LE X o To)(hi:LE X i Ti)(hs:Li i:=by intro _ _;rfl):LE X (.Subscript o i pos) (bS To Ti):=by
 obtain ⟨to,po,so⟩:=ho.ex
 obtain ⟨ti,pi,si⟩:=hi.ex
 refine ⟨_,Dn (hu1 hu) po pi hs,λσ H ρ μ Q Q' rl h k=>so σ H ρ μ _ _ rl h λx H1 dx μ1 t1 m1 p1 h1=>si σ H1 ρ μ1 _ _ (rl.go t1 m1) h1 λy H2 dy μ2 t2 m2 p2 h2=>?_⟩
 obtain ⟨q,rfl,h2⟩:=dD p1 h2
 obtain ⟨kvs,e0,h2⟩:=mY h2
 obtain ⟨kk,rfl,h2⟩:=kc p2 h2
 obtain ⟨d,e1,h2⟩:=jz h2
 obtain ⟨xs,ex,l⟩:=m2 q _ e0
 rcases l.look kk with ⟨z,_⟩ | ⟨v,d',z,ev,pv⟩
 ·rw[z] at e1;cases e1
 ·rw[z] at e1;cases e1
  exact ⟨q,v,rfl,by rw[← ev];exact ni.k ex,k _ H2 _ μ2 (t1.trans t2) m2 pv h2⟩
def jq (To Ti Te:ETr):STr:=λE ρ μ=>Te ρ μ λv μ1=>To ρ μ1 λx μ2=>Ti ρ μ2 λy μ3=>kObj x λa=>kD μ3 a λkvs=>mV y λk=>kvs.length < 1000000/\E.nx ρ (up μ3 a (.dct (putD kvs k v)))
theorem mM (hu:X.A.units+64 < cLine)(ho:LE X o To)(hi:LE X i Ti)(he:LE X value Te)(hs:YA value (some (.Subscript o i tpos)) pos.line X.env=pure false:=by rfl) :
  LS X (.Assign [.Subscript o i tpos] value pos) (jq To Ti Te):=by
 obtain ⟨to,po,so⟩:=ho.ex
 obtain ⟨ti,pi,si⟩:=hi.ex
 obtain ⟨te,pe,se⟩:=he.ex
 refine ⟨_,Du (hu1 hu) po pi pe hs,λσ H ρ μ E E' rl h k=>se σ H ρ μ _ _ rl h λv H1 dv μ1 t1 m1 p1 h1=>so σ H1 ρ μ1 _ _ (rl.go t1 m1) h1 λx H2 dx μ2 t2 m2 p2 h2=>
  si σ H2 ρ μ2 _ _ (rl.go (t1.trans t2) m2) h2 λy H3 dy μ3 t3 m3 p3 h3=>?_⟩
 obtain ⟨q,rfl,h3⟩:=dD p2 h3
 obtain ⟨kvs,e0,h3⟩:=mY h3
 obtain ⟨kk,rfl,h3⟩:=kc p3 h3
 obtain ⟨xs,ex,l⟩:=m3 q _ e0
 have t4:Tk H3 (L2.upd H3 q (.dK (putK xs kk v))):=nj ex
 have t14:=t1.trans (t2.trans (t3.trans t4))
 refine ⟨q,_,rfl,sP.k ex (by rw[l.length];exact WS h3.1 (by decide)),k.nx _ _ ρ _ t14 (rl.go t14 (Cf m3 ex (l.put kk (p1.mono (t2.trans t3))))) h3.2⟩
def lT (f:Int->Int->Int)(To Ti Te:ETr):STr:=λE ρ μ=>To ρ μ λx μ1=>Ti ρ μ1 λy μ2=>kObj x λa=>kD μ2 a λkvs=>mV y λk=>kO (bP kvs k) λd=>kI d λm=>
 Te ρ μ2 λw μ3=>kI w λn=>kD μ3 a λkvs3=>kvs3.length < 1000000/\E.nx ρ (up μ3 a (.dct (putD kvs3 k (.int (f m n)))))
theorem GU {to ti te:TE}{K:Wj}{f:Int->Int->Int}{rd:V->V->Hp->VK->Prop}(hrd:∀ i j H Q,Q (.int (f i j)) H->rd (.int i) (.int j) H Q)(so:Sim K to To)(si:Sim K ti Ti)(se:Sim K te Te) :
  Iw K (Og to ti te rd) (lT f To Ti Te):=λσ H ρ μ E E' rl h k=>so σ H ρ μ _ _ rl h λx H1 dx μ1 t1 m1 p1 h1=>si σ H1 ρ μ1 _ _ (rl.go t1 m1) h1 λy H2 dy μ2 t2 m2 p2 h2=>by
  obtain ⟨q,rfl,h2⟩:=dD p1 h2
  obtain ⟨kvs,e0,h2⟩:=mY h2
  obtain ⟨kk,rfl,h2⟩:=kc p2 h2
  obtain ⟨d,e1,h2⟩:=jz h2
  obtain ⟨xs,ex,l⟩:=m2 q _ e0
  rcases l.look kk with ⟨z,_⟩ | ⟨v,d',z,ev,pv⟩
  ·rw[z] at e1;cases e1
  ·rw[z] at e1;cases e1
   cases pv with
   | int m=>
    refine ⟨q,.int m,rfl,by rw[← ev];exact ni.k ex,se σ H2 ρ μ2 _ _ (rl.go (t1.trans t2) m2) h2 λw H3 dw μ3 t3 m3 p3 h3=>?_⟩
    cases p3 with
    | int n=>
     obtain ⟨kvs3,e3,h3⟩:=mY (show kD μ3 q _ from h3)
     obtain ⟨xs3,ex3,l3⟩:=m3 q _ e3
     have t4:Tk H3 (L2.upd H3 q (.dK (putK xs3 kk (.int (f m n))))):=nj ex3
     have t14:=t1.trans (t2.trans (t3.trans t4))
     exact hrd m n H3 _ ⟨_,sP.k ex3 (by rw[l3.length];exact WS h3.1 (by decide)),k.nx _ _ ρ _ t14 (rl.go t14 (Cf m3 ex3 (l3.put kk (.int _)))) h3.2⟩
    | _=>exact Ww h3
   | _=>exact Ww h2
theorem lr (hu:X.A.units+64 < cLine)(ho:LE X o To)(hi:LE X i Ti)(he:LE X value Te)(ha:∀ ov iv new,augStore i ov iv new=(do zbm [new,ov,iv] (setItem ov iv new);release [new,ov,iv] [];pure .next):=by intros;rfl) :
  LS X (.AugAssign (.Subscript o i tpos) .Add value pos) (lT (λm n=>m+n) To Ti Te):=by
 obtain ⟨to,po,so⟩:=ho.ex
 obtain ⟨ti,pi,si⟩:=hi.ex
 obtain ⟨te,pe,se⟩:=he.ex
 exact ⟨_,Lr (hu1 hu) po pi pe RP ha,GU (λi j H Q q=>⟨i,j,rfl,rfl,q⟩) so si se⟩
def MD (f:Int->Int->Int)(i:Nat)(Te:ETr):STr:=λE ρ μ=>kO (lk ρ i) λd=>kI d λm=>Te ρ μ λw μ1=>kI w λn=>ax i (.int (f m n)) ρ μ1 E.nx
theorem MA {te:TE}{K:Wj}{f:Int->Int->Int}{j:Nat}(se:Sim K te Te):Iw K (Sg j te (ipI f)) (MD f j Te):=λσ H ρ μ E E' rl h k=>by
 obtain ⟨d,e1,h⟩:=jz h
 obtain ⟨v,ev,pv⟩:=rl.loc j d e1
 cases pv with
 | int m=>
  refine ⟨.int m,ev,se σ H ρ μ _ _ rl h λw H1 dw μ1 t1 m1 p1 h1=>?_⟩
  cases p1 with
  | int n=>exact ⟨m,n,rfl,rfl,k.nx _ _ _ _ t1 ((rl.go t1 m1).set (.int _) j) h1⟩
  | _=>exact Ww h1
 | _=>exact Ww h
theorem E1 (j:Nat){x:Str}(hN:X.N.Nodup)(he:LE X e Te)(hi:X.N[j]? = some x:=by rfl)(hx:Loc X.env.scope x:=by first | exact ZV rfl | exact ZW rfl)(hf:X.fn x=true∨X.env.scope.names.lookup x=some .local:=by first | exact .inl rfl | exact .inr rfl | assumption) :
  LS X (.AugAssign (.Name x tpos) .Add e pos) (MD (λm n=>m+n) j Te):=by
 obtain ⟨te,pe,se⟩:=he.ex
 exact ⟨_,OP hN hi hx pe PQ hf,MA se⟩
def UX (K:Wj)(trs:List (TE×TE))(ks:List Key)(T:ATr):Prop:=∀ σ H ρ μ (Q:List D->Mu->Prop) (Q':List (V×V)->Hp->Prop),Rl K σ H ρ μ->T ρ μ Q->
 (∀ vs H' ds μ',Tk H H'->bM K H' μ'->vs.length=ks.length->DpL K H' vs ds->Q ds μ'->Q' ((ks.map kV).zip vs) H')->wu trs σ H Q'
structure LPs (X:Cx) (pos:Pos) (keys:List (Option WX)) (values:List WX) (ks:List Key) (T:ATr):Prop where
 ex:∃ trs,PPs X pos keys values trs/\UX X.K trs ks T
theorem Mi:LPs X pos [] [] [] av:=⟨[],MP,λσ H ρ μ Q Q' rl h k=>k [] H [] μ (.refl H) rl.mu rfl .nil h⟩
theorem kE {s:Str}{j}{p:Pos}{ks:List (Option WX)}{vs:List WX}{kk:List Key}{At:ATr}(hv:LE X value Te)(hr:LPs X pos ks vs kk At):LPs X pos (some (.Constant (.str s) j p)::ks) (value::vs) (.inr s::kk) (ah Te At):=by
 obtain ⟨te,pe,se⟩:=hv.ex
 obtain ⟨trs,pr,sr⟩:=hr.ex
 refine ⟨_,IZ JM pe pr,λσ H ρ μ Q Q' rl h k=>?_⟩
 refine se σ H ρ μ _ _ rl h λy H1 dy μ1 t1 m1 p1 h1=>sr σ H1 ρ μ1 _ _ (rl.go t1 m1) h1 λvs H2 ds μ2 t2 m2 hl p2 h2=>?_
 exact k (y::vs) H2 (dy::ds) μ2 (t1.trans t2) m2 (by simp[hl]) (.cons (p1.mono t2) p2) h2
def HP (ks:List Key)(At:ATr):ETr:=λρ μ Q=>∀ p,μ p=none->At ρ (up μ p (.dct [])) λds μ2=>kD μ2 p λkvs=>kvs=[]/\Q (.obj p) (up μ2 p (.dct (ks.zip ds)))
theorem Jm {acc:List (Key×V)}{k:Key}{v:V}(h:gi acc k=some v):k∈acc.map (·.1):=by
 unfold gi at h
 obtain ⟨p,hp,_⟩:=zbv.mp h
 have h1:=zaH hp
 have h2:=List.find?_some hp
 exact Wq.mpr ⟨p,h1,of_decide_eq_true h2⟩
theorem rY:∀ (kvs acc:List (Key×V)),((acc++kvs).map (·.1)).Nodup->eB acc kvs=acc++kvs
 | [],acc,_=>by simp[eB]
 | p::r,acc,h=>by
  have hn:gi acc p.1=none:=by
   cases e:gi acc p.1 with
   | none=>rfl
   | some v=>
    exfalso
    have:=Jm e
    rw[WQ,WE] at h
    exact (YF.mp h).2.2 _ this _ WL rfl
  show eB (putK acc p.1 p.2) r=_
  rw[G0 p.2 hn]
  rw[rY r (acc++[(p.1,p.2)]) (by simpa using h)]
  simp
theorem yM:∀ (ks:List Key) (vs:List V),(ks.map kV).zip vs=(ks.zip vs).map λkv=>(kV kv.1,kv.2)
 | [],_=>by simp
 | _::_,[]=>by simp
 | k::ks,v::vs=>by simp[yM ks vs]
theorem DpK.zip {K:Wj}{H:Hp}:∀ {ks:List Key} {vs:List V} {ds:List D},DpL K H vs ds->DpK K H (ks.zip vs) (ks.zip ds)
 | [],_,_,_=>by simp;exact .nil
 | _::_,_,_,.nil=>by simp;exact .nil
 | k::ks,_,_,.cons p l=>.cons p (DpK.zip l)
theorem Nk {keys:List (Option WX)}{values:List WX}{ks:List Key}{At:ATr}(h:LPs X pos keys values ks At)(hall:keys.all (·.isSome)=true:=by rfl)(hl:keys.length=values.length:=by rfl)(h0:keys≠[]:=by nofun)
  (h15:keys.length<=15:=by decide) (hk:keys.length=ks.length:=by rfl) (hn:ks.Nodup:=by decide):LE X (.Dict keys values pos) (HP ks At):=by
 obtain ⟨trs,pr,sr⟩:=h.ex
 refine ⟨_,Lo pr hall hl h0 h15,λσ H ρ μ Q Q' rl h k p hp=>?_⟩
 refine sr σ _ ρ _ _ _ (rl.go (.new hp) (Cq rl.mu hp .nil)) (h p (rl.mu.free hp)) λvs H2 ds μ2 t2 m2 hvl p2 h2=>?_
 obtain ⟨kvs,e0,rfl,h2⟩:=mY h2
 obtain ⟨xs,ex,l⟩:=m2 p _ e0
 have:xs=[]:=by have:=l.length;cases xs with | nil=>rfl | cons=>simp at this
 subst this
 refine ⟨ex,ks.zip vs,yM ks vs,by rw[zdF];omega,?_⟩
 have e:eB [] (ks.zip vs)=ks.zip vs:=by
  have:=rY (ks.zip vs) [] (by rw[Yc,List.map_fst_zip (by omega)];exact hn)
  simpa using this
 rw[e]
 exact k _ _ _ _ ((Tk.new hp).trans (t2.trans (nj ex))) (Cf m2 ex (.zip p2)) (.obj p) h2
end
end
section
open PySem PySem.Spec PyProof.Rows L2
theorem EO:zdP (.type "list") (OF "keys")=pure none:=am_miss_of_fast (by kernel_rfl)
theorem O5 {prog:W7}{w:Xh}{A:XA}{E:Wo->Wu->Prop}{s:Wu}{a:Addr}{o:Obj}{xs:Array Wo}{k:Nat}{Q:Option Wo->Wu->Prop}
  (hx:s.heap.get? a=some o) (hc:o.cls=.type "list") (hdat:o.data=.seq xs k) (hd:o.dict=none) (hA:A.handled=none)
  (h:∀ h' tk,(∀ b ob,s.heap.get? b=some ob->h'.get? b=some ob)->Q none { s with heap:=h',toks:=tk }) :
  WT (WW prog w) A (getAttr? (.ref a) "keys") Q E s:=by
 obtain ⟨c,dct,dat,sl⟩:=o
 simp only at hc hdat hd
 subst hc hdat hd
 obtain ⟨hp,g,d,tk,os⟩:=s
 have hT:∀ tk',(⟨hp,g,d,tk',os⟩:Wu).TypeIs (.ref a) "list" := λ_=>⟨_,hx,rfl⟩
 have f1:=sub_AttributeError
 have f3:=Zw.lookup
 have f4:=Zw.bind (.ref a)
 have f5:=am_list_getattr_none
 unfold getAttr? getAttrBy? getAttrBy
 repeat (any_goals (first | assumption | exact hT _ | ((with_reducible show WT _ _ (zcj (Value.builtin "list.__getattribute__") _ _) _ _ _);refine Z5 Zw (hT _) am_entry_list_getattribute (F.args_list_getattribute_2 _ _) (meets_getattribute_miss_list a xs k sl (OF "keys") _ EO (by decide +kernel) (by decide +kernel)) ⟨hx,hA,λh' tk' e hx'=>?_⟩) | wp_step))
 obtain ⟨t',u',he⟩:=hx'.there
 show WT _ _ (zcO _ _ _ _ _ _ _) _ _ _
 unfold zcO
 repeat (any_goals (first | assumption | wp_step))
 exact h _ _ hx'.keeps
theorem l5:plainId "dict.update.loop" = true:=by decide +kernel
theorem zr:entryFor table "dict.update.loop" = some Z9.«dict.update.loop»:=entryFor_of_fast (by kernel_rfl)
inductive fZ {prog:W7} {w:Xh} {κ:Type} [DecidableEq κ] (knd:KeyKind prog w κ) (h:Heap):List Wo->List (κ×Wo)->Prop
 | nil:fZ knd h [] []
 | cons {a:Addr} {u v:Wo} {k:κ} {us:List Wo} {r:List (κ×Wo)}:zdr h a #[u,v]->knd.is k u=true->fZ knd h us r->fZ knd h (.ref a::us) ((k,v)::r)
section
variable {prog:W7} {w:Xh} {κ:Type} [DecidableEq κ] {knd:KeyKind prog w κ}
theorem fZ.keeps {h h':Heap}(kp:∀ b o,h.get? b=some o->o.cls=.type "tuple" -> h'.get? b=some o):∀ {us:List Wo} {r:List (κ×Wo)},fZ knd h us r->fZ knd h' us r
 | _,_,.nil=>.nil
 | _,_,.cons t k r=>.cons (by obtain ⟨o,e,c,n,d⟩:=t;exact ⟨o,kp _ o e c,c,n,d⟩) k (r.keeps kp)
theorem yi {A:XA}{R:zdh->Wu->Prop}{d it l:Addr}{items:Array Wo}(hA:A.handled=none)(n1:d≠it)(n2:l≠it)(n3:l≠d) :
  ∀ (us:List Wo) (r:List (κ×Wo)) (i:Nat) (kvs:List (κ×Wo)) (s:Wu),items.toList.drop i=us->fZ knd s.heap us r->s.heap.IsListIter it l i->s.heap.IsList l items->s.heap.DictOf knd d kvs->kvs.length+r.length<=sizeLine->
   (∀ h' tk,h'.DictOf knd d (merged kvs r)->(∀ b o,b≠it->b≠d->s.heap.get? b=some o->h'.get? b=some o)->R (.ok (.ret .none)) { s with heap:=h',toks:=tk })->
   WT (WW prog w) A.in1 (Z9.«dict.update.loop» ⟨[.ref d,.ref it,zaw i,.none],[]⟩) (λfin s'=>match fin with | .done f=>R (.ok f) s' | .again c'=>c'.quiet=true/\Y4 (WW prog w) A c' R s') (λe s'=>R (.error e) s') s
 | [],r,i,kvs,s,hd,P,hit,hl,hm,hz,h=>by
  cases P
  have hx:items[i]? = none:=by
   have:items.toList.length<=i:=by
    have:=congrArg Xr hd
    simp at this;simp;omega
   simpa using this
  show WT _ _ (Zz (.ref it) >>= _) _ _ _
  refine Wl (zbO (by exact hA) hit hl hx λh' k=>?_)
  show WT _ _ (zd8 d [] >>= _) _ _ _
  refine Wl (WD (WD ?_))
  refine h h' s.toks ?_ λb o hb _ e=>k b o hb e
  obtain ⟨o,es,ep,ho,rest⟩:=hm
  exact ⟨o,es,ep,k d o n1 ho,rest⟩
 | u::us,r,i,kvs,s,hd,P,hit,hl,hm,hz,h=>by
  cases P with
  | @cons a ku v k _ r tp hk P=>
  have hx:items[i]? = some (.ref a):=by
   have:items.toList[i]? = some (.ref a):=by
    have:=congrArg (λl=>l[0]?) hd
    simpa using this
   simpa using this
  have hd':items.toList.drop (i+1)=us:=by
   have:=congrArg List.tail hd
   simpa using this
  show WT _ _ (Zz (.ref it) >>= _) _ _ _
  refine Wl (zbo hit hl hx λh1 it1 k1=>?_)
  have ne_it:∀ b o,s.heap.get? b=some o->o.cls≠.type "list_iterator" -> b≠it:=λb o e c z=>by
   subst z
   obtain ⟨o',e',c',_⟩:=hit
   rw[e] at e';cases e';exact c c'
  have tp1:zdr h1 a #[ku,v]:=by
   obtain ⟨o,e,c,n,dd⟩:=tp
   exact ⟨o,(k1.2 a (ne_it a o e (by rw[c];decide))).trans e,c,n,dd⟩
  obtain ⟨o,e,c,n,dd⟩:=tp1
  have hm1:h1.DictOf knd d kvs:=by
   obtain ⟨o,es,ep,ho,rest⟩:=hm
   exact ⟨o,es,ep,(k1.2 d n1).trans ho,rest⟩
  have hl1:h1.IsList l items:=by
   obtain ⟨o,e,c,n,dd⟩:=hl
   exact ⟨o,(k1.2 l n2).trans e,c,n,dd⟩
  dsimp only
  refine Wl (Y1 ?_)
  refine Wl (Zd ?_)
  unfold zeh
  refine Wl (wpAny_typeOf (T := "tuple") ⟨o,e,c⟩ ?_)
  rw[if_pos (by decide)]
  refine Wl (XQ e dd (WD ?_))
  show WT _ _ (zbm [ku,v] (dictSet d ku v)) _ _ _
  refine Y1 (wpAny_dictSet_pairs (hsz:=by have:=hz;simp at this;omega) hk hm1 λh2 hm2 k2=>?_)
  refine WD ?_
  refine ⟨YK l5 _,zbI zr ?_⟩
  rw[zad l5 _]
  have kp:∀ b o,b≠it->b≠d->s.heap.get? b=some o->h2.get? b=some o:=λb o b1 b2 q=>(k2.2 b b2).trans ((k1.2 b b1).trans q)
  have ci:((i:Int)+1)=((i+1:Nat):Int):=by push_cast;rfl
  have nd:∀ b o,s.heap.get? b=some o->o.cls≠.type "dict" -> b≠d:=λb o q c z=>by
   subst z
   obtain ⟨o',_,_,e',ex,_⟩:=hm
   rw[q] at e';cases e';exact c ex.1
  show WT _ _ (Z9.«dict.update.loop» ⟨[.ref d,.ref it,zaw ((i:Int)+1),.none],[]⟩) _ _ _
  rw[ci]
  refine yi hA n1 n2 n3 us r (i+1) (stored kvs k v) _ hd' (P.keeps λb o q c=>kp b o (ne_it b o q (by rw[c];decide)) (nd b o q (by rw[c];decide)) q) ?_ ?_ hm2 ?_ ?_
  ·obtain ⟨o,e,c⟩:=it1
   exact ⟨o,(k2.2 it (W9 n1)).trans e,c⟩
  ·obtain ⟨o,e,c⟩:=hl1
   exact ⟨o,(k2.2 l n3).trans e,c⟩
  ·have:=stored_length_le kvs k v
   simp at hz;omega
  ·intro h' tk hm' kp'
   exact h h' tk hm' λb o b1 b2 q=>kp' b o b1 b2 (kp b o b1 b2 q)
end
end
section
open PySem PySem.Spec PyProof.Rows L2
section
variable {prog:W7} {w:Xh} {κ:Type} [DecidableEq κ] {knd:KeyKind prog w κ}
theorem oX {A:XA}{E:Wo->Wu->Prop}{s:Wu}{l:Addr}{o:Obj}{items:Array Wo}{k:Nat}{r:List (κ×Wo)}{Q:Wo->Wu->Prop}(hA:A.handled=none)
  (hx:s.heap.get? l=some o) (hc:o.cls=.type "list") (hdat:o.data=.seq items k) (hd:o.dict=none) (P:fZ knd s.heap items.toList r) (hz:r.length<=sizeLine)
  (h:∀ h' tk,h'.DictOf knd s.heap.objs.size (merged [] r)->(∀ b o,s.heap.get? b=some o->h'.get? b=some o)->Q (.ref s.heap.objs.size) { s with heap:=h',toks:=tk }) :
  WT (WW prog w) A (zcj (.type "dict") [.ref l]) Q E s:=by
 refine callType_codes (Q₁:=λobj s₁=>obj=.ref s.heap.objs.size/\s₁={ s with heap:=s.heap.push { cls:=.type "dict", data:=.dict #[] } }) F.kt_called_dict (F.kt_typeCall_dict_1 _) F.entry_dict_init (kt_code_dict_new _ ⟨rfl,rfl⟩) ?_
 rintro obj s₁ ⟨rfl,rfl⟩
 have KO:(s.heap.push { cls:=.type "dict", data:=.dict #[] }).DictOf knd s.heap.objs.size []:=zdB s.heap
 have hx1:(s.heap.push { cls:=.type "dict", data:=.dict #[] }).get? l=some o:=Wn _ hx
 have ll:l < s.heap.objs.size:=WJ hx
 refine ⟨KO.typeIs,F.args_dict_init_2 _ _,?_⟩
 unfold Z9.«dict.__init__»
 refine Wl ?_
 unfold zd9
 refine Wl (wpAny_notOrdered_dict KO.typeIs ?_)
 show WT _ _ (pure (s.heap.objs.size,[Xc l])) _ _ _
 refine WD ?_
 show WT _ _ (zbd "dict.__init__" s.heap.objs.size (.ref l) [] .none) _ _ _
 unfold zbd
 refine Wl (wpAny_typeOf (T := "list") ⟨o,hx1,hc⟩ ?_)
 rw[if_pos (by decide)]
 refine Wl (O5 hx1 hc hdat hd hA λh1 tk1 kp1=>?_)
 rw[if_pos (by decide)]
 refine Wl (YV ?_)
 have hx2:h1.get? l=some o:=kp1 _ _ hx1
 have hl2:h1.IsList l items:=⟨o,hx2,hc,k,hdat⟩
 have lt1:s.heap.objs.size < h1.objs.size:=by
  obtain ⟨o',es,ep,ho,_⟩:=KO
  exact WJ (kp1 _ _ ho)
 refine Wl (ZR hl2 ?_)
 refine Wl (WD (WD ?_))
 refine ⟨YK l5 _,zbI zr ?_⟩
 rw[zad l5 _]
 have kp2:∀ b o,s.heap.get? b=some o->(h1.push { cls:=.type "list_iterator", data:=.fields #[.ref l,.int 0 0] }).get? b=some o:=λb o q=>Wn _ (kp1 _ _ (Wn _ q))
 refine yi (A:=A.in1) (knd:=knd) (it:=h1.objs.size) (d:=s.heap.objs.size) (l:=l) (items:=items) (R:=wants (λr s₂=>r=YG/\Q (Xc s.heap.objs.size) s₂) E) hA (W0 lt1) (W0 (zcZ ll lt1)) (W0 ll) items.toList r 0 [] _ rfl ?_ ?_ ?_ ?_ (by simpa using hz) ?_
 ·exact P.keeps λb o q _=>kp2 b o q
 ·exact ⟨_,WN _ rfl,rfl,rfl⟩
 ·exact ⟨o,Wn _ hx2,hc,k,hdat⟩
 ·obtain ⟨o',es,ep,ho,rest⟩:=KO
  exact ⟨o',es,ep,Wn _ (kp1 _ _ ho),rest⟩
 ·intro h' tk hm' kp'
  refine ⟨rfl,h h' tk hm' λb o q=>?_⟩
  have hb:b < s.heap.objs.size:=WJ q
  exact kp' b o (W0 (zcZ hb lt1)) (W0 hb) (kp2 b o q)
end
def dK:Key->D
 | .inl i=>.int i
 | .inr s=>.str s
def AM (kv:Key×D):D:=.tup [dK kv.1,kv.2]
def jy (kvs more:List (Key×D)):List (Key×D):=more.foldl (λacc kv=>putD acc kv.1 kv.2) kvs
inductive fD (K:Wj) (H:Hp):List V->List (Key×V)->Prop
 | nil:fD K H [] []
 | cons {a:Addr} {k:Key} {v:V} {ys:List V} {r:List (Key×V)}:SqT K H a [kV k,v]->fD K H ys r->fD K H (.ref a::ys) ((k,v)::r)
theorem fD.at {X:Cx}{pins:List (Addr×Obj)}{σ:L2.St}{H:Hp}{s:Wu}(I:Inv X pins σ H s):∀ {ys:List V} {kvs:List (Key×V)} {us:List Wo},fD X.K H ys kvs->Vals ys us->∃ r,fZ (bI X.prog X.w) s.heap us r/\KV kvs r
 | _,_,_,.nil,.nil=>⟨[],.nil,.nil⟩
 | _,_,_,@fD.cons _ _ a k v ys r sq h,.cons ru rs=>by
  cases (show _=Xc a from ru)
  obtain ⟨r,p,q⟩:=h.at I rs
  obtain ⟨its,vs,it,_⟩:=I.tuple sq
  cases vs with | @cons _ u1 _ _ r1 vs=>cases vs with | @cons _ u2 _ _ r2 vs=>
  cases vs
  exact ⟨(k,u2)::r,.cons it (uI r1) p,.cons ⟨rfl,r2⟩ q⟩
theorem lN {X:Cx}(hc:X.calm=true):cH X (.type "dict") (λxs H Q=>∃ l ys kvs,xs=[.ref l]/\SqL X.K H l ys/\fD X.K H ys kvs/\kvs.length<=sizeLine/\∀ p,H p=none->Q (.ref p) (L2.upd H p (.dK (eB [] kvs)))):=by
 intro pins s σ H xs us Q I rx h
 obtain ⟨l,ys,kvs,rfl,sq,pv,hz,q⟩:=h
 obtain ⟨u,rfl,ru⟩:=vals1 rx
 cases (show u=Xc l from ru)
 obtain ⟨its,vs,pl,_⟩:=I.list sq
 obtain ⟨o,n,e,c,hd,hdat⟩:=pl
 obtain ⟨r,pr,kv⟩:=pv.at I vs
 refine oX (knd:=bI X.prog X.w) (I.ok.hd hc) e c hdat hd (r:=r) (by simpa using pr) (by rw[← kv.length];exact hz) λh' tk dd kp=>?_
 have hl:(eB [] kvs).length<=sizeLine:=by have:=ie kvs [];simp at this;omega
 exact ⟨.ref s.heap.objs.size,_,I.laid (a:=s.heap.objs.size) (o:=.dK (eB [] kvs)) kp (WG _) (BG hl (beq_eq_false_iff_ne.mpr (W9 (W0 I.big))) (KV.merge kv .nil) dd),rfl,q _ (I.hok.fresh (WG _))⟩
def tY:FSp:=λds μ Q=>match ds with
 | [.ls xs]=>∃ kvs:List (Key×D),xs=kvs.map AM/\kvs.length<=1000000/\∀ p,μ p=none->Q (.obj p) (up μ p (.dct (jy [] kvs)))
 | _=>False
theorem QU {K:Wj}{H:Hp}{v:V}{k:Key}(h:Dp K H v (dK k)):v=kV k:=by
 cases k with
 | inl i=>cases h;rfl
 | inr s=>cases h;rfl
theorem fD.of {K:Wj}{H:Hp}:∀ {kvs:List (Key×D)} {xs:List V},DpL K H xs (kvs.map AM)->∃ r,fD K H xs r/\DpK K H r kvs
 | [],_,h=>by cases h;exact ⟨[],.nil,.nil⟩
 | kv::kvs,_,h=>by
  obtain ⟨k,d⟩:=kv
  cases h with
  | cons p l=>
   obtain ⟨r,h1,h2⟩:=fD.of l
   cases p with
   | tup sq lp=>
    cases lp with | cons p1 lp=>cases lp with | cons p2 lp=>
    cases lp
    cases QU p1
    exact ⟨(k,_)::r,.cons sq h1,.cons p2 h2⟩
theorem DpK.merge {K:Wj}{H:Hp}{xs:List (Key×V)}{kvs:List (Key×D)}(h:DpK K H xs kvs):∀ {axs:List (Key×V)} {akvs:List (Key×D)},DpK K H axs akvs->DpK K H (eB axs xs) (jy akvs kvs):=
 DpK.ind (P:=λxs kvs=>∀ {axs:List (Key×V)} {akvs:List (Key×D)},DpK K H axs akvs->DpK K H (eB axs xs) (jy akvs kvs)) (λh=>h) (λk v d xs kvs p _ ih axs akvs ha=>ih (ha.put k p)) h
theorem rN {K:Wj}:mK K (λxs H Q=>∃ l ys kvs,xs=[.ref l]/\SqL K H l ys/\fD K H ys kvs/\kvs.length<=sizeLine/\∀ p,H p=none->Q (.ref p) (L2.upd H p (.dK (eB [] kvs)))) tY:=λH μ xs ds Q Q' m p h k=>by
 unfold tY at h
 split at h
 ·obtain ⟨kvs,rfl,hl,h⟩:=h
  cases p with | cons p1 p2=>
  cases p2
  cases p1 with
  | ls q l=>
   obtain ⟨r,h1,h2⟩:=fD.of l
   exact ⟨_,_,r,rfl,q.sq,h1,by rw[h2.length];exact big hl,λz hz=>k _ _ _ _ (.new hz) (Cq m hz (h2.merge .nil)) (.obj z) (h z (m.free hz))⟩
 ·exact Ww h
end
section
open PySem PySem.Spec PyProof.Rows L2
section
variable {X:Cx} {o i a b c e value:WX} {To Ti Ta Tb Te:ETr} {pos tpos apos cpos:Pos}
def PH (To Ti:ETr):ETr:=λρ μ Q=>To ρ μ λx μ1=>kObj x λa=>kL μ1 a λ_=>Ti ρ μ1 λy μ2=>kI y λj=>(-9223372036854775808<=j/\j < 9223372036854775808)/\kL μ2 a λds=>kN (L2.ixN ds.length j) λk=>kO ds[k]? λd=>Q d (up μ2 a (.lst (ds.eraseIdx k)))
theorem Im {n k:Nat}{j:Int}(h:L2.ixN n j=some k):zce j n=some k:=by
 unfold L2.ixN at h
 unfold zce
 split at h
 ·split at h
  ·cases h
   rename_i h1 h2
   simp[show ¬ (j < 0) by omega,h1,h2]
  ·cases h
 ·split at h
  ·cases h
   rename_i h1 h2
   simp[show j < 0 by omega]
   omega
  ·cases h
theorem DpL.erase {K:Wj}{H:Hp}:∀ {vs:List V} {ds:List D} (i:Nat),DpL K H vs ds->DpL K H (vs.eraseIdx i) (ds.eraseIdx i)
 | _,_,_,.nil=>by simp;exact .nil
 | _,_,0,.cons _ l=>l
 | _,_,i+1,.cons q l=>.cons q (DpL.erase i l)
theorem Qb (ho:LE X o To)(hi:LE X i Ti)
  (hbase:Zu o "pop" X.env (XJ o X.env)=XJ o X.env:=by rfl)
  (hfew:((X3 cpos (WH [i] X.env)).all (λx=>!x.1)&&(zax cpos (Y7 [] X.env)).all (λx=>x.1.isSome)
   && decide (([i]:List WX).length+([]:List Zh).length+(if ([]:List Zh).isEmpty then 0 else 1) < 30))=true:=by rfl)
  (hline:(apos.endLine == cpos.line)=true:=by rfl) (hs:WH [i] X.env=(false,XJ i X.env)::WH [] X.env:=by rfl) (hplain:(X3 cpos (WH [] X.env)).any (·.1)=false:=by rfl) :
  LE X (.Call (.Attribute o "pop" apos) [i] [] cpos) (PH To Ti):=by
 obtain ⟨to,po,so⟩:=ho.ex
 obtain ⟨ti,pi,si⟩:=hi.ex
 refine ⟨_,zu Yk PySem.F.slot_list_pop PySem.F.type_list_pop IC po (fm pi iQ hs) hbase hfew hline hs hplain,λσ H ρ μ Q Q' rl h k=>so σ H ρ μ _ _ rl h λx H1 dx μ1 t1 m1 p1 h1=>?_⟩
 obtain ⟨q,rfl,h1⟩:=dD p1 h1
 obtain ⟨ds0,e0,h1⟩:=bU h1
 obtain ⟨xs0,ex0,_⟩:=m1 q _ e0
 refine ⟨.inl ⟨rfl,_,SqL.of ex0⟩,si σ H1 ρ μ1 _ _ (rl.go t1 m1) h1 λy H2 dy μ2 t2 m2 p2 h2=>?_⟩
 cases p2 with
 | int j=>
  obtain ⟨hr,h2⟩:=h2
  obtain ⟨ds,e2,h3⟩:=bU (show kL μ2 q _ from h2)
  obtain ⟨kk,e3,h3⟩:=HM h3
  obtain ⟨d,e4,h3⟩:=jz h3
  obtain ⟨xs,ex,l⟩:=m2 q _ e2
  obtain ⟨v,ev,pv⟩:=l.get e4
  have e3':L2.ixN xs.length j=some kk:=by rw[l.length];exact e3
  exact ⟨q,xs,j,kk,v,rfl,rfl,ex,by omega,by omega,Im e3',ev,k _ _ _ _ ((t1.trans t2).trans (lI ex)) (J2 m2 ex (l.erase kk)) (pv.mono (lI ex)) h3⟩
 | _=>exact Ww h2
end
noncomputable def lG (h:Heap) (dx:PyData) (y:Wo):Bool:=@decide (∃ d as,Reads h y d as/\zdT d=true/\YI d dx=true) (ZN _)
theorem DI {h:Heap}{dx d:PyData}{y:Wo}{as:List Addr}(r:Reads h y d as)(hd:d.canLay0=true):lG h dx y=YI d dx:=by
 unfold lG
 cases e:YI d dx with
 | true=>exact @decide_eq_true _ (ZN _) ⟨d,as,r,hd,e⟩
 | false=>
  refine @decide_eq_false _ (ZN _) ?_
  rintro ⟨d',as',r',hd',e'⟩
  cases SeqAt.Reads.unique _ _ _ _ _ hd r r'
  rw[e] at e';cases e'
theorem Cz {n:Nat}:∀ {ds:List D} {d:D},cz n ds=true->d∈ds->okD n d=true
 | x::r,d,h,hm=>by
  have h':okD n x=true/\cz n r=true:=by simpa[cz] using h
  rcases WM.mp hm with rfl | hm
  ·exact h'.1
  ·exact Cz h'.2 hm
section
variable {X:Cx} {pins:List (Addr×Obj)} {σ:L2.St} {H:Hp} {s:Wu}
theorem item_at (I:Inv X pins σ H s){vs:List V}{ds:List D}{us:List Wo}(l:DpL X.K H vs ds)(r:Vals vs us)(ok:cz 38 ds=true){dy:D}{y:Wo}{bs:List Addr}(oy:okD 38 dy=true)(ry:Reads s.heap y (toP dy) bs)(hu:X.A.units+64 < cLine)
  {m:Nat} {u:Wo} (hm:us[m]? = some u):∃ d,ds[m]? = some d/\lG s.heap (toP dy) u=eqD d dy/\zd0 X.A.in1 s u y (lG s.heap (toP dy) u):=by
 have hlt:m < vs.length:=by rw[r.length];exact (W4.mp hm).1
 obtain ⟨u',e1,rv⟩:=r.get (WK hlt)
 rw[hm] at e1;cases e1
 obtain ⟨d,ed,pd⟩:=l.get' (WK hlt)
 have od:=Cz ok (YD ed)
 obtain ⟨as,ra⟩:=dk I pd od rv
 obtain ⟨l1,d1⟩:=gH 38 d od
 obtain ⟨l2,d2⟩:=gH 38 dy oy
 have e:=DI (dx:=toP dy) ra l1
 refine ⟨d,ed,by rw[e,mO 38 38 d dy od oy],?_⟩
 rw[e]
 exact SeqAt.eqAt_reads _ _ _ s _ _ _ _ ra ry l1 l2 (by have:=zbD (toP d).depth (toP dy).depth;rw[Around.in1_units];omega)
end
def Es (ds:List D)(x:D):Option Nat:=ds.findIdx? λy=>eqD y x
theorem Hu {X:Cx}(hu:X.A.units+64 < cLine):MtM X "list.index" (λx vs H Q=>∃ p xs y ds dy,∃ j:Nat,x=.ref p/\vs=[y]/\SqL X.K H p xs/\DpL X.K H xs ds/\Dp X.K H y dy/\cz 38 ds=true/\okD 38 dy=true/\Es ds dy=some j/\j < 1000000/\Q (.int j) H):=by
 intro pins s σ H x vs v us Q I rx rv h
 obtain ⟨p,xs,y,ds,dy,j,rfl,rfl,sq,l,py,ok,oy,hj,hj2,q⟩:=h
 cases (show v=Xc p from rx)
 obtain ⟨u,rfl,ru⟩:=rv.one
 obtain ⟨its,r,⟨o,n,e,c,hd,hdat⟩,_⟩:=I.list sq
 obtain ⟨bs,rb⟩:=dk I py oy ru
 have he:s.heap.get? p=some ⟨.type "list", none,.seq its.toArray n,o.slots⟩:=by
  rw[e];obtain ⟨c',dd,dt,sl⟩:=o;simp only at c hd hdat;subst c hd hdat;rfl
 unfold Es at hj
 rw[ZO] at hj
 obtain ⟨h1,h2,h3⟩:=hj
 have hl:ds.length=its.length:=by rw[← l.length,r.length]
 have at':∀ m (hm:m < its.toArray.size),∃ d,ds[m]? = some d/\lG s.heap (toP dy) its.toArray[m]=eqD d dy/\zd0 X.A.in1 s its.toArray[m] u (lG s.heap (toP dy) its.toArray[m]):=λm hm=>
  item_at I l r ok oy rb hu (by simp at hm ⊢)
 refine Z5 F.slot_list_index ⟨_,he,rfl⟩ F.entry_list_index (F.args_list_index_2 _ _) (SeqAt.list_indexAt p its.toArray n none o.slots u (lG s.heap (toP dy)) j (by simp;omega) (by omega) ?_ ?_) ⟨he,λw hw=>?_,?_⟩
 ·obtain ⟨d,e1,e2,_⟩:=at' j (by simp;omega)
  rw[e2]
  rw[WK h1] at e1;cases e1
  exact h2
 ·intro m hm hlt
  obtain ⟨d,e1,e2,_⟩:=at' m hm
  rw[e2]
  have hm':m < ds.length:=by simp at hm;omega
  rw[WK hm'] at e1;cases e1
  have:=h3 m hlt
  simpa using this
 ·obtain ⟨m,hm,rfl⟩:=zbQ.mp hw
  obtain ⟨d,_,_,e3⟩:=at' m hm
  exact e3
 ·exact ⟨.int j,H,I.tok _,⟨_,rfl⟩,q⟩
section
variable {X:Cx} {o i a b c e value:WX} {To Ti Ta Tb Te:ETr} {pos tpos apos cpos:Pos}
def qg (μ:Mu)(x:D)(f:List D->Prop):Prop:=match x with
 | .ls ds=>f ds
 | .obj a=>kL μ a f
 | _=>False
theorem mE {K:Wj}{H:Hp}{μ:Mu}{x:V}{dx:D}{f:List D->Prop}(m:bM K H μ)(p:Dp K H x dx)(h:qg μ dx f):∃ q xs ds,x=.ref q/\SqL K H q xs/\DpL K H xs ds/\f ds:=by
 cases p with
 | ls sq l=>exact ⟨_,_,_,rfl,sq.sq,l,h⟩
 | obj q=>
  obtain ⟨ds,e0,h⟩:=bU h
  obtain ⟨xs,ex,l⟩:=m q _ e0
  exact ⟨q,xs,ds,rfl,SqL.of ex,l,h⟩
 | _=>exact Ww h
def Bv (To Ti:ETr):ETr:=λρ μ Q=>To ρ μ λx μ1=>qg μ1 x λ_=>Ti ρ μ1 λy μ2=>qg μ2 x λds=>(cz 38 ds=true/\okD 38 y=true)/\kN (Es ds y) λj=>j < 1000000/\Q (.int j) μ2
theorem G5 (hu:X.A.units+64 < cLine)(ho:LE X o To)(hi:LE X i Ti)
  (hbase:Zu o "index" X.env (XJ o X.env)=XJ o X.env:=by rfl)
  (hfew:((X3 cpos (WH [i] X.env)).all (λx=>!x.1)&&(zax cpos (Y7 [] X.env)).all (λx=>x.1.isSome)
   && decide (([i]:List WX).length+([]:List Zh).length+(if ([]:List Zh).isEmpty then 0 else 1) < 30))=true:=by rfl)
  (hline:(apos.endLine == cpos.line)=true:=by rfl) (hs:WH [i] X.env=(false,XJ i X.env)::WH [] X.env:=by rfl) (hplain:(X3 cpos (WH [] X.env)).any (·.1)=false:=by rfl) :
  LE X (.Call (.Attribute o "index" apos) [i] [] cpos) (Bv To Ti):=by
 obtain ⟨to,po,so⟩:=ho.ex
 obtain ⟨ti,pi,si⟩:=hi.ex
 refine ⟨_,zu Yk PySem.F.slot_list_index PySem.F.type_list_index (Hu hu) po (fm pi iQ hs) hbase hfew hline hs hplain,λσ H ρ μ Q Q' rl h k=>so σ H ρ μ _ _ rl h λx H1 dx μ1 t1 m1 p1 h1=>?_⟩
 obtain ⟨q,xs0,ds0,rfl,sq0,l0,h1⟩:=mE m1 p1 h1
 refine ⟨.inl ⟨rfl,_,sq0⟩,si σ H1 ρ μ1 _ _ (rl.go t1 m1) h1 λy H2 dy μ2 t2 m2 p2 h2=>?_⟩
 obtain ⟨q',xs,ds,eq,sq,l,h2⟩:=mE m2 (p1.mono t2) h2
 cases eq
 obtain ⟨⟨o1,o2⟩,h2⟩:=h2
 obtain ⟨j,ej,hj,h2⟩:=HM h2
 exact ⟨q,xs,y,ds,dy,j,rfl,rfl,sq,l,p2,o1,o2,ej,hj,k _ H2 _ μ2 (t1.trans t2) m2 (.int _) h2⟩
def inG (x:D)(ds:List D):Bool:=ds.any λy=>eqD y x
def GI (K:Wj)(neg:Bool):L2.R2:=λx y H Q=>∃ p xs ds dx,y=.ref p/\(SqL K H p xs∨SqT K H p xs)/\DpL K H xs ds/\Dp K H x dx/\cz 38 ds=true/\okD 38 dx=true/\Q (.bl (if neg then !inG dx ds else inG dx ds)) H
theorem qc {pins:List (Addr×Obj)}{σ:L2.St}{H:Hp}{s:Wu}(I:Inv X pins σ H s)(hu:X.A.units+64 < cLine){vs:List V}{ds:List D}{us:List Wo}(l:DpL X.K H vs ds)(r:Vals vs us)(ok:cz 38 ds=true){dy:D}{y:Wo}{bs:List Addr}(oy:okD 38 dy=true)(ry:Reads s.heap y (toP dy) bs) :
  (∀ w,w∈us.toArray->zd0 X.A.in1 s w y (lG s.heap (toP dy) w))/\us.toArray.any (lG s.heap (toP dy))=inG dy ds:=by
 have hl:ds.length=us.length:=by rw[← l.length,r.length]
 constructor
 ·intro w hw
  obtain ⟨m,hm,rfl⟩:=zbQ.mp hw
  obtain ⟨d,_,_,e3⟩:=item_at I l r ok oy ry hu (m:=m) (u:=us.toArray[m]) (by simp at hm ⊢)
  exact e3
 ·unfold inG
  rw[show us.toArray.any (lG s.heap (toP dy))=us.any (lG s.heap (toP dy)) by simp]
  rw[zdG,Z6,Z6]
  constructor
  ·rintro ⟨w,hw,e⟩
   obtain ⟨m,hm,rfl⟩:=zb3.mp hw
   obtain ⟨d,e1,e2,_⟩:=item_at I l r ok oy ry hu (m:=m) (u:=us[m]) (by simp)
   exact ⟨d,YD e1,by rw[← e2];exact e⟩
  ·rintro ⟨d,hd,e⟩
   obtain ⟨m,hm,rfl⟩:=zb3.mp hd
   obtain ⟨d',e1,e2,_⟩:=item_at I l r ok oy ry hu (m:=m) (u:=us[m]'(by omega)) (by simp)
   rw[WK hm] at e1;cases e1
   exact ⟨us[m]'(by omega),Yg _,by rw[e2];exact e⟩
theorem Q2 (hu:X.A.units+64 < cLine):OpR X (XI .In) (GI X.K false):=by
 intro pins s σ H x y v u Q I rx ry h
 obtain ⟨p,xs,ds,dx,rfl,hq,l,px,o1,o2,q⟩:=h
 cases (show u=Xc p from ry)
 obtain ⟨bs,rb⟩:=dk I px o2 rx
 rcases hq with hq | hq
 ·obtain ⟨its,r,pl,hz⟩:=I.list hq
  obtain ⟨h1,h2⟩:=qc I hu l r o1 o2 rb
  exact SeqAt.in_listAt _ pl.isList h1 ⟨.bl _,H,I,rfl,by rw[h2];exact q⟩
 ·obtain ⟨its,r,pl,hz⟩:=I.tuple hq
  obtain ⟨h1,h2⟩:=qc I hu l r o1 o2 rb
  exact SeqAt.in_tupleAt _ pl h1 ⟨.bl _,H,I,rfl,by rw[h2];exact q⟩
theorem Fm (hu:X.A.units+64 < cLine):OpR X (XI .NotIn) (GI X.K true):=by
 intro pins s σ H x y v u Q I rx ry h
 obtain ⟨p,xs,ds,dx,rfl,hq,l,px,o1,o2,q⟩:=h
 cases (show u=Xc p from ry)
 obtain ⟨bs,rb⟩:=dk I px o2 rx
 rcases hq with hq | hq
 ·obtain ⟨its,r,pl,hz⟩:=I.list hq
  obtain ⟨h1,h2⟩:=qc I hu l r o1 o2 rb
  exact SeqAt.notIn_listAt _ pl.isList h1 ⟨.bl _,H,I,rfl,by rw[h2];exact q⟩
 ·obtain ⟨its,r,pl,hz⟩:=I.tuple hq
  obtain ⟨h1,h2⟩:=qc I hu l r o1 o2 rb
  exact SeqAt.notIn_tupleAt _ pl h1 ⟨.bl _,H,I,rfl,by rw[h2];exact q⟩
def DW (μ:Mu)(x:D)(f:List D->Prop):Prop:=match x with
 | .tup ds=>f ds
 | .ls ds=>f ds
 | .obj a=>kL μ a f
 | _=>False
def xk (neg:Bool):DR2:=λx y μ Q=>DW μ y λds=>(cz 38 ds=true/\okD 38 x=true)/\Q (.bl (if neg then !inG x ds else inG x ds)) μ
theorem CT {K:Wj}(neg:Bool):eZ K (GI K neg) (xk neg):=λH μ x y dx dy Q Q' m px py h k=>by
 cases py with
 | tup sq l=>exact ⟨_,_,_,dx,rfl,.inr sq,l,px,h.1.1,h.1.2,k _ H _ μ (.refl H) m (.bl _) h.2⟩
 | ls sq l=>exact ⟨_,_,_,dx,rfl,.inl sq.sq,l,px,h.1.1,h.1.2,k _ H _ μ (.refl H) m (.bl _) h.2⟩
 | obj q=>
  obtain ⟨ds,e0,h⟩:=bU (show kL μ q _ from h)
  obtain ⟨xs,ex,l⟩:=m q _ e0
  exact ⟨_,_,_,dx,rfl,.inl (SqL.of ex),l,px,h.1.1,h.1.2,k _ H _ μ (.refl H) m (.bl _) h.2⟩
 | _=>exact Ww h
theorem Qm (hu:X.A.units+64 < cLine)(ha:LE X a Ta)(hb:LE X b Tb)(hm:XY .In b=false:=by rfl):LT X (.Compare a [.In] [b] pos) (TB (ak (xk false) Ta Tb)):=eO (Q2 hu) (CT false) ha hb hm
theorem uj (hu:X.A.units+64 < cLine)(ha:LE X a Ta)(hb:LE X b Tb)(hm:XY .NotIn b=false:=by rfl):LT X (.Compare a [.NotIn] [b] pos) (TB (ak (xk true) Ta Tb)):=eO (Fm hu) (CT true) ha hb hm
end
end
section
open PySem PySem.Spec PyProof.Rows L2
def Q7 (K:Wj)(n:Nat)(t:TGs)(is:List Nat):Prop:=∀ σ H ρ μ vs ds (k:ST->Mu->Prop) (k':L2.St->Hp->Prop),Rl K σ H ρ μ->DpL K H vs ds->ds.length=is.length->k (iS ρ is ds) μ->Oh K n σ H k k'->t vs σ H k'
structure M7 (X:Cx) (n:Nat) (es:List WX) (is:List Nat):Prop where
 ex:∃ t,PGs X es t/\Q7 X.K n t is
section
variable {X:Cx} {e tg:WX} {es:List WX} {is:List Nat} {pos:Pos} {x:Str} {n:Nat}
theorem gx:M7 X n [] []:=⟨_,vj,λσ H ρ μ vs ds k k' rl l hl h q=>by
 cases ds with
 | nil=>cases l;exact ⟨rfl,q _ _ _ _ (.refl H) rl ⟨rfl,λ_ _=>rfl⟩ h⟩
 | cons=>cases hl⟩
theorem bN (i:Nat)(hN:X.N.Nodup)(h2:M7 X n es is)(hin:i < n:=by decide)(hi:X.N[i]? = some x:=by rfl)(hx:Loc X.env.scope x:=by first | exact ZV rfl | exact ZW rfl)(hf:X.fn x=true∨X.env.scope.names.lookup x=some .local:=by first | exact .inr rfl | exact .inl rfl | assumption)
  (hs:(XD (.Name x pos::es) X.env).map (·.2)=zbn (.Name x pos) X.env::(XD es X.env).map (·.2):=by rfl):M7 X n (.Name x pos::es) (i::is):=by
 obtain ⟨t,pt,st⟩:=h2.ex
 refine ⟨_,qW (iL hN hi hx hf) pt hs,λσ H ρ μ vs ds k k' rl l hl h q=>?_⟩
 cases l with
 | nil=>cases hl
 | @cons v d vs ds p l=>
  refine ⟨v,vs,rfl,st _ H _ μ vs ds k k' (rl.set p i) l (by simpa using hl) h λσ' H' ρ' μ' t' r' hk kk=>q σ' H' ρ' μ' t' r' ⟨?_,λj hj=>?_⟩ kk⟩
  ·rw[hk.1];simp
  ·rw[hk.2 j hj,YC (by omega)]
theorem jc {k:Nat}(hc:X.calm=true)(h:M7 X n es is)(hn:(XD es X.env).length=is.length:=by rfl)(hst:(XD es X.env).findIdx? (·.1)=none:=by rfl):LGc X n (.Tuple es k pos) (de is):=by
 obtain ⟨t,pt,st⟩:=h.ex
 refine ⟨λpins s σ H v u k' I r ⟨ρ,μ,d,k,rl,p,h,post⟩=>B4 hc pt hn hst pins s σ H v u k' I r ?_⟩
 cases p with
 | @tup a xs ds sq l=>exact ⟨a,xs,rfl,sq,by rw[l.length];exact h.1,st σ H ρ μ xs ds k k' rl l h.1 h.2 post⟩
 | _=>exact Ww h
end
section
variable {X:Cx} {o i a b c e value:WX} {To Ti Ta Tb Te:ETr} {pos tpos apos cpos:Pos}
theorem Fb (l:Addr)(its:Array Wo)(n:Nat)(q:Addr)(its2:Array Wo)(n2:Nat)(sl:Array (Option Wo))(h0:¬ (!its.isEmpty&&XZ (its.size+its2.size))=true)(h1:its.size<=sizeLine)(h2:its.size+its2.size<=sizeLine+1) :
  Meets (Z9.«list.extend» ⟨[.ref l,.ref q],[]⟩) (λ_ R s=>s.heap.get? l=some { cls:=.type "list", dict:=none,data:=.seq its n,slots:=#[] }/\s.heap.get? q=some { cls:=.type "list", dict:=none,data:=.seq its2 n2,slots:=sl }/\
   R (.ok (.ret YG)) { s with heap:=s.heap.update l (zbs λx=>x++its2) }):=
 .of_wp λprog w A R s h=>by
  obtain ⟨hp,g,d,tk,os⟩:=s
  obtain ⟨hl,hb,h⟩:=h
  have z1:=zby
  have z2:=Z7
  have z3:=zao
  have z4:=zae
  have z5:=zaf
  have hz':(its++its2).size<=sizeLine+1:=by rw[zc7];omega
  wp_walk using (Zy hl rfl (hz:=h1) (_hz':=hz')),zap hl,zap hb
  exact ⟨_,rfl,h⟩
def Sl (K:Wj):V->List V->Hp->VK->Prop:=λx vs H Q=>∃ l b xs zs,x=.ref l/\vs=[.ref b]/\H l=some (.lst xs)/\SqL K H b zs/\xs.length+zs.length<=sizeLine/\Q .non (L2.upd H l (.lst (xs++zs)))
theorem QV:MtM X "list.extend" (Sl X.K):=by
 intro pins s σ H x vs v us Q I rx rv h
 obtain ⟨l,q,xs,zs,rfl,rfl,hH,hB,hz,qq⟩:=h
 cases (show v=Xc l from rx)
 obtain ⟨u,rfl,ru⟩:=rv.one
 cases (show u=Xc q from ru)
 obtain ⟨z,its,n,r,hl,e⟩:=I.NO hH
 obtain ⟨its2,r2,⟨o,n2,e2,c2,d2,dat2⟩,_⟩:=I.list hB
 have e2':s.heap.get? q=some ⟨.type "list", none,.seq its2.toArray n2,o.slots⟩:=by
  rw[e2];obtain ⟨c',dd,dt,sl⟩:=o;simp only at c2 d2 dat2;subst c2 d2 dat2;rfl
 have hl2:=r2.length
 have hs2:its.toArray.size+its2.toArray.size<=sizeLine:=by rw[WR,WR];omega
 have ID:¬ (!its.toArray.isEmpty&&XZ (its.toArray.size+its2.toArray.size))=true:=by
  rw[xh hs2,zb4];decide
 refine Z5 zcP ⟨_,e,rfl⟩ zcn (zb5 _ _) (Fb l its.toArray n q its2.toArray n2 o.slots ID (by omega) (by omega)) ⟨e,e2',?_⟩
 refine ⟨.non,_,I.LN (its':=its++its2) hH e (by simp) (r.append r2) ?_,rfl,qq⟩
 rw[Wv];omega
end
section
variable {P:W7} {w:Xh} {K:Wj} {mg:Str->Option Wo} {base:Heap}
end
end
section
open PySem PySem.Spec PyProof.Rows L2
section
variable {X:Cx} {tg a ea eb:WX} {Ta:ETr} {es:List WX} {ek:Nat} {ep p pos:Pos}
def Vn (K:Wj)(tl:TE):TI:=λσ H R=>tl σ H λx H1=>∃ q,x=.ref q/\(((∃ xs,SqL K H1 q xs)/\R (Itl K q) H1)∨((∃ xs,SqT K H1 q xs)/\R (Itt K q) H1))
theorem Qq {tl:TE}(hl:PE X a tl):PI X tg a (Vn X.K tl):=by
 intro pins s σ H R I h
 refine thn (hl pins s σ H _ I h) λv s1 ⟨x,H1,I1,r1,q,ex,qq⟩=>?_
 subst ex
 cases (show v=Xc q from r1)
 have fp:∀ b∈[s1.heap.objs.size],_:=λb hb=>by
  have e:b=s1.heap.objs.size:=by simpa using hb
  subst e
  exact I1.A7 (WG _) (I1.hok.fresh (WG _))
 rcases qq with ⟨⟨xs,sq⟩,qq⟩ | ⟨⟨xs,sq⟩,qq⟩
 ·obtain ⟨its,rv,pl,hz⟩:=I1.list sq
  exact ZR pl.isList ⟨s1.heap.objs.size,[s1.heap.objs.size],_,_,H1,rfl,I1.kept (t':=s1.toks) (λb o e=>Wn _ e),tO q _,⟨_,WN _ rfl,rfl,rfl⟩,fp,qq⟩
 ·obtain ⟨its,rv,pl,hz⟩:=I1.tuple sq
  exact zcL (show s1.heap.IsTuple q its.toArray from pl) ⟨s1.heap.objs.size,[s1.heap.objs.size],_,_,H1,rfl,I1.kept (t':=s1.toks) (λb o e=>Wn _ e),BK q _,⟨_,WN _ rfl,rfl,rfl⟩,fp,qq⟩
theorem bD (ha:LE X a Ta):LI X tg a (dq Ta):=by
 obtain ⟨ta,pa,sa⟩:=ha.ex
 refine ⟨_,Qq pa,λσ H ρ μ Q R rl h k=>sa σ H ρ μ _ _ rl h λx H1 d μ1 t1 m1 p1 h1=>?_⟩
 cases p1 with
 | @tup p xs ds q l=>exact ⟨p,rfl,.inr ⟨⟨xs,q⟩,k _ H1 ds μ1 t1 m1 (Jy q l) h1⟩⟩
 | @ls p xs ds q l=>exact ⟨p,rfl,.inl ⟨⟨xs,q.sq⟩,k _ H1 ds μ1 t1 m1 (Lw q l) h1⟩⟩
 | _=>exact Ww h1
def UH (K:Wj)(t:TA):TI:=λσ H R=>t σ H λvs H1=>∃ (ta tb:Bool) (a b:Addr),vs=[.ref a,.ref b]/\(∃ xs,Sq ta K H1 a xs)/\(∃ ys,Sq tb K H1 b ys)/\R (Itz ta tb K a b) H1
theorem Mc {t:TA}(hg:Gl X "zip")(hm:X.mg "zip" = none)(ha:PA X [ea,eb] t)(hs:WH [ea,eb] X.env=[(false,XJ ea X.env),(false,XJ eb X.env)]:=by rfl)(hs2:WH [eb] X.env=[(false,XJ eb X.env)]:=by rfl) :
  PI X (.Tuple es ek ep) (.Call (.Name "zip" p) [ea,eb] [] pos) (UH X.K t):=by
 intro pins s σ H R I h
 refine Call_ (jI I hg hm boot_zip (XE (thn (ha pos pins s σ H _ I h) λus s1 ⟨vs,H1,I1,r1,ta,tb,a,b,e,⟨xs,qa⟩,⟨ys,qb⟩,q⟩=>?_) (by rw[hs,hs2]) (by rw[hs2];rfl)))
 subst e
 cases r1 with | cons r rr=>cases rr with | cons r' rr=>
 cases rr
 cases (show _=Xc a from r)
 cases (show _=Xc b from r')
 obtain ⟨ia,ra,sa⟩:=Inv.sq I1 qa
 obtain ⟨ib,rb,sb⟩:=Inv.sq I1 qb
 have alt:a < s1.heap.objs.size:=by cases ta<;>(obtain ⟨o,e,_⟩:=sa;exact WJ e)
 have blt:b < s1.heap.objs.size:=by cases tb<;>(obtain ⟨o,e,_⟩:=sb;exact WJ e)
 refine EV sa sb λg S kp=>zdm S.zz ⟨s1.heap.objs.size+4,[s1.heap.objs.size+4,s1.heap.objs.size+2,s1.heap.objs.size+3,s1.heap.objs.size,s1.heap.objs.size+1],_,_,H1,rfl,I1.kept (t':=s1.toks) kp,Ft (SE _ _ _ alt blt),S,λc hc=>?_,q⟩
 exact I1.A7 (NY _ _ hc) (I1.hok.fresh (NY _ _ hc))
def kZ (t:ATr):ATr:=λρ μ Q=>t ρ μ λvs μ1=>k2 vs λx y=>kS x λds=>kS y λes=>Q (XF (λd e=>.tup [d,e]) ds es) μ1
theorem A5 {K:Wj}{H:Hp}{v:V}{x:D}{f:List D->Prop}(p:Dp K H v x)(h:kS x f):∃ (tp:Bool) (a:Addr) (xs:List V) (ds:List D),v=.ref a/\SqX tp K H a xs/\DpL K H xs ds/\kQ tp x f:=by
 cases p with
 | @tup a xs ds q l=>exact ⟨true,a,xs,ds,rfl,q,l,h⟩
 | @ls a xs ds q l=>exact ⟨false,a,xs,ds,rfl,q,l,h⟩
 | _=>exact Ww h
theorem gO {At:ATr}(hg:Gl X "zip")(hm:X.mg "zip" = none)(ha:LA X [ea,eb] At)
  (hs:WH [ea,eb] X.env=[(false,XJ ea X.env),(false,XJ eb X.env)]:=by rfl) (hs2:WH [eb] X.env=[(false,XJ eb X.env)]:=by rfl) :
  LI X (.Tuple es ek ep) (.Call (.Name "zip" p) [ea,eb] [] pos) (kZ At):=by
 obtain ⟨t,pt,st⟩:=ha.ex
 refine ⟨_,Mc hg hm pt hs hs2,λσ H ρ μ Q R rl h k=>st σ H ρ μ _ _ rl h λvs H1 ds μ1 t1 m1 p1 h1=>?_⟩
 unfold L3.k2 at h1
 split at h1
 case h_2=>exact Ww h1
 cases p1 with | cons pa p2=>cases p2 with | cons pb p3=>
 cases p3
 obtain ⟨ta,a,xs,dx,rfl,qa,la,h2⟩:=A5 pa h1
 obtain ⟨a',xs',dx',ea',qa',la',h2⟩:=Bi pa h2
 cases ea'
 obtain ⟨tb,b,ys,dy,rfl,qb,lb,h3⟩:=A5 pb h2
 obtain ⟨b',ys',dy',eb',qb',lb',h3⟩:=Bi pb h3
 cases eb'
 refine ⟨ta,tb,a,b,rfl,⟨xs',qa'.sq⟩,⟨ys',qb'.sq⟩,k _ H1 _ μ1 t1 m1 ⟨λi H' tk hi=>?_,λi H' v H'' tk hi yv=>?_,λi H' tk hi=>?_⟩ h3⟩
 ·have l1:=la'.length
  have l2:=lb'.length
  rw[XW] at hi
  exact ⟨xs',ys',xs'[i],ys'[i],tk.sq qa',tk.sq qb',by simp[show i < xs'.length by omega],by simp[show i < ys'.length by omega]⟩
 ·obtain ⟨x,y,q,fx,fy,rfl,fr,rfl⟩:=yv
  obtain ⟨d,ed,pd⟩:=la'.get' (fx _ (tk.sq qa'))
  obtain ⟨e,ee,pe⟩:=lb'.get' (fy _ (tk.sq qb'))
  have tn:Tk H' (L2.upd H' q (.tup [x,y])):=.new fr
  exact ⟨tn,⟨.tup [d,e],by simp[zbP,ed,ee],.tup (SqT.of aM) (.cons ((pd.mono tk).mono tn) (.cons ((pe.mono tk).mono tn) .nil))⟩,λμ' m'=>cw m' fr⟩
 ·have l1:=la'.length
  have l2:=lb'.length
  rw[XW] at hi
  exact ⟨xs',ys',tk.sq qa',tk.sq qb',by omega⟩
variable {i o:WX} {Ti To:ETr}
end
end
section
open PySem PySem.Spec PyProof.Rows L2
def ltS (x y:Str):Bool:=decide (x.cps.toList < y.cps.toList)
theorem l4:∀ {us:List Wo} {ss:List Str},StrsAre us ss->Vals (ss.map V.str) us
 | _,_,.nil=>.nil
 | _,_,.cons n t h=>.cons ⟨t,rfl⟩ (l4 h)
theorem Dl:∀ {us:List Wo} {ss:List Str},Vals (ss.map V.str) us->StrsAre us ss
 | _,[],h=>by cases h;exact .nil
 | _,s::r,h=>by
  cases h with
  | cons q h=>obtain ⟨t,rfl⟩:=(show ∃ t,_=zcc s t from q);exact .cons s t (Dl h)
def PR (K:Wj):List V->Hp->VK->Prop:=λxs H Q=>∃ (p:Addr) (ss:List Str),xs=[.ref p]/\SqL K H p (ss.map V.str)/\ss.length < 64/\∀ ss':List Str,ss'.Perm ss->ss'.Pairwise (λa b=>ltS b a=false)->∀ z,H z=none->Q (.ref z) (L2.upd H z (.lst (ss'.map V.str)))
theorem Ez:∀ (p:Str) (l:List Str),risingS p l=true->(p::l).Pairwise (λa b=>ltS b a=false):=by
 have tr:∀ a b c:Str,ltS b a=false->ltS c b=false->ltS c a=false:=by
  intro a b c h1 h2
  unfold ltS at *
  rw[decide_eq_false_iff_not,zdy] at *
  exact List.le_trans h1 h2
 intro p l
 induction l generalizing p with
 | nil=>intro _;exact List.pairwise_singleton _ _
 | cons x r ih=>
  intro h
  have h':ltCps x.cps.toList p.cps.toList=false/\risingS x r=true:=by
   have:(!ltCps x.cps.toList p.cps.toList&&risingS x r)=true:=h
   simpa using this
  have hx:=ih x h'.2
  have hpx:ltS x p=false:=by unfold ltS;rw[← ltCps_eq];exact h'.1
  refine ZF.mpr ⟨λy hy=>?_,hx⟩
  rcases WM.mp hy with rfl | hy
  ·exact hpx
  ·exact tr p x y hpx ((ZF.mp hx).1 y hy)
theorem DQ:∀ (l:List Str),sortedS l=true->l.Pairwise (λa b=>ltS b a=false)
 | [],_=>.nil
 | p::l,h=>Ez p l h
theorem Cb {X:Cx}:cH X (.builtin "sorted") (PR X.K):=λpins s σ H xs us Q I rx ⟨p,ss,e1,sq,hl,q⟩=>by
 subst e1
 obtain ⟨u,rfl,ru⟩:=vals1 rx
 cases (show u=Xc p from ru)
 obtain ⟨its,rv,pl,hz⟩:=I.list sq
 have hi:StrsAre its ss:=Dl rv
 have hlen:its.length < 64:=by have:=rv.length;simp at this;omega
 refine sorted_strs pl.isList hi hlen λout ss' a1 a2 a3=>?_
 obtain ⟨n,en⟩:=sortedAll_at s.heap its out
 refine ⟨.ref _,_,I.laid (t':=s.toks) (o:=.lst (ss'.map V.str)) (λb o e=>sortedAll_old e) (zab _) ?_,rfl,q ss' a2 (DQ _ a3) _ (I.hok.fresh (zab _))⟩
 have z1:ss'.length=ss.length:=a2.length_eq
 exact ⟨by rw[Wm,z1];exact ZP (WS hl (by decide)),out.toList,n,l4 a1,by simpa[zan] using en⟩
def zX:FSp:=λds μ Q=>match ds with
 | [.ls xs]=>∃ ss:List Str,(xs=ss.map .str/\ss.length < 64)/\∀ ss':List Str,ss'.Perm ss->ss'.Pairwise (λa b=>ltS b a=false)->Q (.ls (ss'.map .str)) μ
 | _=>False
theorem DpL.strs {K:Wj}{H:Hp}:∀ ss:List Str,DpL K H (ss.map V.str) (ss.map D.str)
 | []=>.nil
 | s::r=>.cons (.str s) (DpL.strs r)
theorem DpL.l4 {K:Wj}{H:Hp}:∀ {xs:List V} {ss:List Str},DpL K H xs (ss.map .str)->xs=ss.map V.str
 | _,[],.nil=>rfl
 | _,s::r,.cons h l=>by cases h;rw[DpL.l4 l];rfl
section
variable {X:Cx} {e a b:WX} {x:Str} {p pos:Pos} {At:ATr} {Ta Tb:ETr}
theorem Gs (hg:Gl X x)(hm:X.mg x=none)(hv:Yp x=some (.builtin "sorted"))(ha:LA X [e] At)(hn:x ≠ "__name__" := by decide)(hdb:(x == ("__debug__" : Str))=false:=by decide)
  (h1:WH [e] X.env=(false,XJ e X.env)::WH [] X.env:=by rfl) (h2:(X3 pos (WH [] X.env)).any (·.1)=false:=by rfl):LE X (.Call (.Name x p) [e] [] pos) (au zX At):=by
 obtain ⟨ta,pa,sa⟩:=ha.ex
 refine ⟨_,jS (pZ Cb hg hm hv pa hn hdb h1 h2),λσ H ρ μ Q Q' rl h k=>sa σ H ρ μ _ _ rl h λxs H1 ds μ1 t1 m1 p1 h1=>?_⟩
 unfold zX at h1
 split at h1
 ·obtain ⟨ss,⟨rfl,hl⟩,h2⟩:=h1
  cases p1 with | cons p1 p2=>
  cases p2
  cases p1 with
  | @ls a ys _ q l=>
   cases DpL.l4 l
   refine ⟨a,ss,rfl,q.sq,hl,λss' a2 a3 z hz=>⟨z,_,rfl,aM,λo=>?_⟩⟩
   have e:L2.upd (L2.upd H1 z (.lst (ss'.map V.str))) z (.frz o (.lst (ss'.map V.str)))=L2.upd H1 z (.frz o (.lst (ss'.map V.str))):=wa
   rw[e]
   exact k _ _ _ μ1 (t1.trans (.new hz)) (cw m1 hz) (.ls (.inl ⟨o,aM⟩) (.strs ss')) (h2 ss' a2 a3)
 ·exact Ww h1
def Ol (f:Str->Str->Bool):DR2:=λx y μ Q=>match x,y with
 | .str i,.str j=>Q (.bl (f i j)) μ
 | _,_=>False
theorem QA:OpR X (XI .Gt) (λx y H Q=>∃ i j,x=.str i/\y=.str j/\Q (.bl (ltS j i)) H):=by
 intro pins s σ H x y v u Q I rx ry h
 obtain ⟨i,j,rfl,rfl,q⟩:=h
 obtain ⟨t,rfl⟩:=rx
 obtain ⟨t',rfl⟩:=ry
 exact PySem.P.gt_str ⟨.bl _,H,I,rfl,q⟩
theorem Jf {K:Wj}(f:Str->Str->Bool):eZ K (λx y H Q=>∃ i j,x=.str i/\y=.str j/\Q (.bl (f i j)) H) (Ol f):=λH μ x y dx dy Q Q' m px py h k=>by
 cases px with
 | str i=>cases py with
  | str j=>exact ⟨i,j,rfl,rfl,k _ H _ μ (.refl H) m (.bl _) h⟩
  | _=>exact Ww h
 | _=>cases py<;>exact Ww h
def Oz:DR2:=Ol λi j=>ltS j i
theorem RW (ha:LE X a Ta)(hb:LE X b Tb):LT X (.Compare a [.Gt] [b] pos) (TB (ak Oz Ta Tb)):=eO QA (Jf _) ha hb (fh _)
end
end
section
open PySem PySem.Spec PyProof.Rows L2
def lJ (C:Mu->Prop)(p:Addr)(G:GTr)(tt:TTr)(te:ETr)(ρc:ST)(K:Mu->Prop):List D->Mu->Prop
 | [],μ=>C μ/\K μ
 | d::r,μ=>C μ/\G d ρc μ λρ1 μ1=>tt ρ1 μ1 λb μ2=>kIf b (te ρ1 μ2 λy μ3=>kL μ3 p λzs=>zs.length < 1000000/\lJ C p G tt te ρc K r (up μ3 p (.lst (zs++[y])))) (lJ C p G tt te ρc K r μ2)
def jN (To:ETr)(G:GTr)(tt:TTr)(te:ETr)(n:Nat)(caps:List Nat):ETr:=λρ μ Q=>To ρ μ λx μ1=>kObj x λa=>kL μ1 a λds=>∀ p,μ1 p=none->
 lJ (λμ=>μ a=some (.lst ds)) p G tt te (fe ρ n caps) (λμ'=>kL μ' p λzs=>Q (.ls zs) (dn μ' p)) ds (up μ1 p (.lst []))
theorem uE {K:Wj}{ta:TE}{To:ETr}{G:GTr}{Tt:TTr}{Te:ETr}{n:Nat}{caps:List Nat}(sa:Sim K ta To):Sim K (DV (kY (Ov K ta) (mC K n G) (liftT K Tt) (mB K Te) n caps)) (jN To G Tt Te n caps):=by
 intro σ H ρ μ Q Q' rl h k
 refine sa σ H ρ μ _ _ rl h λx H1 dx μ1 t1 m1 px hx=>?_
 obtain ⟨q,rfl,hx⟩:=dD px hx
 obtain ⟨ds,eq0,h1⟩:=bU hx
 obtain ⟨xs0,exs0,l0⟩:=m1 q _ eq0
 refine ⟨q,rfl,⟨_,SqL.of exs0⟩,λD hD=>?_⟩
 have hp:=h1 D (m1.free hD)
 have tD:Tk H1 (L2.upd H1 D (.lst [])):=.new hD
 have mD:bM K (L2.upd H1 D (.lst [])) (up μ1 D (.lst [])):=λa o e=>by
  by_cases ha:a=D
  ·subst ha
   rw[aE] at e;cases e
   exact ⟨[],aM,.nil⟩
  ·rw[aS ha] at e
   exact cw m1 hD a o e
 refine ⟨λi m ys H2=>m=ds.length - i/\i<=ds.length/\Tk H1 H2/\∃ μ2,bM K H2 μ2/\lJ (λμ=>μ q=some (.lst ds)) D G Tt Te (fe ρ n caps) (λμ'=>kL μ' D λzs=>Q (.ls zs) (dn μ' D)) (ds.drop i) μ2,
  ⟨ds.length,by simp,XX _,tD,_,mD,by simpa using hp⟩,?_⟩
 rintro i m ys H2 ⟨rfl,hi,t12,μ2,m2,h2⟩
 have hg:μ2 q=some (.lst ds):=by
  cases hdr:ds.drop i with
  | nil=>rw[hdr] at h2;exact h2.1
  | cons=>rw[hdr] at h2;exact h2.1
 obtain ⟨xs2,ex2,l2⟩:=m2 q _ hg
 have ll:=l2.length
 by_cases hlt:i < ds.length
 ·refine .inr ⟨⟨xs2,xs2[i]'(by omega),SqL.of ex2,WK (by omega)⟩,λys' H'=>Tk H1 H'/\∃ μ',bM K H' μ'/\lJ (λμ=>μ q=some (.lst ds)) D G Tt Te (fe ρ n caps) (λμ'=>kL μ' D λzs=>Q (.ls zs) (dn μ' D)) (ds.drop (i+1)) μ',λys' H' ⟨t',μ',m',h'⟩=>⟨ds.length - (i+1),by omega,rfl,hlt,t',μ',m',h'⟩,λx H3 y=>?_⟩
  obtain ⟨rfl,y⟩:=y
  have exi:=y xs2 (SqL.of ex2)
  obtain ⟨d,ed,pd⟩:=l2.get' exi
  have e:ds.drop i=d::ds.drop (i+1):=by
   refine (Ye hlt).trans ?_
   congr 1
   rw[WK hlt] at ed
   exact Xg ed
  rw[e] at h2
  have t13:=t12
  have r3:Rl K (kK σ n caps) H3 (fe ρ n caps) μ2:=pG (rl.go (t1.trans t13) m2) n caps
  refine ⟨_,_,d,_,r3,pd,h2.2,λσ4 H4 ρ4 μ4 t4 r4 kp h4=>⟨⟨kp.1.symm,λj v ej=>?_⟩,_,_,_,r4,h4,λb H5 μ5 t5 m5 h5=>?_⟩⟩
  ·by_cases hj:n<=j
   ·rw[kp.2 j hj];exact ej
   ·obtain ⟨j',k',e1,_⟩:=jO ej
    omega
  ·have t15:=t13.trans (t4.trans t5)
   cases b with
   | false=>exact qd ⟨t15,μ5,m5,h5⟩
   | true=>
    refine qB ⟨_,_,_,r4.go t5 m5,h5,λv H6 d6 μ6 t6 m6 p6 h6=>?_⟩
    obtain ⟨zs,ez,lz,h7⟩:=bU h6
    obtain ⟨xs,ex,lx⟩:=m6 D _ ez
    have t67:Tk H6 (L2.upd H6 D (.lst (xs++[v]))):=.upd (λys z=>by rw[ex] at z;cases z) λo' u z=>by rw[ex] at z;cases z
    refine ⟨xs,ex,by rw[lx.length];exact WS lz (by decide),(t15.trans t6).trans t67,up μ6 D (.lst (zs++[d6])),λa o ea=>?_,h7⟩
    by_cases ha:a=D
    ·subst ha
     rw[aE] at ea;cases ea
     exact ⟨_,aM,(lx.append (.cons p6 .nil)).mono t67⟩
    ·rw[aS ha] at ea
     exact (m6 a _ ea).ne t67 ha
 ·have e:i=ds.length:=by omega
  subst e
  rw[Ys] at h2
  obtain ⟨zs,ez,hq⟩:=bU (show kL μ2 D λzs=>Q (.ls zs) (dn μ2 D) from h2.2)
  obtain ⟨xs,ex,lx⟩:=m2 D _ ez
  refine .inl ⟨⟨xs2,SqL.of ex2,by omega⟩,D,xs,rfl,ex,λo=>?_⟩
  have t2f:Tk H2 (L2.upd H2 D (.frz o (.lst xs))):=.upd (λys z=>by rw[ex] at z;cases z) λo' u z=>by rw[ex] at z;cases z
  refine k _ _ _ (dn μ2 D) ((t1.trans t12).trans t2f) (λa o' ea=>?_) (.ls (.inl ⟨o,aM⟩) (lx.mono t2f)) hq
  have ha:a≠D:=λz=>by subst z;unfold dn at ea;rw[if_pos rfl] at ea;cases ea
  have ea':μ2 a=some o':=by unfold dn at ea;rw[if_neg ha] at ea;exact ea
  exact (m2 a _ ea').ne t2f ha
theorem nq {X:Cx}{tg elt iter:WX}{Te:ETr}{Tt:TTr}{pos spos py:Pos}{y:Str}{To:ETr}{G:GTr}{ifs:List WX}{scope fsc:Scope}(iy:Nat)(hN:X.N.Nodup)(XN Nc:List Str)(n:Nat)(caps:List Nat)(hxe:X.xe=λ_ _=>False)(hcalm:X.calm=true)(hi:LE X iter To)
  (hbody:∀ (cl:List (Str×Addr)) (C:Addr) (s₀:Wu) (H₀:Hp) (ex:List Addr),LGc (bh X scope Nc cl C s₀ H₀ ex) n tg G/\xA (bh X scope Nc cl C s₀ H₀ ex) ifs Tt/\LE (bh X scope Nc cl C s₀ H₀ ex) elt Te)
  (hsc:X.env.scope=fsc) (hXN:X.N=XN) (hok:ip fsc.names XN scope Nc n caps=true)
  (hiy:X.N[iy]? = some y:=by rfl) (hx:Loc X.env.scope y:=by first | exact ZV rfl | exact ZW rfl) (hf:X.fn y=true∨X.env.scope.names.lookup y=some .local:=by first | exact .inl rfl | exact .inr rfl | assumption)
  (hsw:YA (.ListComp elt [⟨tg,iter,ifs,0⟩] scope pos) (some (.Name y py)) spos.line X.env=pure true:=by rfl)
  (hs:∀ x,Xn iter X.env x=pure x:=by intro _;rfl) :
  LS X (.Assign [.Name y py] (.ListComp elt [⟨tg,iter,ifs,0⟩] scope pos) spos) (aP (jN To G Tt Te n caps) (ax iy)):=by
 unfold ip at hok
 simp only[Xm,Zl] at hok
 obtain ⟨⟨⟨h1,h2⟩,h3⟩,h4⟩:=hok
 obtain ⟨ta,pa,sa⟩:=hi.ex
 refine ⟨_,DA (g:=mC X.K n G) (tt:=liftT X.K Tt) (te:=mB X.K Te) hxe hcalm (CO pa) (λcl C s₀ H₀ ex=>let ⟨h1,h2,h3⟩:=hbody cl C s₀ H₀ ex;⟨h1.pe,h2.pe,h3.pe⟩) (λy hy hf=>?_) (λy hy hf=>?_) (by simpa using h2) (λy hy hf=>?_) (by simpa using h3) (λj k hj=>?_) (iL hN hiy hx hf) hsw hs,λσ H ρ μ E E' rl h k=>uE sa σ H ρ μ _ _ rl h λv H' d μ' t' m' p' h'=>iH iy σ H' ρ μ' v d _ _ (rl.go t' m') p' h' (k.go t').nx⟩
 ·have:=(h1 y hy).1.1
  show X.env.scope.names.lookup y.1=_
  rw[hsc]
  simpa[hf] using this
 ·have:=(h1 y hy).1.2
  simp[hf] at this
 ·have:=(h1 y hy).2
  simpa[hf] using this
 ·have hl:j < caps.length:=(W4.mp hj).1
  have:=h4 j (YM.mpr hl)
  rw[hj] at this
  dsimp only at this
  rw[hXN]
  cases e:XN[k]? with
  | none=>rw[e] at this;cases this
  | some x=>
   rw[e] at this
   dsimp only at this
   rw[Xm] at this
   exact ⟨x,by simpa using this.1,rfl,by simpa using this.2⟩
theorem Ee {X:Cx}{tg elt iter:WX}{Te:ETr}{Tt:TTr}{pos:Pos}{To:ETr}{G:GTr}{ifs:List WX}{scope fsc:Scope}(XN Nc:List Str)(n:Nat)(caps:List Nat)(hxe:X.xe=λ_ _=>False)(hcalm:X.calm=true)(hi:LE X iter To)
  (hbody:∀ (cl:List (Str×Addr)) (C:Addr) (s₀:Wu) (H₀:Hp) (ex:List Addr),LGc (bh X scope Nc cl C s₀ H₀ ex) n tg G/\xA (bh X scope Nc cl C s₀ H₀ ex) ifs Tt/\LE (bh X scope Nc cl C s₀ H₀ ex) elt Te)
  (hsc:X.env.scope=fsc) (hXN:X.N=XN) (hok:ip fsc.names XN scope Nc n caps=true)
  (hs:∀ x,Xn iter X.env x=pure x:=by intro _;rfl) :
  LE X (.ListComp elt [⟨tg,iter,ifs,0⟩] scope pos) (jN To G Tt Te n caps):=by
 unfold ip at hok
 simp only[Xm,Zl] at hok
 obtain ⟨⟨⟨h1,h2⟩,h3⟩,h4⟩:=hok
 obtain ⟨ta,pa,sa⟩:=hi.ex
 refine ⟨_,jS (DC (g:=mC X.K n G) (tt:=liftT X.K Tt) (te:=mB X.K Te) hxe hcalm (CO pa) (λcl C s₀ H₀ ex=>let ⟨h1,h2,h3⟩:=hbody cl C s₀ H₀ ex;⟨h1.pe,h2.pe,h3.pe⟩) (λy hy hf=>?_) (λy hy hf=>?_) (by simpa using h2) (λy hy hf=>?_) (by simpa using h3) (λj k hj=>?_) hs),uE sa⟩
 ·have:=(h1 y hy).1.1
  show X.env.scope.names.lookup y.1=_
  rw[hsc]
  simpa[hf] using this
 ·have:=(h1 y hy).1.2
  simp[hf] at this
 ·have:=(h1 y hy).2
  simpa[hf] using this
 ·have hl:j < caps.length:=(W4.mp hj).1
  have:=h4 j (YM.mpr hl)
  rw[hj] at this
  dsimp only at this
  rw[hXN]
  cases e:XN[k]? with
  | none=>rw[e] at this;cases this
  | some x=>
   rw[e] at this
   dsimp only at this
   rw[Xm] at this
   exact ⟨x,by simpa using this.1,rfl,by simpa using this.2⟩
end
theorem Mo (a b:ETr)(ρ:ST)(μ:Mu)(Q:DK):bS a b ρ μ Q=a ρ μ λx μ1=>b ρ μ1 λy μ2=>kObj x λa=>kD μ2 a λkvs=>mV y λk=>kO (bP kvs k) λd=>Q d μ2:=propext Wr
theorem Lf (a b e:ETr)(nx:ST->Mu->Prop)(rt:DK)(bk ct:ST->Mu->Prop)(ρ:ST)(μ:Mu):jq a b e ⟨nx,rt,bk,ct⟩ ρ μ=e ρ μ λv μ1=>a ρ μ1 λx μ2=>b ρ μ2 λy μ3=>kObj x λa=>kD μ3 a λkvs=>mV y λk=>kvs.length < 1000000/\nx ρ (up μ3 a (.dct (putD kvs k v))):=propext Wr
theorem M1 (f:Int->Int->Int)(a b e:ETr)(nx:ST->Mu->Prop)(rt:DK)(bk ct:ST->Mu->Prop)(ρ:ST)(μ:Mu):lT f a b e ⟨nx,rt,bk,ct⟩ ρ μ=a ρ μ λx μ1=>b ρ μ1 λy μ2=>kObj x λa=>kD μ2 a λkvs=>mV y λk=>kO (bP kvs k) λd=>kI d λm=>e ρ μ2 λw μ3=>kI w λn=>kD μ3 a λkvs3=>kvs3.length < 1000000/\nx ρ (up μ3 a (.dct (putD kvs3 k (.int (f m n))))):=propext Wr
theorem PM (f:Int->Int->Int)(i:Nat)(e:ETr)(nx:ST->Mu->Prop)(rt:DK)(bk ct:ST->Mu->Prop)(ρ:ST)(μ:Mu):MD f i e ⟨nx,rt,bk,ct⟩ ρ μ=ai i ρ μ λd _=>kI d λm=>e ρ μ λw μ1=>kI w λn=>ax i (.int (f m n)) ρ μ1 nx:=propext Wr
theorem Lm (ks:List L2.Key)(t:ATr)(ρ:ST)(μ:Mu)(Q:DK):HP ks t ρ μ Q = ∀ p,μ p=none->t ρ (up μ p (.dct [])) λds μ2=>kD μ2 p λkvs=>kvs=[]/\Q (.obj p) (up μ2 p (.dct (ks.zip ds))):=propext Wr
theorem Ru (a b:ETr)(ρ:ST)(μ:Mu)(Q:DK):PH a b ρ μ Q=a ρ μ λx μ1=>kObj x λa=>kL μ1 a λ_=>b ρ μ1 λy μ2=>kI y λj=>(-9223372036854775808<=j/\j < 9223372036854775808)/\kL μ2 a λds=>kN (L2.ixN ds.length j) λk=>kO ds[k]? λd=>Q d (up μ2 a (.lst (ds.eraseIdx k))):=propext Wr
theorem IS (a b:ETr)(ρ:ST)(μ:Mu)(Q:DK):Bv a b ρ μ Q=a ρ μ λx μ1=>qg μ1 x λ_=>b ρ μ1 λy μ2=>qg μ2 x λds=>(cz 38 ds=true/\okD 38 y=true)/\kN (Es ds y) λj=>j < 1000000/\Q (.int j) μ2:=propext Wr
theorem Qn (a:ETr)(ρ:ST)(μ:Mu)(Q:List D->Mu->Prop):dq a ρ μ Q=a ρ μ λx μ1=>kS x λds=>Q ds μ1:=propext Wr
theorem MX (t:ATr)(ρ:ST)(μ:Mu)(Q:List D->Mu->Prop):kZ t ρ μ Q=t ρ μ λvs μ1=>k2 vs λx y=>kS x λds=>kS y λes=>Q (XF (λd e=>.tup [d,e]) ds es) μ1:=propext Wr
theorem RZ (n:Bool)(x:D)(ds:List D)(μ:Mu)(Q:DK):xk n x (.tup ds) μ Q=((cz 38 ds=true/\okD 38 x=true)/\Q (.bl (if n then !inG x ds else inG x ds)) μ):=propext Wr
theorem Ry (n:Bool)(x:D)(ds:List D)(μ:Mu)(Q:DK):xk n x (.ls ds) μ Q=((cz 38 ds=true/\okD 38 x=true)/\Q (.bl (if n then !inG x ds else inG x ds)) μ):=propext Wr
theorem QZ (μ:Mu)(ds:List D)(f:List D->Prop):qg μ (.ls ds) f=f ds:=propext Wr
theorem RA (μ:Mu)(a:Addr)(f:List D->Prop):qg μ (.obj a) f=kL μ a f:=propext Wr
theorem QG (i:Int)(f:L2.Key->Prop):mV (.int i) f=f (.inl i):=propext Wr
theorem Pp (s:Str)(f:L2.Key->Prop):mV (.str s) f=f (.inr s):=propext Wr
theorem Oi {μ:Mu}{a:Addr}{ds:List (L2.Key×D)}(h:μ a=some (.dct ds))(f):kD μ a f=f ds:=by unfold kD;rw[h]
theorem Sv (μ:Mu)(a:Addr)(ds:List (L2.Key×D))(f:List (L2.Key×D)->Prop):kD (up μ a (.dct ds)) a f=f ds:=Oi aE f
theorem UC {μ:Mu}{a:Addr}{ds:List (L2.Key×D)}{f:List (L2.Key×D)->Prop}(e:μ a=some (.dct ds))(h:f ds):kD μ a f:=by rw[Oi e];exact h
theorem NL (xs:List D)(μ:Mu)(Q:DK):iW tY [.ls xs] μ Q=(∃ kvs:List (L2.Key×D),xs=kvs.map AM/\kvs.length<=1000000/\∀ p,μ p=none->Q (.obj p) (up μ p (.dct (jy [] kvs)))):=propext Wr
theorem Pw (i j:Str)(μ:Mu)(Q:DK):Oz (.str i) (.str j) μ Q=Q (.bl (ltS j i)) μ:=propext Wr
theorem IsPart.of_eq {a b c d x y:Int}(h:IsPart a b x y)(hb:0 < b)(hd:0 < d)(e:a*d=c*b):IsPart c d x y:=by
 have xd:x*d=c*y:=by
  refine Zc (a:=b) (by omega) ?_
  calc x*d*b=(x*b)*d:=by ac_rfl
   _=(a*y)*d:=by rw[h.e]
   _=(a*d)*y:=by ac_rfl
   _=(c*b)*y:=by rw[e]
   _=c*y*b:=by ac_rfl
 have y0:=h.q0
 have dx:x ∣ c:=by
  have:x ∣ y*c:=⟨d,by rw[X1 y c];exact xd.symm⟩
  have h':=Yr.mpr this
  rw[h.g] at h'
  simpa using h'
 have dy:y ∣ d:=by
  have:y ∣ x*d:=⟨c,by rw[xd,X1]⟩
  have h':=Yr.mpr this
  rw[zbw,h.g] at h'
  simpa using h'
 refine ⟨h.q0,h.g,xd,?_,zea (by omega) (zbR.mpr dy)⟩
 by_cases hc:c=0
 ·subst hc
  have:x=0:=by
   rcases Int.mul_eq_zero.mp (show x*d=0 by rw[xd,Int.zero_mul]) with z | z
   ·exact z
   ·omega
  rw[this];exact WG _
 ·exact zea (by omega) (zbR.mpr dx)
structure Vl (d:D) (a b:Int):Prop where
 ex:∃ p q,d=fr p q/\IsPart a b p q
 b0:0 < b
theorem Vl.of_eq {d:D}{a b a' b':Int}(h:Vl d a b)(hb:0 < b')(e:a*b'=a'*b):Vl d a' b':=by
 obtain ⟨⟨p,q,rfl,P⟩,b0⟩:=h
 exact ⟨⟨p,q,rfl,P.of_eq b0 hb e⟩,hb⟩
theorem Vl.uniq {d d':D}{a b:Int}(h:Vl d a b)(h':Vl d' a b):d=d':=by
 obtain ⟨⟨p,q,rfl,P⟩,b0⟩:=h
 obtain ⟨⟨p',q',rfl,P'⟩,_⟩:=h'
 obtain ⟨rfl,rfl⟩:=P.same P' (by omega) (by omega) rfl
 rfl
theorem Qe (a:Int){b:Int}(b0:0 < b):Vl (.tup [.int (a.fdiv (W6 a b)),.int (b.fdiv (W6 a b))]) a b:=by
 have h:=C5 (a:=a) (b:=b) (by omega)
 rw[if_neg (by omega)] at h
 exact ⟨⟨_,_,rfl,h⟩,b0⟩
theorem i8 {lo hi p q:Int}(h:FrB lo hi p q):Vl (fr p q) p q:=⟨⟨p,q,rfl,h.q0,h.g,rfl,WG _,WG _⟩,h.q0⟩
theorem Dc {a b x y:Int}(h:IsPart a b x y)(b0:0 < b):Vl (fr x y) a b:=⟨⟨x,y,rfl,h⟩,b0⟩
theorem NS {p q a b:Int}(g:Int)(q0:0 < q)(b0:0 < b)(e:p*b=a*q):p*g / q=a*g / b:=by
 calc p*g / q=(p*g)*b / (q*b):=(X2 _ _ b0).symm
  _=(a*g)*q / (b*q):=by rw[show p*g*b=(p*b)*g by ac_rfl,e,X1 q b,show a*q*g=a*g*q by ac_rfl]
  _=a*g / b:=X2 _ _ q0
theorem Pg {p q a b:Int}(q0:0 < q)(b0:0 < b)(e:p*b=a*q):p / q=a / b:=by
 have:=NS 1 q0 b0 e
 simpa using this
theorem TK {p q r s a b c e:Int}(q0:0 < q)(s0:0 < s)(b0:0 < b)(e0:0 < e)(h1:p*b=a*q)(h2:r*e=c*s):(p*s < r*q)↔(a*e < c*b):=by
 have k1:(p*s)*(b*e)=(a*e)*(q*s):=by
  calc (p*s)*(b*e)=(p*b)*(s*e):=by ac_rfl
   _=(a*q)*(s*e):=by rw[h1]
   _=(a*e)*(q*s):=by ac_rfl
 have k2:(r*q)*(b*e)=(c*b)*(q*s):=by
  calc (r*q)*(b*e)=(r*e)*(q*b):=by ac_rfl
   _=(c*s)*(q*b):=by rw[h2]
   _=(c*b)*(q*s):=by ac_rfl
 have be:0 < b*e:=X7 b0 e0
 have qs:0 < q*s:=X7 q0 s0
 constructor
 ·intro h
  have:=Y5 h be
  rw[k1,k2] at this
  exact zaD this (zbx qs)
 ·intro h
  have:=Y5 h qs
  rw[← k1,← k2] at this
  exact zaD this (zbx be)
def Le (a A:Int):Prop:=-A<=a/\a<=A
theorem Le.mono {a A B:Int}(h:Le a A)(hb:A<=B):Le a B:=⟨by have:=h.1;omega,by have:=h.2;omega⟩
theorem Le.of {a A:Int}(h0:0<=a)(h1:a<=A):Le a A:=⟨by omega,h1⟩
theorem Le.add {a b A B:Int}(h:Le a A)(k:Le b B):Le (a+b) (A+B):=⟨by have:=h.1;have:=k.1;omega,by have:=h.2;have:=k.2;omega⟩
theorem Le.sub {a b A B:Int}(h:Le a A)(k:Le b B):Le (a - b) (A+B):=⟨by have:=h.1;have:=k.2;omega,by have:=h.2;have:=k.1;omega⟩
theorem Le.neg {a A:Int}(h:Le a A):Le (-a) A:=⟨by have:=h.2;omega,by have:=h.1;omega⟩
theorem Le.abs {a A:Int}(h:Le a A):(a.natAbs:Int)<=A:=by have:=h.1;have:=h.2;omega
theorem Le.JQ {a A:Int}(h:(a.natAbs:Int)<=A):Le a A:=⟨by omega,by omega⟩
theorem Le.mul {a b A B:Int}(h:Le a A)(k:Le b B):Le (a*b) (A*B):=by
 refine .JQ ?_
 rw[zdZ,Int.natCast_mul]
 have a0:(0:Int)<=(a.natAbs:Int):=ZE _
 have b0:(0:Int)<=(b.natAbs:Int):=ZE _
 exact zd1 h.abs k.abs b0 (zei a0 h.abs)
abbrev Bd (a:Int):Prop:=Le a 1000000000000000000000000000000
theorem Bd.m {a:Int}(h:Bd a):fB a:=by have:=h.1;have:=h.2;unfold fB;omega
theorem Bd.mm {a b:Int}(h:Bd a)(k:Bd b):fB (a*b):=by
 have:=(h.mul k).1;have:=(h.mul k).2
 unfold fB;omega
theorem Bd.mul {a b:Int}(h:Bd a)(k:Bd b):MulOk a b:=.inr ⟨h.m,k.m⟩
theorem IsPart.bp {a b x y:Int}(h:IsPart a b x y)(ha:Bd a):Bd x:=.JQ (by have:=h.pa;have:=ha.abs;omega)
theorem IsPart.bq {a b x y:Int}(h:IsPart a b x y)(hb:Bd b):Bd y:=.JQ (by have:=h.qb;have:=hb.abs;omega)
inductive Wd | gn | step | iB | kH | calm
 deriving DecidableEq
structure RN where
 wd:Wd
 p:Int
 q:Int
 x:Int
 y:Int
 a:Int
 b:Int
 l:Int
 h:Int
 r:Int
 s:Int
def Wd.str:Wd->Str
 | .gn=>OF "still"
 | .step=>OF "step"
 | .iB=>OF "swell"
 | .kH=>OF "heed"
 | .calm=>OF "calm"
def RN.toD (R:RN):D:=match R.wd with
 | .gn=>.tup [.str "still", fr R.p R.q]
 | .step=>.tup [.str "step", fr R.p R.q,fr R.x R.y,fr R.a R.b,fr R.r R.s]
 | .iB=>.tup [.str "swell", fr R.p R.q,fr R.x R.y,fr R.a R.b,fr R.r R.s]
 | .kH=>.tup [.str "heed", fr R.p R.q,fr R.x R.y,fr R.a R.b,fr R.r R.s]
 | .calm=>.tup [.str "calm", fr R.p R.q,fr R.x R.y,.int R.l,.int R.h,fr R.r R.s]
structure RN.Ok (R:RN):Prop where
 w:FrB 1 60 R.p R.q
 t:FrB 1 60 R.r R.s
 wt:R.p*R.s<=R.r*R.q
 u:FrA 0 60 R.x R.y
 u1:R.wd=.iB->R.y < R.x
 g:FrA 0 1 R.a R.b
 d1:R.wd=.step∨R.wd=.iB->R.a < R.b
 l0:0<=R.l
 lh:R.l<=R.h
 h1:R.h<=60
 st:R.wd=.gn->R.r=R.p/\R.s=R.q
theorem Hi {lo hi:Int}(h0:lo < 1)(h1:1<=hi):FrA lo hi 1 1:=⟨⟨by decide,by decide,by decide,by omega,by omega⟩,by omega⟩
theorem Uk {p q:Int}(h:FrL 1 p q):FrA 0 1 p q:=⟨h.toFrB,by have:=h.ab;omega⟩
structure Hd where
 good:Int
 mark:Int
 bz:Int
 wt:Int
structure Hd.Ok (h:Hd):Prop where
 g0:0<=h.good
 g1:h.good<=1000000
 m0:0<=h.mark
 m1:h.mark<=1000000
 l0:0<=h.bz
 l1:h.bz<=1000000
 w0:0<=h.wt
def Hd.toD (h:Hd):D:=.tup [.int h.good,.int h.mark,.int h.bz,.int h.wt]
def Hd.bad (h:Hd):Int:=h.mark+h.bz
def Hd.many (h:Hd):Int:=h.good+h.bad
def RN.idle (R:RN)(h:Hd):Prop:=R.wd=.gn∨h.good+h.mark+h.bz=0
instance (R:RN) (h:Hd):Decidable (R.idle h):=by unfold RN.idle;infer_instance
def RN.cap (R:RN)(g:Int):Int:=R.r*g / R.s
def RN.shr (R:RN)(g S:Int)(h:Hd):Int:=if R.wd=.kH then (S*R.b*h.many+R.a*(h.bad*g - S*h.many)) / (R.b*h.many) else S
def RN.fac (R:RN)(g S:Int)(h:Hd):Option (Int×Int):=match R.wd with
 | .gn=>none
 | .calm=>if 0 < h.bz then some (1,2) else none
 | .kH=>if h.bad=0 then none else some (2*g - S,2*g)
 | .iB=>if h.bad=0 then some (R.x,R.y) else some (R.a,R.b)
 | .step=>if h.bad=0 then none else some (R.a,R.b)
def RN.mvd (R:RN)(g W:Int)(h:Hd):Int:=if R.wd=.calm then (if h.wt < R.l then W*R.y+g*R.x else if R.h < h.wt then W*R.y - g*R.x else W*R.y) else W*R.y+g*R.x
def RN.mv (R:RN)(g W S:Int)(h:Hd):Int:=match R.fac g S h with
 | some f=>W*f.1 / f.2
 | none=>R.mvd g W h / R.y
def RN.clip (R:RN)(g z:Int):Int:=min (max z g) (R.cap g)
def RN.beh (R:RN)(g W S:Int)(h:Hd):Int×Int:=if R.idle h then (W,S) else (R.clip g (R.mv g W (R.shr g S h) h),R.shr g S h)
theorem Fp {R:RN}(k:R.Ok){g:Int}(g0:0 < g):g<=R.cap g:=by
 unfold RN.cap
 rw[XS k.t.q0]
 have:=WO k.t.ge (show 0<=g by omega)
 have e:g*R.s=1*R.s*g:=by rw[zb6,X1]
 omega
theorem A2 {R:RN}(k:R.Ok){g:Int}(g0:0 < g):R.cap g<=60*g:=by
 unfold RN.cap
 refine Y2 k.t.q0 ?_
 have:=WO k.t.le (show 0<=g by omega)
 have e:60*g*R.s=60*R.s*g:=by ac_rfl
 omega
theorem Io {R:RN}(k:R.Ok){g S:Int}{h:Hd}(H:h.Ok)(hn:¬ R.idle h)(g0:0 < g)(S0:0<=S)(S1:S<=g):0<=R.shr g S h/\R.shr g S h<=g:=by
 unfold RN.shr
 split
 ·rename_i hw
  have m0:0 < h.many:=by
   unfold RN.idle at hn
   unfold Hd.many Hd.bad
   have:=H.g0;have:=H.m0;have:=H.l0
   have:¬ (h.good+h.mark+h.bz=0):=λz=>hn (.inr z)
   omega
  have bb:h.bad<=h.many:=by unfold Hd.many;have:=H.g0;omega
  have b0:0<=h.bad:=by unfold Hd.bad;have:=H.m0;have:=H.l0;omega
  have q0:=k.g.q0
  have a0:0 < R.a:=by have:=k.g.ab;omega
  have ab:R.a<=R.b:=by have:=k.g.le;omega
  have Y:0 < R.b*h.many:=X7 q0 m0
  have e:S*R.b*h.many+R.a*(h.bad*g - S*h.many)=(R.b - R.a)*(S*h.many)+R.a*(h.bad*g):=by
   rw[Int.mul_sub,zaM,show S*R.b*h.many=R.b*(S*h.many) by ac_rfl];omega
  have z1:0<=(R.b - R.a)*(S*h.many):=YR (by omega) (YR S0 (by omega))
  have z2:0<=R.a*(h.bad*g):=YR (by omega) (YR b0 (by omega))
  have z3:(R.b - R.a)*(S*h.many)<=(R.b - R.a)*(g*h.many):=YS (WO S1 (by omega)) (by omega)
  have z4:R.a*(h.bad*g)<=R.a*(h.many*g):=YS (WO bb (by omega)) (by omega)
  have e2:(R.b - R.a)*(g*h.many)+R.a*(h.many*g)=g*(R.b*h.many):=by
   rw[zaM,show R.b*(g*h.many)=g*(R.b*h.many) by ac_rfl,show R.a*(h.many*g)=R.a*(g*h.many) by ac_rfl];omega
  rw[e]
  exact ⟨Int.ediv_nonneg (by omega) (by omega),Y2 Y (by omega)⟩
 ·exact ⟨S0,S1⟩
local macro_rules | `(tactic| walk_at "rd")=>zzS "L3.ai L3.TC L3.ak L3.TUn L3.FG L3.Ce L3.JR L3.TB L3.mL L3.TOr L3.rL L3.kM L3.ij L3.av L3.ah L3.bB L3.fv L3.nD L3.au L3.bo L3.aA L3.BY L3.Jw L3.fE L3.a6 L3.G8 L3.bW L3.ax L3.aP L3.qU L3.BJ L3.iJ L3.gL L3.dq L3.bO L3.fG L3.fe L3.eG L3.Tq L3.ILs L3.F7 L3.Jt L3.HQ L3.J9 L3.Iz L3.Bk L3.pO L3.BZ L3.FL L3.Bf L3.vB L3.Cm L3.qF L3.vU L3.wq L3.wb L3.vd L3.o7 L3.je L3.yS L3.rD L3.r6 L3.ro L3.qr L3.sJ L3.qw L3.qY L3.qK L3.rJ L3.TSl L3.ONo L3.mS L3.Ha L3.Fu L3.Ii L3.GA L3.FZ L3.Ik L3.AR L3.BS L3.JF L3.Jc L3.Hb L3.rE L3.rK L3.rV L3.B3 L3.BU L3.AI L3.Ay L3.BQ L3.zW L3.zV L3.zJ L3.zT L3.Kj L3.Gx L3.Hk L3.HS L3.Gf L3.FX L3.rZ L3.IV L3.IW L3.As L3.BC L3.Aj L3.BR L3.Ag L3.BP L3.AH L3.AZ L3.BB L3.B6 L3.lk L3.ini zc2 Xr X9 zdx zeq za9 Yc zc3 zcv zcw L3.zd L3.xl L3.C6 L3.CI L3.CC L3.Cs ZK ZL L3.aE L3.iC zc4 zba if_true if_false true_and and_true zcx zb1 zb2 zbb zac zbF decide_eq_true_eq ZD ite_false ite_true ne_eq not_false_eq_true zbG zcy zcz zcA zcB zcC zc5 L3.okD L3.cz L3.eqD L3.sM zcD zcE zcF L3.de L3.iS decide_true decide_false Bool.or_true zd4 zee zd6 zb4 zdM and_self L3.cq L3.bY L3.cC L3.cf L3.ck L3.cD L3.cS L3.cV L3.bX L3.cv L3.cu L3.cx L3.cA L3.cT L3.cF L3.c6 L3.cB L3.cX L3.cj L3.c5 L3.jf L3.nh L3.qi L3.m9 L3.sH L3.qm L3.fV L3.fL L3.fX L3.fS L3.fO L3.fQ L3.fK"
def kr:FSp:=λds μ Q=>kcA ds λd1 ds=>kcA ds λd2 ds=>kcN ds (∃ a b c e,((Vl d1 a b/\Vl d2 c e)/\Bd a/\Bd b/\Bd c/\Bd e)/\∀ z,Vl z (a*e+c*b) (b*e)->Q z μ)
theorem IU:∀ ds μ Q,kr ds μ Q->ds.length=2:=λ_ _ _ h=>lcA h λ_ _ h=>lcA h λ_ _ h=>by rw[(ecN h).1];rfl
def HR:STr:=a6 (au gW (ah (ak aR (ak eC (ak L3.rIx (ai 0) (TC (.int 0))) (ak L3.rIx (ai 1) (TC (.int 1)))) (ak eC (ak L3.rIx (ai 1) (TC (.int 0))) (ak L3.rIx (ai 0) (TC (.int 1))))) (ah (ak eC (ak L3.rIx (ai 0) (TC (.int 1))) (ak L3.rIx (ai 1) (TC (.int 1)))) (av))))
theorem ND:∀ ds μ Q,kr ds μ Q->HR { nx:=λ_ μ'=>RT Q .non μ',rt:=RT Q } (ini 2 ds) μ:=by
 intro ds μ Q h
 replace h:=ecA h
 obtain ⟨d1,ds,rfl,h⟩:=h
 replace h:=ecA h
 obtain ⟨d2,ds,rfl,h⟩:=h
 replace h:=ecN h
 obtain ⟨rfl,h⟩:=h
 unfold HR
 walk_at "rd"
 obtain ⟨a,b,c,e,⟨⟨V1,V2⟩,Ba,Bb,Bc,Be⟩,k⟩:=h
 obtain ⟨⟨p,q,rfl,P⟩,b0⟩:=V1
 obtain ⟨⟨r,s,rfl,S⟩,e0⟩:=V2
 have q0:=P.q0
 have s0:=S.q0
 have be:0 < b*e:=X7 b0 e0
 have qs:0 < q*s:=X7 q0 s0
 have Bp:=P.bp Ba
 have Bq:=P.bq Bb
 have Br:=S.bp Bc
 have Bs:=S.bq Be
 walk_at "rd"
 refine ⟨Bp.mul Bs,Br.mul Bq,Bq.mul Bs,⟨by omega,Bq.mm Bs⟩,λx y Pt=>⟨_,.refl _,k _ ⟨⟨x,y,rfl,Pt.of_eq qs be ?_⟩,be⟩⟩⟩
 calc (p*s+r*q)*(b*e)=(p*b)*(s*e)+(r*e)*(q*b):=by rw[zb7];congr 1<;>ac_rfl
  _=(a*q)*(s*e)+(c*s)*(q*b):=by rw[P.e,S.e]
  _=(a*e+c*b)*(q*s):=by rw[zb7];congr 1<;>ac_rfl
def iA:FSp:=λds μ Q=>kcA ds λd1 ds=>kcA ds λd2 ds=>kcN ds (∃ a b c e,((Vl d1 a b/\Vl d2 c e)/\Bd a/\Bd b/\Bd c/\Bd e)/\∀ z,Vl z (a*e - c*b) (b*e)->Q z μ)
theorem Ec:∀ ds μ Q,iA ds μ Q->ds.length=2:=λ_ _ _ h=>lcA h λ_ _ h=>lcA h λ_ _ h=>by rw[(ecN h).1];rfl
def CU:STr:=a6 (au gW (ah (ak jr (ak eC (ak L3.rIx (ai 0) (TC (.int 0))) (ak L3.rIx (ai 1) (TC (.int 1)))) (ak eC (ak L3.rIx (ai 1) (TC (.int 0))) (ak L3.rIx (ai 0) (TC (.int 1))))) (ah (ak eC (ak L3.rIx (ai 0) (TC (.int 1))) (ak L3.rIx (ai 1) (TC (.int 1)))) (av))))
theorem FC:∀ ds μ Q,iA ds μ Q->CU { nx:=λ_ μ'=>RT Q .non μ',rt:=RT Q } (ini 2 ds) μ:=by
 intro ds μ Q h
 replace h:=ecA h
 obtain ⟨d1,ds,rfl,h⟩:=h
 replace h:=ecA h
 obtain ⟨d2,ds,rfl,h⟩:=h
 replace h:=ecN h
 obtain ⟨rfl,h⟩:=h
 unfold CU
 walk_at "rd"
 obtain ⟨a,b,c,e,⟨⟨V1,V2⟩,Ba,Bb,Bc,Be⟩,k⟩:=h
 obtain ⟨⟨p,q,rfl,P⟩,b0⟩:=V1
 obtain ⟨⟨r,s,rfl,S⟩,e0⟩:=V2
 have q0:=P.q0
 have s0:=S.q0
 have be:0 < b*e:=X7 b0 e0
 have qs:0 < q*s:=X7 q0 s0
 have Bp:=P.bp Ba
 have Bq:=P.bq Bb
 have Br:=S.bp Bc
 have Bs:=S.bq Be
 walk_at "rd"
 refine ⟨Bp.mul Bs,Br.mul Bq,Bq.mul Bs,⟨by omega,Bq.mm Bs⟩,λx y Pt=>⟨_,.refl _,k _ ⟨⟨x,y,rfl,Pt.of_eq qs be ?_⟩,be⟩⟩⟩
 calc (p*s - r*q)*(b*e)=(p*b)*(s*e) - (r*e)*(q*b):=by rw[zaM];congr 1<;>ac_rfl
  _=(a*q)*(s*e) - (c*s)*(q*b):=by rw[P.e,S.e]
  _=(a*e - c*b)*(q*s):=by rw[zaM];congr 1<;>ac_rfl
def iG:FSp:=λds μ Q=>kcA ds λd1 ds=>kcA ds λd2 ds=>kcN ds (∃ a b c e,((Vl d1 a b/\Vl d2 c e)/\Bd a/\Bd b/\Bd c/\Bd e)/\∀ z,Vl z (a*c) (b*e)->Q z μ)
theorem DP:∀ ds μ Q,iG ds μ Q->ds.length=2:=λ_ _ _ h=>lcA h λ_ _ h=>lcA h λ_ _ h=>by rw[(ecN h).1];rfl
def DD:STr:=a6 (au gW (ah (ak eC (ak L3.rIx (ai 0) (TC (.int 0))) (ak L3.rIx (ai 1) (TC (.int 0)))) (ah (ak eC (ak L3.rIx (ai 0) (TC (.int 1))) (ak L3.rIx (ai 1) (TC (.int 1)))) (av))))
theorem F5:∀ ds μ Q,iG ds μ Q->DD { nx:=λ_ μ'=>RT Q .non μ',rt:=RT Q } (ini 2 ds) μ:=by
 intro ds μ Q h
 replace h:=ecA h
 obtain ⟨d1,ds,rfl,h⟩:=h
 replace h:=ecA h
 obtain ⟨d2,ds,rfl,h⟩:=h
 replace h:=ecN h
 obtain ⟨rfl,h⟩:=h
 unfold DD
 walk_at "rd"
 obtain ⟨a,b,c,e,⟨⟨V1,V2⟩,Ba,Bb,Bc,Be⟩,k⟩:=h
 obtain ⟨⟨p,q,rfl,P⟩,b0⟩:=V1
 obtain ⟨⟨r,s,rfl,S⟩,e0⟩:=V2
 have q0:=P.q0
 have s0:=S.q0
 have be:0 < b*e:=X7 b0 e0
 have qs:0 < q*s:=X7 q0 s0
 have Bp:=P.bp Ba
 have Bq:=P.bq Bb
 have Br:=S.bp Bc
 have Bs:=S.bq Be
 walk_at "rd"
 refine ⟨Bp.mul Br,Bq.mul Bs,⟨by omega,Bq.mm Bs⟩,λx y Pt=>⟨_,.refl _,k _ ⟨⟨x,y,rfl,Pt.of_eq qs be ?_⟩,be⟩⟩⟩
 calc (p*r)*(b*e)=(p*b)*(r*e):=by ac_rfl
  _=(a*q)*(c*s):=by rw[P.e,S.e]
  _=(a*c)*(q*s):=by ac_rfl
def lZ:FSp:=λds μ Q=>kcA ds λd1 ds=>kcA ds λd2 ds=>kcN ds (∃ a b c e,((Vl d1 a b/\Vl d2 c e)/\Bd a/\Bd b/\Bd c/\Bd e)/\Q (.bl (decide (a*e < c*b))) μ)
theorem HF:∀ ds μ Q,lZ ds μ Q->ds.length=2:=λ_ _ _ h=>lcA h λ_ _ h=>lcA h λ_ _ h=>by rw[(ecN h).1];rfl
def FR:STr:=a6 (ak rLt (ak eC (ak L3.rIx (ai 0) (TC (.int 0))) (ak L3.rIx (ai 1) (TC (.int 1)))) (ak eC (ak L3.rIx (ai 1) (TC (.int 0))) (ak L3.rIx (ai 0) (TC (.int 1)))))
theorem Lp:∀ ds μ Q,lZ ds μ Q->FR { nx:=λ_ μ'=>RT Q .non μ',rt:=RT Q } (ini 2 ds) μ:=by
 intro ds μ Q h
 replace h:=ecA h
 obtain ⟨d1,ds,rfl,h⟩:=h
 replace h:=ecA h
 obtain ⟨d2,ds,rfl,h⟩:=h
 replace h:=ecN h
 obtain ⟨rfl,h⟩:=h
 unfold FR
 walk_at "rd"
 obtain ⟨a,b,c,e,⟨⟨V1,V2⟩,Ba,Bb,Bc,Be⟩,k⟩:=h
 obtain ⟨⟨p,q,rfl,P⟩,b0⟩:=V1
 obtain ⟨⟨r,s,rfl,S⟩,e0⟩:=V2
 walk_at "rd"
 refine ⟨(P.bp Ba).mul (S.bq Be),(S.bp Bc).mul (P.bq Bb),_,.refl _,?_⟩
 rw[show decide (p*s < r*q)=decide (a*e < c*b) from decide_eq_decide.mpr (TK P.q0 S.q0 b0 e0 P.e S.e)]
 exact k
def gI:FSp:=λds μ Q=>kcA ds λd1 ds=>kcN ds (∃ a b,(Vl d1 a b/\Bd b)/\Q (.int (a / b)) μ)
theorem va:∀ ds μ Q,gI ds μ Q->ds.length=1:=λ_ _ _ h=>lcA h λ_ _ h=>by rw[(ecN h).1];rfl
def r9:STr:=a6 (ak lB (ak L3.rIx (ai 0) (TC (.int 0))) (ak L3.rIx (ai 0) (TC (.int 1))))
theorem xR:∀ ds μ Q,gI ds μ Q->r9 { nx:=λ_ μ'=>RT Q .non μ',rt:=RT Q } (ini 1 ds) μ:=by
 intro ds μ Q h
 replace h:=ecA h
 obtain ⟨d1,ds,rfl,h⟩:=h
 replace h:=ecN h
 obtain ⟨rfl,h⟩:=h
 unfold r9
 walk_at "rd"
 obtain ⟨a,b,⟨⟨⟨p,q,rfl,P⟩,b0⟩,Bb⟩,k⟩:=h
 have q0:=P.q0
 walk_at "rd"
 rw[jK q0,Pg q0 b0 P.e]
 exact ⟨⟨by omega,(P.bq Bb).m⟩,_,.refl _,k⟩
def fi:FSp:=λds μ Q=>kcA ds λd1 ds=>kcI ds λg ds=>kcN ds (∃ a b,(Vl d1 a b/\Bd a/\Bd b/\0 < g/\g<=1000000)/\∀ z,Vl z (a*g / b) g->Q z μ)
theorem Ak:∀ ds μ Q,fi ds μ Q->ds.length=2:=λ_ _ _ h=>lcA h λ_ _ h=>lcI h λ_ _ h=>by rw[(ecN h).1];rfl
def wO:STr:=a6 (au gW (ah (ak lB (ak eC (ak L3.rIx (ai 0) (TC (.int 0))) (ai 1)) (ak L3.rIx (ai 0) (TC (.int 1)))) (ah (ai 1) (av))))
theorem Eh:∀ ds μ Q,fi ds μ Q->wO { nx:=λ_ μ'=>RT Q .non μ',rt:=RT Q } (ini 2 ds) μ:=by
 intro ds μ Q h
 replace h:=ecA h
 obtain ⟨d1,ds,rfl,h⟩:=h
 replace h:=ecI h
 obtain ⟨g,ds,rfl,h⟩:=h
 replace h:=ecN h
 obtain ⟨rfl,h⟩:=h
 unfold wO
 walk_at "rd"
 obtain ⟨a,b,⟨⟨⟨p,q,rfl,P⟩,b0⟩,Ba,Bb,g0,g1⟩,k⟩:=h
 have q0:=P.q0
 walk_at "rd"
 rw[jK q0,NS g q0 b0 P.e]
 exact ⟨.inl (.inr (by unfold S64;omega)),⟨by omega,(P.bq Bb).m⟩,⟨by omega,by unfold fB;omega⟩,λx y Pt=>⟨_,.refl _,k _ (Dc Pt g0)⟩⟩
theorem Gb {xs:List D}{d:D}(h:xs[xs.length - 1]? = some d)(h0:xs≠[]):atD xs ((xs.length:Int) - 1)=some d:=by
 have:0 < xs.length:=List.length_pos_iff.mpr h0
 have e:((xs.length:Int) - 1)=((xs.length - 1:Nat):Int):=by omega
 rw[e,bZ,h]
theorem RN.tup (R:RN)(hst:R.wd=.gn->R.r=R.p/\R.s=R.q):∃ xs,R.toD=.tup xs/\xs[0]? = some (.str R.wd.str)/\xs[1]? = some (fr R.p R.q)/\xs[xs.length - 1]? = some (fr R.r R.s)/\xs≠[]:=by
 obtain ⟨wd,p,q,x,y,a,b,l,h,r,s⟩:=R
 cases wd
 ·obtain ⟨e1,e2⟩:=hst rfl
  dsimp only at e1 e2
  subst e1 e2
  exact ⟨_,rfl,rfl,rfl,rfl,nofun⟩
 all_goals exact ⟨_,rfl,rfl,rfl,rfl,nofun⟩
def iD:FSp:=λds μ Q=>kcA ds λd ds=>kcN ds (∃ R:RN,(R.Ok/\d=R.toD)/\Q (fr R.r R.s) μ)
theorem Bl:∀ ds μ Q,iD ds μ Q->ds.length=1:=λ_ _ _ h=>lcA h λ_ _ h=>by rw[(ecN h).1];rfl
def wZ:STr:=a6 (ak L3.rIx (ai 0) (ak jr (au dg (ah (ai 0) (av))) (TC (.int 1))))
theorem ED:∀ ds μ Q,iD ds μ Q->wZ { nx:=λ_ μ'=>RT Q .non μ',rt:=RT Q } (ini 1 ds) μ:=by
 intro ds μ Q h
 replace h:=ecA h
 obtain ⟨d,ds,rfl,h⟩:=h
 replace h:=ecN h
 obtain ⟨rfl,h⟩:=h
 unfold wZ
 walk_at "rd"
 obtain ⟨R,⟨K,rfl⟩,k⟩:=h
 obtain ⟨xs,e,_,_,e3,e4⟩:=R.tup K.st
 rw[e]
 walk_at "rd"
 rw[Gb e3 e4]
 exact ⟨_,.refl _,k⟩
def jb:FSp:=λds μ Q=>kcA ds λd ds=>kcA ds λe ds=>kcN ds (∃ (R:RN) (h:Hd),(d=R.toD/\e=h.toD)/\Q (.bl (decide (R.idle h))) μ)
theorem xG:∀ ds μ Q,jb ds μ Q->ds.length=2:=λ_ _ _ h=>lcA h λ_ _ h=>lcA h λ_ _ h=>by rw[(ecN h).1];rfl
def uo:STr:=a6 (Ce (ak rEq (ak L3.rIx (ai 0) (TC (.int 0))) (TC (.str "still"))) (ak rEq (ak aR (ak aR (ak L3.rIx (ai 1) (TC (.int 0))) (ak L3.rIx (ai 1) (TC (.int 1)))) (ak L3.rIx (ai 1) (TC (.int 2)))) (TC (.int 0))))
theorem Ao:∀ ds μ Q,jb ds μ Q->uo { nx:=λ_ μ'=>RT Q .non μ',rt:=RT Q } (ini 2 ds) μ:=by
 intro ds μ Q h
 replace h:=ecA h
 obtain ⟨d,ds,rfl,h⟩:=h
 replace h:=ecA h
 obtain ⟨e,ds,rfl,h⟩:=h
 replace h:=ecN h
 obtain ⟨rfl,h⟩:=h
 unfold uo
 walk_at "rd"
 obtain ⟨R,h,⟨rfl,rfl⟩,k⟩:=h
 obtain ⟨wd,p,q,x,y,a,b,l,hh,r,s⟩:=R
 obtain ⟨good,mark,bz,wt⟩:=h
 unfold RN.idle at k
 cases wd
 all_goals
  simp only[RN.toD,Hd.toD,fr]
  walk_at "rd"
  refine ⟨_,.refl _,?_⟩
  simpa using k
def Gd (g:Int):Prop:=1<=g/\g<=60
theorem Ih {R:RN}{h:Hd}(H:h.Ok)(hn:¬ R.idle h):0 < h.many/\h.many<=3000000:=by
 have:=H.g0;have:=H.m0;have:=H.l0;have:=H.g1;have:=H.m1;have:=H.l1
 have:¬ (h.good+h.mark+h.bz=0):=λz=>hn (.inr z)
 unfold Hd.many Hd.bad
 omega
theorem FrB.bd {lo hi p q:Int}(h:FrB lo hi p q)(l0:0<=lo)(h1:hi<=60):Le p 600000120/\Le q 10000002:=by
 have:=h.q0;have:=h.q1
 have e1:=h.ge;have e2:=h.le
 have a1:0<=lo*q:=YR l0 (by omega)
 have a2:hi*q<=60*q:=WO h1 (by omega)
 exact ⟨.of (by omega) (by omega),.of (by omega) (by omega)⟩
theorem BF {R:RN}{g S:Int}{h:Hd}(hw:R.wd=.kH)(g0:0 < g)(Y:0 < R.b*h.many):(S*(R.b*(h.many*g))+R.a*(h.bad*g - S*h.many)*g)*g / (g*(R.b*(h.many*g)))=R.shr g S h:=by
 unfold RN.shr
 rw[if_pos hw]
 have e1:(S*(R.b*(h.many*g))+R.a*(h.bad*g - S*h.many)*g)*g=(S*R.b*h.many+R.a*(h.bad*g - S*h.many))*(g*g):=by
  rw[zb7,zb7];congr 1<;>ac_rfl
 have e2:g*(R.b*(h.many*g))=(R.b*h.many)*(g*g):=by ac_rfl
 rw[e1,e2]
 exact X2 _ _ (X7 g0 g0)
def ef:FSp:=λds μ Q=>kcA ds λd ds=>kcI ds λg ds=>kcA ds λsd ds=>kcA ds λe ds=>kcN ds (∃ (R:RN) (S:Int) (h:Hd),((d=R.toD/\e=h.toD)/\R.Ok/\h.Ok/\Gd g/\Vl sd S g/\(0<=S/\S<=g)/\¬ R.idle h)/\∀ z,Vl z (R.shr g S h) g->Q z μ)
theorem nv:∀ ds μ Q,ef ds μ Q->ds.length=4:=λ_ _ _ h=>lcA h λ_ _ h=>lcI h λ_ _ h=>lcA h λ_ _ h=>lcA h λ_ _ h=>by rw[(ecN h).1];rfl
def jL:STr:=aA (bW (TB (ak rNe (ak L3.rIx (ai 0) (TC (.int 0))) (TC (.str "heed")))) (a6 (ai 2)) (bo)) (aA (aP (ak aR (ak L3.rIx (ai 3) (TC (.int 1))) (ak L3.rIx (ai 3) (TC (.int 2)))) (ax 4)) (aA (aP (au iG (ah (ak L3.rIx (ai 0) (TC (.int 3))) (ah (au iA (ah (au gW (ah (ai 4) (ah (ak aR (ak L3.rIx (ai 3) (TC (.int 0))) (ai 4)) (av)))) (ah (ai 2) (av)))) (av)))) (ax 5)) (a6 (au fi (ah (au kr (ah (ai 2) (ah (ai 5) (av)))) (ah (ai 1) (av)))))))
theorem pj:∀ ds μ Q,ef ds μ Q->jL { nx:=λ_ μ'=>RT Q .non μ',rt:=RT Q } (ini 6 ds) μ:=by
 intro ds μ Q h
 replace h:=ecA h
 obtain ⟨d,ds,rfl,h⟩:=h
 replace h:=ecI h
 obtain ⟨g,ds,rfl,h⟩:=h
 replace h:=ecA h
 obtain ⟨sd,ds,rfl,h⟩:=h
 replace h:=ecA h
 obtain ⟨e,ds,rfl,h⟩:=h
 replace h:=ecN h
 obtain ⟨rfl,h⟩:=h
 unfold jL
 walk_at "rd"
 obtain ⟨R,S,h,⟨⟨rfl,rfl⟩,K,H,⟨g0,g1⟩,VS,⟨S0,S1⟩,hn⟩,k⟩:=h
 obtain ⟨m0,m1⟩:=Ih H hn
 have hb0:=H.m0;have hb1:=H.m1;have hc0:=H.l0;have hc1:=H.l1;have hg0:=H.g0;have hg1:=H.g1
 have GB:=K.g.toFrB.bd (by decide) (by decide)
 have gp:=K.g.q0
 obtain ⟨wd,p,q,x,y,a,b,l,hh,r,s⟩:=R
 cases wd
 case kH=>
  have sh:=λY=>BF (R:=⟨.kH,p,q,x,y,a,b,l,hh,r,s⟩) (g:=g) (S:=S) (h:=h) rfl (by omega) Y
  have k':=k
  generalize RN.shr ⟨.kH,p,q,x,y,a,b,l,hh,r,s⟩ g S h=Z at sh k'
  dsimp only at sh GB gp
  obtain ⟨good,mark,bz,wt⟩:=h
  simp only[Hd.many,Hd.bad] at sh m0 m1
  dsimp only at m0 m1 hb0 hb1 hc0 hc1 hg0 hg1
  simp only[RN.toD,Hd.toD,fr]
  walk_at "rd"
  have L1:Le (mark+bz) 2000000:=.of (by omega) (by omega)
  have L2:Le (good+(mark+bz)) 3000000:=.of (by omega) (by omega)
  have LS:Le S 60:=.of S0 (by omega)
  have Lg:Le g 60:=.of (by omega) g1
  have e1:=L1.mul Lg
  have e2:=LS.mul L2
  have e3:=L2.mul Lg
  have e4:=e1.sub e2
  have e5:=GB.1.mul e4
  have e6:=GB.2.mul e3
  have mg:0 < (good+(mark+bz))*g:=X7 m0 (by omega)
  refine ⟨⟨by omega,Bd.m (L2.mono (by decide))⟩,λu v Pt=>⟨_,_,_,_,⟨⟨Dc Pt m0,VS⟩,L1.mono (by decide),L2.mono (by decide),LS.mono (by decide),Lg.mono (by decide)⟩,λz1 V1=>?_⟩⟩
  refine ⟨a,b,_,_,⟨⟨i8 K.g.toFrB,V1⟩,GB.1.mono (by decide),GB.2.mono (by decide),e4.mono (by decide),e3.mono (by decide)⟩,λz2 V2=>?_⟩
  walk_at "rd"
  refine ⟨_,_,_,_,⟨⟨VS,V2⟩,LS.mono (by decide),Lg.mono (by decide),e5.mono (by decide),e6.mono (by decide)⟩,λz3 V3=>?_⟩
  refine ⟨_,_,⟨V3,((LS.mul e6).add (e5.mul Lg)).mono (by decide),(Lg.mul e6).mono (by decide),by omega,by omega⟩,λz V=>⟨_,.refl _,k' z ?_⟩⟩
  rw[sh (X7 gp m0)] at V
  exact V
 all_goals
  simp only[RN.toD,Hd.toD,fr]
  walk_at "rd"
  refine ⟨_,.refl _,k _ ?_⟩
  exact VS
def fR:FSp:=λds μ Q=>kcA ds λd ds=>kcA ds λsd ds=>kcA ds λe ds=>kcN ds (∃ (R:RN) (g S:Int) (h:Hd),((d=R.toD/\e=h.toD)/\R.Ok/\h.Ok/\Gd g/\Vl sd S g/\(0<=S/\S<=g)/\¬ R.idle h)/\(R.fac g S h=none->Q .non μ)/\∀ f,R.fac g S h=some f->∀ z,Vl z f.1 f.2->Q z μ)
theorem tF:∀ ds μ Q,fR ds μ Q->ds.length=3:=λ_ _ _ h=>lcA h λ_ _ h=>lcA h λ_ _ h=>lcA h λ_ _ h=>by rw[(ecN h).1];rfl
def oa:STr:=aA (bW (TB (ak rEq (ak L3.rIx (ai 0) (TC (.int 0))) (TC (.str "calm")))) (a6 (kM (TB (ak rGt (ak L3.rIx (ai 2) (TC (.int 2))) (TC (.int 0)))) (TC (.tup [.int 1,.int 2])) (TC .non))) (bo)) (aA (bW (TB (ak rEq (ak aR (ak L3.rIx (ai 2) (TC (.int 1))) (ak L3.rIx (ai 2) (TC (.int 2)))) (TC (.int 0)))) (a6 (kM (TB (ak rEq (ak L3.rIx (ai 0) (TC (.int 0))) (TC (.str "swell")))) (ak L3.rIx (ai 0) (TC (.int 2))) (TC .non))) (bo)) (aA (bW (TB (ak rEq (ak L3.rIx (ai 0) (TC (.int 0))) (TC (.str "heed")))) (a6 (au iA (ah (TC (.tup [.int 1,.int 1])) (ah (au iG (ah (TC (.tup [.int 1,.int 2])) (ah (ai 1) (av)))) (av))))) (bo)) (a6 (ak L3.rIx (ai 0) (TC (.int 3))))))
theorem u4:∀ ds μ Q,fR ds μ Q->oa { nx:=λ_ μ'=>RT Q .non μ',rt:=RT Q } (ini 3 ds) μ:=by
 intro ds μ Q h
 replace h:=ecA h
 obtain ⟨d,ds,rfl,h⟩:=h
 replace h:=ecA h
 obtain ⟨sd,ds,rfl,h⟩:=h
 replace h:=ecA h
 obtain ⟨e,ds,rfl,h⟩:=h
 replace h:=ecN h
 obtain ⟨rfl,h⟩:=h
 unfold oa
 walk_at "rd"
 obtain ⟨R,g,S,h,⟨⟨rfl,rfl⟩,K,H,⟨g0,g1⟩,VS,⟨S0,S1⟩,hn⟩,k1,k2⟩:=h
 have hb0:=H.m0;have hb1:=H.m1;have hc0:=H.l0;have hc1:=H.l1;have hg0:=H.g0;have hg1:=H.g1
 have VG:=i8 K.g.toFrB
 have VU:=i8 K.u.toFrB
 have LS:Le S 60:=.of S0 (by omega)
 have Lg:Le g 60:=.of (by omega) g1
 have V12:Vl (fr 1 2) 1 2:=i8 (lo:=0) (hi:=1) ⟨by decide,by decide,by decide,by decide,by decide⟩
 have V11:Vl (fr 1 1) 1 1:=i8 (Hi (lo:=0) (hi:=1) (by decide) (by decide)).toFrB
 obtain ⟨wd,p,q,x,y,a,b,l,hh,r,s⟩:=R
 obtain ⟨good,mark,bz,wt⟩:=h
 dsimp only at hb0 hb1 hc0 hc1 hg0 hg1 VG VU
 simp only[RN.fac,Hd.bad] at k1 k2
 cases wd
 case gn=>exact absurd (ZV rfl) hn
 case calm=>
  simp only[RN.toD,Hd.toD,fr]
  walk_at "rd"
  split
  ·rename_i hl
   exact ⟨_,.refl _,k2 (1,2) (if_pos hl) _ V12⟩
  ·rename_i hl
   exact ⟨_,.refl _,k1 (if_neg hl)⟩
 case kH=>
  simp only[RN.toD,Hd.toD,fr]
  walk_at "rd"
  split
  ·rename_i hl
   exact ⟨_,.refl _,k1 (if_pos hl)⟩
  ·rename_i hl
   refine ⟨1,2,S,g,⟨⟨V12,VS⟩,.of (by decide) (by decide),.of (by decide) (by decide),LS.mono (by decide),Lg.mono (by decide)⟩,λz1 V1=>?_⟩
   refine ⟨1,1,_,_,⟨⟨V11,V1⟩,.of (by decide) (by decide),.of (by decide) (by decide),?_,?_⟩,λz2 V2=>⟨_,.refl _,k2 (2*g - S,2*g) (if_neg hl) _ ?_⟩⟩
   ·rw[zb6];exact LS.mono (by decide)
   ·exact .of (by omega) (by omega)
   ·simpa using V2
 case step=>
  simp only[RN.toD,Hd.toD,fr]
  walk_at "rd"
  split
  ·rename_i hl
   exact ⟨_,.refl _,k1 (if_pos hl)⟩
  ·rename_i hl
   exact ⟨_,.refl _,k2 (a,b) (if_neg hl) _ VG⟩
 case iB=>
  simp only[RN.toD,Hd.toD,fr]
  walk_at "rd"
  split
  ·rename_i hl
   exact ⟨_,.refl _,k2 (x,y) (if_pos hl) _ VU⟩
  ·rename_i hl
   exact ⟨_,.refl _,k2 (a,b) (if_neg hl) _ VG⟩
def mw:FSp:=λds μ Q=>kcA ds λd ds=>kcA ds λwd ds=>kcA ds λe ds=>kcN ds (∃ (R:RN) (g W:Int) (h:Hd),((d=R.toD/\e=h.toD)/\R.Ok/\Gd g/\Vl wd W g/\Le W 1000000/\¬ R.idle h)/\∀ z,Vl z (R.mvd g W h) (g*R.y)->Q z μ)
theorem Ea:∀ ds μ Q,mw ds μ Q->ds.length=3:=λ_ _ _ h=>lcA h λ_ _ h=>lcA h λ_ _ h=>lcA h λ_ _ h=>by rw[(ecN h).1];rfl
def C8:STr:=aA (bW (TOr (TB (ak rNe (ak L3.rIx (ai 0) (TC (.int 0))) (TC (.str "calm")))) (TB (ak rLt (ak L3.rIx (ai 2) (TC (.int 3))) (ak L3.rIx (ai 0) (TC (.int 3)))))) (a6 (au kr (ah (ai 1) (ah (ak L3.rIx (ai 0) (TC (.int 2))) (av))))) (bo)) (aA (bW (TB (ak rGt (ak L3.rIx (ai 2) (TC (.int 3))) (ak L3.rIx (ai 0) (TC (.int 4))))) (a6 (au iA (ah (ai 1) (ah (ak L3.rIx (ai 0) (TC (.int 2))) (av))))) (bo)) (a6 (ai 1)))
theorem Jz:∀ ds μ Q,mw ds μ Q->C8 { nx:=λ_ μ'=>RT Q .non μ',rt:=RT Q } (ini 3 ds) μ:=by
 intro ds μ Q h
 replace h:=ecA h
 obtain ⟨d,ds,rfl,h⟩:=h
 replace h:=ecA h
 obtain ⟨wd,ds,rfl,h⟩:=h
 replace h:=ecA h
 obtain ⟨e,ds,rfl,h⟩:=h
 replace h:=ecN h
 obtain ⟨rfl,h⟩:=h
 unfold C8
 walk_at "rd"
 obtain ⟨R,g,W,h,⟨⟨rfl,rfl⟩,K,⟨g0,g1⟩,VW,LW,hn⟩,k⟩:=h
 have VU:=i8 K.u.toFrB
 have UB:=K.u.toFrB.bd (by decide) (by decide)
 have y0:=K.u.q0
 have Lg:Le g 60:=.of (by omega) g1
 obtain ⟨wd',p,q,x,y,a,b,l,hh,r,s⟩:=R
 obtain ⟨good,mark,bz,wt⟩:=h
 dsimp only at VU UB y0
 simp only[RN.mvd] at k
 have up:∀ Q':DK,(∀ z,Vl z (W*y+g*x) (g*y)->Q' z μ)->kr [wd,fr x y] μ Q':=λQ' kk=>
  ⟨W,g,x,y,⟨⟨VW,VU⟩,LW.mono (by decide),Lg.mono (by decide),UB.1.mono (by decide),UB.2.mono (by decide)⟩,λz V=>kk z (by rw[X1 g x];exact V)⟩
 cases wd'
 case gn=>exact absurd (ZV rfl) hn
 case calm=>
  simp only[if_true] at k
  simp only[RN.toD,Hd.toD,fr]
  walk_at "rd"
  split
  ·rename_i hl
   rw[if_pos hl] at k
   exact up _ λz V=>⟨_,.refl _,k z V⟩
  ·rename_i hl
   rw[if_neg hl] at k
   split
   ·rename_i hm
    rw[if_pos hm] at k
    exact ⟨W,g,x,y,⟨⟨VW,VU⟩,LW.mono (by decide),Lg.mono (by decide),UB.1.mono (by decide),UB.2.mono (by decide)⟩,λz V=>⟨_,.refl _,k z (by rw[X1 g x];exact V)⟩⟩
   ·rename_i hm
    rw[if_neg hm] at k
    exact ⟨_,.refl _,k _ (VW.of_eq (X7 (by omega) y0) (by ac_rfl))⟩
 all_goals
  simp only[reduceCtorEq,if_false] at k
  simp only[RN.toD,Hd.toD,fr]
  walk_at "rd"
  exact up _ λz V=>⟨_,.refl _,k z V⟩
def lX:FSp:=λds μ Q=>kcA ds λd ds=>kcI ds λg ds=>kcA ds λwd ds=>kcN ds (∃ (R:RN) (N M:Int),(d=R.toD/\R.Ok/\Gd g/\Vl wd N M/\Bd N/\Bd M)/\∀ z,Vl z (R.clip g (N*g / M)) g->Q z μ)
theorem GY:∀ ds μ Q,lX ds μ Q->ds.length=3:=λ_ _ _ h=>lcA h λ_ _ h=>lcI h λ_ _ h=>lcA h λ_ _ h=>by rw[(ecN h).1];rfl
def FF:STr:=aA (bW (TB (au lZ (ah (ai 2) (ah (TC (.tup [.int 1,.int 1])) (av))))) (a6 (TC (.tup [.int 1,.int 1]))) (bo)) (aA (bW (TB (au lZ (ah (au iD (ah (ai 0) (av))) (ah (ai 2) (av))))) (a6 (au fi (ah (au iD (ah (ai 0) (av))) (ah (ai 1) (av))))) (bo)) (a6 (au fi (ah (ai 2) (ah (ai 1) (av))))))
theorem Ky:∀ ds μ Q,lX ds μ Q->FF { nx:=λ_ μ'=>RT Q .non μ',rt:=RT Q } (ini 3 ds) μ:=by
 intro ds μ Q h
 replace h:=ecA h
 obtain ⟨d,ds,rfl,h⟩:=h
 replace h:=ecI h
 obtain ⟨g,ds,rfl,h⟩:=h
 replace h:=ecA h
 obtain ⟨wd,ds,rfl,h⟩:=h
 replace h:=ecN h
 obtain ⟨rfl,h⟩:=h
 unfold FF
 walk_at "rd"
 obtain ⟨R,N,M,⟨rfl,K,⟨g0,g1⟩,V,BN,BM⟩,k⟩:=h
 have M0:=V.b0
 have V11:Vl (fr 1 1) 1 1:=i8 (Hi (lo:=0) (hi:=1) (by decide) (by decide)).toFrB
 have TB:=K.t.bd (by decide) (by decide)
 have VT:=i8 K.t
 have s0:=K.t.q0
 have cg:=Fp K (g:=g) (by omega)
 refine ⟨N,M,1,1,⟨⟨V,V11⟩,BN,BM,.of (by decide) (by decide),.of (by decide) (by decide)⟩,?_⟩
 walk_at "rd"
 rw[Int.mul_one,zb6]
 have key:∀ z,Vl z (R.clip g (N*g / M)) g->RT Q z μ:=λz V=>⟨_,.refl _,k z V⟩
 unfold RN.clip at key
 split
 ·rename_i hl
  have f:N*g / M < g:=by
   rw[Int.ediv_lt_iff_lt_mul M0,X1 g M]
   exact Y5 hl (by omega)
  rw[show min (max (N*g / M) g) (R.cap g)=g by omega] at key
  exact key _ (V11.of_eq (by omega) (by omega))
 ·rename_i hl
  refine ⟨R,⟨K,rfl⟩,R.r,R.s,N,M,⟨⟨VT,V⟩,TB.1.mono (by decide),TB.2.mono (by decide),BN,BM⟩,?_⟩
  walk_at "rd"
  have f1:g<=N*g / M:=by
   rw[XS M0,X1 g M]
   exact WO (by omega) (by omega)
  split
  ·rename_i ht
   have f2:R.cap g<=N*g / M:=by
    unfold RN.cap
    rw[XS M0]
    have d:=zbJ (R.r*g) (show R.s≠0 by omega)
    have e1:R.r*g / R.s*M*R.s<=N*g*R.s:=by
     calc R.r*g / R.s*M*R.s=(R.r*g / R.s*R.s)*M:=by ac_rfl
      _<=(R.r*g)*M:=WO d (by omega)
      _=(R.r*M)*g:=by ac_rfl
      _<=(N*R.s)*g:=WO (by omega) (by omega)
      _=N*g*R.s:=by ac_rfl
    exact Ze e1 s0
   rw[show min (max (N*g / M) g) (R.cap g)=R.cap g by omega] at key
   exact ⟨R,⟨K,rfl⟩,R.r,R.s,⟨VT,TB.1.mono (by decide),TB.2.mono (by decide),by omega,by omega⟩,λz V=>key z V⟩
  ·rename_i ht
   have f2:N*g / M<=R.cap g:=by
    unfold RN.cap
    rw[XS s0]
    have d:=zbJ (N*g) (show M≠0 by omega)
    have e1:N*g / M*R.s*M<=R.r*g*M:=by
     calc N*g / M*R.s*M=(N*g / M*M)*R.s:=by ac_rfl
      _<=(N*g)*R.s:=WO d (by omega)
      _=(N*R.s)*g:=by ac_rfl
      _<=(R.r*M)*g:=WO (by omega) (by omega)
      _=R.r*g*M:=by ac_rfl
    exact Ze e1 M0
   rw[show min (max (N*g / M) g) (R.cap g)=N*g / M by omega] at key
   exact ⟨N,M,⟨V,BN,BM,by omega,by omega⟩,λz V=>key z V⟩
theorem RN.RK {R:RN}(K:R.Ok){g S:Int}{h:Hd}(G:Gd g)(S0:0<=S)(S1:S<=g){f:Int×Int}(e:R.fac g S h=some f):0 < f.1/\0 < f.2/\Le f.1 600000120/\Le f.2 10000002:=by
 obtain ⟨g0,g1⟩:=G
 have UB:=K.u.toFrB.bd (by decide) (by decide)
 have GB:=K.g.toFrB.bd (by decide) (by decide)
 have h1:=K.u.q0;have h2:=K.u.ab;have h3:=K.g.q0;have h4:=K.g.ab
 unfold RN.fac at e
 split at e
 ·cases e
 ·split at e
  ·cases e;exact ⟨by decide,by decide,.of (by decide) (by decide),.of (by decide) (by decide)⟩
  ·cases e
 ·split at e
  ·cases e
  ·cases e;exact ⟨by show 0 < 2*g - S;omega,by show 0 < 2*g;omega,.of (by show 0<=2*g - S;omega) (by show 2*g - S<=_;omega),.of (by show 0<=2*g;omega) (by show 2*g<=_;omega)⟩
 ·split at e
  ·cases e;exact ⟨by show 0 < R.x;omega,h1,UB.1,UB.2⟩
  ·cases e;exact ⟨by show 0 < R.a;omega,h3,GB.1,GB.2⟩
 ·split at e
  ·cases e
  ·cases e;exact ⟨by show 0 < R.a;omega,h3,GB.1,GB.2⟩
theorem RN.O0 {R:RN}(K:R.Ok){g W:Int}{h:Hd}(G:Gd g)(L:Le W 1000000):Bd (R.mvd g W h):=by
 obtain ⟨g0,g1⟩:=G
 have UB:=K.u.toFrB.bd (by decide) (by decide)
 have Lg:Le g 60:=.of (by omega) g1
 have e1:=L.mul UB.2
 have e2:=Lg.mul UB.1
 unfold RN.mvd
 split
 ·split
  ·exact (e1.add e2).mono (by decide)
  ·split
   ·exact (e1.sub e2).mono (by decide)
   ·exact e1.mono (by decide)
 ·exact (e1.add e2).mono (by decide)
def gF:FSp:=λds μ Q=>kcA ds λd ds=>kcI ds λg ds=>kcA ds λwd ds=>kcA ds λsd ds=>kcA ds λe ds=>kcN ds (∃ (R:RN) (W S:Int) (h:Hd),((d=R.toD/\e=h.toD)/\R.Ok/\h.Ok/\Gd g/\(Vl wd W g/\Le W 1000000)/\Vl sd S g/\(0<=S/\S<=g))/\∀ w z,Vl w (R.beh g W S h).1 g->Vl z (R.beh g W S h).2 g->Q (.tup [w,z]) μ)
theorem uW:∀ ds μ Q,gF ds μ Q->ds.length=5:=λ_ _ _ h=>lcA h λ_ _ h=>lcI h λ_ _ h=>lcA h λ_ _ h=>lcA h λ_ _ h=>lcA h λ_ _ h=>by rw[(ecN h).1];rfl
def qP:STr:=aA (bW (TB (au jb (ah (ai 0) (ah (ai 4) (av))))) (a6 (bB (ah (ai 2) (ah (ai 3) (av))))) (bo)) (aA (aP (au ef (ah (ai 0) (ah (ai 1) (ah (ai 3) (ah (ai 4) (av)))))) (ax 5)) (aA (aP (au fR (ah (ai 0) (ah (ai 5) (ah (ai 4) (av))))) (ax 6)) (aA (bW (TB (ak rIs (ai 6) (TC .non))) (a6 (bB (ah (au lX (ah (ai 0) (ah (ai 1) (ah (au mw (ah (ai 0) (ah (ai 2) (ah (ai 4) (av))))) (av))))) (ah (ai 5) (av))))) (bo)) (a6 (bB (ah (au lX (ah (ai 0) (ah (ai 1) (ah (au iG (ah (ai 2) (ah (ai 6) (av)))) (av))))) (ah (ai 5) (av))))))))
theorem xF:∀ ds μ Q,gF ds μ Q->qP { nx:=λ_ μ'=>RT Q .non μ',rt:=RT Q } (ini 7 ds) μ:=by
 intro ds μ Q h
 replace h:=ecA h
 obtain ⟨d,ds,rfl,h⟩:=h
 replace h:=ecI h
 obtain ⟨g,ds,rfl,h⟩:=h
 replace h:=ecA h
 obtain ⟨wd,ds,rfl,h⟩:=h
 replace h:=ecA h
 obtain ⟨sd,ds,rfl,h⟩:=h
 replace h:=ecA h
 obtain ⟨e,ds,rfl,h⟩:=h
 replace h:=ecN h
 obtain ⟨rfl,h⟩:=h
 unfold qP
 walk_at "rd"
 obtain ⟨R,W,S,h,⟨⟨rfl,rfl⟩,K,H,G,⟨VW,LW⟩,VS,S0,S1⟩,k⟩:=h
 have g0:=G.1
 have g1:=G.2
 have Lg:Le g 60:=.of (by omega) g1
 refine ⟨R,h,⟨rfl,rfl⟩,?_⟩
 walk_at "rd"
 unfold RN.beh at k
 split
 ·rename_i hi
  rw[if_pos hi] at k
  exact ⟨_,.refl _,k _ _ VW VS⟩
 ·rename_i hi
  rw[if_neg hi] at k
  refine ⟨R,S,h,⟨⟨rfl,rfl⟩,K,H,G,VS,⟨S0,S1⟩,hi⟩,λz VZ=>?_⟩
  walk_at "rd"
  have sin:=Io K H hi (by omega) S0 S1
  unfold RN.mv at k
  refine ⟨R,g,_,h,⟨⟨rfl,rfl⟩,K,H,G,VZ,sin,hi⟩,λhf=>?_,λf hf v VF=>?_⟩
  ·rw[hf] at k
   walk_at "rd"
   have y0:=K.u.q0
   refine ⟨R,g,W,h,⟨⟨rfl,rfl⟩,K,G,VW,LW,hi⟩,λw Vw=>?_⟩
   refine ⟨R,_,_,⟨rfl,K,G,Vw,RN.O0 K G LW,?_⟩,λw2 Vw2=>?_⟩
   ·exact (Lg.mul (K.u.toFrB.bd (by decide) (by decide)).2).mono (by decide)
   ·walk_at "rd"
    refine ⟨_,.refl _,k _ _ ?_ VZ⟩
    rw[show R.mvd g W h*g / (g*R.y)=R.mvd g W h / R.y by rw[X1 g R.y];exact X2 _ _ (by omega)] at Vw2
    exact Vw2
  ·rw[hf] at k
   obtain ⟨f1,f2,F1,F2⟩:=RN.RK K G sin.1 sin.2 hf
   obtain ⟨⟨p,q,rfl,P⟩,b0⟩:=id VF
   walk_at "rd"
   refine ⟨W,g,f.1,f.2,⟨⟨VW,VF⟩,LW.mono (by decide),Lg.mono (by decide),F1.mono (by decide),F2.mono (by decide)⟩,λw Vw=>?_⟩
   refine ⟨R,_,_,⟨rfl,K,G,Vw,(LW.mul F1).mono (by decide),(Lg.mul F2).mono (by decide)⟩,λw2 Vw2=>?_⟩
   walk_at "rd"
   refine ⟨_,.refl _,k _ _ ?_ VZ⟩
   rw[show W*f.1*g / (g*f.2)=W*f.1 / f.2 by rw[X1 g f.2];exact X2 _ _ (by omega)] at Vw2
   exact Vw2
def Ui:=Jn @RJ <| Jn @Lx <| Jn @Pa <| Jn @Ld <| Jn @RU <| Jn @K1 <| Jn @Pu <| Jn @NJ <| Jn @Qg <| Jn @LV <| Jn @OA <| Jn @Lj <| Jn @OG <| Jn @LF <| Jn @RD <| Jn @LK <| Jn @QE <| Jn @Kn <| Jn @OB <| Jn @Kw <| Jn @MU <| Jn @GJ <| Jn @LY <| Jn @G9 <| Jn @Ku <| Jn @Ke <| Jn @Ks <| Jn @GR <| Jn @L0 <| Jn @Il <| Jn @K4 <| Jn @Gu <| Jn @VX <| Jn @Qu <| Jn @Tz <| Jn @O7 <| Jn @V9 <| Jn @Qx <| Jn @Ur <| Jn @Pz <| Jn @Py <| Jn @JI <| Jn @PB <| Jn @Lz <| Jn @QW <| Jn @QH <| Jn @Rq <| Jn @Mq <| Jn @LB <| Jn @OJ <| Jn @KH <| Jn @RQ <| Jn @Qd <| Jn @Qk <| Jn @Rr <| Jn @OX <| Jn @EA <| Jn @Rv <| Jn @PF <| Jn @R9 <| Jn @SN <| Jn @RB <| Jn @OS <| Jn @O6 <| Jn @Rh <| Jn @R0 <| Jn @T3 <| Jn @T7 <| Jn @SV <| Jn @SR <| Jn @Sy <| Jn @SW <| Jn @S4 <| Jn @SS <| Jn @OO <| Jn @OL <| Jn @RG <| Jn @QF <| Jn @PN <| Jn @Na <| Jn @NN <| Jn @Mz <| Jn @JV <| Jn @D7 <| Jn @HZ <| Jn @Lc <| Jn @Ka <| Jn @Ex <| Jn @Cm <| Jn @Fe <| Jn @Ek <| Jn @EX <| Jn @Hr <| Jn @Iq <| Jn @Ia <| Jn @Jg <| Jn @Kg <| Jn @Hl <| Jn @KD <| Jn @Nq <| Jn @M5 <| Jn @M6 <| Jn @L8 <| Jn @MW <| Jn @zP <| Jn @AD <| Jn @Nm <| Jn @Pe <| Jn @Qf <| Jn @Qh <| Jn @Rf <| Jn @Q3 <| Jn @Ql <| Jn @OY <| Jn @Jx <| Jn @IM <| Jn @JT <| Jn @F4 <| Jn @J4 <| @Pj
def Et:=Jn @nh <| Jn @qi <| Jn @m9 <| Jn @sH <| @qm
local macro_rules | `(tactic| walk_at "go")=>zzS "↓L3.Ui L3.Et ↓L3.kC ↓L3.je L3.cq L3.bY L3.cC L3.cf L3.ck L3.cD L3.cS L3.cV L3.bX L3.cv L3.cu L3.cx L3.cA L3.cT L3.cF L3.c6 L3.cB L3.cX L3.cj L3.c5 L3.jf L3.DY L3.DZ L3.uY L3.kj L3.fu L3.uC L3.gU L3.m7 L3.nM L3.kx L3.ki L3.ky L3.kq true_and and_true and_self Bool.not_true Bool.not_false decide_true decide_false Bool.or_true Bool.or_false Bool.true_or Bool.false_or Bool.and_false Bool.false_and Bool.and_true Bool.true_and Int.reduceToNat Int.reducePow Int.reduceNeg Int.reduceSub Int.reduceAdd Int.reduceMul Int.reduceEq Int.reduceLT Int.reduceLE Int.reduceBEq L3.iC L3.fV L3.fL L3.fX L3.fS L3.fO L3.fQ L3.fK if_true if_false Bool.false_eq_true reduceCtorEq decide_eq_true_eq"
local macro_rules | `(tactic| walk_at "ini")=>`(tactic| simp only[ini,List.map,List.length,List.replicate,Nat.reduceSub,Nat.reduceAdd,Nat.sub_self,List.cons_append,List.nil_append,List.append_nil])
theorem fg {xs:List D}{P:D->Prop}(h:∀ d∈xs,P d){k:Int}(k0:0<=k)(k1:k < xs.length):∃ d,atD xs k=some d/\P d:=by
 obtain ⟨j,rfl⟩:=ZM k0
 rw[bZ]
 have hj:j < xs.length:=by omega
 exact ⟨xs[j],by simp[hj],h _ (Yg hj)⟩
def IsL (hi:Int)(d:D):Prop:=∃ p q,d=fr p q/\FrL hi p q
def IsI (lo hi:Int)(d:D):Prop:=∃ i:Int,d=.int i/\lo<=i/\i<=hi
theorem eT {P:D->Prop}:∀ d∈([]:List D),P d:=λ_ h=>nomatch h
theorem aG {P:D->Prop}{a:D}{xs:List D}(h:P a)(k:∀ d∈xs,P d):∀ d∈a::xs,P d:=λd hd=>by
 rcases WM.mp hd with e | e
 ·rw[e];exact h
 ·exact k d e
local macro_rules | `(tactic| walk_at "all")=>`(tactic| repeat' (first | exact eT | refine aG ?_ ?_))
structure pq (b p:Addr) (xs:List D) (μ μ':Mu):Prop where
 box:Box μ' b
 ne:p≠b
 new:μ p=none
 at':μ' p=some (.lst xs)
 oth:∀ a,a≠b->a≠p->μ' a=μ a
theorem pq.mk' {b p:Addr}{xs:List D}{μ:Mu}(hB:Box μ b)(hp:μ p=none):pq b p xs μ (up μ p (.lst xs)):=by
 have ne:p≠b:=λz=>by subst z;obtain ⟨_,_,_,e,_⟩:=hB;rw[hp] at e;cases e
 obtain ⟨g,s,c,e,h⟩:=hB
 exact ⟨⟨g,s,c,by rw[aS ne.symm];exact e,h⟩,ne,hp,aE,λa _ h=>aS h⟩
theorem pq.go {b p:Addr}{xs:List D}{μ μ1 μ2:Mu}(h:pq b p xs μ μ1)(B:rQ b μ1 μ2):pq b p xs μ μ2:=
 ⟨B.box,h.ne,h.new,by rw[B.oth p h.ne];exact h.at',λa h1 h2=>by rw[B.oth a h1];exact h.oth a h1 h2⟩
theorem pq.set {b p:Addr}{xs ys:List D}{μ μ1:Mu}(h:pq b p xs μ μ1):pq b p ys μ (up μ1 p (.lst ys)):=by
 obtain ⟨g,s,c,e,hh⟩:=h.box
 exact ⟨⟨g,s,c,by rw[aS h.ne.symm];exact e,hh⟩,h.ne,h.new,aE,λa h1 h2=>by rw[aS h2];exact h.oth a h1 h2⟩
theorem O4 (μ:Mu)(p:Addr):Sub (dn μ p) μ:=λa o e=>by
 unfold dn at e
 split at e
 ·cases e
 ·exact e
theorem pq.fin {b p:Addr}{xs:List D}{μ μ1:Mu}(h:pq b p xs μ μ1):rQ b μ (dn μ1 p):=by
 obtain ⟨g,s,c,e,hh⟩:=h.box
 refine ⟨⟨g,s,c,?_,hh⟩,λa ha=>?_⟩
 ·unfold dn;rw[if_neg h.ne.symm];exact e
 ·unfold dn
  split
  ·rename_i z;subst z;exact h.new.symm
  ·rename_i z;exact h.oth a ha z
theorem pq.rt {b p:Addr}{xs:List D}{μ μ1:Mu}{Q:DK}{d:D}(h:pq b p xs μ μ1)(k:∀ μ',rQ b μ μ'->Q d μ'):RT Q d μ1:=⟨_,O4 μ1 p,k _ h.fin⟩
theorem ko {p:Addr}{G:GTr}{tt:TTr}{te:ETr}{ρc:ST}{K:Mu->Prop}(P:List D->Mu->Prop)(hnil:∀ μ,P [] μ->K μ)
  (hcons:∀ d r μ (N:Mu->Prop),P (d::r) μ->(∀ μ',P r μ'->N μ')->G d ρc μ λρ1 μ1=>tt ρ1 μ1 λb μ2=>kIf b (te ρ1 μ2 λy μ3=>kL μ3 p λzs=>zs.length < 1000000/\N (up μ3 p (.lst (zs++[y])))) (N μ2)) :
  ∀ (ds:List D) (μ:Mu),P ds μ->fG p G tt te ρc K ds μ
 | [],μ,h=>hnil μ h
 | d::r,μ,h=>hcons d r μ _ h λμ' q=>ko P hnil hcons r μ' q
theorem xK (d0:D)(r:List D)(f:D->Prop):kO (atD (d0::r) 0) f=f d0:=by rw[zd];rfl
theorem wI (d0 d1:D)(r:List D)(f:D->Prop):kO (atD (d0::d1::r) 1) f=f d1:=by rw[xl];rfl
theorem wC (d0 d1 d2:D)(r:List D)(f:D->Prop):kO (atD (d0::d1::d2::r) 2) f=f d2:=by rw[C6];rfl
theorem xu (d0 d1 d2 d3:D)(r:List D)(f:D->Prop):kO (atD (d0::d1::d2::d3::r) 3) f=f d3:=by rw[CI];rfl
theorem zp (d0 d1 d2 d3 d4:D)(r:List D)(f:D->Prop):kO (atD (d0::d1::d2::d3::d4::r) 4) f=f d4:=by rw[CC];rfl
theorem wN (d0 d1 d2 d3 d4 d5:D)(r:List D)(f:D->Prop):kO (atD (d0::d1::d2::d3::d4::d5::r) 5) f=f d5:=by rw[Cs];rfl
def vg (G:GTr)(tt:TTr)(te:ETr)(ρc:ST)(ds:List D)(μ:Mu)(Q:DK):Prop:=∀ p,μ p=none->fG p G tt te ρc (λμ'=>kL μ' p λzs=>Q (.ls zs) (dn μ' p)) ds (up μ p (.lst []))
theorem Mp (it:ATr)(G:GTr)(tt:TTr)(te:ETr)(n:Nat)(caps:List Nat)(ρ:ST)(μ:Mu)(Q:DK):bO it G tt te n caps ρ μ Q=it ρ μ λds μ1=>vg G tt te (fe ρ n caps) ds μ1 Q:=propext Wr
theorem Rm (ρ:ST)(μ:Mu)(Q:Bool->Mu->Prop):eG ρ μ Q=Q true μ:=propext Wr
section
variable {G:GTr} {tt:TTr} {te:ETr} {ρc:ST} {ds:List D} {μ:Mu} {Q:DK}
theorem vW (f:D->Option D)(hl:ds.length<=999999)
  (step:∀ d∈ds,∀ μ',Sub μ μ'->∀ (N:Option D->Mu->Prop),N (f d) μ'->G d ρc μ' λρ1 μ1=>tt ρ1 μ1 λb μ2=>kIf b (te ρ1 μ2 λy μ3=>N (some y) μ3) (N none μ2))
  (k:Q (.ls (ds.filterMap f)) μ):vg G tt te ρc ds μ Q:=by
 intro p hp
 refine ko (λr μ'=>∃ done,ds=done++r/\μ'=up μ p (.lst (done.filterMap f))) ?_ ?_ _ _ ⟨[],rfl,rfl⟩
 ·rintro μ' ⟨done,e,rfl⟩
  rw[W8] at e
  subst e
  refine bx aE ?_
  rw[uf hp];exact k
 ·rintro d r μ' N ⟨done,e,rfl⟩ hN
  have hd:d∈ds:=by rw[e];simp
  have e':ds=(done++[d])++r:=by rw[e];simp
  have lf:(done.filterMap f).length < 1000000:=by
   have h1:=Yi f done
   have h2:ds.length=done.length+(d::r).length:=by rw[e,Wv]
   rw[WY] at h2;omega
  refine step d hd _ (Sub.new hp) (λoy μ3=>match oy with
   | some y=>kL μ3 p λzs=>zs.length < 1000000/\N (up μ3 p (.lst (zs++[y])))
   | none=>N μ3) ?_
  cases hf:f d with
  | none=>
   refine hN _ ⟨done++[d],e',?_⟩
   rw[Xv];simp[hf]
  | some y=>
   refine bx aE ⟨lf,hN _ ⟨done++[d],e',?_⟩⟩
   rw[Xv,iC];simp[hf]
theorem comp_map (f:D->D)(hl:ds.length<=999999)
  (step:∀ d∈ds,∀ μ',Sub μ μ'->∀ (N:DK),N (f d) μ'->G d ρc μ' λρ1 μ1=>te ρ1 μ1 N)
  (k:Q (.ls (ds.map f)) μ):vg G eG te ρc ds μ Q:=by
 refine vW (λd=>some (f d)) hl (λd hd μ' s N n=>?_) (by rw[show (λd=>some (f d))=some ∘ f from rfl,Z3];exact k)
 exact step d hd μ' s (λy μ3=>N (some y) μ3) n
theorem IY (I:List D->List D->Prop)(h0:I ds [])(hl:ds.length<=999999)
  (step:∀ d r zs μ',Sub μ μ'->I (d::r) zs->∀ (N:Option D->Mu->Prop),(∀ oy,I r (zs++oy.toList)->N oy μ')->G d ρc μ' λρ1 μ1=>tt ρ1 μ1 λb μ2=>kIf b (te ρ1 μ2 λy μ3=>N (some y) μ3) (N none μ2))
  (k:∀ zs,I [] zs->Q (.ls zs) μ):vg G tt te ρc ds μ Q:=by
 intro p hp
 refine ko (λr μ'=>∃ zs,I r zs/\zs.length+r.length<=ds.length/\μ'=up μ p (.lst zs)) ?_ ?_ _ _ ⟨[],h0,by simp,rfl⟩
 ·rintro μ' ⟨zs,hI,_,rfl⟩
  refine bx aE ?_
  rw[uf hp];exact k zs hI
 ·rintro d r μ' N ⟨zs,hI,hz,rfl⟩ hN
  rw[WY] at hz
  refine step d r zs _ (Sub.new hp) hI (λoy μ3=>match oy with
   | some y=>kL μ3 p λzs=>zs.length < 1000000/\N (up μ3 p (.lst (zs++[y])))
   | none=>N μ3) ?_
  intro oy hoy
  cases oy with
  | none=>exact hN _ ⟨zs,by simpa using hoy,by omega,rfl⟩
  | some y=>
   refine bx aE ⟨by omega,hN _ ⟨zs++[y],hoy,by rw[Wv];simp;omega,?_⟩⟩
   rw[iC]
theorem j6 {α:Type}(xs:List α)(t:α->D)(h:α->Option D)(hds:ds=xs.map t)(hl:xs.length<=999999)
  (step:∀ x∈xs,∀ μ',Sub μ μ'->∀ (N:Option D->Mu->Prop),N (h x) μ'->G (t x) ρc μ' λρ1 μ1=>tt ρ1 μ1 λb μ2=>kIf b (te ρ1 μ2 λy μ3=>N (some y) μ3) (N none μ2))
  (k:Q (.ls (xs.filterMap h)) μ):vg G tt te ρc ds μ Q:=by
 subst hds
 refine IY (λr zs=>∃ a c,xs=a++c/\r=c.map t/\zs=a.filterMap h) ⟨[],xs,rfl,rfl,rfl⟩ (by simpa using hl) ?_ ?_
 ·rintro d r zs μ' sb ⟨a,c,e,er,rfl⟩ N hN
  cases c with
  | nil=>cases er
  | cons x c=>
  cases er
  refine step x (by rw[e];simp) μ' sb N (hN _ ⟨a++[x],c,by rw[e];simp,rfl,?_⟩)
  rw[Xv]
  cases hx:h x<;>simp[hx]
 ·rintro zs ⟨a,c,e,er,rfl⟩
  have:c=[]:=by cases c with | nil=>rfl | cons=>cases er
  subst this
  rw[W8] at e
  subst e;exact k
theorem bH {α:Type}(xs:List α)(t:α->D)(h:α->D)(hds:ds=xs.map t)(hl:xs.length<=999999)
  (step:∀ x∈xs,∀ μ',Sub μ μ'->∀ (N:DK),N (h x) μ'->G (t x) ρc μ' λρ1 μ1=>te ρ1 μ1 N)
  (k:Q (.ls (xs.map h)) μ):vg G eG te ρc ds μ Q:=by
 refine j6 xs t (λx=>some (h x)) hds hl (λx hx μ' s N n=>?_) (by rw[show (λx=>some (h x))=some ∘ h from rfl,Z3];exact k)
 exact step x hx μ' s (λy μ3=>N (some y) μ3) n
def Dg (a:Addr)(full:List D)(G:GTr)(tt:TTr)(te:ETr)(ρc:ST)(ds:List D)(μ:Mu)(Q:DK):Prop:=∀ p,μ p=none->lJ (λμ=>μ a=some (.lst full)) p G tt te ρc (λμ'=>kL μ' p λzs=>Q (.ls zs) (dn μ' p)) ds (up μ p (.lst []))
theorem JO (To:ETr)(G:GTr)(tt:TTr)(te:ETr)(n:Nat)(caps:List Nat)(ρ:ST)(μ:Mu)(Q:DK):jN To G tt te n caps ρ μ Q=To ρ μ λx μ1=>kObj x λa=>kL μ1 a λds=>Dg a ds G tt te (fe ρ n caps) ds μ1 Q:=propext Wr
theorem lH {C:Mu->Prop}{p:Addr}{ρc:ST}{K:Mu->Prop}(P:List D->Mu->Prop)(hC:∀ r μ,P r μ->C μ)(hnil:∀ μ,P [] μ->K μ)
  (hcons:∀ d r μ (N:Mu->Prop),P (d::r) μ->(∀ μ',P r μ'->N μ')->G d ρc μ λρ1 μ1=>tt ρ1 μ1 λb μ2=>kIf b (te ρ1 μ2 λy μ3=>kL μ3 p λzs=>zs.length < 1000000/\N (up μ3 p (.lst (zs++[y])))) (N μ2)) :
  ∀ (ds:List D) (μ:Mu),P ds μ->lJ C p G tt te ρc K ds μ
 | [],μ,h=>⟨hC _ _ h,hnil μ h⟩
 | d::r,μ,h=>⟨hC _ _ h,hcons d r μ _ h λμ' q=>lH P hC hnil hcons r μ' q⟩
theorem Fw {a:Addr}{full:List D}(hm:μ a=some (.lst full))(f:D->Option D)(hl:ds.length<=999999)
  (step:∀ d∈ds,∀ μ',Sub μ μ'->∀ (N:Option D->Mu->Prop),N (f d) μ'->G d ρc μ' λρ1 μ1=>tt ρ1 μ1 λb μ2=>kIf b (te ρ1 μ2 λy μ3=>N (some y) μ3) (N none μ2))
  (k:Q (.ls (ds.filterMap f)) μ):Dg a full G tt te ρc ds μ Q:=by
 intro p hp
 refine lH (λr μ'=>∃ done,ds=done++r/\μ'=up μ p (.lst (done.filterMap f))) ?_ ?_ ?_ _ _ ⟨[],rfl,rfl⟩
 ·rintro r μ' ⟨done,_,rfl⟩
  exact Sub.new hp _ _ hm
 ·rintro μ' ⟨done,e,rfl⟩
  rw[W8] at e
  subst e
  refine bx aE ?_
  rw[uf hp];exact k
 ·rintro d r μ' N ⟨done,e,rfl⟩ hN
  have hd:d∈ds:=by rw[e];simp
  have e':ds=(done++[d])++r:=by rw[e];simp
  have lf:(done.filterMap f).length < 1000000:=by
   have h1:=Yi f done
   have h2:ds.length=done.length+(d::r).length:=by rw[e,Wv]
   rw[WY] at h2;omega
  refine step d hd _ (Sub.new hp) (λoy μ3=>match oy with
   | some y=>kL μ3 p λzs=>zs.length < 1000000/\N (up μ3 p (.lst (zs++[y])))
   | none=>N μ3) ?_
  cases hf:f d with
  | none=>
   refine hN _ ⟨done++[d],e',?_⟩
   rw[Xv];simp[hf]
  | some y=>
   refine bx aE ⟨lf,hN _ ⟨done++[d],e',?_⟩⟩
   rw[Xv,iC];simp[hf]
theorem ny {α:Type}{a:Addr}(xs:List α)(t:α->D)(h:α->Option D)(hds:ds=xs.map t)(hm:μ a=some (.lst (xs.map t)))(hl:xs.length<=999999)
  (step:∀ x∈xs,∀ μ',Sub μ μ'->∀ (N:Option D->Mu->Prop),N (h x) μ'->G (t x) ρc μ' λρ1 μ1=>tt ρ1 μ1 λb μ2=>kIf b (te ρ1 μ2 λy μ3=>N (some y) μ3) (N none μ2))
  (k:Q (.ls (xs.filterMap h)) μ):Dg a (xs.map t) G tt te ρc ds μ Q:=by
 subst hds
 intro p hp
 refine lH (λr μ'=>∃ b c,xs=b++c/\r=c.map t/\μ'=up μ p (.lst (b.filterMap h))) ?_ ?_ ?_ _ _ ⟨[],xs,rfl,rfl,rfl⟩
 ·rintro r μ' ⟨b,c,_,_,rfl⟩
  exact Sub.new hp _ _ hm
 ·rintro μ' ⟨b,c,e,er,rfl⟩
  have:c=[]:=by cases c with | nil=>rfl | cons=>cases er
  subst this
  rw[W8] at e
  subst e
  refine bx aE ?_
  rw[uf hp];exact k
 ·rintro d r μ' N ⟨b,c,e,er,rfl⟩ hN
  cases c with
  | nil=>cases er
  | cons x c=>
  cases er
  have e':xs=(b++[x])++c:=by rw[e];simp
  have lf:(b.filterMap h).length < 1000000:=by
   have h1:=Yi h b
   have h2:xs.length=b.length+(x::c).length:=by rw[e,Wv]
   rw[WY] at h2;omega
  refine step x (by rw[e];simp) _ (Sub.new hp) (λoy μ3=>match oy with
   | some y=>kL μ3 p λzs=>zs.length < 1000000/\N (up μ3 p (.lst (zs++[y])))
   | none=>N μ3) ?_
  cases hf:h x with
  | none=>
   refine hN _ ⟨b++[x],c,e',rfl,?_⟩
   rw[Xv];simp[hf]
  | some y=>
   refine bx aE ⟨lf,hN _ ⟨b++[x],c,e',rfl,?_⟩⟩
   rw[Xv,iC];simp[hf]
theorem EM {a:Addr}{full:List D}(hm:μ a=some (.lst full))(f:D->D)(hl:ds.length<=999999)
  (step:∀ d∈ds,∀ μ',Sub μ μ'->∀ (N:DK),N (f d) μ'->G d ρc μ' λρ1 μ1=>te ρ1 μ1 N)
  (k:Q (.ls (ds.map f)) μ):Dg a full G eG te ρc ds μ Q:=by
 refine Fw hm (λd=>some (f d)) hl (λd hd μ' s N n=>?_) (by rw[show (λd=>some (f d))=some ∘ f from rfl,Z3];exact k)
 exact step d hd μ' s (λy μ3=>N (some y) μ3) n
end
def Tu:=Jn @Mp <| Jn @JO <| Jn @Rm <| Jn @Mo <| Jn @Lf <| Jn @M1 <| Jn @PM <| Jn @Lm <| Jn @Ru <| Jn @IS <| Jn @Qn <| Jn @MX <| Jn @RZ <| Jn @Ry <| Jn @QZ <| Jn @RA <| Jn @QG <| Jn @Pp <| Jn @Sv <| Jn @NL <| Jn @Pw <| @Ui
local macro_rules | `(tactic| walk_at "go")=>zzS "↓L3.Tu L3.Et ↓L3.xK ↓L3.wI ↓L3.wC ↓L3.xu ↓L3.zp ↓L3.wN ↓L3.kC ↓L3.je L3.cq L3.bY L3.cC L3.cf L3.ck L3.cD L3.cS L3.cV L3.bX L3.cv L3.cu L3.cx L3.cA L3.cT L3.cF L3.c6 L3.cB L3.cX L3.cj L3.c5 L3.jf L3.fe List.map_cons List.map_nil List.replicate List.cons_append List.nil_append L3.lk L3.DY L3.DZ L3.uY L3.kj L3.fu L3.uC L3.gU L3.m7 L3.nM L3.kx L3.ki L3.ky L3.kq true_and and_true and_self Bool.not_true Bool.not_false decide_true decide_false Bool.or_true Bool.or_false Bool.true_or Bool.false_or Bool.and_false Bool.false_and Bool.and_true Bool.true_and Int.reduceToNat Int.reducePow Int.reduceNeg Int.reduceSub Int.reduceAdd Int.reduceMul Int.reduceEq Int.reduceLT Int.reduceLE Int.reduceBEq L3.iC L3.fV L3.fL L3.fX L3.fS L3.fO L3.fQ L3.fK if_true if_false Bool.false_eq_true reduceCtorEq decide_eq_true_eq"
abbrev ks (s:String):L2.Key:=.inr (OF s)
def iq (cs:List Int)(a l g m s:Int):List (L2.Key×D):=[(ks "cells", .ls (cs.map .int)),(ks "at", .int a),(ks "left", .int l),(ks "given", .int g),(ks "many", .int m),(ks "seed", .int s)]
section
variable (cs:List Int) (a l g m s x:Int)
theorem DT:bP (iq cs a l g m s) (.inr (OF "cells"))=some (.ls (cs.map .int)):=rfl
theorem Rc:bP (iq cs a l g m s) (.inr (OF "at"))=some (.int a):=rfl
theorem He:bP (iq cs a l g m s) (.inr (OF "left"))=some (.int l):=rfl
theorem Eu:bP (iq cs a l g m s) (.inr (OF "given"))=some (.int g):=rfl
theorem Hs:bP (iq cs a l g m s) (.inr (OF "many"))=some (.int m):=rfl
theorem J7:bP (iq cs a l g m s) (.inr (OF "seed"))=some (.int s):=rfl
theorem OH:putD (iq cs a l g m s) (.inr (OF "at")) (.int x)=iq cs x l g m s:=rfl
theorem Jl:putD (iq cs a l g m s) (.inr (OF "left")) (.int x)=iq cs a x g m s:=rfl
theorem Er:putD (iq cs a l g m s) (.inr (OF "given")) (.int x)=iq cs a l x m s:=rfl
theorem Jq:putD (iq cs a l g m s) (.inr (OF "many")) (.int x)=iq cs a l g x s:=rfl
theorem JP:putD (iq cs a l g m s) (.inr (OF "seed")) (.int x)=iq cs a l g m x:=rfl
theorem Nj:(iq cs a l g m s).length < 1000000:=by show 6 < 1000000;decide
end
local macro_rules | `(tactic| walk_at "pot")=>zzS "L3.DT L3.Rc L3.He L3.Eu L3.Hs L3.J7 L3.OH L3.Jl L3.Er L3.Jq L3.JP L3.Nj true_and L3.pO"
local macro_rules | `(tactic| walk_at "gp")=>`(tactic| (walk_at "go";walk_at "pot";walk_at "go";walk_at "pot";walk_at "go";walk_at "pot";walk_at "go";walk_at "pot";walk_at "go"))
def Pot (μ:Mu)(b:Addr):Prop:=∃ (cs:List Int) (a l g m s:Int),μ b=some (.dct (iq cs a l g m s))/\0<=a
structure dI (b:Addr) (μ μ':Mu):Prop where
 pot:Pot μ' b
 oth:∀ a,a≠b->μ' a=μ a
theorem dI.trans {b:Addr}{μ μ1 μ2:Mu}(x:dI b μ μ1)(y:dI b μ1 μ2):dI b μ μ2:=⟨y.pot,λa h=>(y.oth a h).trans (x.oth a h)⟩
theorem dI.ne {b p:Addr}{μ μ1:Mu}(x:dI b μ μ1)(h:p≠b):μ1 p=μ p:=x.oth p h
theorem Pot.ne {μ:Mu}{b p:Addr}(h:Pot μ b)(hp:μ p=none):p≠b:=λz=>by subst z;obtain ⟨_,_,_,_,_,_,e,_⟩:=h;rw[hp] at e;cases e
theorem Pot.up {μ:Mu}{b p:Addr}{o:MO}(h:Pot μ b)(hp:p≠b):Pot (up μ p o) b:=by
 obtain ⟨cs,a,l,g,m,s,e,h0⟩:=h
 exact ⟨cs,a,l,g,m,s,by rw[aS (W9 hp)];exact e,h0⟩
theorem M4 {μ:Mu}{b:Addr}{o:MO}(h:μ b=some o):up μ b o=μ:=by
 funext a;unfold L3.up;split
 ·rename_i e;subst e;exact h.symm
 ·rfl
def Kp (b:Addr)(μ μ':Mu):Prop:=∀ a o,a≠b->μ a=some o->μ' a=some o
theorem Kp.trans {b:Addr}{μ μ1 μ2:Mu}(x:Kp b μ μ1)(y:Kp b μ1 μ2):Kp b μ μ2:=λa o h e=>y a o h (x a o h e)
theorem dI.kp {b:Addr}{μ μ1:Mu}(x:dI b μ μ1):Kp b μ μ1:=λa o h e=>by rw[x.oth a h];exact e
theorem Kp.new {b p:Addr}{μ:Mu}{o:MO}(h:μ p=none):Kp b μ (up μ p o):=λa u _ e=>by rw[aS (λz=>by subst z;rw[h] at e;cases e)];exact e
theorem Kp.put {b p:Addr}{μ μ1:Mu}{o:MO}(x:Kp b μ μ1)(h:μ p=none):Kp b μ (up μ1 p o):=λa u n e=>by rw[aS (λz=>by subst z;rw[h] at e;cases e)];exact x a u n e
theorem Kp.dn {b p:Addr}{μ μ1:Mu}(x:Kp b μ μ1)(h:μ p=none):Kp b μ (dn μ1 p):=λa u n e=>by unfold L3.dn;rw[if_neg (λz=>by subst z;rw[h] at e;cases e)];exact x a u n e
theorem Kv {b:Addr}{μ μ':Mu}{d:D}{Q:DK}(hP:Pot μ' b)(h:Kp b μ μ')(k:∀ μ2,dI b μ μ2->Q d μ2):RT Q d μ':=by
 refine ⟨λa=>if a=b then μ' a else μ a,λa o e=>?_,k _ ⟨?_,λa ha=>by simp only[if_neg ha]⟩⟩
 ·dsimp only at e
  split at e
  ·exact e
  ·rename_i ha;exact h a o ha e
 ·obtain ⟨cs,a,l,g,m,s,e,h0⟩:=hP
  exact ⟨cs,a,l,g,m,s,by simp only[if_pos rfl];exact e,h0⟩
def pK:FSp:=λds μ Q=>kcL ds λxs ds=>kcN ds ((∃ ns:List Int,xs=ns.map .int)/\∀ p μ',μ p=none->Pot μ' p->(∀ a,a≠p->μ' a=μ a)->Q (.obj p) μ')
theorem Hw:∀ ds μ Q,pK ds μ Q->ds.length=1:=λ_ _ _ h=>lcL h λ_ _ h=>by rw[(ecN h).1];rfl
def GZ:STr:=a6 (HP [.inr (OF "cells"),.inr (OF "at"),.inr (OF "left"),.inr (OF "given"),.inr (OF "many"),.inr (OF "seed")] (ah (au jZ (ah (ai 0) (av))) (ah (TC (.int 0)) (ah (TC (.int 0)) (ah (TC (.int 0)) (ah (TC (.int 0)) (ah (TC (.int 5)) (av))))))))
theorem NH:∀ ds μ Q,pK ds μ Q->GZ { nx:=λ_ μ'=>RT Q .non μ',rt:=RT Q } (ini 1 ds) μ:=by
 intro ds μ Q h
 replace h:=ecL h
 obtain ⟨xs,ds,rfl,h⟩:=h
 replace h:=ecN h
 obtain ⟨rfl,h⟩:=h
 walk_at "ini"
 unfold GZ
 walk_at "go"
 obtain ⟨⟨ns,rfl⟩,k⟩:=h
 intro p hp
 walk_at "go"
 exact ⟨_,.refl _,k p _ hp ⟨ns,0,0,0,0,5,aE,Xf 0⟩ λa ha=>aS ha⟩
def ja:FSp:=λds μ Q=>kcI ds λ_ ds=>kcI ds λ_ ds=>kcN ds (∀ k:Int,Q (.int k) μ)
theorem J6:∀ ds μ Q,ja ds μ Q->ds.length=2:=λ_ _ _ h=>lcI h λ_ _ h=>lcI h λ_ _ h=>by rw[(ecN h).1];rfl
def Hm:STr:=aA (aP (ak kG (ak eC (ak aR (ak aR (ak kG (ai 0) (TC (.int 2147483647))) (ak eC (TC (.int 7919)) (ai 1))) (TC (.int 11))) (TC (.int 48271))) (TC (.int 2147483629))) (ax 2)) (aA (aP (ak kG (ak eC (ai 2) (ai 2)) (TC (.int 2147483587))) (ax 3)) (a6 (ak kG (ak eC (ak aR (ai 3) (ai 1)) (TC (.int 69621))) (TC (.int 1999999973)))))
theorem Mj:∀ ds μ Q,ja ds μ Q->Hm { nx:=λ_ μ'=>RT Q .non μ',rt:=RT Q } (ini 4 ds) μ:=by
 intro ds μ Q h
 replace h:=ecI h
 obtain ⟨n,ds,rfl,h⟩:=h
 replace h:=ecI h
 obtain ⟨t,ds,rfl,h⟩:=h
 replace h:=ecN h
 obtain ⟨rfl,h⟩:=h
 walk_at "ini"
 unfold Hm
 walk_at "go"
 have s79:S64 7919:=by unfold S64;decide
 have s48:S64 48271:=by unfold S64;decide
 have s69:S64 69621:=by unfold S64;decide
 refine ⟨by decide,.inl (.inl s79),.inl (.inr s48),by decide,?_⟩
 walk_at "go"
 generalize hx:((n.fmod 2147483647+7919*t+11)*48271).fmod 2147483629=x
 have x0:0<=x:=by rw[← hx];exact fm0 (by decide)
 have x1:x < 2147483629:=by rw[← hx];exact fm1 (by decide)
 refine ⟨.inl (.inl (by unfold S64;omega)),by decide,?_⟩
 walk_at "go"
 exact ⟨.inl (.inr s69),by decide,_,.refl _,h _⟩
def aB:FSp:=λds μ Q=>kcO ds λb ds=>kcI ds λn ds=>kcN ds ((Pot μ b/\0 < n/\n < 18446744073709551616)/\∀ k μ',0<=k->k < n->dI b μ μ'->Q (.int k) μ')
theorem aZ {μ:Mu}{b:Addr}{n:Int}{Q:DK}(hB:Pot μ b)(h0:0 < n)(h1:n < 18446744073709551616)(h:∀ k μ',0<=k->k < n->dI b μ μ'->Q (.int k) μ'):aB [.obj b,.int n] μ Q:=⟨⟨hB,h0,h1⟩,h⟩
theorem Eo:∀ ds μ Q,aB ds μ Q->ds.length=2:=λ_ _ _ h=>lcO h λ_ _ h=>lcI h λ_ _ h=>by rw[(ecN h).1];rfl
def lM:STr:=aA (bW (mL (TB (ak rGt (bS (ai 0) (TC (.str "left"))) (TC (.int 0)))) (TB (ak rLt (bS (ai 0) (TC (.str "given"))) (TC (.int 60))))) (aA (lT (λm n=>m+n) (ai 0) (TC (.str "given")) (TC (.int 1))) (aA (aP (ak kG (bS (ai 0) (TC (.str "left"))) (ai 1)) (ax 3)) (aA (jq (ai 0) (TC (.str "left")) (ak lB (bS (ai 0) (TC (.str "left"))) (ai 1))) (a6 (ai 3))))) (bo)) (aA (jq (ai 0) (TC (.str "seed")) (au ja (ah (bS (ai 0) (TC (.str "seed"))) (ah (bS (ai 0) (TC (.str "many"))) (av))))) (a6 (ak kG (ak lB (bS (ai 0) (TC (.str "seed"))) (TC (.int 7))) (ai 1))))
def De:STr:=aA (lT (λm n=>m+n) (ai 0) (TC (.str "many")) (TC (.int 1))) (aA (bW (mL (TOr (TB (ak rEq (bS (ai 0) (TC (.str "left"))) (TC (.int 0)))) (TB (ak rEq (bS (ai 0) (TC (.str "given"))) (TC (.int 60))))) (TB (ak rLt (bS (ai 0) (TC (.str "at"))) (au dg (ah (bS (ai 0) (TC (.str "cells"))) (av)))))) (aA (aP (au wR (ah (ak L3.rIx (bS (ai 0) (TC (.str "cells"))) (bS (ai 0) (TC (.str "at")))) (av))) (ax 2)) (aA (lT (λm n=>m+n) (ai 0) (TC (.str "at")) (TC (.int 1))) (aA (jq (ai 0) (TC (.str "left")) (ak eC (ai 2) (au AQ (ah (ak rGe (ai 2) (ak Js (TC (.int 10)) (TC (.int 18)))) (av))))) (aA (jq (ai 0) (TC (.str "given")) (TC (.int 0))) (jq (ai 0) (TC (.str "seed")) (au ja (ah (ak aR (bS (ai 0) (TC (.str "seed"))) (ai 2)) (ah (bS (ai 0) (TC (.str "many"))) (av))))))))) (bo)) (lM))
theorem IJ:∀ ds μ Q,aB ds μ Q->De { nx:=λ_ μ'=>RT Q .non μ',rt:=RT Q } (ini 4 ds) μ:=by
 intro ds μ Q h
 replace h:=ecO h
 obtain ⟨b,ds,rfl,h⟩:=h
 replace h:=ecI h
 obtain ⟨n,ds,rfl,h⟩:=h
 replace h:=ecN h
 obtain ⟨rfl,h⟩:=h
 walk_at "ini"
 unfold De
 obtain ⟨⟨⟨cs,a,l,g,m,s,eb,a0⟩,n0,n1⟩,k⟩:=h
 have nm:fB n:=by unfold fB;omega
 have fin:∀ (μ':Mu) (c a l g m s:Int),0<=c->c < n->0<=a->RT Q (.int c) (up μ b (.dct (iq cs a l g m s))):=λμ' c a l g m s c0 c1 a0=>
  ⟨_,.refl _,k c _ c0 c1 ⟨⟨cs,a,l,g,m,s,aE,a0⟩,λz hz=>aS hz⟩⟩
 have rest:∀ (v2 v3:Option D) (a l g m s:Int),0<=a->lM { nx:=λ_ μ'=>RT Q .non μ',rt:=RT Q } [some (.obj b),some (.int n),v2,v3] (up μ b (.dct (iq cs a l g m s))):=by
  intro v2 v3 a l g m s a0
  unfold lM
  walk_at "gp"
  refine kif (λh1=>kif (λh2=>?_) λ_=>?_) λ_=>?_
  ·walk_at "gp"
   refine ⟨by omega,?_⟩
   walk_at "gp"
   exact ⟨⟨by omega,nm⟩,fin μ _ a _ _ m s (fm0 n0) (fm1 n0) a0⟩
  all_goals
   intro s2
   walk_at "gp"
   exact ⟨⟨by decide,by unfold fB;decide⟩,by omega,fin μ _ a l g m s2 (fm0 n0) (fm1 n0) a0⟩
 have e0:∀ c:Int,MulOk c (if 1000000000000000000<=c then 1 else 0):=λc=>.inl (.inr (by unfold S64;split<;>decide))
 have e1:pW 10 18:=by unfold pW;decide
 refine (M4 eb).symm ▸ ?_
 walk_at "gp"
 rw[Wm]
 refine kif (λ_=>kif (λh1=>?_) λ_=>rest _ _ _ _ _ _ _ a0) λ_=>kif (λ_=>kif (λh1=>?_) λ_=>rest _ _ _ _ _ _ _ a0) λ_=>rest _ _ _ _ _ _ _ a0
 all_goals
  obtain ⟨z,ez⟩:=HB a0 h1
  rw[ez]
  walk_at "gp"
  refine ⟨e1,e0 _,?_⟩
  walk_at "gp"
  intro s2
  walk_at "gp"
  exact rest _ _ _ _ _ _ _ (by omega)
def cY:List Str:=[OF "a", OF "aa", OF "ab", OF "b", OF "ba", OF "mid", OF "way", OF "zz", OF "z", OF "long", OF "longer", OF "abcdefgh", OF "x", OF "yz", OF "m", OF "az", OF "c"]
theorem FU:∀ w∈cY,WC w=true:=by decide +kernel
theorem Bx:cY.Nodup:=by decide +kernel
theorem F6:∀ f:Fin 17,∀ s:Fin 16,((W5 17).map λk=>(f.val+(1+s.val)*k) % 17).Nodup:=by decide +kernel
def nameAt (f s:Nat)(k:Nat):Str:=cY.getD ((f+(1+s)*k) % 17) (OF "")
theorem JL {f s n:Nat}(hf:f < 17)(hs:s < 16)(hn:n<=17):((W5 n).map (nameAt f s)).Nodup:=by
 have h1:((W5 17).map λk=>(f+(1+s)*k) % 17).Nodup:=F6 ⟨f,hf⟩ ⟨s,hs⟩
 have h2:((W5 n).map λk=>(f+(1+s)*k) % 17).Nodup:=by
  refine List.Nodup.sublist ?_ h1
  refine zex _ ?_
  rw[show W5 17=W5 n++(W5 (17 - n)).map (n + ·) by rw[← List.range_add];congr 1;omega]
  exact zaY _ _
 have h3:((W5 n).map (nameAt f s))=((W5 n).map λk=>(f+(1+s)*k) % 17).map λj=>cY.getD j (OF ""):=by rw[Wz];rfl
 rw[h3]
 rw[zaE,Yl]
 rw[zaE] at h2
 refine (Yl.mp h2 |> λq=>?_)
 rw[Yl]
 refine q.imp_of_mem ?_
 intro a b ha hb hne e
 refine hne ?_
 have l1:(f+(1+s)*a) % 17 < cY.length:=zcQ _ (by decide)
 have l2:(f+(1+s)*b) % 17 < cY.length:=zcQ _ (by decide)
 rw[Yw,Yw,WK l1,WK l2,zbe,zbe] at e
 exact (zdd Bx).mp e
theorem An (f s k:Nat):nameAt f s k∈cY:=by
 unfold nameAt
 have l1:(f+(1+s)*k) % 17 < cY.length:=zcQ _ (by decide)
 rw[Yw,WK l1,zbe]
 exact Yg _
def ir:FSp:=λds μ Q=>kcO ds λb ds=>kcI ds λm ds=>kcN ds ((Pot μ b/\0<=m/\m<=17)/\∀ (ws:List Str) μ',(ws.length:Int)=m->ws.Nodup->(∀ w∈ws,w∈cY)->dI b μ μ'->Q (.ls (ws.map .str)) μ')
theorem Cc:∀ ds μ Q,ir ds μ Q->ds.length=2:=λ_ _ _ h=>lcO h λ_ _ h=>lcI h λ_ _ h=>by rw[(ecN h).1];rfl
def yo:STr:=aA (aP (fv (ah (TC (.str "a")) (ah (TC (.str "aa")) (ah (TC (.str "ab")) (ah (TC (.str "b")) (ah (TC (.str "ba")) (ah (TC (.str "mid")) (ah (TC (.str "way")) (ah (TC (.str "zz")) (ah (TC (.str "z")) (ah (TC (.str "long")) (ah (TC (.str "longer")) (ah (TC (.str "abcdefgh")) (ah (TC (.str "x")) (ah (TC (.str "yz")) (ah (TC (.str "m")) (ah (TC (.str "az")) (av)))))))))))))))))) (ax 2)) (aA (aP (bB (ah (au aB (ah (ai 0) (ah (TC (.int 17)) (av)))) (ah (ak aR (TC (.int 1)) (au aB (ah (ai 0) (ah (TC (.int 16)) (av))))) (av)))) (de [3,4])) (a6 (bO (gL (ai 1)) (ax 0) (eG) (ak L3.rIx (ak aR (ai 1) (fv (ah (TC (.str "c")) (av)))) (ak kG (ak aR (ai 2) (ak eC (ai 3) (ai 0))) (TC (.int 17)))) 1 [2,3,4])))
theorem EI:∀ ds μ Q,ir ds μ Q->yo { nx:=λ_ μ'=>RT Q .non μ',rt:=RT Q } (ini 5 ds) μ:=by
 intro ds μ Q h
 replace h:=ecO h
 obtain ⟨b,ds,rfl,h⟩:=h
 replace h:=ecI h
 obtain ⟨m,ds,rfl,h⟩:=h
 replace h:=ecN h
 obtain ⟨rfl,h⟩:=h
 walk_at "ini"
 unfold yo
 walk_at "go"
 obtain ⟨⟨hP,m0,m1⟩,k⟩:=h
 refine ⟨by decide,?_⟩
 refine aZ hP (by decide) (by decide) λf μ1 f0 f1 P1=>?_
 walk_at "go"
 refine aZ P1.pot (by decide) (by decide) λs μ2 s0 s1 P2=>?_
 walk_at "go"
 refine ⟨⟨by omega,by omega⟩,?_⟩
 have hw:∀ (kk:Nat),atD [D.str "a", D.str "aa", D.str "ab", D.str "b", D.str "ba", D.str "mid", D.str "way", D.str "zz", D.str "z", D.str "long", D.str "longer", D.str "abcdefgh", D.str "x", D.str "yz", D.str "m", D.str "az", D.str "c"] ((f+(1+s)*(kk:Int)).fmod 17)=some (.str (nameAt f.toNat s.toNat kk)):=by
  intro kk
  have e1:(f+(1+s)*(kk:Int)).fmod 17=(((f.toNat+(1+s.toNat)*kk) % 17:Nat):Int):=by
   rw[Zf _ (by decide)]
   push_cast
   rw[Yb f0,Yb s0]
  rw[e1,bZ]
  show (cY.map D.str)[(f.toNat+(1+s.toNat)*kk) % 17]? = _
  have l1:(f.toNat+(1+s.toNat)*kk) % 17 < cY.length:=zcQ _ (by decide)
  unfold nameAt
  rw[Xo,Yw,WK l1];rfl
 refine comp_map (λd=>match d with
  | .int j=>.str (nameAt f.toNat s.toNat j.toNat)
  | _=>.non) (by rw[eu];omega) (λd hd μ' _ N n=>?_) ?_
 ·obtain ⟨j,rfl,j0,j1⟩:=By hd
  walk_at "go"
  refine ⟨by decide,?_⟩
  walk_at "go"
  refine ⟨.inl (.inl (by unfold S64;omega)),by decide,?_⟩
  have:=hw j.toNat
  rw[Yb (by omega)] at this
  rw[this]
  walk_at "go"
  exact n
 ·refine ⟨_,.refl _,?_⟩
  have e:(cE 0 m.toNat).map (λd=>match d with
   | .int j=>D.str (nameAt f.toNat s.toNat j.toNat)
   | _=>.non)=((W5 m.toNat).map (nameAt f.toNat s.toNat)).map .str:=by
   unfold cE
   rw[Wz,Wz]
   refine W3 λi _=>?_
   simp
  rw[e]
  refine k _ _ (by simp;omega) (JL (by omega) (by omega) (by omega)) (λw hw=>?_) (P1.trans P2)
  obtain ⟨i,_,rfl⟩:=Wq.mp hw
  exact An _ _ _
section
variable {G:GTr} {tt:TTr} {te:ETr} {ρc:ST} {ds:List D} {μ:Mu} {Q:DK} {b:Addr}
theorem zD (hP:Pot μ b)(I:List D->List D->Prop)(h0:I ds [])(hl:ds.length<=999999)
  (step:∀ d r zs μ',Pot μ' b->Kp b μ μ'->I (d::r) zs->∀ (N:Option D->Mu->Prop),(∀ oy μ2,I r (zs++oy.toList)->dI b μ' μ2->N oy μ2)->G d ρc μ' λρ1 μ1=>tt ρ1 μ1 λc μ2=>kIf c (te ρ1 μ2 λy μ3=>N (some y) μ3) (N none μ2))
  (k:∀ zs μ',I [] zs->dI b μ μ'->Q (.ls zs) μ'):vg G tt te ρc ds μ Q:=by
 intro p hp
 have pb:=hP.ne hp
 refine ko (λr μ'=>∃ zs,I r zs/\zs.length+r.length<=ds.length/\μ' p=some (.lst zs)/\Pot μ' b/\∀ a,a≠b->a≠p->μ' a=μ a) ?_ ?_ _ _ ⟨[],h0,by simp,aE,hP.up pb,λa _ h=>aS h⟩
 ·rintro μ' ⟨zs,hI,_,e,P,fr⟩
  refine bx e (k zs _ hI ⟨?_,λa ha=>?_⟩)
  ·obtain ⟨cs,a,l,g,m,s,e,h0⟩:=P
   exact ⟨cs,a,l,g,m,s,by unfold dn;rw[if_neg (W9 pb)];exact e,h0⟩
  ·unfold dn
   split
   ·rename_i z;subst z;exact hp.symm
   ·rename_i z;exact fr a ha z
 ·rintro d r μ' N ⟨zs,hI,hz,e,P,fr⟩ hN
  rw[WY] at hz
  refine step d r zs μ' P (λa o n h=>?_) hI (λoy μ3=>match oy with
   | some y=>kL μ3 p λzs=>zs.length < 1000000/\N (up μ3 p (.lst (zs++[y])))
   | none=>N μ3) ?_
  ·rw[fr a n (λz=>by subst z;rw[hp] at h;cases h)];exact h
  intro oy μ2 hoy P2
  have e2:μ2 p=some (.lst zs):=by rw[P2.oth p pb];exact e
  cases oy with
  | none=>exact hN _ ⟨zs,by simpa using hoy,by omega,e2,P2.pot,λa h1 h2=>(P2.oth a h1).trans (fr a h1 h2)⟩
  | some y=>
   refine bx e2 ⟨by omega,hN _ ⟨zs++[y],hoy,by rw[Wv];simp;omega,aE,P2.pot.up pb,λa h1 h2=>?_⟩⟩
   rw[aS h2,P2.oth a h1,fr a h1 h2]
end
theorem Mf {xs:List D}{c:Int}(c0:0<=c):atD xs c=xs[c.toNat]?:=by
 have:=bZ c.toNat xs
 rwa [Yb c0] at this
structure Lt where
 nm:Str
 nu:Int
 ag:Int
 hp:Int
 mr:Int
def Lt.toD (x:Lt):D:=.tup [.str x.nm,.int x.nu,.int x.ag,.int x.hp,.int x.mr]
abbrev ltD (ls:List Lt):List D:=ls.map Lt.toD
structure Lt.Ok (x:Lt):Prop where
 a0:0<=x.ag
 a1:x.ag < 30
 h0:0<=x.hp
 h1:x.hp < 6
 m0:0<=x.mr
 m1:x.mr<=1
structure Wy where
 nm:Str
 pc:Int
 rm:Int
 mr:Option Int
 tn:Bool
def dF:Option Int->D
 | none=>.non
 | some i=>.int i
def uD (b:Bool):Str:=if b then OF "turns" else OF "line"
def Wy.toD (x:Wy):D:=.tup [.str x.nm,.int x.pc,.int x.rm,dF x.mr,.str (uD x.tn)]
structure Wy.Ok (x:Wy):Prop where
 n:WC x.nm=true
 p0:1<=x.pc
 p1:x.pc<=20
 r0:1<=x.rm
 r1:x.rm<=60
 m:∀ i,x.mr=some i->0<=i/\i<=60
mutual
def pl:Nat->D->Bool
 | _,.non=>true
 | _,.int _=>true
 | _,.str x=>WC x
 | n+1,.tup ds=>decide (ds.length<=999999)&&pls n ds
 | n+1,.ls ds=>decide (ds.length<=999999)&&pls n ds
 | _,_=>false
def pls:Nat->List D->Bool
 | _,[]=>true
 | n,d::r=>pl n d&&pls n r
end
def gE (w:Wy)(x:Lt)(n:Nat):Lt:=match w.mr with
 | none=>x
 | some i=>if (n:Int) < i then x else { x with mr:=1 }
def b5 (w:Wy)(p:List Lt×List Lt)(y:Lt):List Lt×List Lt:=if w.rm<=(p.1.length:Int) then (p.1,p.2++[y]) else (p.1++[gE w y p.1.length],p.2)
def tk (w:Wy)(xs ys:List Lt):List Lt×List Lt:=ys.foldl (b5 w) (xs,[])
theorem R4 (a b c d e:D):cutD [a,b,c,d,e] none (some 4)=[a,b,c,d]:=rfl
def fj:FSp:=λds μ Q=>kcA ds λwd ds=>kcA ds λld ds=>kcI ds λn ds=>kcN ds (∃ (w:Wy) (x:Lt) (m:Nat),(wd=w.toD/\ld=x.toD/\n=m)/\Q (gE w x m).toD μ)
theorem rS:∀ ds μ Q,fj ds μ Q->ds.length=3:=λ_ _ _ h=>lcA h λ_ _ h=>lcA h λ_ _ h=>lcI h λ_ _ h=>by rw[(ecN h).1];rfl
def mh:STr:=aA (bW (TOr (TB (ak rIs (ak L3.rIx (ai 0) (TC (.int 3))) (TC .non))) (TB (ak rLt (ai 2) (ak L3.rIx (ai 0) (TC (.int 3)))))) (a6 (ai 1)) (bo)) (a6 (ak aR (TSl (ai 1) (ONo) (mS (TC (.int 4)))) (bB (ah (TC (.int 1)) (av)))))
theorem sY:∀ ds μ Q,fj ds μ Q->mh { nx:=λ_ μ'=>RT Q .non μ',rt:=RT Q } (ini 3 ds) μ:=by
 intro ds μ Q h
 replace h:=ecA h
 obtain ⟨wd,ds,rfl,h⟩:=h
 replace h:=ecA h
 obtain ⟨ld,ds,rfl,h⟩:=h
 replace h:=ecI h
 obtain ⟨n,ds,rfl,h⟩:=h
 replace h:=ecN h
 obtain ⟨rfl,h⟩:=h
 walk_at "ini"
 unfold mh
 walk_at "go"
 obtain ⟨w,x,m,⟨rfl,rfl,rfl⟩,k⟩:=h
 simp only[Wy.toD]
 walk_at "go"
 unfold gE at k
 cases hm:w.mr with
 | none=>
  rw[hm] at k
  simp only[dF]
  walk_at "go"
  exact ⟨_,.refl _,k⟩
 | some i=>
  rw[hm] at k
  simp only[dF]
  walk_at "go"
  refine kif (λh1=>⟨_,.refl _,?_⟩) λh1=>?_
  ·simp only[if_pos h1] at k;exact k
  ·simp only[if_neg h1] at k
   simp only[Lt.toD]
   walk_at "go"
   rw[R4]
   walk_at "go"
   exact ⟨by show 5<=1000000;decide,_,.refl _,k⟩
def gG:FSp:=λds μ Q=>kcA ds λwd ds=>kcT ds λst ds=>kcT ds λle ds=>kcN ds (∃ (w:Wy) (xs ys:List Lt),(wd=w.toD/\st=ltD xs/\le=ltD ys/\xs.length+ys.length<=900000)/\Q (.tup [.tup (ltD (tk w xs ys).1),.tup (ltD (tk w xs ys).2)]) μ)
theorem uQ:∀ ds μ Q,gG ds μ Q->ds.length=3:=λ_ _ _ h=>lcA h λ_ _ h=>lcT h λ_ _ h=>lcT h λ_ _ h=>by rw[(ecN h).1];rfl
def qh:STr:=aA (aP (au jA (ah (ai 1) (av))) (ax 3)) (aA (aP (nD (av)) (ax 4)) (aA (iJ (dq (ai 2)) (ax 5) (bW (TB (ak rGe (au dg (ah (ai 3) (av))) (ak L3.rIx (ai 0) (TC (.int 2))))) (fE (o7 (ai 4) (ai 5))) (fE (o7 (ai 3) (au fj (ah (ai 0) (ah (ai 5) (ah (au dg (ah (ai 3) (av))) (av))))))))) (a6 (bB (ah (au bG (ah (ai 3) (av))) (ah (au bG (ah (ai 4) (av))) (av)))))))
theorem xE:∀ ds μ Q,gG ds μ Q->qh { nx:=λ_ μ'=>RT Q .non μ',rt:=RT Q } (ini 6 ds) μ:=by
 intro ds μ Q h
 replace h:=ecA h
 obtain ⟨wd,ds,rfl,h⟩:=h
 replace h:=ecT h
 obtain ⟨st,ds,rfl,h⟩:=h
 replace h:=ecT h
 obtain ⟨le,ds,rfl,h⟩:=h
 replace h:=ecN h
 obtain ⟨rfl,h⟩:=h
 walk_at "ini"
 unfold qh
 walk_at "go"
 obtain ⟨w,xs,ys,⟨rfl,rfl,rfl,hl⟩,k⟩:=h
 intro p hp
 walk_at "go"
 intro q hq
 have qp:q≠p:=λz=>by subst z;rw[aE] at hq;cases hq
 have hqn:μ q=none:=by rw[aS qp] at hq;exact hq
 refine bT (λr ρ μ'=>∃ (a b:List Lt) (rs:List Lt) (v5:Option D),r=ltD rs/\ρ=[some w.toD,some (.tup (ltD xs)),some (.tup (ltD ys)),some (.obj p),some (.obj q),v5]/\μ' p=some (.lst (ltD a))/\μ' q=some (.lst (ltD b))/\Sub μ μ'/\rs.foldl (b5 w) (a,b)=tk w xs ys/\a.length+b.length+rs.length<=900000) ?_ ?_ _ _ _ ⟨xs,[],ys,_,rfl,rfl,by rw[aS (W9 qp),aE],aE,(Sub.new hp).trans (Sub.new hq),rfl,by simpa using hl⟩
 ·rintro ρ μ' ⟨a,b,rs,v5,er,rfl,ep,eq,s,e,_⟩
  have:rs=[]:=by cases rs with | nil=>rfl | cons=>cases er
  subst this
  have e:(a,b)=tk w xs ys:=e
  rw[← e] at k
  walk_at "go"
  refine bx ep ?_
  walk_at "go"
  refine bx eq ?_
  exact ⟨_,s,k⟩
 ·rintro d r ρ μ' N ⟨a,b,rs,v5,er,rfl,ep,eq,s,e,hz⟩ hN
  cases rs with
  | nil=>cases er
  | cons y rs=>
  cases er
  rw[WY] at hz
  rw[XR] at e
  unfold b5 at e
  simp only[Wy.toD]
  walk_at "go"
  refine bx ep ?_
  walk_at "go"
  rw[Wm]
  refine kif (λh1=>?_) λh1=>?_
  ·rw[if_pos h1] at e
   walk_at "go"
   refine bx eq ?_
   walk_at "go"
   refine bx eq ⟨by simp;omega,hN _ _ ⟨a,b++[y],rs,_,rfl,rfl,by rw[aS (W9 qp)];exact ep,by rw[aE];simp[ltD],λz o h=>?_,e,by simp;omega⟩⟩
   rw[aS (λe=>by subst e;rw[hqn] at h;cases h)];exact s z o h
  ·rw[if_neg h1] at e
   walk_at "go"
   refine bx ep ?_
   walk_at "go"
   refine bx ep ?_
   rw[Wm]
   refine ⟨w,y,a.length,⟨rfl,rfl,rfl⟩,?_⟩
   walk_at "go"
   refine bx ep ⟨by simp;omega,hN _ _ ⟨a++[gE w y a.length],b,rs,_,rfl,rfl,by rw[aE];simp[ltD],by rw[aS qp];exact eq,λz o h=>?_,e,by simp;omega⟩⟩
   rw[aS (λe=>by subst e;rw[hp] at h;cases h)];exact s z o h
theorem U3 (w:Wy)(μ:Mu)(Q:DK):L3.rIx w.toD (.int 0) μ Q=Q (.str w.nm) μ:=propext Wr
theorem Vu (w:Wy)(μ:Mu)(Q:DK):L3.rIx w.toD (.int 1) μ Q=Q (.int w.pc) μ:=propext Wr
theorem VY (w:Wy)(μ:Mu)(Q:DK):L3.rIx w.toD (.int 2) μ Q=Q (.int w.rm) μ:=propext Wr
theorem Vj (w:Wy)(μ:Mu)(Q:DK):L3.rIx w.toD (.int 4) μ Q=Q (.str (uD w.tn)) μ:=propext Wr
theorem lt_0 (x:Lt)(μ:Mu)(Q:DK):L3.rIx x.toD (.int 0) μ Q=Q (.str x.nm) μ:=propext Wr
theorem VH (x:Lt)(μ:Mu)(Q:DK):L3.rIx x.toD (.int 1) μ Q=Q (.int x.nu) μ:=propext Wr
theorem Vx (x:Lt)(μ:Mu)(Q:DK):L3.rIx x.toD (.int 2) μ Q=Q (.int x.ag) μ:=propext Wr
theorem Va (x:Lt)(μ:Mu)(Q:DK):L3.rIx x.toD (.int 3) μ Q=Q (.int x.hp) μ:=propext Wr
theorem Ve (x:Lt)(μ:Mu)(Q:DK):L3.rIx x.toD (.int 4) μ Q=Q (.int x.mr) μ:=propext Wr
theorem S8 (i0 i1 i2 i3 i4:Nat)(x:Lt)(ρ:ST)(μ:Mu)(k:ST->Mu->Prop):de [i0,i1,i2,i3,i4] x.toD ρ μ k=de [i0,i1,i2,i3,i4] (.tup [.str x.nm,.int x.nu,.int x.ag,.int x.hp,.int x.mr]) ρ μ k:=propext Wr
theorem U4 (xs:List D){k:Int}(k0:0<=k):cutD xs none (some k)=xs.take k.toNat:=by
 have:=Cw xs k.toNat
 rwa [Yb k0] at this
theorem V8 (xs:List D){k:Int}(k0:0<=k):cutD xs (some k) none=xs.drop k.toNat:=by
 have:=uu xs k.toNat
 rwa [Yb k0] at this
theorem Ls (ls:List Lt)(n:Nat):(ltD ls).take n=ltD (ls.take n):=by simp[ltD,zeb]
theorem L7 (ls:List Lt)(n:Nat):(ltD ls).drop n=ltD (ls.drop n):=by simp[ltD,zec]
theorem gT {w:Wy}{a b:List Lt}{y:Lt}(h:w.rm<=(a.length:Int)):b5 w (a,b) y=(a,b++[y]):=by unfold b5;rw[if_pos h]
theorem oJ {w:Wy}{a b:List Lt}{y:Lt}(h:¬ w.rm<=(a.length:Int)):b5 w (a,b) y=(a++[gE w y a.length],b):=by unfold b5;rw[if_neg h]
theorem vv:dF none=.non:=rfl
theorem wm (i:Int):dF (some i)=.int i:=rfl
theorem Bz (w:Wy):∀ (ys:List Lt) (a b:List Lt),(ys.foldl (b5 w) (a,b)).1.length+(ys.foldl (b5 w) (a,b)).2.length=a.length+b.length+ys.length
 | [],a,b=>by simp
 | y::ys,a,b=>by
  rw[XR]
  by_cases h:w.rm<=(a.length:Int)
  ·rw[gT h,Bz w ys];simp;omega
  ·rw[oJ h,Bz w ys];simp;omega
theorem Dt (w:Wy)(y:Lt)(n:Nat):(gE w y n).nm=y.nm:=by
 unfold gE
 split
 ·rfl
 ·split<;>rfl
theorem Ja (w:Wy)(P:Str->Prop):∀ (ys:List Lt) (a b:List Lt),(∀ x∈a,P x.nm)->(∀ x∈b,P x.nm)->(∀ x∈ys,P x.nm)->(∀ x∈(ys.foldl (b5 w) (a,b)).1,P x.nm)/\∀ x∈(ys.foldl (b5 w) (a,b)).2,P x.nm
 | [],a,b,h1,h2,_=>⟨h1,h2⟩
 | y::ys,a,b,h1,h2,h3=>by
  rw[XR]
  have hy:=h3 y WL
  have hr:∀ x∈ys,P x.nm:=λx hx=>h3 x (WU _ hx)
  by_cases h:w.rm<=(a.length:Int)
  ·rw[gT h]
   refine Ja w P ys _ _ h1 (λx hx=>?_) hr
   rcases W2.mp hx with z | z
   ·exact h2 x z
   ·have:x=y:=by simpa using z
    subst this;exact hy
  ·rw[oJ h]
   refine Ja w P ys _ _ (λx hx=>?_) h2 hr
   rcases W2.mp hx with z | z
   ·exact h1 x z
   ·have:x=gE w y a.length:=by simpa using z
    subst this;rw[Dt];exact hy
def Uu:=Jn @U3 <| Jn @Vu <| Jn @VY <| Jn @Vj <| Jn @lt_0 <| Jn @VH <| Jn @Vx <| Jn @Va <| Jn @Ve <| Jn @S8 <| @Tu
local macro_rules | `(tactic| walk_at "go")=>zzS "↓L3.Uu L3.Et ↓L3.xK ↓L3.wI ↓L3.wC ↓L3.xu ↓L3.zp ↓L3.wN ↓L3.kC ↓L3.je L3.cq L3.bY L3.cC L3.cf L3.ck L3.cD L3.cS L3.cV L3.bX L3.cv L3.cu L3.cx L3.cA L3.cT L3.cF L3.c6 L3.cB L3.cX L3.cj L3.c5 L3.jf L3.vv L3.wm L3.fe List.map_cons List.map_nil List.replicate List.cons_append List.nil_append L3.lk L3.DY L3.DZ L3.uY L3.kj L3.fu L3.uC L3.gU L3.m7 L3.nM L3.kx L3.ki L3.ky L3.kq true_and and_true and_self Bool.not_true Bool.not_false decide_true decide_false Bool.or_true Bool.or_false Bool.true_or Bool.false_or Bool.and_false Bool.false_and Bool.and_true Bool.true_and Int.reduceToNat Int.reducePow Int.reduceNeg Int.reduceSub Int.reduceAdd Int.reduceMul Int.reduceEq Int.reduceLT Int.reduceLE Int.reduceBEq L3.iC L3.fV L3.fL L3.fX L3.fS L3.fO L3.fQ L3.fK if_true if_false Bool.false_eq_true reduceCtorEq decide_eq_true_eq"
def oD (ws os:List Str)(l:Str):Option Str:=match (ws.filter λw=>decide (w∈os)).filter λw=>ltS l w with
 | x::_=>some x
 | []=>(ws.filter λw=>decide (w∈os)).head?
theorem zF {ws os:List Str}{l n:Str}(h:oD ws os l=some n):n∈ws/\n∈os:=by
 unfold oD at h
 have hm:n∈ws.filter λw=>decide (w∈os):=by
  split at h
  ·rename_i x r e
   cases h
   have:n∈(ws.filter λw=>decide (w∈os)).filter λw=>ltS l w:=by rw[e];exact WL
   exact (Xd.mp this).1
  ·exact List.mem_of_head? h
 have:=Xd.mp hm
 exact ⟨this.1,by simpa using this.2⟩
theorem AJ {ws os:List Str}{l w:Str}(h1:w∈ws)(h2:w∈os):∃ n,oD ws os l=some n:=by
 have hm:w∈ws.filter λw=>decide (w∈os):=Xd.mpr ⟨h1,by simpa using h2⟩
 unfold oD
 split
 ·exact ⟨_,rfl⟩
 ·cases e:(ws.filter λw=>decide (w∈os)) with
  | nil=>rw[e] at hm;cases hm
  | cons x r=>exact ⟨x,rfl⟩
theorem C7 (w:Str)(os:List Str):inG (.str w) (os.map .str)=decide (w∈os):=by
 unfold inG
 rw[List.any_map]
 induction os with
 | nil=>simp
 | cons o r ih=>
  rw[Zv,ih]
  simp only[Function.comp_apply,gU]
  by_cases h:o=w
  ·simp[h]
  ·simp[h,W9 h,eq_comm]
theorem C3 {n:Nat}{os:List Str}(h:∀ o∈os,WC o=true):cz n (os.map .str)=true:=by
 induction os with
 | nil=>rfl
 | cons o r ih=>
  rw[WE,fu,uY,h o WL,ih λx hx=>h x (WU _ hx)];rfl
theorem zB (os:List Str)(p:Str->Bool):(os.map D.str).filterMap (λd=>match d with
  | .str w=>if p w then some (D.str w) else none
  | _=>none)=(os.filter p).map D.str:=by
 induction os with
 | nil=>rfl
 | cons o r ih=>
  rw[WE,Yo,YQ]
  dsimp only
  cases p o with
  | true=>simp[ih]
  | false=>simp[ih]
def fM:FSp:=λds μ Q=>kcA ds λd ds=>kcL ds λos' ds=>kcS ds λl ds=>kcN ds (∃ (ws os:List Str) (n:Str),((d=.tup (ws.map .str)∨d=.ls (ws.map .str))/\os'=os.map .str/\(∀ w∈ws,WC w=true)/\(∀ w∈os,WC w=true)/\ws.length<=900000/\oD ws os l=some n)/\Q (.str n) μ)
theorem sZ:∀ ds μ Q,fM ds μ Q->ds.length=3:=λ_ _ _ h=>lcA h λ_ _ h=>lcL h λ_ _ h=>lcS h λ_ _ h=>by rw[(ecN h).1];rfl
def oE:STr:=aA (aP (bO (dq (ai 0)) (ax 0) (TB (ak (xk false) (ai 0) (ai 1))) (ai 0) 1 [1]) (ax 3)) (aA (aP (bO (dq (ai 3)) (ax 0) (TB (ak Oz (ai 0) (ai 1))) (ai 0) 1 [2]) (ax 4)) (a6 (kM (TB (ak rGt (au dg (ah (ai 4) (av))) (TC (.int 0)))) (ak L3.rIx (ai 4) (TC (.int 0))) (ak L3.rIx (ai 3) (TC (.int 0))))))
theorem vP:∀ ds μ Q,fM ds μ Q->oE { nx:=λ_ μ'=>RT Q .non μ',rt:=RT Q } (ini 5 ds) μ:=by
 intro ds μ Q h
 replace h:=ecA h
 obtain ⟨d,ds,rfl,h⟩:=h
 replace h:=ecL h
 obtain ⟨os',ds,rfl,h⟩:=h
 replace h:=ecS h
 obtain ⟨l,ds,rfl,h⟩:=h
 replace h:=ecN h
 obtain ⟨rfl,h⟩:=h
 walk_at "ini"
 unfold oE
 walk_at "go"
 obtain ⟨ws,os,n,⟨hd,rfl,h1,h2,hl,hn⟩,k⟩:=h
 have go:∀ d,d=.tup (ws.map .str)∨d=.ls (ws.map .str)->∀ f:List D->Prop,f (ws.map .str)->kS d f:=λd h f hf=>by rcases h with rfl | rfl<;>exact hf
 refine go d hd _ ?_
 refine vW (λd=>match d with
  | .str w=>if decide (w∈os) then some (.str w) else none
  | _=>none) (by rw[Wm];omega) (λd hd μ' _ N n=>?_) ?_
 ·obtain ⟨w,hw,rfl⟩:=Wq.mp hd
  walk_at "go"
  rw[C3 h2,C7]
  have:=h1 w hw
  simp only[this,true_and]
  dsimp only at n
  refine kif (λh=>?_) λh=>?_
  ·rw[decide_eq_true h] at n;exact n
  ·rw[decide_eq_false h] at n;exact n
 ·rw[zB ws λw=>decide (w∈os)]
  generalize hth:(ws.filter λw=>decide (w∈os))=th at *
  have lth:th.length<=900000:=by rw[← hth];exact Xi (Yx _ _) hl
  walk_at "go"
  refine vW (λd=>match d with
   | .str w=>if ltS l w then some (.str w) else none
   | _=>none) (by rw[Wm];omega) (λd hd μ' _ N n=>?_) ?_
  ·obtain ⟨w,hw,rfl⟩:=Wq.mp hd
   walk_at "go"
   dsimp only at n
   refine Co (λh=>?_) λh=>?_
   ·rw[h] at n;exact n
   ·rw[h] at n;exact n
  ·rw[zB th λw=>ltS l w]
   unfold oD at hn
   rw[hth] at hn
   walk_at "go"
   cases e:th.filter λw=>ltS l w with
   | nil=>
    rw[e] at hn
    have hn:th.head? = some n:=hn
    cases th with
    | nil=>cases hn
    | cons x r=>
    cases hn
    walk_at "go"
    show kIf false _ _
    walk_at "go"
    exact ⟨_,.refl _,k⟩
   | cons x r=>
    rw[e] at hn
    have hn:some x=some n:=hn
    cases hn
    walk_at "go"
    refine jP (by simp) ?_
    exact ⟨_,.refl _,k⟩
def at1 (n:Str)(st:List Lt):Nat:=st.findIdx λx=>decide (x.nm=n)
def dW (ws:List Str)(p:Int):Nat->List Lt->List Lt->Str->List Lt×List Lt×Str
 | 0,st,out,l=>(out,st,l)
 | f+1,st,out,l=>if 0 < st.length/\(out.length:Int) < p then (match oD ws (st.map Lt.nm) l with
   | some n=>(match st[at1 n st]? with
    | some x=>dW ws p f (st.eraseIdx (at1 n st)) (out++[x]) n
    | none=>(out,st,l))
   | none=>(out,st,l)) else (out,st,l)
theorem JB {n:Str}{st:List Lt}(h:n∈st.map Lt.nm):at1 n st < st.length:=by
 obtain ⟨x,hx,rfl⟩:=Wq.mp h
 exact List.findIdx_lt_length_of_exists ⟨x,hx,by simp⟩
theorem RX {n:Str}{st:List Lt}{x:Lt}(h:st[at1 n st]? = some x):x.nm=n:=by
 obtain ⟨hl,e⟩:=W4.mp h
 have hl':(st.findIdx λx=>decide (x.nm=n)) < st.length:=hl
 have:=zb8 (xs:=st) (p:=λx=>decide (x.nm=n)) (w:=hl')
 rw[← e]
 exact of_decide_eq_true this
theorem uh {α β:Type}(f:α->β):∀ (l:List α) (i:Nat),(l.map f).eraseIdx i=(l.eraseIdx i).map f
 | [],_=>by simp
 | _::_,0=>rfl
 | a::l,i+1=>by simp[uh f l i]
theorem Q4 {n:Str}{st:List Lt}(h:n∈st.map Lt.nm):Es ((st.map Lt.nm).map .str) (.str n)=some (at1 n st):=by
 unfold Es
 have hl:=JB h
 rw[ZO]
 have e1:∀ m (hm:m < ((st.map Lt.nm).map D.str).length),eqD ((st.map Lt.nm).map D.str)[m] (.str n)=decide ((st[m]'(by simpa using hm)).nm=n):=by
  intro m hm
  simp[gU]
 refine ⟨by simpa using hl,?_,λj hj=>?_⟩
 ·rw[e1]
  have hl':(st.findIdx λx=>decide (x.nm=n)) < st.length:=hl
  have:=zb8 (xs:=st) (p:=λx=>decide (x.nm=n)) (w:=hl')
  exact this
 ·rw[e1]
  have:=List.not_of_lt_findIdx (xs:=st) (p:=λx=>decide (x.nm=n)) hj
  simpa using this
theorem AV {ws:List Str}{p:Int}{f:Nat}{st out:List Lt}{l:Str}(h:¬ (0 < st.length/\(out.length:Int) < p)):dW ws p f st out l=(out,st,l):=by
 cases f with
 | zero=>rfl
 | succ f=>unfold dW;rw[if_neg h]
theorem FP {ws:List Str}{p:Int}{f:Nat}{st out:List Lt}{l n:Str}{x:Lt}(h:0 < st.length/\(out.length:Int) < p)(hn:oD ws (st.map Lt.nm) l=some n)(hx:st[at1 n st]? = some x) :
  dW ws p (f+1) st out l=dW ws p f (st.eraseIdx (at1 n st)) (out++[x]) n:=by
 conv=>lhs;unfold dW
 rw[if_pos h,hn]
 dsimp only
 rw[hx]
theorem Nd {n k:Nat}(h:k < n):L2.ixN n (k:Int)=some k:=by rw[Kt,if_pos h]
def mZ (ws:List Str)(st:List Lt):Prop:=∀ x∈st,x.nm∈ws
def eg:FSp:=λds μ Q=>kcA ds λwd ds=>kcA ds λd ds=>kcT ds λst' ds=>kcS ds λl ds=>kcN ds (∃ (w:Wy) (ws:List Str) (st:List Lt),(wd=w.toD/\(d=.tup (ws.map .str)∨d=.ls (ws.map .str))/\st'=ltD st/\(∀ x∈ws,WC x=true)/\mZ ws st/\ws.length<=900000/\st.length<=900000)/\
   Q (.tup [.tup (ltD (dW ws w.pc st.length st [] l).1),.tup (ltD (dW ws w.pc st.length st [] l).2.1),.str (dW ws w.pc st.length st [] l).2.2]) μ)
theorem nN:∀ ds μ Q,eg ds μ Q->ds.length=4:=λ_ _ _ h=>lcA h λ_ _ h=>lcA h λ_ _ h=>lcT h λ_ _ h=>lcS h λ_ _ h=>by rw[(ecN h).1];rfl
def jX:STr:=aA (aP (au jA (ah (ai 2) (av))) (ax 4)) (aA (aP (nD (av)) (ax 5)) (aA (aP (ai 3) (ax 6)) (aA (vk (mL (TB (ak rGt (au dg (ah (ai 4) (av))) (TC (.int 0)))) (TB (ak rLt (au dg (ah (ai 5) (av))) (ak L3.rIx (ai 0) (TC (.int 1)))))) (aA (aP (jN (ai 4) (ax 0) (eG) (ak L3.rIx (ai 0) (TC (.int 0))) 1 []) (ax 7)) (aA (aP (au fM (ah (ai 1) (ah (ai 7) (ah (ai 6) (av))))) (ax 6)) (fE (o7 (ai 5) (PH (ai 4) (Bv (ai 7) (ai 6)))))))) (a6 (bB (ah (au bG (ah (ai 5) (av))) (ah (au bG (ah (ai 4) (av))) (ah (ai 6) (av)))))))))
theorem o6:∀ ds μ Q,eg ds μ Q->jX { nx:=λ_ μ'=>RT Q .non μ',rt:=RT Q } (ini 8 ds) μ:=by
 intro ds μ Q h
 replace h:=ecA h
 obtain ⟨wd,ds,rfl,h⟩:=h
 replace h:=ecA h
 obtain ⟨d,ds,rfl,h⟩:=h
 replace h:=ecT h
 obtain ⟨st',ds,rfl,h⟩:=h
 replace h:=ecS h
 obtain ⟨l,ds,rfl,h⟩:=h
 replace h:=ecN h
 obtain ⟨rfl,h⟩:=h
 walk_at "ini"
 unfold jX
 walk_at "go"
 obtain ⟨w,ws,st,⟨rfl,hd,rfl,hw,hs,hl1,hl2⟩,k⟩:=h
 intro p hp
 walk_at "go"
 intro q hq
 have qp:q≠p:=λz=>by subst z;rw[aE] at hq;cases hq
 have hqn:μ q=none:=by rw[aS qp] at hq;exact hq
 walk_at "go"
 refine ⟨λρ μ'=>∃ (a o:List Lt) (n:Str) (v7:Option D) (f:Nat),ρ=[some w.toD,some d,some (.tup (ltD st)),some (.str l),some (.obj p),some (.obj q),some (.str n),v7]/\μ' p=some (.lst (ltD a))/\μ' q=some (.lst (ltD o))/\Sub μ μ'/\dW ws w.pc f a o n=dW ws w.pc st.length st [] l/\a.length<=f/\a.length+o.length<=900000/\mZ ws a,
  λ_ μ'=>match μ' p with
   | some (.lst ds)=>ds.length
   | _=>0,⟨st,[],l,_,st.length,rfl,by rw[aS (W9 qp),aE],aE,(Sub.new hp).trans (Sub.new hq),rfl,WG _,by simpa using hl2,hs⟩,?_⟩
 rintro ρ μ' ⟨a,o,n,v7,f,rfl,ep,eq,sb,e,hf,hz,ha⟩
 have fin:¬ (0 < a.length/\(o.length:Int) < w.pc)->RT Q (.tup [.tup (ltD o),.tup (ltD a),.str n]) μ':=λhn=>by
  rw[AV hn] at e
  rw[← e] at k
  exact ⟨_,sb,k⟩
 walk_at "go"
 refine bx ep ?_
 walk_at "go"
 rw[Wm]
 refine kif (λh1=>?_) λh1=>?_
 rotate_left
 ·refine bx eq ?_
  walk_at "go"
  refine bx ep ?_
  walk_at "go"
  exact fin λh=>h1 (by have:=h.1;omega)
 walk_at "go"
 refine bx eq ?_
 walk_at "go"
 rw[Wm]
 refine kif (λh2=>?_) λh2=>?_
 rotate_left
 ·refine bx eq ?_
  walk_at "go"
  refine bx ep ?_
  walk_at "go"
  exact fin λh=>h2 h.2
 walk_at "go"
 refine bx ep ?_
 refine EM ep (λd=>match d with
  | .tup (x::_)=>x
  | _=>.non) (by rw[Wm];omega) (λd hd μ2 _ N n=>?_) ?_
 ·obtain ⟨x,hx,rfl⟩:=Wq.mp hd
  walk_at "go"
  exact n
 have em:(ltD a).map (λd=>match d with
  | .tup (x::_)=>x
  | _=>D.non)=(a.map Lt.nm).map .str:=by rw[Wz,Wz];rfl
 rw[em]
 walk_at "go"
 cases a with
 | nil=>simp at h1
 | cons x0 a0=>
 have h0:=ha x0 WL
 obtain ⟨n2,hn2⟩:=AJ (l:=n) h0 (show x0.nm∈(x0::a0).map Lt.nm from WL)
 generalize hA:x0::a0=A at *
 have hos:∀ z∈A.map Lt.nm,WC z=true:=λz hz=>by
  obtain ⟨y,hy,rfl⟩:=Wq.mp hz
  exact hw _ (ha y hy)
 refine ⟨ws,A.map Lt.nm,n2,⟨hd,rfl,hw,hos,hl1,hn2⟩,?_⟩
 walk_at "go"
 have hin:=zF hn2
 have hi:=JB hin.2
 refine bx eq ?_
 walk_at "go"
 refine bx ep ?_
 walk_at "go"
 rw[C3 hos,hw _ hin.1,Q4 hin.2]
 simp only[true_and]
 walk_at "go"
 refine ⟨by omega,⟨by omega,by omega⟩,bx ep ?_⟩
 rw[Wm,Nd hi]
 walk_at "go"
 obtain ⟨x,hx⟩:∃ x,A[at1 n2 A]? = some x:=⟨A[at1 n2 A],WK hi⟩
 rw[Xo,hx]
 walk_at "go"
 refine bx (by rw[aS qp];exact eq) ⟨by simp;omega,?_⟩
 cases f with
 | zero=>omega
 | succ f=>
 rw[FP ⟨by omega,h2⟩ hn2 hx] at e
 have le:(A.eraseIdx (at1 n2 A)).length=A.length - 1:=List.length_eraseIdx_of_lt hi
 refine ⟨⟨A.eraseIdx (at1 n2 A),o++[x],n2,_,f,rfl,?_,?_,?_,e,by omega,by simp;omega,λy hy=>ha y (zaZ hy)⟩,?_⟩
 ·rw[aS (W9 qp),aE,uh]
 ·rw[aE];simp[ltD]
 ·intro z u h
  rw[aS (λe=>by subst e;rw[hqn] at h;cases h),aS (λe=>by subst e;rw[hp] at h;cases h)]
  exact sb z u h
 ·rw[aS (W9 qp),aE,ep]
  simp[List.length_eraseIdx,hi]
  omega
def b7 (w:Wy)(ws:List Str)(st:List Lt)(l:Str):List Lt×List Lt×Str:=if w.tn then dW ws w.pc st.length st [] l else (st.take w.pc.toNat,st.drop w.pc.toNat,OF "")
theorem C1 (b:Bool):WC (uD b)=true:=by cases b<;>decide +kernel
theorem Gn:WC (OF "turns")=true:=by decide +kernel
theorem Q8 (b:Bool):decide (uD b=OF "turns")=b:=by cases b<;>decide +kernel
def i9:FSp:=λds μ Q=>kcA ds λwd ds=>kcA ds λd ds=>kcT ds λst' ds=>kcS ds λl ds=>kcN ds (∃ (w:Wy) (ws:List Str) (st:List Lt),(wd=w.toD/\(w.tn=true->(d=.tup (ws.map .str)∨d=.ls (ws.map .str))/\(∀ x∈ws,WC x=true)/\mZ ws st/\ws.length<=900000)/\st'=ltD st/\st.length<=900000/\0<=w.pc)/\
   Q (.tup [.tup (ltD (b7 w ws st l).1),.tup (ltD (b7 w ws st l).2.1),.str (b7 w ws st l).2.2]) μ)
theorem xy:∀ ds μ Q,i9 ds μ Q->ds.length=4:=λ_ _ _ h=>lcA h λ_ _ h=>lcA h λ_ _ h=>lcT h λ_ _ h=>lcS h λ_ _ h=>by rw[(ecN h).1];rfl
def tN:STr:=aA (bW (TB (ak rEq (ak L3.rIx (ai 0) (TC (.int 4))) (TC (.str "turns")))) (a6 (au eg (ah (ai 0) (ah (ai 1) (ah (ai 2) (ah (ai 3) (av))))))) (bo)) (a6 (bB (ah (au bG (ah (TSl (ai 2) (ONo) (mS (ak L3.rIx (ai 0) (TC (.int 1))))) (av))) (ah (au bG (ah (TSl (ai 2) (mS (ak L3.rIx (ai 0) (TC (.int 1)))) (ONo)) (av))) (ah (TC (.str "")) (av))))))
theorem Bo:∀ ds μ Q,i9 ds μ Q->tN { nx:=λ_ μ'=>RT Q .non μ',rt:=RT Q } (ini 4 ds) μ:=by
 intro ds μ Q h
 replace h:=ecA h
 obtain ⟨wd,ds,rfl,h⟩:=h
 replace h:=ecA h
 obtain ⟨d,ds,rfl,h⟩:=h
 replace h:=ecT h
 obtain ⟨st',ds,rfl,h⟩:=h
 replace h:=ecS h
 obtain ⟨l,ds,rfl,h⟩:=h
 replace h:=ecN h
 obtain ⟨rfl,h⟩:=h
 walk_at "ini"
 unfold tN
 walk_at "go"
 obtain ⟨w,ws,st,⟨rfl,ht,rfl,hl,hp⟩,k⟩:=h
 walk_at "go"
 rw[C1,Gn,Q8]
 unfold b7 at k
 refine ⟨⟨rfl,rfl⟩,?_⟩
 cases e:w.tn with
 | true=>
  rw[e,if_pos rfl] at k
  obtain ⟨h1,h2,h3,h4⟩:=ht e
  walk_at "go"
  exact ⟨w,ws,st,⟨rfl,h1,rfl,h2,h3,h4,hl⟩,_,.refl _,k⟩
 | false=>
  rw[e,if_neg (by decide)] at k
  walk_at "go"
  rw[U4 _ hp,V8 _ hp,Ls,L7]
  exact ⟨_,.refl _,k⟩
def b8:FSp:=λds μ Q=>kcI ds λa ds=>kcI ds λb ds=>kcN ds ((0<=a/\0 < b/\fB b)/\Q (fr (a.fdiv (W6 a b)) (b.fdiv (W6 a b))) μ)
theorem Ar:∀ ds μ Q,b8 ds μ Q->ds.length=2:=λ_ _ _ h=>lcI h λ_ _ h=>lcI h λ_ _ h=>by rw[(ecN h).1];rfl
def yV:STr:=aA (qU 2 3 (ah (ai 0) (ah (ai 1) (av)))) (aA (vk (TB (ak rGt (ai 3) (TC (.int 0)))) (qU 2 3 (ah (ai 3) (ah (ak kG (ai 2) (ai 3)) (av))))) (a6 (bB (ah (ak lB (ai 0) (ai 2)) (ah (ak lB (ai 1) (ai 2)) (av))))))
theorem DU:∀ ds μ Q,b8 ds μ Q->yV { nx:=λ_ μ'=>RT Q .non μ',rt:=RT Q } (ini 4 ds) μ:=by
 intro ds μ Q h
 replace h:=ecI h
 obtain ⟨a,ds,rfl,h⟩:=h
 replace h:=ecI h
 obtain ⟨b,ds,rfl,h⟩:=h
 replace h:=ecN h
 obtain ⟨rfl,h⟩:=h
 walk_at "ini"
 unfold yV
 walk_at "go"
 obtain ⟨⟨a0,b0,b1⟩,k⟩:=h
 refine ⟨λρ μ'=>μ'=μ/\∃ x y:Int,ρ=[some (.int a),some (.int b),some (.int x),some (.int y)]/\0<=x/\0<=y/\W6 x y=W6 a b,mz 3,⟨rfl,a,b,rfl,a0,by omega,rfl⟩,?_⟩
 rintro ρ _ ⟨rfl,x,y,rfl,x0,y0,e⟩
 walk_at "go"
 refine kif (λhy=>?_) λhy=>?_
 ·walk_at "go"
  refine ⟨by omega,⟨_,_,rfl,y0,fm0 hy,?_⟩,?_⟩
  ·rw[xO];exact e
  ·have:=fm1 (a:=x) hy
   have:=fm0 (a:=x) hy
   simp only[mz,lk]
   omega
 ·have hy0:y=0:=by omega
  subst hy0
  rw[zcN] at e
  have hx:x=(W6 a b:Int):=by omega
  subst hx
  have gp:0 < W6 a b:=X0 a (by omega)
  have gl:(W6 a b:Int)<=b:=Int.gcd_le_right a b0
  have dv:jm (W6 a b:Int):=⟨by omega,by unfold fB at *;omega⟩
  walk_at "go"
  exact ⟨dv,dv,_,.refl _,k⟩
def cR:FSp:=λds μ Q=>kcO ds λb ds=>kcI ds λlo ds=>kcI ds λhi ds=>kcN ds ((Pot μ b/\0<=lo/\lo<=hi/\hi<=60)/\∀ p q μ',FrB lo hi p q->q<=7->dI b μ μ'->Q (fr p q) μ')
theorem tH:∀ ds μ Q,cR ds μ Q->ds.length=3:=λ_ _ _ h=>lcO h λ_ _ h=>lcI h λ_ _ h=>lcI h λ_ _ h=>by rw[(ecN h).1];rfl
def nP:STr:=aA (aP (ak L3.rIx (fv (ah (TC (.int 1)) (ah (TC (.int 1)) (ah (TC (.int 2)) (ah (TC (.int 3)) (ah (TC (.int 5)) (ah (TC (.int 7)) (av)))))))) (au aB (ah (ai 0) (ah (TC (.int 6)) (av))))) (ax 3)) (a6 (au b8 (ah (ak aR (ak eC (ai 1) (ai 3)) (au aB (ah (ai 0) (ah (ak aR (ak eC (ak jr (ai 2) (ai 1)) (ai 3)) (TC (.int 1))) (av))))) (ah (ai 3) (av)))))
theorem vo:∀ ds μ Q,cR ds μ Q->nP { nx:=λ_ μ'=>RT Q .non μ',rt:=RT Q } (ini 4 ds) μ:=by
 intro ds μ Q h
 replace h:=ecO h
 obtain ⟨b,ds,rfl,h⟩:=h
 replace h:=ecI h
 obtain ⟨lo,ds,rfl,h⟩:=h
 replace h:=ecI h
 obtain ⟨hi,ds,rfl,h⟩:=h
 replace h:=ecN h
 obtain ⟨rfl,h⟩:=h
 walk_at "ini"
 unfold nP
 walk_at "go"
 obtain ⟨⟨hP,l0,l1,l2⟩,k⟩:=h
 refine aZ hP (by decide) (by decide) λk1 μ1 k10 k11 P1=>?_
 have al:∀ d∈([.int 1,.int 1,.int 2,.int 3,.int 5,.int 7]:List D),IsI 1 7 d:=aG ⟨_,rfl,by decide,by decide⟩ (aG ⟨_,rfl,by decide,by decide⟩ (aG ⟨_,rfl,by decide,by decide⟩ (aG ⟨_,rfl,by decide,by decide⟩ (aG ⟨_,rfl,by decide,by decide⟩ (aG ⟨_,rfl,by decide,by decide⟩ eT)))))
 obtain ⟨_,e1,m,rfl,m0,m1⟩:=fg al k10 k11
 walk_at "go"
 rw[e1]
 walk_at "go"
 have sm:S64 m:=by unfold S64;omega
 have n1:0<=(hi - lo)*m:=YR (by omega) (by omega)
 have n2:(hi - lo)*m<=60*7:=zd1 (by omega) (by omega) (by omega) (by decide)
 refine ⟨.inl (.inr sm),.inl (.inr sm),?_⟩
 refine aZ P1.pot (by omega) (by omega) λk2 μ2 k20 k21 P2=>?_
 walk_at "go"
 have n3:0<=lo*m:=YR l0 (by omega)
 have e2:(hi - lo)*m=hi*m - lo*m:=zaM hi lo m
 refine ⟨⟨by omega,by omega,by unfold fB;omega⟩,_,.refl _,k _ _ μ2 (HG (by omega) (by omega) (by omega) (by omega)) ?_ (P1.trans P2)⟩
 obtain ⟨g,p,q,g0,ea,eb,ep,eq,q0,qb,gg⟩:=km (a:=lo*m+k2) (show 0 < m by omega)
 rw[eq];omega
theorem Ep (w:Wd)(i:Decidable (w.str=OF "still")):@decide (w.str=OF "still") i=decide (w=.gn):=by
 have e:(w.str=OF "still")↔w=.gn:=by cases w<;>simp[Wd.str,dQ,di,dX,dU,dR,dP,eV,eL,dj,dY,dN,d7,dZ,eN,d8,eP,dM,eM,dS,eK]
 cases i with
 | isTrue h=>exact (decide_eq_true (e.mp h)).symm
 | isFalse h=>exact (decide_eq_false λz=>h (e.mpr z)).symm
theorem Jp (w:Wd)(i:Decidable (w.str=OF "step")):@decide (w.str=OF "step") i=decide (w=.step):=by
 have e:(w.str=OF "step")↔w=.step:=by cases w<;>simp[Wd.str,dQ,di,dX,dU,dR,dP,eV,eL,dj,dY,dN,d7,dZ,eN,d8,eP,dM,eM,dS,eK]
 cases i with
 | isTrue h=>exact (decide_eq_true (e.mp h)).symm
 | isFalse h=>exact (decide_eq_false λz=>h (e.mpr z)).symm
theorem EK (w:Wd)(i:Decidable (w.str=OF "swell")):@decide (w.str=OF "swell") i=decide (w=.iB):=by
 have e:(w.str=OF "swell")↔w=.iB:=by cases w<;>simp[Wd.str,dQ,di,dX,dU,dR,dP,eV,eL,dj,dY,dN,d7,dZ,eN,d8,eP,dM,eM,dS,eK]
 cases i with
 | isTrue h=>exact (decide_eq_true (e.mp h)).symm
 | isFalse h=>exact (decide_eq_false λz=>h (e.mpr z)).symm
theorem Fv (w:Wd)(i:Decidable (w.str=OF "heed")):@decide (w.str=OF "heed") i=decide (w=.kH):=by
 have e:(w.str=OF "heed")↔w=.kH:=by cases w<;>simp[Wd.str,dQ,di,dX,dU,dR,dP,eV,eL,dj,dY,dN,d7,dZ,eN,d8,eP,dM,eM,dS,eK]
 cases i with
 | isTrue h=>exact (decide_eq_true (e.mp h)).symm
 | isFalse h=>exact (decide_eq_false λz=>h (e.mpr z)).symm
theorem Rt (w:Wd):WC w.str=true:=by cases w<;>simp[Wd.str,nh,qi,m9,sH,qm]
theorem N5 {lo hi hi' p q:Int}(h:FrB lo hi p q)(hh:hi<=hi'):FrB lo hi' p q:=⟨h.q0,h.q1,h.g,h.ge,by have:=h.le;have:=WO hh (zbx h.q0);omega⟩
def jC:FSp:=λds μ Q=>kcO ds λb ds=>kcI ds λm ds=>kcN ds ((Pot μ b/\1<=m/\m<=60)/\∀ (R:RN) μ',R.Ok->R.r<=m*R.s->dI b μ μ'->Q R.toD μ')
theorem D6:∀ ds μ Q,jC ds μ Q->ds.length=2:=λ_ _ _ h=>lcO h λ_ _ h=>lcI h λ_ _ h=>by rw[(ecN h).1];rfl
def lL:STr:=aA (aP (ak aR (TC (.int 1)) (au aB (ah (ai 0) (ah (TC (.int 5)) (av))))) (ax 5)) (aA (aP (au b8 (ah (ak aR (TC (.int 1)) (au aB (ah (ai 0) (ah (ak eC (TC (.int 2)) (ai 5)) (av))))) (ah (ai 5) (av)))) (ax 6)) (aA (aP (au b8 (ah (ak aR (TC (.int 1)) (au aB (ah (ai 0) (ah (ai 5) (av))))) (ah (ak aR (ai 5) (TC (.int 1))) (av)))) (ax 7)) (aA (bW (TB (ak rEq (ai 2) (TC (.str "still")))) (a6 (bB (ah (ai 2) (ah (ai 3) (av))))) (bo)) (aA (bW (TB (ak rEq (ai 2) (TC (.str "step")))) (a6 (bB (ah (ai 2) (ah (ai 3) (ah (ai 6) (ah (ai 7) (ah (ai 4) (av)))))))) (bo)) (aA (bW (TB (ak rEq (ai 2) (TC (.str "swell")))) (a6 (bB (ah (ai 2) (ah (ai 3) (ah (au b8 (ah (ak aR (ak L3.rIx (ai 6) (TC (.int 0))) (ak L3.rIx (ai 6) (TC (.int 1)))) (ah (ak L3.rIx (ai 6) (TC (.int 1))) (av)))) (ah (ai 7) (ah (ai 4) (av)))))))) (bo)) (aA (bW (TB (ak rEq (ai 2) (TC (.str "heed")))) (a6 (bB (ah (ai 2) (ah (ai 3) (ah (ai 6) (ah (au b8 (ah (ak aR (TC (.int 1)) (au aB (ah (ai 0) (ah (ai 5) (av))))) (ah (ai 5) (av)))) (ah (ai 4) (av)))))))) (bo)) (aA (aP (au aB (ah (ai 0) (ah (TC (.int 4)) (av)))) (ax 8)) (a6 (bB (ah (ai 2) (ah (ai 3) (ah (ai 6) (ah (ai 8) (ah (ak aR (ai 8) (au aB (ah (ai 0) (ah (TC (.int 5)) (av))))) (ah (ai 4) (av))))))))))))))))
def Cu:STr:=aA (aP (ak L3.rIx (fv (ah (TC (.str "still")) (ah (TC (.str "step")) (ah (TC (.str "swell")) (ah (TC (.str "heed")) (ah (TC (.str "calm")) (av))))))) (au aB (ah (ai 0) (ah (TC (.int 5)) (av))))) (ax 2)) (aA (qU 3 4 (ah (au cR (ah (ai 0) (ah (TC (.int 1)) (ah (ai 1) (av))))) (ah (au cR (ah (ai 0) (ah (TC (.int 1)) (ah (ai 1) (av))))) (av)))) (aA (bW (TB (ak rGt (ak eC (ak L3.rIx (ai 3) (TC (.int 0))) (ak L3.rIx (ai 4) (TC (.int 1)))) (ak eC (ak L3.rIx (ai 4) (TC (.int 0))) (ak L3.rIx (ai 3) (TC (.int 1)))))) (qU 3 4 (ah (ai 4) (ah (ai 3) (av)))) (bo)) (lL)))
theorem Ir:∀ ds μ Q,jC ds μ Q->Cu { nx:=λ_ μ'=>RT Q .non μ',rt:=RT Q } (ini 9 ds) μ:=by
 intro ds μ Q h
 replace h:=ecO h
 obtain ⟨b,ds,rfl,h⟩:=h
 replace h:=ecI h
 obtain ⟨m,ds,rfl,h⟩:=h
 replace h:=ecN h
 obtain ⟨rfl,h⟩:=h
 walk_at "ini"
 unfold Cu
 walk_at "go"
 obtain ⟨⟨hP,m0,m1⟩,k⟩:=h
 refine aZ hP (by decide) (by decide) λk1 μ1 k10 k11 P1=>?_
 have al:∀ d∈([.str "still", .str "step", .str "swell", .str "heed", .str "calm"]:List D),∃ w:Wd,d=.str w.str:=aG ⟨.gn,rfl⟩ (aG ⟨.step,rfl⟩ (aG ⟨.iB,rfl⟩ (aG ⟨.kH,rfl⟩ (aG ⟨.calm,rfl⟩ eT))))
 obtain ⟨_,e1,wd,rfl⟩:=fg al k10 k11
 walk_at "go"
 rw[e1]
 walk_at "go"
 refine ⟨⟨P1.pot,by decide,by omega,by omega⟩,λp q μ2 F1 q7 P2=>?_⟩
 walk_at "go"
 refine ⟨⟨P2.pot,by decide,by omega,by omega⟩,λr s μ3 F2 s7 P3=>?_⟩
 have sq:S64 q:=by have:=F1.q0;unfold S64;omega
 have ss:S64 s:=by have:=F2.q0;unfold S64;omega
 simp only[fr]
 walk_at "go"
 refine ⟨.inl (.inr ss),.inl (.inr sq),?_⟩
 have big:∀ (p q r s:Int) (μ3:Mu) (v5 v6 v7 v8:Option D),dI b μ μ3->FrB 1 m p q->FrB 1 m r s->p*s<=r*q->
   lL { nx:=λ_ μ'=>RT Q .non μ',rt:=RT Q } [some (.obj b),some (.int m),some (.str wd.str),some (.tup [.int p,.int q]),some (.tup [.int r,.int s]),v5,v6,v7,v8] μ3:=by
  intro p q r s μ3 v5 v6 v7 v8 P3 F1 F2 wt
  have F1':FrB 1 60 p q:=N5 F1 m1
  have F2':FrB 1 60 r s:=N5 F2 m1
  have rs:r<=m*s:=F2.le
  have ps:p<=m*q:=F1.le
  unfold lL
  walk_at "go"
  refine aZ P3.pot (by decide) (by decide) λn μ4 n0 n1 P4=>?_
  walk_at "go"
  refine ⟨.inl (.inl (by unfold S64;decide)),?_⟩
  refine aZ P4.pot (by omega) (by omega) λu μ5 u0 u1 P5=>?_
  walk_at "go"
  refine ⟨⟨by omega,by omega,by unfold fB;omega⟩,?_⟩
  have U:=FH (lo:=0) (hi:=2) (a:=1+u) (b:=1+n) (by omega) (by omega) (by omega) (by omega)
  generalize (1+u).fdiv (W6 (1+u) (1+n))=x at *
  generalize (1+n).fdiv (W6 (1+u) (1+n))=y at *
  have y0:=U.q0
  have yb:=U.q1
  have xb:=U.le
  have x0:0 < x:=by have:=U.ab;omega
  have U60:FrA 0 60 x y:=⟨⟨U.q0,U.q1,U.g,U.ge,by omega⟩,U.ab⟩
  walk_at "go"
  refine aZ P5.pot (by omega) (by omega) λw μ6 w0 w1 P6=>?_
  walk_at "go"
  refine ⟨⟨by omega,by omega,by unfold fB;omega⟩,?_⟩
  have G:=R8 (hi:=1) (a:=1+w) (b:=1+n+1) (by omega) (by omega) (by omega) (by omega)
  generalize (1+w).fdiv (W6 (1+w) (1+n+1))=a at *
  generalize (1+n+1).fdiv (W6 (1+w) (1+n+1))=c at *
  have G1:=Uk G
  have G2:a < c:=by have:=G.be;omega
  have P36:=P3.trans (P4.trans (P5.trans P6))
  walk_at "go"
  simp only[Ep,Jp,EK,Fv,Rt]
  walk_at "go"
  cases wd with
  | gn=>
   simp only[reduceCtorEq,decide_true,decide_false]
   walk_at "go"
   have R:RN.Ok ⟨.gn,p,q,1,1,1,1,0,0,p,q⟩:=⟨F1',F1',Xf _,Hi (by decide) (by decide),nofun,Hi (by decide) (by decide),(λz=>by rcases z with z | z<;>cases z),Xf 0,Xf 0,(show (0:Int)<=60 by decide),λ_=>⟨rfl,rfl⟩⟩
   exact ⟨_,.refl _,k _ μ6 R ps P36⟩
  | step=>
   simp only[reduceCtorEq,decide_true,decide_false]
   walk_at "go"
   have R:RN.Ok ⟨.step,p,q,x,y,a,c,0,0,r,s⟩:=⟨F1',F2',wt,U60,nofun,G1,λ_=>G2,Xf 0,Xf 0,(show (0:Int)<=60 by decide),nofun⟩
   exact ⟨_,.refl _,k _ μ6 R rs P36⟩
  | iB=>
   simp only[reduceCtorEq,decide_true,decide_false,fr]
   walk_at "go"
   refine ⟨⟨by omega,y0,by unfold fB;omega⟩,?_⟩
   have V:=FH (lo:=1) (hi:=60) (a:=x+y) (b:=y) y0 yb (by omega) (by omega)
   generalize (x+y).fdiv (W6 (x+y) y)=x2 at *
   generalize y.fdiv (W6 (x+y) y)=y2 at *
   have v1:=V.ab
   have vq:=V.q0
   have V2:FrA 0 60 x2 y2:=⟨⟨V.q0,V.q1,V.g,by omega,V.le⟩,by omega⟩
   have R:RN.Ok ⟨.iB,p,q,x2,y2,a,c,0,0,r,s⟩:=⟨F1',F2',wt,V2,λ_=>(by show y2 < x2;omega),G1,λ_=>G2,Xf 0,Xf 0,(show (0:Int)<=60 by decide),nofun⟩
   walk_at "go"
   exact ⟨_,.refl _,k _ μ6 R rs P36⟩
  | kH=>
   simp only[reduceCtorEq,decide_true,decide_false]
   walk_at "go"
   refine aZ P6.pot (by omega) (by omega) λz μ7 z0 z1 P7=>?_
   walk_at "go"
   refine ⟨⟨by omega,by omega,by unfold fB;omega⟩,?_⟩
   have V:=FH (lo:=0) (hi:=1) (a:=1+z) (b:=1+n) (by omega) (by omega) (by omega) (by omega)
   generalize (1+z).fdiv (W6 (1+z) (1+n))=a2 at *
   generalize (1+n).fdiv (W6 (1+z) (1+n))=c2 at *
   have R:RN.Ok ⟨.kH,p,q,x,y,a2,c2,0,0,r,s⟩:=⟨F1',F2',wt,U60,nofun,V,(λz=>by rcases z with z | z<;>cases z),Xf 0,Xf 0,(show (0:Int)<=60 by decide),nofun⟩
   walk_at "go"
   exact ⟨_,.refl _,k _ μ7 R rs (P36.trans P7)⟩
  | calm=>
   simp only[reduceCtorEq,decide_true,decide_false]
   walk_at "go"
   refine aZ P6.pot (by decide) (by decide) λz μ7 z0 z1 P7=>?_
   walk_at "go"
   refine aZ P7.pot (by decide) (by decide) λz2 μ8 z20 z21 P8=>?_
   walk_at "go"
   have R:RN.Ok ⟨.calm,p,q,x,y,1,1,z,z+z2,r,s⟩:=⟨F1',F2',wt,U60,nofun,Hi (by decide) (by decide),(λz=>by rcases z with z | z<;>cases z),z0,(by show z<=z+z2;omega),(by show z+z2<=60;omega),nofun⟩
   exact ⟨_,.refl _,k _ μ8 R rs (P36.trans (P7.trans P8))⟩
 have P13:=P1.trans (P2.trans P3)
 refine kif (λh1=>?_) λh1=>?_
 ·walk_at "go"
  exact big r s p q μ3 _ _ _ _ P13 F2 F1 (by omega)
 ·exact big p q r s μ3 _ _ _ _ P13 F1 F2 (by omega)
abbrev wyD (ws:List Wy):List D:=ws.map Wy.toD
structure Sn where
 nm:Str
 rd:List Str
 bt:Int
 bg:Int
 mn:Option Int
 rl:RN
def Sn.toD (x:Sn):D:=.tup [.str x.nm,.tup (x.rd.map .str),.int x.bt,.int x.bg,dF x.mn,x.rl.toD]
abbrev snD (ss:List Sn):List D:=ss.map Sn.toD
structure Sn.Ok (wn:List Str) (m:Int) (x:Sn):Prop where
 n:WC x.nm=true
 r0:x.rd≠[]
 r:x.rd.Sublist wn
 b0:1<=x.bt
 b1:x.bt<=8
 g0:0<=x.bg
 g1:x.bg<=1000000
 mm:∀ i,x.mn=some i->0<=i/\i<=1000000
 k:x.rl.Ok
 l:x.rl.r<=m*x.rl.s
structure Pn where
 g:Int
 ws:List Wy
 ss:List Sn
def Pn.toD (p:Pn):D:=.tup [.int p.g,.tup (wyD p.ws),.tup (snD p.ss)]
abbrev Pn.wn (p:Pn):List Str:=p.ws.map Wy.nm
abbrev Pn.sn (p:Pn):List Str:=p.ss.map Sn.nm
structure Pn.Ok (m:Int) (p:Pn):Prop where
 g:Gd p.g
 w0:0 < p.ws.length
 w1:p.ws.length<=6
 wd:p.wn.Nodup
 w:∀ x∈p.ws,x.Ok
 s1:p.ss.length<=8
 sd:p.sn.Pairwise λa b=>ltS a b=true
 s:∀ x∈p.ss,x.Ok p.wn m
theorem NK {a b:Str}(h:a.cps.toList=b.cps.toList):a=b:=by
 cases a with | mk x=>cases b with | mk y=>
 congr 1
 exact Array.toList_inj.mp h
theorem QI {a b:Str}(h1:ltS b a=false)(h2:a≠b):ltS a b=true:=by
 unfold ltS at *
 rw[decide_eq_false_iff_not,zdy] at h1
 rw[decide_eq_true_eq]
 refine Decidable.byContradiction λh3=>h2 (NK (List.le_antisymm h1 ?_))
 exact zdy.mp h3
theorem pw_strict {l:List Str}(h:l.Pairwise λa b=>ltS b a=false)(hn:l.Nodup):l.Pairwise λa b=>ltS a b=true:=by
 induction h with
 | nil=>exact .nil
 | @cons a l h1 h2 ih=>
  rw[Xk] at hn
  exact .cons (λb hb=>QI (h1 b hb) λe=>hn.1 (e ▸ hb)) (ih hn.2)
def mq:FSp:=λds μ Q=>kcO ds λb ds=>kcL ds λns' ds=>kcN ds (∃ ns:List Str,(Pot μ b/\ns'=ns.map .str/\(∀ n∈ns,n∈cY)/\ns.length<=17)/\∀ (ws:List Wy) μ',ws.map Wy.nm=ns->(∀ w∈ws,w.Ok)->dI b μ μ'->Q (.tup (wyD ws)) μ')
theorem D2:∀ ds μ Q,mq ds μ Q->ds.length=2:=λ_ _ _ h=>lcO h λ_ _ h=>lcL h λ_ _ h=>by rw[(ecN h).1];rfl
def DL:STr:=aA (aP (nD (av)) (ax 2)) (aA (iJ (dq (ai 1)) (ax 3) (aA (aP (ak L3.rIx (fv (ah (TC (.int 1)) (ah (TC (.int 1)) (ah (TC (.int 2)) (ah (TC (.int 3)) (ah (ak aR (TC (.int 1)) (au aB (ah (ai 0) (ah (TC (.int 20)) (av))))) (av))))))) (au aB (ah (ai 0) (ah (TC (.int 5)) (av))))) (ax 4)) (aA (aP (ak L3.rIx (fv (ah (ak aR (TC (.int 1)) (au aB (ah (ai 0) (ah (TC (.int 3)) (av))))) (ah (ak aR (TC (.int 2)) (au aB (ah (ai 0) (ah (TC (.int 8)) (av))))) (ah (ak aR (TC (.int 5)) (au aB (ah (ai 0) (ah (TC (.int 56)) (av))))) (av))))) (au aB (ah (ai 0) (ah (TC (.int 3)) (av))))) (ax 5)) (aA (aP (ak L3.rIx (fv (ah (TC .non) (ah (au aB (ah (ai 0) (ah (ak aR (ai 5) (TC (.int 1))) (av)))) (ah (au aB (ah (ai 0) (ah (TC (.int 61)) (av)))) (av))))) (au aB (ah (ai 0) (ah (TC (.int 3)) (av))))) (ax 6)) (fE (o7 (ai 2) (bB (ah (ai 3) (ah (ai 4) (ah (ai 5) (ah (ai 6) (ah (ak L3.rIx (fv (ah (TC (.str "line")) (ah (TC (.str "turns")) (av)))) (au aB (ah (ai 0) (ah (TC (.int 2)) (av))))) (av))))))))))))) (a6 (au bG (ah (ai 2) (av)))))
theorem Iy:∀ ds μ Q,mq ds μ Q->DL { nx:=λ_ μ'=>RT Q .non μ',rt:=RT Q } (ini 7 ds) μ:=by
 intro ds μ Q h
 replace h:=ecO h
 obtain ⟨b,ds,rfl,h⟩:=h
 replace h:=ecL h
 obtain ⟨ns',ds,rfl,h⟩:=h
 replace h:=ecN h
 obtain ⟨rfl,h⟩:=h
 walk_at "ini"
 unfold DL
 walk_at "go"
 obtain ⟨ns,⟨hP,rfl,hn,hl⟩,k⟩:=h
 intro p hp
 have pb:=hP.ne hp
 walk_at "go"
 refine bT (λr ρ μ'=>∃ (ws:List Wy) (rs:List Str) (v3 v4 v5 v6:Option D),r=rs.map .str/\ρ=[some (.obj b),some (.ls (ns.map .str)),some (.obj p),v3,v4,v5,v6]/\μ' p=some (.lst (wyD ws))/\Pot μ' b/\Kp b μ μ'/\(∀ w∈ws,w.Ok)/\ws.map Wy.nm++rs=ns) ?_ ?_ _ _ _ ⟨[],ns,_,_,_,_,rfl,rfl,aE,hP.up pb,Kp.new hp,(λ_ h=>nomatch h),rfl⟩
 ·rintro ρ μ' ⟨ws,rs,v3,v4,v5,v6,er,rfl,ep,P',kp,hw,e⟩
  have:rs=[]:=by cases rs with | nil=>rfl | cons=>cases er
  subst this
  rw[W8] at e
  walk_at "go"
  exact bx ep (Kv P' kp λμ2 P2=>k ws μ2 e hw P2)
 ·rintro d r ρ μ' N ⟨ws,rs,v3,v4,v5,v6,er,rfl,ep,P',kp,hw,e⟩ hN
  cases rs with
  | nil=>cases er
  | cons n rs=>
  cases er
  have hnn:n∈cY:=hn n (by rw[← e];simp)
  have hlen:ws.length<=17:=by have:=congrArg Xr e;simp at this;omega
  walk_at "go"
  refine aZ P' (by decide) (by decide) λk1 μ1 k10 k11 P1=>?_
  walk_at "go"
  refine aZ P1.pot (by decide) (by decide) λk2 μ2 k20 k21 P2=>?_
  have al:∀ d∈([.int 1,.int 1,.int 2,.int 3,.int (1+k1)]:List D),IsI 1 20 d:=aG ⟨_,rfl,by decide,by decide⟩ (aG ⟨_,rfl,by decide,by decide⟩ (aG ⟨_,rfl,by decide,by decide⟩ (aG ⟨_,rfl,by decide,by decide⟩ (aG ⟨_,rfl,by omega,by omega⟩ eT))))
  obtain ⟨_,e1,pc,rfl,pc0,pc1⟩:=fg al k20 k21
  walk_at "go"
  rw[e1]
  walk_at "go"
  refine aZ P2.pot (by decide) (by decide) λk3 μ3 k30 k31 P3=>?_
  walk_at "go"
  refine aZ P3.pot (by decide) (by decide) λk4 μ4 k40 k41 P4=>?_
  walk_at "go"
  refine aZ P4.pot (by decide) (by decide) λk5 μ5 k50 k51 P5=>?_
  walk_at "go"
  refine aZ P5.pot (by decide) (by decide) λk6 μ6 k60 k61 P6=>?_
  have al2:∀ d∈([.int (1+k3),.int (2+k4),.int (5+k5)]:List D),IsI 1 60 d:=aG ⟨_,rfl,by omega,by omega⟩ (aG ⟨_,rfl,by omega,by omega⟩ (aG ⟨_,rfl,by omega,by omega⟩ eT))
  obtain ⟨_,e2,rm,rfl,rm0,rm1⟩:=fg al2 k60 k61
  walk_at "go"
  rw[e2]
  walk_at "go"
  refine aZ P6.pot (by omega) (by omega) λk7 μ7 k70 k71 P7=>?_
  walk_at "go"
  refine aZ P7.pot (by decide) (by decide) λk8 μ8 k80 k81 P8=>?_
  walk_at "go"
  refine aZ P8.pot (by decide) (by decide) λk9 μ9 k90 k91 P9=>?_
  have al3:∀ d∈([.non,.int k7,.int k8]:List D),∃ o:Option Int,d=dF o/\∀ i,o=some i->0<=i/\i<=60:=aG ⟨none,rfl,nofun⟩ (aG ⟨some _,rfl,λi e=>by cases e;omega⟩ (aG ⟨some _,rfl,λi e=>by cases e;omega⟩ eT))
  obtain ⟨_,e3,o,rfl,ho⟩:=fg al3 k90 k91
  walk_at "go"
  rw[e3]
  walk_at "go"
  have P19:=P1.trans (P2.trans (P3.trans (P4.trans (P5.trans (P6.trans (P7.trans (P8.trans P9)))))))
  have ep9:μ9 p=some (.lst (wyD ws)):=by rw[P19.oth p pb];exact ep
  refine bx ep9 ?_
  refine aZ P9.pot (by decide) (by decide) λk11 μ10 k110 k111 P10=>?_
  have al4:∀ d∈([.str "line", .str "turns"]:List D),∃ t:Bool,d=.str (uD t):=aG ⟨false,rfl⟩ (aG ⟨true,rfl⟩ eT)
  obtain ⟨_,e4,tn,rfl⟩:=fg al4 k110 k111
  walk_at "go"
  rw[e4]
  walk_at "go"
  have ep10:μ10 p=some (.lst (wyD ws)):=by rw[P10.oth p pb];exact ep9
  refine bx ep10 ⟨by simp;omega,hN _ _ ⟨ws++[⟨n,pc,rm,o,tn⟩],rs,_,_,_,_,rfl,rfl,?_,P10.pot.up pb,((kp.trans P19.kp).trans P10.kp).put hp,?_,?_⟩⟩
  ·rw[aE];simp[wyD,Wy.toD]
  ·intro x hx
   rcases W2.mp hx with z | z
   ·exact hw x z
   ·have:x=⟨n,pc,rm,o,tn⟩:=by simpa using z
    subst this
    exact ⟨FU _ hnn,pc0,pc1,rm0,rm1,ho⟩
  ·rw[← e];simp
theorem sub_snoc {α:Type}{a b:List α}(h:a.Sublist b)(x:α):(a++[x]).Sublist (b++[x]):=h.append (zc8 _)
def iT:FSp:=λds μ Q=>kcO ds λb ds=>kcS ds λn ds=>kcT ds λws' ds=>kcI ds λm ds=>kcN ds (∃ ws:List Wy,(Pot μ b/\n∈cY/\ws'=wyD ws/\(0 < ws.length/\ws.length<=17)/\1<=m/\m<=60)/\∀ (x:Sn) μ',x.Ok (ws.map Wy.nm) m->x.nm=n->dI b μ μ'->Q x.toD μ')
theorem yk:∀ ds μ Q,iT ds μ Q->ds.length=4:=λ_ _ _ h=>lcO h λ_ _ h=>lcS h λ_ _ h=>lcT h λ_ _ h=>lcI h λ_ _ h=>by rw[(ecN h).1];rfl
def jd:STr:=aA (aP (ak L3.rIx (fv (ah (TC (.int 1)) (ah (TC (.int 1)) (ah (TC (.int 2)) (ah (TC (.int 3)) (ah (ak aR (TC (.int 1)) (au aB (ah (ai 0) (ah (TC (.int 8)) (av))))) (av))))))) (au aB (ah (ai 0) (ah (TC (.int 5)) (av))))) (ax 5)) (aA (aP (ak L3.rIx (fv (ah (TC .non) (ah (TC .non) (ah (au aB (ah (ai 0) (ah (TC (.int 4)) (av)))) (ah (au aB (ah (ai 0) (ah (TC (.int 40)) (av)))) (av)))))) (au aB (ah (ai 0) (ah (TC (.int 4)) (av))))) (ax 6)) (a6 (bB (ah (ai 1) (ah (ai 4) (ah (ai 5) (ah (ak L3.rIx (fv (ah (TC (.int 0)) (ah (TC (.int 0)) (ah (au aB (ah (ai 0) (ah (TC (.int 3)) (av)))) (ah (au aB (ah (ai 0) (ah (TC (.int 12)) (av)))) (av)))))) (au aB (ah (ai 0) (ah (TC (.int 4)) (av))))) (ah (ai 6) (ah (au jC (ah (ai 0) (ah (ai 3) (av)))) (av))))))))))
def ub:STr:=aA (aP (au bG (ah (bO (dq (ai 2)) (ax 0) (TB (ak rEq (au aB (ah (ai 1) (ah (TC (.int 2)) (av)))) (TC (.int 0)))) (ak L3.rIx (ai 0) (TC (.int 0))) 1 [0]) (av))) (ax 4)) (aA (bW (TB (ak rEq (au dg (ah (ai 4) (av))) (TC (.int 0)))) (aP (bB (ah (ak L3.rIx (ak L3.rIx (ai 2) (au aB (ah (ai 0) (ah (au dg (ah (ai 2) (av))) (av))))) (TC (.int 0))) (av))) (ax 4)) (bo)) (jd))
theorem zM:∀ ds μ Q,iT ds μ Q->ub { nx:=λ_ μ'=>RT Q .non μ',rt:=RT Q } (ini 7 ds) μ:=by
 intro ds μ Q h
 replace h:=ecO h
 obtain ⟨b,ds,rfl,h⟩:=h
 replace h:=ecS h
 obtain ⟨n,ds,rfl,h⟩:=h
 replace h:=ecT h
 obtain ⟨ws',ds,rfl,h⟩:=h
 replace h:=ecI h
 obtain ⟨m,ds,rfl,h⟩:=h
 replace h:=ecN h
 obtain ⟨rfl,h⟩:=h
 walk_at "ini"
 unfold ub
 walk_at "go"
 obtain ⟨ws,⟨hP,hn,rfl,⟨w0,w1⟩,m0,m1⟩,k⟩:=h
 have rest:∀ (rd:List Str) (μ1:Mu) (v5 v6:Option D),dI b μ μ1->rd≠[]->rd.Sublist (ws.map Wy.nm)->jd { nx:=λ_ μ'=>RT Q .non μ',rt:=RT Q } [some (.obj b),some (.str n),some (.tup (wyD ws)),some (.int m),some (.tup (rd.map .str)),v5,v6] μ1:=by
  intro rd μ0 v5 v6 P0 rd0 rds
  unfold jd
  walk_at "go"
  refine aZ P0.pot (by decide) (by decide) λk1 μ1 k10 k11 P1=>?_
  walk_at "go"
  refine aZ P1.pot (by decide) (by decide) λk2 μ2 k20 k21 P2=>?_
  have al:∀ d∈([.int 1,.int 1,.int 2,.int 3,.int (1+k1)]:List D),IsI 1 8 d:=aG ⟨_,rfl,by decide,by decide⟩ (aG ⟨_,rfl,by decide,by decide⟩ (aG ⟨_,rfl,by decide,by decide⟩ (aG ⟨_,rfl,by decide,by decide⟩ (aG ⟨_,rfl,by omega,by omega⟩ eT))))
  obtain ⟨_,e1,bt,rfl,bt0,bt1⟩:=fg al k20 k21
  walk_at "go"
  rw[e1]
  walk_at "go"
  refine aZ P2.pot (by decide) (by decide) λk3 μ3 k30 k31 P3=>?_
  walk_at "go"
  refine aZ P3.pot (by decide) (by decide) λk4 μ4 k40 k41 P4=>?_
  walk_at "go"
  refine aZ P4.pot (by decide) (by decide) λk5 μ5 k50 k51 P5=>?_
  have al3:∀ d∈([.non,.non,.int k3,.int k4]:List D),∃ o:Option Int,d=dF o/\∀ i,o=some i->0<=i/\i<=1000000:=aG ⟨none,rfl,nofun⟩ (aG ⟨none,rfl,nofun⟩ (aG ⟨some _,rfl,λi e=>by cases e;omega⟩ (aG ⟨some _,rfl,λi e=>by cases e;omega⟩ eT)))
  obtain ⟨_,e3,o,rfl,ho⟩:=fg al3 k50 k51
  walk_at "go"
  rw[e3]
  walk_at "go"
  refine aZ P5.pot (by decide) (by decide) λk6 μ6 k60 k61 P6=>?_
  walk_at "go"
  refine aZ P6.pot (by decide) (by decide) λk7 μ7 k70 k71 P7=>?_
  walk_at "go"
  refine aZ P7.pot (by decide) (by decide) λk8 μ8 k80 k81 P8=>?_
  have al4:∀ d∈([.int 0,.int 0,.int k6,.int k7]:List D),IsI 0 1000000 d:=aG ⟨_,rfl,by decide,by decide⟩ (aG ⟨_,rfl,by decide,by decide⟩ (aG ⟨_,rfl,by omega,by omega⟩ (aG ⟨_,rfl,by omega,by omega⟩ eT)))
  obtain ⟨_,e4,bg,rfl,bg0,bg1⟩:=fg al4 k80 k81
  walk_at "go"
  rw[e4]
  walk_at "go"
  refine ⟨⟨P8.pot,m0,m1⟩,λR μ9 K L P9=>?_⟩
  walk_at "go"
  exact ⟨_,.refl _,k ⟨n,rd,bt,bg,o,R⟩ μ9 ⟨FU _ hn,rd0,rds,bt0,bt1,bg0,bg1,ho,K,L⟩ rfl (P0.trans (P1.trans (P2.trans (P3.trans (P4.trans (P5.trans (P6.trans (P7.trans (P8.trans P9)))))))))⟩
 refine zD hP (λr zs=>∃ (rd:List Str) (a c:List Wy),zs=rd.map .str/\r=wyD c/\a++c=ws/\rd.Sublist (a.map Wy.nm)) ⟨[],[],ws,rfl,rfl,rfl,zc8 _⟩ (by simp;omega) ?_ ?_
 ·rintro d r zs μ' P' _ ⟨rd,a,c,rfl,er,ea,hs⟩ N hN
  cases c with
  | nil=>cases er
  | cons x c=>
  cases er
  walk_at "go"
  refine aZ P' (by decide) (by decide) λk1 μ2 k10 k11 P2=>?_
  walk_at "go"
  refine kif (λ_=>hN (some (.str x.nm)) μ2 ⟨rd++[x.nm],a++[x],c,by simp,rfl,by simp[ea],?_⟩ P2) λ_=>hN none μ2 ⟨rd,a++[x],c,by simp,rfl,by simp[ea],?_⟩ P2
  ·rw[WQ];exact sub_snoc hs _
  ·rw[WQ];exact hs.trans (zaY _ _)
 ·rintro zs μ1 ⟨rd,a,c,rfl,er,ea,hs⟩ P1
  have:c=[]:=by cases c with | nil=>rfl | cons=>cases er
  subst this
  rw[W8] at ea
  subst ea
  walk_at "go"
  rw[Wm]
  refine kif (λh0=>?_) λh0=>?_
  ·walk_at "go"
   rw[Wm]
   refine aZ P1.pot (by omega) (by omega) λk2 μ2 k20 k21 P2=>?_
   have hc:k2.toNat < a.length:=by omega
   walk_at "go"
   rw[Mf k20,Xo,WK hc]
   walk_at "go"
   simp only[zbH]
   walk_at "go"
   exact rest [a[k2.toNat].nm] μ2 _ _ (P1.trans P2) (by simp) (List.singleton_sublist.mpr (Wq.mpr ⟨_,Yg hc,rfl⟩))
  ·exact rest rd μ1 _ _ P1 (λz=>h0 (by rw[z];rfl)) hs
def mJ:FSp:=λds μ Q=>kcO ds λb ds=>kcN ds (Pot μ b/\∀ (p:Pn) (m:Int) μ',p.Ok m->(1<=m/\m<=60)->dI b μ μ'->Q p.toD μ')
theorem EH:∀ ds μ Q,mJ ds μ Q->ds.length=1:=λ_ _ _ h=>lcO h λ_ _ h=>by rw[(ecN h).1];rfl
def Cy:STr:=aA (aP (ak L3.rIx (fv (ah (TC (.int 1)) (ah (TC (.int 2)) (ah (TC (.int 3)) (ah (ak aR (TC (.int 1)) (au aB (ah (ai 0) (ah (TC (.int 60)) (av))))) (av)))))) (au aB (ah (ai 0) (ah (TC (.int 4)) (av))))) (ax 1)) (aA (aP (au mq (ah (ai 0) (ah (au ir (ah (ai 0) (ah (ak L3.rIx (fv (ah (TC (.int 1)) (ah (TC (.int 1)) (ah (TC (.int 2)) (ah (TC (.int 2)) (ah (TC (.int 3)) (ah (TC (.int 6)) (av)))))))) (au aB (ah (ai 0) (ah (TC (.int 6)) (av))))) (av)))) (av)))) (ax 2)) (aA (aP (ak L3.rIx (fv (ah (TC (.int 2)) (ah (TC (.int 4)) (ah (TC (.int 12)) (ah (TC (.int 12)) (ah (TC (.int 60)) (av))))))) (au aB (ah (ai 0) (ah (TC (.int 5)) (av))))) (ax 3)) (aA (aP (au ir (ah (ai 0) (ah (ak L3.rIx (fv (ah (TC (.int 0)) (ah (TC (.int 1)) (ah (TC (.int 1)) (ah (TC (.int 2)) (ah (TC (.int 2)) (ah (TC (.int 3)) (ah (TC (.int 3)) (ah (TC (.int 8)) (av)))))))))) (au aB (ah (ai 0) (ah (TC (.int 8)) (av))))) (av)))) (ax 4)) (a6 (bB (ah (ai 1) (ah (ai 2) (ah (au bG (ah (bO (dq (au zX (ah (ai 4) (av)))) (ax 0) (eG) (au iT (ah (ai 1) (ah (ai 0) (ah (ai 2) (ah (ai 3) (av)))))) 1 [0,2,3]) (av))) (av)))))))))
theorem Fz:∀ ds μ Q,mJ ds μ Q->Cy { nx:=λ_ μ'=>RT Q .non μ',rt:=RT Q } (ini 5 ds) μ:=by
 intro ds μ Q h
 replace h:=ecO h
 obtain ⟨b,ds,rfl,h⟩:=h
 replace h:=ecN h
 obtain ⟨rfl,h⟩:=h
 walk_at "ini"
 unfold Cy
 walk_at "go"
 obtain ⟨hP,k⟩:=h
 refine aZ hP (by decide) (by decide) λk1 μ1 k10 k11 P1=>?_
 walk_at "go"
 refine aZ P1.pot (by decide) (by decide) λk2 μ2 k20 k21 P2=>?_
 have al:∀ d∈([.int 1,.int 2,.int 3,.int (1+k1)]:List D),IsI 1 60 d:=aG ⟨_,rfl,by decide,by decide⟩ (aG ⟨_,rfl,by decide,by decide⟩ (aG ⟨_,rfl,by decide,by decide⟩ (aG ⟨_,rfl,by omega,by omega⟩ eT)))
 obtain ⟨_,e1,g,rfl,g0,g1⟩:=fg al k20 k21
 walk_at "go"
 rw[e1]
 walk_at "go"
 refine aZ P2.pot (by decide) (by decide) λk3 μ3 k30 k31 P3=>?_
 have al2:∀ d∈([.int 1,.int 1,.int 2,.int 2,.int 3,.int 6]:List D),IsI 1 6 d:=aG ⟨_,rfl,by decide,by decide⟩ (aG ⟨_,rfl,by decide,by decide⟩ (aG ⟨_,rfl,by decide,by decide⟩ (aG ⟨_,rfl,by decide,by decide⟩ (aG ⟨_,rfl,by decide,by decide⟩ (aG ⟨_,rfl,by decide,by decide⟩ eT)))))
 obtain ⟨_,e2,nw,rfl,nw0,nw1⟩:=fg al2 k30 k31
 walk_at "go"
 rw[e2]
 walk_at "go"
 refine ⟨⟨P3.pot,by omega,by omega⟩,λns μ4 ln nd nw' P4=>?_⟩
 walk_at "go"
 refine ⟨ns,⟨P4.pot,rfl,nw',by omega⟩,λws μ5 ew hw P5=>?_⟩
 have lw:(ws.length:Int)=nw:=by have:=congrArg Xr ew;simp at this;omega
 walk_at "go"
 refine aZ P5.pot (by decide) (by decide) λk6 μ6 k60 k61 P6=>?_
 have al3:∀ d∈([.int 2,.int 4,.int 12,.int 12,.int 60]:List D),IsI 1 60 d:=aG ⟨_,rfl,by decide,by decide⟩ (aG ⟨_,rfl,by decide,by decide⟩ (aG ⟨_,rfl,by decide,by decide⟩ (aG ⟨_,rfl,by decide,by decide⟩ (aG ⟨_,rfl,by decide,by decide⟩ eT))))
 obtain ⟨_,e3,m,rfl,m0,m1⟩:=fg al3 k60 k61
 walk_at "go"
 rw[e3]
 walk_at "go"
 refine aZ P6.pot (by decide) (by decide) λk7 μ7 k70 k71 P7=>?_
 have al4:∀ d∈([.int 0,.int 1,.int 1,.int 2,.int 2,.int 3,.int 3,.int 8]:List D),IsI 0 8 d:=aG ⟨_,rfl,by decide,by decide⟩ (aG ⟨_,rfl,by decide,by decide⟩ (aG ⟨_,rfl,by decide,by decide⟩ (aG ⟨_,rfl,by decide,by decide⟩ (aG ⟨_,rfl,by decide,by decide⟩ (aG ⟨_,rfl,by decide,by decide⟩ (aG ⟨_,rfl,by decide,by decide⟩ (aG ⟨_,rfl,by decide,by decide⟩ eT)))))))
 obtain ⟨_,e4,n8,rfl,n80,n81⟩:=fg al4 k70 k71
 walk_at "go"
 rw[e4]
 walk_at "go"
 refine ⟨⟨P7.pot,by omega,by omega⟩,λsn μ8 ls sd sw P8=>?_⟩
 walk_at "go"
 refine ⟨sn,⟨rfl,by omega⟩,λsn' hp hs=>?_⟩
 have ls':sn'.length=sn.length:=hp.length_eq
 have sd':=pw_strict hs (hp.nodup_iff.mpr sd)
 walk_at "go"
 refine zD P8.pot (λr zs=>∃ (xs:List Sn) (rs:List Str),zs=snD xs/\r=rs.map .str/\xs.map Sn.nm++rs=sn'/\∀ x∈xs,x.Ok (ws.map Wy.nm) m) ⟨[],sn',rfl,rfl,rfl,λ_ h=>nomatch h⟩ (by rw[Wm];omega) ?_ ?_
 ·rintro d r zs μ' P' _ ⟨xs,rs,rfl,er,ex,hx⟩ N hN
  cases rs with
  | nil=>cases er
  | cons n rs=>
  cases er
  have hn:n∈cY:=sw n (hp.mem_iff.mp (by rw[← ex];simp))
  walk_at "go"
  refine ⟨ws,⟨P',hn,rfl,⟨by omega,by omega⟩,m0,m1⟩,λx μ2 X en P2=>hN (some x.toD) μ2 ⟨xs++[x],rs,by simp[snD],rfl,by rw[← ex];simp[en],λy hy=>?_⟩ P2⟩
  rcases W2.mp hy with z | z
  ·exact hx y z
  ·have:y=x:=by simpa using z
   subst this;exact X
 ·rintro zs μ9 ⟨xs,rs,rfl,er,ex,hx⟩ P9
  have:rs=[]:=by cases rs with | nil=>rfl | cons=>cases er
  subst this
  rw[W8] at ex
  have lx:xs.length=sn.length:=by have:=congrArg Xr ex;simp at this;omega
  walk_at "go"
  exact ⟨_,.refl _,k ⟨g,ws,xs⟩ m μ9 ⟨⟨g0,g1⟩,(by show 0 < ws.length;omega),(by show ws.length<=6;omega),(by show (ws.map Wy.nm).Nodup;rw[ew];exact nd),hw,(by show xs.length<=8;omega),(by show (xs.map Sn.nm).Pairwise _;rw[ex];exact sd'),hx⟩ ⟨m0,m1⟩ (P1.trans (P2.trans (P3.trans (P4.trans (P5.trans (P6.trans (P7.trans (P8.trans P9))))))))⟩
def ft (a b:Int):D:=fr (a.fdiv (W6 a b)) (b.fdiv (W6 a b))
theorem QT (a:Int){b:Int}(b0:0 < b):Vl (ft a b) a b:=Qe a b0
theorem GD {d:D}{a b:Int}(h:Vl d a b):d=ft a b:=h.uniq (QT a h.b0)
theorem RH {g:Int}(g0:0 < g):ft 0 g=fr 0 1:=by
 unfold ft
 rw[Int.gcd_zero_left,Int.zero_fdiv]
 have:((g.natAbs:Nat):Int)=g:=by omega
 rw[this,jK g0,Int.ediv_self (by omega)]
abbrev dh (ns:List Int):List D:=ns.map .int
structure Ws where
 cm:List Lt
 st:List Lt
 la:Str
def Ws.toD (x:Ws):D:=.tup [.tup (ltD x.cm),.tup (ltD x.st),.str x.la]
abbrev wsD (xs:List Ws):List D:=xs.map Ws.toD
structure Ss where
 nm:Str
 du:Option Int
 W:Int
 S:Int
 nx:Int
 lf:Option Int
 ag:List Int
 lo:List Int
 gd:Int
 mk':Int
 wt:Int
def Ss.toD (g:Int)(x:Ss):D:=.tup [.str x.nm,dF x.du,ft x.W g,ft x.S g,.int x.nx,dF x.lf,.tup (dh x.ag),.tup (dh x.lo),.int x.gd,.int x.mk',.int x.wt]
abbrev ssD (g:Int)(xs:List Ss):List D:=xs.map (Ss.toD g)
structure St' where
 ws:List Ws
 ss:List Ss
def St'.toD (g:Int)(x:St'):D:=.tup [.tup (wsD x.ws),.tup (ssD g x.ss)]
def Sn.beg (g:Int)(x:Sn):Ss:=⟨x.nm,some x.bg,x.rl.p*g / x.rl.q,0,0,x.mn,[],[],0,0,0⟩
def Pn.beg (p:Pn):St':=⟨p.ws.map λ_=>⟨[],[],OF ""⟩,p.ss.map (Sn.beg p.g)⟩
theorem UN (x:Sn)(μ:Mu)(Q:DK):L3.rIx x.toD (.int 0) μ Q=Q (.str x.nm) μ:=propext Wr
theorem UR (x:Sn)(μ:Mu)(Q:DK):L3.rIx x.toD (.int 1) μ Q=Q (.tup (x.rd.map .str)) μ:=propext Wr
theorem Vy (x:Sn)(μ:Mu)(Q:DK):L3.rIx x.toD (.int 2) μ Q=Q (.int x.bt) μ:=propext Wr
theorem V0 (x:Sn)(μ:Mu)(Q:DK):L3.rIx x.toD (.int 3) μ Q=Q (.int x.bg) μ:=propext Wr
theorem V6 (x:Sn)(μ:Mu)(Q:DK):L3.rIx x.toD (.int 4) μ Q=Q (dF x.mn) μ:=propext Wr
theorem UL (x:Sn)(μ:Mu)(Q:DK):L3.rIx x.toD (.int 5) μ Q=Q (x.rl.toD) μ:=propext Wr
theorem Wf (x:Pn)(μ:Mu)(Q:DK):L3.rIx x.toD (.int 0) μ Q=Q (.int x.g) μ:=propext Wr
theorem UU (x:Pn)(μ:Mu)(Q:DK):L3.rIx x.toD (.int 1) μ Q=Q (.tup (wyD x.ws)) μ:=propext Wr
theorem Vs (x:Pn)(μ:Mu)(Q:DK):L3.rIx x.toD (.int 2) μ Q=Q (.tup (snD x.ss)) μ:=propext Wr
theorem VQ (x:Ws)(μ:Mu)(Q:DK):L3.rIx x.toD (.int 0) μ Q=Q (.tup (ltD x.cm)) μ:=propext Wr
theorem UZ (x:Ws)(μ:Mu)(Q:DK):L3.rIx x.toD (.int 1) μ Q=Q (.tup (ltD x.st)) μ:=propext Wr
theorem Wg (x:Ws)(μ:Mu)(Q:DK):L3.rIx x.toD (.int 2) μ Q=Q (.str x.la) μ:=propext Wr
theorem U6 (g:Int)(x:Ss)(μ:Mu)(Q:DK):L3.rIx (x.toD g) (.int 0) μ Q=Q (.str x.nm) μ:=propext Wr
theorem Vv (g:Int)(x:Ss)(μ:Mu)(Q:DK):L3.rIx (x.toD g) (.int 1) μ Q=Q (dF x.du) μ:=propext Wr
theorem Vh (g:Int)(x:Ss)(μ:Mu)(Q:DK):L3.rIx (x.toD g) (.int 2) μ Q=Q (ft x.W g) μ:=propext Wr
theorem Vk (g:Int)(x:Ss)(μ:Mu)(Q:DK):L3.rIx (x.toD g) (.int 3) μ Q=Q (ft x.S g) μ:=propext Wr
theorem Wh (g:Int)(x:Ss)(μ:Mu)(Q:DK):L3.rIx (x.toD g) (.int 4) μ Q=Q (.int x.nx) μ:=propext Wr
theorem VJ (g:Int)(x:Ss)(μ:Mu)(Q:DK):L3.rIx (x.toD g) (.int 5) μ Q=Q (dF x.lf) μ:=propext Wr
theorem U0 (g:Int)(x:Ss)(μ:Mu)(Q:DK):L3.rIx (x.toD g) (.int 6) μ Q=Q (.tup (dh x.ag)) μ:=propext Wr
theorem UY (g:Int)(x:Ss)(μ:Mu)(Q:DK):L3.rIx (x.toD g) (.int 7) μ Q=Q (.tup (dh x.lo)) μ:=propext Wr
theorem VB (g:Int)(x:Ss)(μ:Mu)(Q:DK):L3.rIx (x.toD g) (.int 8) μ Q=Q (.int x.gd) μ:=propext Wr
theorem Vt (g:Int)(x:Ss)(μ:Mu)(Q:DK):L3.rIx (x.toD g) (.int 9) μ Q=Q (.int x.mk') μ:=propext Wr
theorem Ul (g:Int)(x:Ss)(μ:Mu)(Q:DK):L3.rIx (x.toD g) (.int 10) μ Q=Q (.int x.wt) μ:=propext Wr
theorem Vr (g:Int)(x:St')(μ:Mu)(Q:DK):L3.rIx (x.toD g) (.int 0) μ Q=Q (.tup (wsD x.ws)) μ:=propext Wr
theorem U8 (g:Int)(x:St')(μ:Mu)(Q:DK):L3.rIx (x.toD g) (.int 1) μ Q=Q (.tup (ssD g x.ss)) μ:=propext Wr
theorem TH (i0 i1 i2 i3 i4 i5:Nat)(x:Sn)(ρ:ST)(μ:Mu)(k:ST->Mu->Prop):de [i0,i1,i2,i3,i4,i5] x.toD ρ μ k=de [i0,i1,i2,i3,i4,i5] (.tup [.str x.nm,.tup (x.rd.map .str),.int x.bt,.int x.bg,dF x.mn,x.rl.toD]) ρ μ k:=propext Wr
def SM:=Jn @UN <| Jn @UR <| Jn @Vy <| Jn @V0 <| Jn @V6 <| Jn @UL <| Jn @Wf <| Jn @UU <| Jn @Vs <| Jn @VQ <| Jn @UZ <| Jn @Wg <| Jn @U6 <| Jn @Vv <| Jn @Vh <| Jn @Vk <| Jn @Wh <| Jn @VJ <| Jn @U0 <| Jn @UY <| Jn @VB <| Jn @Vt <| Jn @Ul <| Jn @Vr <| Jn @U8 <| Jn @TH <| @Uu
local macro_rules | `(tactic| walk_at "go")=>zzS "↓L3.SM L3.Et ↓L3.xK ↓L3.wI ↓L3.wC ↓L3.xu ↓L3.zp ↓L3.wN ↓L3.kC ↓L3.je L3.cq L3.bY L3.cC L3.cf L3.ck L3.cD L3.cS L3.cV L3.bX L3.cv L3.cu L3.cx L3.cA L3.cT L3.cF L3.c6 L3.cB L3.cX L3.cj L3.c5 L3.jf L3.vv L3.wm L3.fe List.map_cons List.map_nil List.replicate List.cons_append List.nil_append L3.lk L3.DY L3.DZ L3.uY L3.kj L3.fu L3.uC L3.gU L3.m7 L3.nM L3.kx L3.ki L3.ky L3.kq true_and and_true and_self Bool.not_true Bool.not_false decide_true decide_false Bool.or_true Bool.or_false Bool.true_or Bool.false_or Bool.and_false Bool.false_and Bool.and_true Bool.true_and Int.reduceToNat Int.reducePow Int.reduceNeg Int.reduceSub Int.reduceAdd Int.reduceMul Int.reduceEq Int.reduceLT Int.reduceLE Int.reduceBEq L3.iC L3.fV L3.fL L3.fX L3.fS L3.fO L3.fQ L3.fK if_true if_false Bool.false_eq_true reduceCtorEq decide_eq_true_eq"
def gQ:FSp:=λds μ Q=>kcA ds λd ds=>kcI ds λg ds=>kcN ds (∃ R:RN,(d=R.toD/\R.Ok/\Gd g)/\Q (.tup [ft (R.p*g / R.q) g,ft 0 g]) μ)
theorem uT:∀ ds μ Q,gQ ds μ Q->ds.length=2:=λ_ _ _ h=>lcA h λ_ _ h=>lcI h λ_ _ h=>by rw[(ecN h).1];rfl
def sA:STr:=a6 (bB (ah (au fi (ah (ak L3.rIx (ai 0) (TC (.int 1))) (ah (ai 1) (av)))) (ah (TC (.tup [.int 0,.int 1])) (av))))
theorem xU:∀ ds μ Q,gQ ds μ Q->sA { nx:=λ_ μ'=>RT Q .non μ',rt:=RT Q } (ini 2 ds) μ:=by
 intro ds μ Q h
 replace h:=ecA h
 obtain ⟨d,ds,rfl,h⟩:=h
 replace h:=ecI h
 obtain ⟨g,ds,rfl,h⟩:=h
 replace h:=ecN h
 obtain ⟨rfl,h⟩:=h
 walk_at "ini"
 unfold sA
 walk_at "go"
 obtain ⟨R,⟨rfl,K,g0,g1⟩,k⟩:=h
 obtain ⟨xs,e,e0,e1,e3,e4⟩:=R.tup K.st
 have WB:=K.w.bd (by decide) (by decide)
 rw[e]
 walk_at "go"
 rw[xl,e1]
 walk_at "go"
 refine ⟨R.p,R.q,⟨i8 K.w,WB.1.mono (by decide),WB.2.mono (by decide),by omega,by omega⟩,λw V=>?_⟩
 walk_at "go"
 rw[GD V]
 rw[RH (show 0 < g by omega)] at k
 exact ⟨_,.refl _,k⟩
def ei:FSp:=λds μ Q=>kcI ds λg ds=>kcA ds λd ds=>kcN ds (∃ x:Sn,(d=x.toD/\x.rl.Ok/\Gd g)/\Q ((x.beg g).toD g) μ)
theorem mX:∀ ds μ Q,ei ds μ Q->ds.length=2:=λ_ _ _ h=>lcI h λ_ _ h=>lcA h λ_ _ h=>by rw[(ecN h).1];rfl
def j2:STr:=aA (aP (au gQ (ah (ak L3.rIx (ai 1) (TC (.int 5))) (ah (ai 0) (av)))) (ax 2)) (a6 (bB (ah (ak L3.rIx (ai 1) (TC (.int 0))) (ah (ak L3.rIx (ai 1) (TC (.int 3))) (ah (ak L3.rIx (ai 2) (TC (.int 0))) (ah (ak L3.rIx (ai 2) (TC (.int 1))) (ah (TC (.int 0)) (ah (ak L3.rIx (ai 1) (TC (.int 4))) (ah (bB (av)) (ah (bB (av)) (ah (TC (.int 0)) (ah (TC (.int 0)) (ah (TC (.int 0)) (av))))))))))))))
theorem oY:∀ ds μ Q,ei ds μ Q->j2 { nx:=λ_ μ'=>RT Q .non μ',rt:=RT Q } (ini 3 ds) μ:=by
 intro ds μ Q h
 replace h:=ecI h
 obtain ⟨g,ds,rfl,h⟩:=h
 replace h:=ecA h
 obtain ⟨d,ds,rfl,h⟩:=h
 replace h:=ecN h
 obtain ⟨rfl,h⟩:=h
 walk_at "ini"
 unfold j2
 walk_at "go"
 obtain ⟨x,⟨rfl,K,G⟩,k⟩:=h
 walk_at "go"
 refine ⟨x.rl,⟨rfl,K,G⟩,?_⟩
 walk_at "go"
 exact ⟨_,.refl _,k⟩
def me:FSp:=λds μ Q=>kcA ds λd ds=>kcN ds (∃ p:Pn,(d=p.toD/\(∀ x∈p.ss,x.rl.Ok)/\Gd p.g/\p.ws.length<=900000/\p.ss.length<=900000)/\Q (p.beg.toD p.g) μ)
theorem Fd:∀ ds μ Q,me ds μ Q->ds.length=1:=λ_ _ _ h=>lcA h λ_ _ h=>by rw[(ecN h).1];rfl
def CK:STr:=aA (aP (au bG (ah (bO (dq (ak L3.rIx (ai 0) (TC (.int 1)))) (ax 0) (eG) (bB (ah (bB (av)) (ah (bB (av)) (ah (TC (.str "")) (av))))) 1 []) (av))) (ax 1)) (a6 (bB (ah (ai 1) (ah (au bG (ah (bO (dq (ak L3.rIx (ai 0) (TC (.int 2)))) (ax 0) (eG) (au ei (ah (ak L3.rIx (ai 1) (TC (.int 0))) (ah (ai 0) (av)))) 1 [0]) (av))) (av)))))
theorem HL:∀ ds μ Q,me ds μ Q->CK { nx:=λ_ μ'=>RT Q .non μ',rt:=RT Q } (ini 2 ds) μ:=by
 intro ds μ Q h
 replace h:=ecA h
 obtain ⟨d,ds,rfl,h⟩:=h
 replace h:=ecN h
 obtain ⟨rfl,h⟩:=h
 walk_at "ini"
 unfold CK
 walk_at "go"
 obtain ⟨p,⟨rfl,K,G,l1,l2⟩,k⟩:=h
 walk_at "go"
 refine comp_map (λ_=>.tup [.tup [],.tup [],.str ""]) (by rw[Wm];omega) (λd hd μ' _ N n=>?_) ?_
 ·walk_at "go"
  exact n
 ·walk_at "go"
  refine bH p.ss Sn.toD (λx=>(x.beg p.g).toD p.g) rfl (by omega) (λx hx μ' _ N n=>?_) ?_
  ·walk_at "go"
   exact ⟨x,⟨rfl,K x hx,G⟩,n⟩
  ·walk_at "go"
   refine ⟨_,.refl _,?_⟩
   have e1:(wyD p.ws).map (λ_=>D.tup [.tup [],.tup [],.str ""])=wsD p.beg.ws:=by simp[Pn.beg,wsD,wyD,Ws.toD,zaN]
   have e2:p.ss.map (λx=>(x.beg p.g).toD p.g)=ssD p.g p.beg.ss:=by simp[Pn.beg,ssD,zaN]
   rw[e1,e2];exact k
section
open PySem PySem.Spec PyProof.Rows L2
section
variable {prog:W7} {w:Xh} {A:XA} {E:Wo->Wu->Prop} {s:Wu}
abbrev JA (a c:Int)(acc:Array Wo)(n:Nat):Prop:=ItemsOf (λi v=>∃ t,v=.int (a+i*c) t) acc n
abbrev Kept (s:Wu)(g:Heap):Prop:=∀ b o,s.heap.get? b=some o->g.get? b=some o
structure Rg (s:Wu) (r:Addr) (a b c:Int) (n:Nat):Prop where
 at':∃ t u v,IsRange s.heap r a b c t u v
 sm:zer a b c=true
 sz:ZH a b c=n
 le:n<=1048576
theorem run_plain {id:String}{bi:Z9}{args:Args}{R:zdh->Wu->Prop}(hp:plainId id=true)(he:entryFor table id=some bi)
  (h:WT (WW prog w) A.in1 (bi args) (λfin s'=>match fin with | .done f=>R (.ok f) s' | .again c'=>c'.quiet=true/\Y4 (WW prog w) A c' R s') (λe s'=>R (.error e) s') s):Y4 (WW prog w) A (.builtin id args) R s:=
 zbI he (by rw[zad hp];exact h)
theorem lR {R:zdh->Wu->Prop}{r:Addr}{a b c:Int}{n:Nat}(hh:A.handled=none)(G:Rg s r a b c n)
  (hR:∀ (g:Heap) (tk:Nat) (acc:Array Wo) (e:Nat),Kept s g->g.get? s.heap.objs.size=some { cls:=.type "list", dict:=none,data:=.seq acc e,slots:=#[] }->JA a c acc n->R (.ok (.ret (.ref s.heap.objs.size))) { s with heap:=g,toks:=tk }) :
  Y4 (WW prog w) A (.builtin "proto.collect" ⟨[.ref r],[]⟩) R s:=by
 obtain ⟨⟨t,u,v,hr⟩,sm,sz,le⟩:=G
 have l24:n<=2 ^ 24:=by omega
 have ext:=λh0=>wpAny_extend_range (prog:=prog) (w:=w) (A:=A) (R:=R) (s:={ s with heap:=s.heap.push { cls:=.type "list", data:=.seq #[] } }) hh (Wn _ hr) sm sz l24 s.heap.objs.size (.ref s.heap.objs.size) 0 h0 λg tk acc e kp new its=>
  hR g tk acc e (λb o q=>kp b o (W0 (WJ q)) (Wn _ q)) new its
 exact run_plain F.plain_proto_collect F.entry_proto_collect (Wl (Xz (WD ⟨YK zc9 _,run_plain zc9 F.entry_list_iadd (ext (WN _ rfl))⟩)))
theorem sW {Q:List Wo->Wu->Prop}{r:Addr}{a b c:Int}{n:Nat}(hh:A.handled=none)(G:Rg s r a b c n)
  (hQ:∀ (g:Heap) (tk:Nat) (acc:Array Wo),Kept s g->JA a c acc n->Q acc.toList { s with heap:=g,toks:=tk }):WT (WW prog w) A (collect (.ref r)) Q E s:=by
 unfold collect
 exact Wl (wpAny_runValue (lR hh G λg tk acc e kp new its=>Wl (wpAny_load new (WD (hQ g tk acc kp its)))))
theorem nF {Q:Wo->Wu->Prop}{r:Addr}{a b c:Int}{n:Nat}(hh:A.handled=none)(G:Rg s r a b c n)
  (hQ:∀ (g:Heap) (tk:Nat) (acc:Array Wo),Kept s g->JA a c acc n->Q (.ref g.objs.size) { s with heap:=g.push { cls:=.type "tuple", data:=.seq acc },toks:=tk }) :
  WT (WW prog w) A (zcj (.type "tuple") [.ref r]) Q E s:=by
 have isr:s.TypeIs (.ref r) "range" := let ⟨t,u,v,hr⟩:=G.at';⟨_,hr,rfl⟩
 have fit:n<=sizeLine:=by have:=G.le;rw[zbW];omega
 have made:Y4 (WW prog w) A.in1 (.call (.builtin "tuple.__new__") ⟨[.type "tuple", .ref r],[]⟩) (wants (λobj s₁=>s₁.TypeIs obj "tuple" /\ Q obj s₁) E) s:=by
  refine codeAny_of_tree (Wl (zdu (F.newCall_tuple_1 _) (WD ⟨YK zda _,run_plain zda F.entry_tuple_new ?_⟩)))
  have u1:=sub_tuple_self
  have u2:=init_tuple_lookup
  have u3:=madeHere_tuple
  wp_walk using wpAny_typeOf isr,sW (A:=A.in1.in1) hh G
  intro g tk acc kp its
  have whole:acc.toList.toArray=acc:=zb9
  have few:acc.toList.toArray.size<=sizeLine:=by rw[whole,its.1];exact fit
  have end':WT (WW prog w) A.in1.in1 (XC acc.toList.toArray) (λv s'=>wants (λobj s₁=>s₁.TypeIs obj "tuple" /\ Q obj s₁) E (.ok (.ret v)) s') (λe s'=>wants (λobj s₁=>s₁.TypeIs obj "tuple" /\ Q obj s₁) E (.error e) s') { s with heap:=g,toks:=tk }:=by
   unfold XC;exact Xz (by rw[whole];exact ⟨⟨_,WN _ rfl,rfl⟩,hQ g tk acc kp its⟩) few
  exact (show WT _ _ (XC acc.toList.toArray >>= λv=>ret v) _ _ _ from Wl (XM end' (λv s' h=>WD h) λ_ _ h=>h))
 exact callType_codes zca (F.typeCall_tuple_1 _) F.entry_object_init made λobj s₁ h₁=>⟨h₁.1,zcb obj _,object_init_meets zca.init.lookup zca.made (by decide) prog w A.in1 _ s₁ ⟨h₁.1,rfl,h₁.2⟩⟩
end
section
variable {X:Cx} {ea eb:WX} {Ta Tb:ETr} {p p2 pos rpos:Pos}
def Tw (t:TA):TE:=λσ H Q=>t σ H λvs H1=>∃ i j:Int,vs=[.int i,.int j]/\(-(2 ^ 62)<=i/\i < 2 ^ 62/\-(2 ^ 62)<=j/\j < 2 ^ 62/\(j - i).toNat<=1000000)/\∀ z,H1 z=none->Q (.ref z) (L2.upd H1 z (.tup ((W5 (j - i).toNat).map λ(k:Nat)=>V.int (i+(k:Int)))))
theorem ig:∀ {us:List Wo} {vs:List V},us.length=vs.length->(∀ (j:Nat) u v,us[j]? = some u->vs[j]? = some v->RelV v u)->Vals vs us
 | [],[],_,_=>.nil
 | u::us,v::vs,hl,h=>.cons (h 0 u v rfl rfl) (ig (by simpa using hl) λj a b h1 h2=>h (j+1) a b h1 h2)
theorem Kz {t:TA}(hc:X.calm=true)(hg:Gl X "tuple")(hm:X.mg "tuple" = none)(hgr:Gl X "range")(hmr:X.mg "range" = none)(ha:PA X [ea,eb] t)(hs:WH [ea,eb] X.env=[(false,XJ ea X.env),(false,XJ eb X.env)]:=by rfl)(hs2:WH [eb] X.env=[(false,XJ eb X.env)]:=by rfl)
  (hs0:WH [.Call (.Name "range" p2) [ea,eb] [] rpos] X.env=(false,XJ (.Call (.Name "range" p2) [ea,eb] [] rpos) X.env)::WH [] X.env:=by rfl) :
  PE X (.Call (.Name "tuple" p) [.Call (.Name "range" p2) [ea,eb] [] rpos] [] pos) (Tw t):=by
 intro pins s σ H Q I h
 refine Call_ (jI I hg hm boot_tuple (XE ?_ hs0 rfl))
 rw[hs0]
 show WT _ _ (spliced ((false,XJ _ X.env)::X3 pos (WH [] X.env))) _ _ s
 refine zcI (Call_ (jI I hgr hmr boot_range (XE (thn (ha rpos pins s σ H _ I h) λus s1 ⟨vs,H1,I1,r1,q1⟩=>?_) (by rw[hs,hs2]) (by rw[hs2];rfl))))
 obtain ⟨i,j,e,⟨h1,h2,h3,h4,h5⟩,q⟩:=q1
 subst e
 cases r1 with | cons r rr=>cases rr with | cons r' rr=>
 cases rr
 obtain ⟨t1,rfl⟩:=r
 obtain ⟨t2,rfl⟩:=r'
 refine call_range_2 (zcT ?_)
 have e2:ZH i j 1=((j - i).toNat:Nat):=by rw[rangeSize_one];split<;>omega
 refine nF (n:=(j - i).toNat) (I1.ok.hd hc) ⟨⟨_,_,_,zen ..⟩,small_one h1 h2 h3 h4,e2,by omega⟩ λh' tk acc hk hacc=>?_
 have I2:Inv X pins σ H1 { s1 with heap:=h',toks:=tk }:=I1.kept (t':=tk) λb o e=>hk b o (Wn _ e)
 refine ⟨.ref h'.objs.size,_,I2.laid (t':=tk) (o:=.tup ((W5 (j - i).toNat).map λ(k:Nat)=>V.int (i+(k:Int)))) (λb o e=>Wn _ e) (WG _) ⟨?_,acc.toList,ig ?_ λm u v hu hv=>?_,?_⟩,rfl,q _ (I2.hok.fresh (WG _))⟩
 ·rw[Wm,zdb];exact big (by omega)
 ·rw[Wm,zdb,Zs,hacc.1]
 ·have hu':acc[m]? = some u:=by simpa using hu
  obtain ⟨t3,rfl⟩:=hacc.2 m u hu'
  have hm:m < (j - i).toNat:=by
   have:=(Array.getElem?_eq_some_iff.mp hu').1
   exact hacc.1 ▸ this
  rw[Xo,zcm hm] at hv
  cases hv
  exact ⟨t3,by simp⟩
 ·rw[zb9];exact uV.new h' acc
def Jr (Ta Tb:ETr):ETr:=λρ μ Q=>Ta ρ μ λx μ1=>Tb ρ μ1 λy μ2=>kI x λi=>kI y λj=>((-4611686018427387904<=i/\i < 4611686018427387904)/\(-4611686018427387904<=j/\j < 4611686018427387904)/\(j - i).toNat<=1000000)/\Q (.tup (cE i (j - i).toNat)) μ2
theorem Ed {K:Wj}{H:Hp}(i:Int)(n:Nat):DpL K H ((W5 n).map λ(k:Nat)=>V.int (i+(k:Int))) (cE i n):=by
 unfold cE
 generalize W5 n=l
 induction l with
 | nil=>exact .nil
 | cons a l ih=>exact .cons (.int _) ih
theorem Mk (hc:X.calm=true)(hg:Gl X "tuple")(hm:X.mg "tuple" = none)(hgr:Gl X "range")(hmr:X.mg "range" = none)(ha:LE X ea Ta)(hb:LE X eb Tb)(hs:WH [ea,eb] X.env=[(false,XJ ea X.env),(false,XJ eb X.env)]:=by rfl)(hs2:WH [eb] X.env=[(false,XJ eb X.env)]:=by rfl)
  (hs0:WH [.Call (.Name "range" p2) [ea,eb] [] rpos] X.env=(false,XJ (.Call (.Name "range" p2) [ea,eb] [] rpos) X.env)::WH [] X.env:=by rfl) :
  LE X (.Call (.Name "tuple" p) [.Call (.Name "range" p2) [ea,eb] [] rpos] [] pos) (Jr Ta Tb):=by
 obtain ⟨ta,pa,sa⟩:=ha.ex
 obtain ⟨tb,pb,sb⟩:=hb.ex
 refine ⟨_,Kz hc hg hm hgr hmr (fm pa (fm pb iQ hs2) (by rw[hs,hs2])) hs hs2 hs0,λσ H ρ μ Q Q' rl h k=>sa σ H ρ μ _ _ rl h λx H1 d μ1 t1 m1 p1 h1=>sb σ H1 ρ μ1 _ _ (rl.go t1 m1) h1 λy H2 d2 μ2 t2 m2 p2 h2=>?_⟩
 cases p1 with
 | int i=>
  cases p2 with
  | int j=>
   obtain ⟨⟨⟨h3,h4⟩,⟨h5,h6⟩,h7⟩,h8⟩:=h2
   refine ⟨i,j,rfl,⟨by simpa using h3,by simpa using h4,by simpa using h5,by simpa using h6,h7⟩,λz hz=>?_⟩
   have tn:Tk H2 (L2.upd H2 z (.tup ((W5 (j - i).toNat).map λ(k:Nat)=>V.int (i+(k:Int))))):=.new hz
   exact k _ _ _ μ2 ((t1.trans t2).trans tn) (cw m2 hz) (.tup (SqT.of aM) (Ed i _)) h8
  | _=>exact Ww h2
 | _=>exact Ww h2
end
end
section
open PySem PySem.Spec PyProof.Rows L2
section
variable {prog:W7} {w:Xh} {A:XA} {E:Wo->Wu->Prop} {s:Wu}
theorem sortedHeap_at {g:Heap}{vs:List Wo}{out:Array Wo}{k:Nat}(e:(g.push (zan "list" vs.toArray k)).get? g.objs.size=some (zan "list" vs.toArray k)):(∃ n,(zd2 (g.push (zan "list" vs.toArray k)) g.objs.size vs out).get? g.objs.size=some (zan "list" out n))/\∀ b o,g.get? b=some o->(zd2 (g.push (zan "list" vs.toArray k)) g.objs.size vs out).get? b=some o:=by
 have lt:g.objs.size < (g.push (zan "list" vs.toArray k)).objs.size:=by rw[size_push'];omega
 unfold zd2
 constructor
 ·have e1:=get?_update_seq e λ_=>#[]
  have e2:∀ o1 o2:Obj,((((g.push (zan "list" vs.toArray k)).update g.objs.size (zbs λ_=>#[])).push o1).push o2).get? g.objs.size=_:=λo1 o2=>Wn _ (Wn _ e1)
  exact ⟨_,get?_update_seq (e2 _ _) λ_=>out⟩
 ·intro b o hb
  have nb:g.objs.size≠b:=W9 (W0 (WJ hb))
  exact (XB _ _ nb).trans (Wn _ (Wn _ ((XB _ _ nb).trans (Wn _ hb))))
theorem zS {tp:Addr}{vs:List Wo}{ns:List Int}{Q:Wo->Wu->Prop}(hl:zdr s.heap tp vs.toArray)(hI:Zx vs ns)(few:vs.length < 64)
  (h:∀ (g g1:Heap) (out:Array Wo) (n:Nat) (ns':List Int),Kept s g->(∀ b o,g.get? b=some o->g1.get? b=some o)->g1.get? g.objs.size=some (zan "list" out n)->Zx out.toList ns'->ns'.Perm ns->ns'.Pairwise (·<=·)->Q (.ref g.objs.size) { s with heap:=g1 }) :
  WT (WW prog w) A (zcj (.builtin "sorted") [.ref tp]) Q E s:=by
 obtain ⟨ob,e1,e2,ne,e3⟩:=hl
 have fits:vs.toArray.size<=sizeLine:=by rw[WR,zbW];omega
 have rest:∀ g:Heap,(∀ b o,s.heap.get? b=some o->g.get? b=some o)->WT (WW prog w) A.in1 (do let z ← newList vs;let _ ← zbm [z] (zcj (.builtin "list.sort") [z]);ret z) (λfin s'=>∃ v,fin=.done (.ret v)/\Q v s') E { s with heap:=g }:=λg kp=>by
  have at':(g.push (zan "list" vs.toArray 0)).get? g.objs.size=some (zan "list" vs.toArray 0):=WN _ rfl
  have done:=λout ns' (a1:Zx out.toList ns') (a2:ns'.Perm ns) (a3:ns'.Pairwise (·<=·))=>let ⟨⟨m,e⟩,old⟩:=sortedHeap_at (out:=out) at';h g _ out m ns' kp old e a1 a2 a3
  exact Wl (wpAny_newList (Wl (Y1 (X6 slot_list_sort ⟨_,at',rfl⟩ entry_list_sort (list_sort_tree at' hI few λout ns' a1 a2 a3=>⟨_,rfl,WD ⟨_,rfl,done out ns' a1 a2 a3⟩⟩) (args_list_sort _)))))
 refine Calls.call_function_entry (b:=Z9.«sorted») kind_sorted plain_sorted entry_sorted (args_sorted1 _) ?_
 show WT _ _ (do checkCount "sorted" 1 1 1;let xs ← collect (.ref tp);let z ← newList xs;let _ ← zbm [z] (zcj (.builtin "list.sort") [z]);ret z) _ _ s
 exact Wl (WD (Wl (wpAny_collect_seq tp (.inr rfl) e1 e2 e3 (λg kp=>rest g kp) fits)))
end
def QJ (K:Wj):List V->Hp->VK->Prop:=λxs H Q=>∃ (p:Addr) (ns:List Int),xs=[.ref p]/\(SqL K H p (ns.map V.int)∨SqT K H p (ns.map V.int))/\ns.length < 64/\∀ ns':List Int,ns'.Perm ns->ns'.Pairwise (·<=·)->∀ z,H z=none->Q (.ref z) (L2.upd H z (.lst (ns'.map V.int)))
theorem A6 {X:Cx}:cH X (.builtin "sorted") (QJ X.K):=λpins s σ H xs us Q I rx ⟨p,ns,e1,sq,hl,q⟩=>by
 rcases sq with sq | sq
 ·exact B7 pins s σ H xs us Q I rx ⟨p,ns,e1,sq,hl,q⟩
 subst e1
 obtain ⟨u,rfl,ru⟩:=vals1 rx
 cases ru
 obtain ⟨its,rv,pl,hz⟩:=I.tuple sq
 have hi:Zx its ns:=intsAre_of rv
 have hlen:its.length < 64:=by rw[hi.length];exact hl
 refine zS pl hi hlen λg g1 out n ns' kp old e a1 a2 a3=>?_
 have I2:Inv X pins σ H { s with heap:=g }:=I.kept (t':=s.toks) kp
 refine ⟨.ref g.objs.size,_,I2.laid (t':=s.toks) (o:=.lst (ns'.map V.int)) old (WG _) ?_,rfl,q ns' a2 a3 _ (I2.hok.fresh (WG _))⟩
 have z1:ns'.length=ns.length:=a2.length_eq
 exact ⟨by rw[Wm,z1];exact ZP (WS hl (by decide)),out.toList,n,iY a1,by simpa[zan] using e⟩
def pU:FSp:=λds μ Q=>match ds with
 | [x]=>kS x λxs=>∃ ns:List Int,(xs=ns.map .int/\ns.length < 64)/\∀ ns':List Int,ns'.Perm ns->ns'.Pairwise (·<=·)->Q (.ls (ns'.map .int)) μ
 | _=>False
theorem yt {X:Cx}{e:WX}{x:Str}{p pos:Pos}{At:ATr}(hg:Gl X x)(hm:X.mg x=none)(hv:Yp x=some (.builtin "sorted"))(ha:LA X [e] At)(hn:x ≠ "__name__" := by decide)(hdb:(x == ("__debug__" : Str))=false:=by decide)
  (h1:WH [e] X.env=(false,XJ e X.env)::WH [] X.env:=by rfl) (h2:(X3 pos (WH [] X.env)).any (·.1)=false:=by rfl):LE X (.Call (.Name x p) [e] [] pos) (au pU At):=by
 obtain ⟨ta,pa,sa⟩:=ha.ex
 refine ⟨_,jS (pZ A6 hg hm hv pa hn hdb h1 h2),λσ H ρ μ Q Q' rl h k=>sa σ H ρ μ _ _ rl h λxs H1 ds μ1 t1 m1 p1 h1=>?_⟩
 unfold pU at h1
 split at h1
 ·cases p1 with | cons p1 p2=>
  cases p2
  cases p1 with
  | @ls q xs ds sq l=>
   obtain ⟨ns,⟨rfl,hl⟩,h2⟩:=h1
   have ex:=l.ints_of
   subst ex
   exact ⟨q,ns,rfl,.inl sq.sq,hl,λns' a2 a3 z hz=>fH m1 (DpL.ints ns') (h2 ns' a2 a3) (k.go t1) hz⟩
  | @tup q xs ds sq l=>
   obtain ⟨ns,⟨rfl,hl⟩,h2⟩:=h1
   have ex:=l.ints_of
   subst ex
   exact ⟨q,ns,rfl,.inr sq,hl,λns' a2 a3 z hz=>fH m1 (DpL.ints ns') (h2 ns' a2 a3) (k.go t1) hz⟩
  | _=>exact Ww h1
 ·exact h1.elim
theorem tZ {X:Cx}(hc:X.calm=true):cH X (.builtin "sum") (λxs H Q=>∃ (p:Addr) (ns:List Int),xs=[.ref p]/\SqL X.K H p (ns.map V.int)/\Q (.int ns.sum) H):=λpins s σ H xs us Q I rx ⟨p,ns,e1,sq,q⟩=>by
 subst e1
 obtain ⟨u,rfl,ru⟩:=vals1 rx
 cases ru
 obtain ⟨its,rv,pl,_⟩:=I.list sq
 obtain ⟨ps,rfl,rfl⟩:=gX (intsAre_of rv)
 have il:s.heap.IsList p (zag ps.toArray):=by
  have:=pl.isList
  simpa[zag] using this
 refine sum_intListG (I.ok.hd hc) il λh' tk t' hk=>?_
 have e:preSum (zdw ps.toArray) ps.toArray.size=(ps.map zdY).sum:=by
  rw[preSum_eq,YY (by simp)]
 rw[e]
 exact ⟨.int _,H,I.kept hk,⟨t',rfl⟩,q⟩
def yn:FSp:=λds μ Q=>match ds with
 | [.ls xs]=>∃ ns:List Int,xs=ns.map .int/\Q (.int ns.sum) μ
 | _=>False
theorem xV {K:Wj}:mK K (λxs H Q=>∃ (p:Addr) (ns:List Int),xs=[.ref p]/\SqL K H p (ns.map V.int)/\Q (.int ns.sum) H) yn:=λH μ xs ds Q Q' m p h k=>by
 unfold yn at h
 split at h
 ·obtain ⟨ns,rfl,h⟩:=h
  cases p with | cons p1 p2=>
  cases p2
  cases p1 with
  | @ls q xs ds sq l=>
   have ex:=l.ints_of
   subst ex
   exact ⟨q,ns,rfl,sq.sq,k _ H _ μ (.refl H) m (.int _) h⟩
 ·exact h.elim
end
section
open PySem PySem.Spec PyProof.Rows L2
section
variable {prog:W7} {w:Xh} {A:XA} {E:Wo->Wu->Prop} {s:Wu}
theorem GS {tp:Bool}{e it a:Addr}{i:Nat}{xs:Array Wo}{x old:Wo}{Q:Option Wo->Wu->Prop}(en:zbz s.heap e it i old)(li:iE tp s.heap it a i)(se:fU tp s.heap a xs)(hx:xs[i]? = some x)(ne:e≠it)
  (q:∀ g,IsEnumOut g e it ((i:Int)+1) x s.heap.objs.size->iE tp g it a (i+1)->g.get? s.heap.objs.size=some { cls:=.type "tuple", data:=.seq #[.int i s.toks,x] }->
   (∀ c o,c≠e->c≠it->s.heap.get? c=some o->g.get? c=some o)->Q (some (.ref s.heap.objs.size)) { s with heap:=g,toks:=s.toks+1 }):WT (WW prog w) A (Zz (.ref e)) Q E s:=by
 have ty:s.TypeIs (.ref e) "enumerate" := ⟨_,en,rfl⟩
 unfold Zz
 refine Wl (zaW (Xy (name:=OF "__next__") ty Y3 (X6 Y3 ty zbA ?_ (zbf _))))
 refine Wl (m:=zb0 (.ref e) 2) (Xp en rfl (x:=.ref it) rfl (Wl (m:=Xa (.ref it)) (pN li se hx λg1 li1 k1=>?_)))
 have en1:zbz g1 e it i old:=(k1.2 e ne).trans en
 refine Wl (m:=zb0 (.ref e) 3) (Xp (s:={ s with heap:=g1 }) en1 rfl (x:=zaw i) rfl (Wl (m:=zb0 (.ref e) 4) (Xp (s:={ s with heap:=g1 }) en1 rfl (x:=.none) rfl (Wl (m:=mkInt i) (wpAny_mkInt ?_)))))
 refine Wl (m:=setField (.ref e) 3 (zaw ((i:Int)+1))) (Xt en1 (by simp) λg2 en2 k2=>?_)
 have en2:zbz g2 e it ((i:Int)+1) old:=en2
 refine Wl (m:=setField (.ref e) 4 .none) (Xt en2 (by simp) λg3 en3 k3=>?_)
 have en3:zbz g3 e it ((i:Int)+1) old:=en3
 refine Wl (m:=newTuple [.int i s.toks,x]) (wpAny_newTuple ?_)
 have sz:g3.objs.size=s.heap.objs.size:=by rw[k3.1,k2.1,k1.1]
 have en4:zbz (g3.push { cls:=.type "tuple", data:=.seq #[.int i s.toks,x] }) e it ((i:Int)+1) old:=Wn _ en3
 have elt:e < g3.objs.size:=WJ en3
 refine Wl (m:=Xl (.ref e)) ?_
 delta Xl
 refine Wl (Xp (s:={ s with heap:=g3.push { cls:=.type "tuple", data:=.seq #[.int i s.toks,x] },toks:=s.toks+1 }) en4 rfl (x:=.none) rfl (WD ?_))
 simp only[if_true]
 refine Wl (YV (Wl (Xp en4 rfl (x:=old) rfl (Wl (Xt en4 (by simp) λg5 en5 k5=>?_)))))
 have en5:zbz g5 e it ((i:Int)+1) x:=en5
 refine Wl (m:=XU (.ref e) (.ref g3.objs.size)) ?_
 delta XU
 refine Wl (Xt en5 (by simp) λg6 en6 k6=>?_)
 have en6:IsEnumOut g6 e it ((i:Int)+1) x g3.objs.size:=en6
 refine Xt en6 (by simp) λg7 en7 k7=>?_
 have en7:IsEnumOut g7 e it ((i:Int)+1) x g3.objs.size:=en7
 have up3:∀ c o,c≠e->g3.get? c=some o->g7.get? c=some o:=λc o c1 h=>(k7.2 c c1).trans ((k6.2 c c1).trans ((k5.2 c c1).trans (Wn _ h)))
 have new:g7.get? g3.objs.size=some { cls:=.type "tuple", data:=.seq #[.int i s.toks,x] }:=(k7.2 _ (YX elt)).trans ((k6.2 _ (YX elt)).trans ((k5.2 _ (YX elt)).trans (WN _ rfl)))
 rw[sz] at en7 new
 have fin:=q g7 en7 (li1.at λo h=>up3 it o (W9 ne) ((k3.2 it (W9 ne)).trans ((k2.2 it (W9 ne)).trans h))) new λc o c1 c2 h=>up3 c o c1 ((k3.2 c c1).trans ((k2.2 c c1).trans ((k1.2 c c2).trans h)))
 rw[← sz] at fin
 exact Wl (Za (WD ⟨_,rfl,WD fin⟩))
theorem Mg {tp:Bool}{e it a:Addr}{i:Nat}{xs:Array Wo}{old:Wo}{Q:Option Wo->Wu->Prop}(hh:A.handled=none)(en:zbz s.heap e it i old)(li:iE tp s.heap it a i)(se:fU tp s.heap a xs)(hx:xs[i]? = none)
  (q:∀ g,zdt it s.heap g->Q none { s with heap:=g }):WT (WW prog w) A (Zz (.ref e)) Q E s:=by
 have ty:s.TypeIs (.ref e) "enumerate" := ⟨_,en,rfl⟩
 unfold Zz
 refine Wl (zaW (Xy (name:=OF "__next__") ty Y3 (X6 Y3 ty zbA ?_ (zbf _))))
 refine Wl (m:=zb0 (.ref e) 2) (Xp en rfl (x:=.ref it) rfl (Wl (m:=Xa (.ref it)) (Bw hh li se hx λg z kp sz=>?_)))
 obtain ⟨o,ho,hc⟩:=sz
 exact Wl (wpAny_isInstance (T := "StopIteration") (b:=true) ⟨o,ho,hc⟩ isSubtype_stop (WD (q _ kp)))
theorem F3 (tp:Bool)(a:Addr)(xs:Array Wo):Meets (Z9.«enumerate.__new__» ⟨[.type "enumerate", .ref a],[]⟩) (λ_ R s=>fU tp s.heap a xs/\
   R (.ok (.ret (.ref (s.heap.push (itO tp a)).objs.size))) { s with heap:=(s.heap.push (itO tp a)).push { cls:=.type "enumerate", data:=.fields #[.none,.bool false,.ref s.heap.objs.size,zaw 0,.none,.none] } }):=
 .of_wp λprog w A R s h=>by
  rcases s with ⟨hp,g,d,tk,os⟩
  obtain ⟨h1,h⟩:=h
  have hs0:=sub_enumerate
  have H1:fU tp (zdv ⟨hp,g,d,tk,os⟩) a xs:=h1
  wp_walk
  refine wpAny_stack_any λstk=>WD ?_
  split
  ·rename_i c _ _ _ _ _
   cases (c == zes "enumerate")<;>(wp_walk using L6 H1;exact ⟨_,rfl,h⟩)
  ·wp_walk using L6 H1
   exact ⟨_,rfl,h⟩
theorem BO {tp:Bool}{a:Addr}{xs:Array Wo}{Q:Wo->Wu->Prop}(h1:fU tp s.heap a xs)
  (q:∀ g,zbz g (s.heap.objs.size+1) s.heap.objs.size 0 .none->iE tp g s.heap.objs.size a 0->(∀ c o,s.heap.get? c=some o->g.get? c=some o)->Q (.ref (s.heap.objs.size+1)) { s with heap:=g }) :
  WT (WW prog w) A (zcj (.type "enumerate") [.ref a]) Q E s:=by
 refine callType_new F.called_enumerate (by decide) (F.typeCall_enumerate_1 _) (F.newCall_enumerate_1 _) (λobj=>zcb obj _) F.entry_enumerate_new (F3 tp a xs) ⟨h1,?_⟩
 have s1:(s.heap.push (itO tp a)).objs.size=s.heap.objs.size+1:=Zb ..
 have new:zbz ((s.heap.push (itO tp a)).push { cls:=.type "enumerate", data:=.fields #[.none,.bool false,.ref s.heap.objs.size,zaw 0,.none,.none] }) (s.heap.push (itO tp a)).objs.size s.heap.objs.size 0 .none:=WN _ rfl
 refine ⟨⟨_,new,rfl⟩,?_⟩
 rw[s1] at new ⊢
 refine q _ new ?_ λc o h=>Wn _ (Wn _ h)
 have z:=Wn { cls:=.type "enumerate", data:=.fields #[.none,.bool false,.ref s.heap.objs.size,zaw 0,.none,.none] } (WN s.heap (o:=itO tp a) (by cases tp<;>rfl))
 cases tp<;>exact ⟨_,z,rfl,rfl⟩
end
def Itn (tp:Bool)(K:Wj)(a:Addr):It:=
 ⟨λi H=>∃ xs x,Sq tp K H a xs/\xs[i]? = some x,
  λi H v H'=>∃ x p,(∀ xs,Sq tp K H a xs->xs[i]? = some x)/\v=.ref p/\H p=none/\H'=L2.upd H p (.tup [.int i,x]),
  λi H=>∃ xs,Sq tp K H a xs/\xs.length<=i⟩
structure NAt (tp:Bool) (h:Heap) (e it a:Addr) (k:Nat):Prop where
 en:∃ old,zbz h e it k old
 li:iE tp h it a k
theorem GF {P:W7}{w:Xh}{K:Wj}{es:List WX}{ek:Nat}{ep:Pos}{tp:Bool}{e it a:Addr}(n1:e≠it) :
  Turn P w K (.Tuple es ek ep) (Itn tp K a) [e,it] e (λk h=>NAt tp h e it a k) where
 mem:=by simp
 obj:=λk h S c hc=>by
  obtain ⟨⟨old,en⟩,li⟩:=S
  simp only[WM,Xj,or_false] at hc
  rcases hc with rfl | rfl
  ·exact ⟨_,en,λv y=>by cases y⟩
  ·obtain ⟨o,ho,vs,hd⟩:=li.ex;exact ⟨o,ho,λv y=>by rw[hd] at y;cases y⟩
 keep:=λk h g S kp=>by
  obtain ⟨⟨old,en⟩,li⟩:=S
  exact ⟨⟨old,kp e (by simp) _ en⟩,li.at λo q=>kp it (by simp) o q⟩
 item:=by
  intro X hP hw hK hc k pins s σ H E I hf S hg
  subst hP hw hK
  obtain ⟨xs,x,qa,ex⟩:=hg
  obtain ⟨⟨old,en⟩,li⟩:=S
  obtain ⟨ia,ra,sa⟩:=Inv.sq I qa
  obtain ⟨ux,hux,rx⟩:=ra.get ex
  have elt:e < s.heap.objs.size:=WJ en
  have fr:H s.heap.objs.size=none:=I.hok.fresh (WG _)
  refine GS en li sa (x:=ux) (by simpa using hux) n1 λg eo li2 new al=>⟨_,rfl,wpAny_letOwnedTupleGo_enum eo λg2 en2 k2=>?_⟩
  have k2:Zg e g g2:=k2
  have all:∀ c o,c ∉ [e,it]->s.heap.get? c=some o->g2.get? c=some o:=λc o hc q=>by
   simp only[WM,Xj,or_false,not_or] at hc
   exact (k2.2 c hc.1).trans (al c o hc.1 hc.2 q)
  have new2:g2.get? s.heap.objs.size=some { cls:=.type "tuple", data:=.seq #[.int k s.toks,ux] }:=(k2.2 _ (YX elt)).trans new
  have nfp:∀ c u,H c=some u->c ∉ [e,it]:=λc u q hc=>by rw[(hf c hc).1] at q;cases q
  refine ⟨.ref s.heap.objs.size,L2.upd H s.heap.objs.size (.tup [.int k,x]),?_,rfl,⟨x,_,λxs' q=>by rw[Inv.Bu I q qa];exact ex,rfl,fr,rfl⟩,⟨⟨_,en2⟩,li2.at λo q=>(k2.2 it (W9 n1)).trans q⟩,λc hc=>?_⟩
  ·refine L2.Inv.step (s:=s) (H:=H) (H':=L2.upd H s.heap.objs.size (.tup [.int k,x])) (g':=s.gens) (d':=s.drawn) (t':=s.toks+1) (h':=g2) (ch:=[e,it]) I (λc hc=>⟨(hf c hc).2.2.2.1,(hf c hc).2.1,(hf c hc).2.2.2.2.1,(hf c hc).2.2.2.2.2⟩) (λc o _ _ hc q _=>all c o hc q) (λc o _ _ hc q _=>⟨o.slots,all c o hc q⟩) (λc o hc q n=>?_) (λc o hc q=>⟨o,all c o hc q⟩)
    (λc xs q=>?_) (λc o u q=>?_) (λc ps q=>⟨#[],?_⟩) (λm hm=>?_) (λc u q=>?_) I.bare
   ·rw[aN (W0 (WJ q))];exact n
   ·rw[aN (bu q fr)];exact q
   ·rw[aN (bu q fr)];exact q
   ·rw[aN (bu q fr),q];simp
   ·obtain ⟨o,es',ep',ho,r⟩:=hm
    exact ⟨o,es',ep',all _ o (λhc=>(hf _ hc).2.1 rfl) ho,r⟩
   ·by_cases hcT:c=s.heap.objs.size
    ·subst hcT
     rw[aM] at q;cases q
     exact ⟨by show 2<=sizeLine;decide,[.int k s.toks,ux],.cons ⟨s.toks,rfl⟩ (.cons rx .nil),⟨_,new2⟩⟩
    ·rw[aN hcT] at q
     refine (I.hok c u q).nK (λc' v hc' z=>all c' v ?_ z) (λc' z=>by rw[aN (bu z fr)];exact z) λc' xs z=>by rw[aN (bu z fr)];exact z
     rcases hc' with rfl | hc'
     ·exact nfp _ _ q
     ·exact nfp _ _ hc'
  ·have hcl:c≠s.heap.objs.size:=by
    simp only[WM,Xj,or_false] at hc
    rcases hc with rfl | rfl
    ·exact W0 elt
    ·obtain ⟨o,q,_⟩:=li.ex;exact W0 (WJ q)
   rw[aN hcl];exact (hf c hc).1
 done:=by
  intro X hP hw hK hc k pins s σ H E I hf S hg
  subst hP hw hK
  obtain ⟨xs,qa,he⟩:=hg
  obtain ⟨⟨old,en⟩,li⟩:=S
  obtain ⟨ia,ra,sa⟩:=Inv.sq I qa
  have la:=ra.length
  obtain ⟨f0,f1,f2,f3,f4,f5⟩:=hf it (by simp)
  exact Mg (I.ok.hd hc) en li sa (by simp;omega) λg eb=>⟨rfl,I.turned (t':=s.toks) (λb o hb q=>eb b o hb q) f0 f1 f3 f4 f5⟩
 self:=λ_ _ _ _ _ S h=>by
  obtain ⟨⟨old,en⟩,_⟩:=S
  exact zdc en h
def VL (K:Wj)(t:TA):TI:=λσ H R=>t σ H λvs H1=>∃ (tp:Bool) (a:Addr),vs=[.ref a]/\(∃ xs,Sq tp K H1 a xs)/\R (Itn tp K a) H1
section
variable {X:Cx} {ea:WX} {es:List WX} {ek:Nat} {ep p pos:Pos}
theorem Qa {t:TA}(hg:Gl X "enumerate")(hm:X.mg "enumerate" = none)(ha:PA X [ea] t)(hs:WH [ea] X.env=[(false,XJ ea X.env)]:=by rfl) :
  PI X (.Tuple es ek ep) (.Call (.Name "enumerate" p) [ea] [] pos) (VL X.K t):=by
 intro pins s σ H R I h
 refine Call_ (jI I hg hm boot_enumerate (XE (thn (ha pos pins s σ H _ I h) λus s1 ⟨vs,H1,I1,r1,q1⟩=>?_) (by rw[hs];rfl) rfl))
 obtain ⟨tp,a,e,⟨xs,qa⟩,q⟩:=q1
 subst e
 cases r1 with | cons r rr=>
 cases rr
 cases (show _=Xc a from r)
 obtain ⟨ia,ra,sa⟩:=Inv.sq I1 qa
 refine BO sa λg en li kp=>zdc en ?_
 refine ⟨s1.heap.objs.size+1,[s1.heap.objs.size+1,s1.heap.objs.size],_,_,H1,rfl,I1.kept (t':=s1.toks) kp,GF (tp:=tp) (a:=a) (Nat.succ_ne_self _),⟨⟨_,en⟩,li⟩,λc hc=>?_,q⟩
 have hc':s1.heap.objs.size<=c:=by
  simp only[WM,Xj,or_false] at hc
  rcases hc with rfl | rfl
  ·exact zab _
  ·exact WG _
 exact I1.A7 hc' (I1.hok.fresh hc')
def Ig (t:ATr):ATr:=λρ μ Q=>t ρ μ λvs μ1=>match vs with
 | [x]=>kS x λds=>Q (kW ds) μ1
 | _=>False
theorem Me {At:ATr}(hg:Gl X "enumerate")(hm:X.mg "enumerate" = none)(ha:LA X [ea] At)(hs:WH [ea] X.env=[(false,XJ ea X.env)]:=by rfl) :
  LI X (.Tuple es ek ep) (.Call (.Name "enumerate" p) [ea] [] pos) (Ig At):=by
 obtain ⟨t,pt,st⟩:=ha.ex
 refine ⟨_,Qa hg hm pt hs,λσ H ρ μ Q R rl h k=>st σ H ρ μ _ _ rl h λvs H1 ds μ1 t1 m1 p1 h1=>?_⟩
 split at h1
 case h_2=>exact Ww h1
 cases p1 with | cons pa p2=>
 cases p2
 obtain ⟨tp,a,xs,dx,rfl,qa,la,h2⟩:=A5 pa h1
 obtain ⟨a',xs',dx',ea',qa',la',h2⟩:=Bi pa h2
 cases ea'
 refine ⟨tp,a,rfl,⟨xs',qa'.sq⟩,k _ H1 _ μ1 t1 m1 ⟨λi H' tk hi=>?_,λi H' v H'' tk hi yv=>?_,λi H' tk hi=>?_⟩ h2⟩
 ·have l1:=la'.length
  rw[uF] at hi
  exact ⟨xs',xs'[i],tk.sq qa',by simp[show i < xs'.length by omega]⟩
 ·obtain ⟨x,q,fx,rfl,fr,rfl⟩:=yv
  have ex:=fx _ (tk.sq qa')
  obtain ⟨d,ed,pd⟩:=la'.get' ex
  have tn:Tk H' (L2.upd H' q (.tup [.int i,x])):=.new fr
  exact ⟨tn,⟨.tup [.int i,d],by rw[ue,ed];rfl,.tup (SqT.of aM) (.cons (.int _) (.cons ((pd.mono tk).mono tn) .nil))⟩,λμ' m'=>cw m' fr⟩
 ·rw[uF] at hi
  exact ⟨xs',tk.sq qa',by rw[la'.length];exact hi⟩
end
end
section
open PySem PySem.Spec PyProof PyProof.Rows L2
section
variable {w:Xh} {prog:W7} {A:XA} {E:Wo->Wu->Prop}
abbrev Sh (g:Heap)(b:Addr)(xs:Array Wo):Prop:=∃ n,g.get? b=some { cls:=.type "list", dict:=none,data:=.seq xs n,slots:=#[] }
section
variable {R:zdh->Wu->Prop} {I:Addr} {fp wr:List Addr} {n:Nat} {P:Nat->Wo->Prop} {St:Nat->Heap->Prop}
theorem Kx (W:Walks prog w A.in1 I fp wr n P St){bt:Nat->Nat->Bool}(cm:CmpOf prog w A.in1 .Gt P bt){S:Addr}(hS:S ∉ fp)(kw:List (Str×Wo)) :
  ∀ (m:Nat) (j:Nat) (s:Wu) (vb:Wo),j+1+m=n->St (j+1) s.heap->P (ZZ bt j) vb->Sh s.heap S #[vb,vb]->
  (∀ v g tk,P (ZZ bt (n - 1)) v->(∀ c o,c ∉ wr->c≠S->s.heap.get? c=some o->g.get? c=some o)->R (.ok (.ret v)) { s with heap:=g,toks:=tk })->
  Y4 (WW prog w) A (.builtin "max.loop" ⟨[.ref I,.none,.ref S],kw⟩) R s:=by
 have sw:S ∉ wr:=λh=>hS (W.sub _ h)
 have nm:(toString "max" ++ toString ".loop" : String) = "max.loop" := by decide
 intro m
 induction m with
 | zero=>
  intro j s vb en st pb ⟨ep,at'⟩ fin
  refine run_plain Yt zbg ?_
  show WT (WW prog w) A.in1 (zch (.ref S) >>= _) _ _ s
  refine Wl (XQ at' rfl ?_)
  show WT (WW prog w) A.in1 (tryCatch (Zz (.ref I)) _ >>= _) _ _ s
  refine Wl (Zd (W.done s _ _ (by rw[← en];exact st) λg tk kp=>?_))
  have at1:=kp S _ sw at'
  show WT (WW prog w) A.in1 (updateSeq S (λ_=>#[]) >>= _) _ _ _
  refine Wl ?_
  refine Zy at1 rfl ?_;refine Wl (Za (WD ?_))
  exact fin vb _ tk (by rw[show n - 1=j by omega];exact pb) λc o c1 c2 e=>(XB _ _ (W9 c2)).trans (kp c o c1 e)
 | succ m ih=>
  intro j s vb en st pb ⟨ep,at'⟩ fin
  refine run_plain Yt zbg ?_
  show WT (WW prog w) A.in1 (zch (.ref S) >>= _) _ _ s
  refine Wl (XQ at' rfl ?_)
  show WT (WW prog w) A.in1 (tryCatch (Zz (.ref I)) _ >>= _) _ _ s
  refine Wl (Zd (W.item (j+1) s _ _ (by omega) st λv g tk pv st1 kp=>?_))
  have at1:=kp S _ sw at'
  show WT (WW prog w) A.in1 (tryCatch (zbm [v,v] (richCompare .Gt v vb >>= _)) _ >>= _) _ _ _
  refine Wl (Zd (Y1 (Wl (cm (j+1) (ZZ bt j) v vb _ _ _ pv pb ?_))))
  refine Wl (Y1 (Yj (Wl (Za (WD ?_)))))
  cases better:bt (j+1) (ZZ bt j) with
  | true=>
   rw[if_pos rfl]
   have bst:ZZ bt (j+1)=j+1:=by rw[ZZ,if_pos better]
   refine Wl ?_
   refine Zy at1 rfl ?_
   refine Wl (Za ?_)
   rw[nm]
   refine WD ⟨YK Yt _,ih (j+1) _ v (by omega) (W.frame _ _ _ st1 λc hc o e=>(XB _ _ (λz:S=c=>hS (by rw[z];exact hc))).trans e) (by rw[bst];exact pv) ⟨_,Z2 _ at1 rfl⟩ λv' g' tk' p' kp'=>?_⟩
   exact fin v' g' tk' p' λc o c1 c2 e=>kp' c o c1 c2 ((XB _ _ (W9 c2)).trans (kp c o c1 e))
  | false=>
   rw[if_neg YW]
   have bst:ZZ bt (j+1)=ZZ bt j:=by rw[ZZ,if_neg (by rw[better];exact YW)]
   refine Wl (Za ?_)
   rw[nm]
   exact WD ⟨YK Yt _,ih (j+1) _ vb (by omega) st1 (by rw[bst];exact pb) ⟨_,at1⟩ λv' g' tk' p' kp'=>fin v' g' tk' p' λc o c1 c2 e=>kp' c o c1 c2 (kp c o c1 e)⟩
theorem J3 (W:Walks prog w A.in1 I fp wr n P St){bt:Nat->Nat->Bool}(cm:CmpOf prog w A.in1 .Gt P bt){S:Addr}(hS:S ∉ fp){s:Wu}{nm':Str}{d:Wo}(st:St 0 s.heap)(at0:Sh s.heap S #[])
  (f0:n=0->∀ g tk,(∀ c o,c ∉ wr->c≠S->s.heap.get? c=some o->g.get? c=some o)->R (.ok (.ret d)) { s with heap:=g,toks:=tk })
  (f1:∀ v g tk,0 < n->P (ZZ bt (n - 1)) v->(∀ c o,c ∉ wr->c≠S->s.heap.get? c=some o->g.get? c=some o)->R (.ok (.ret v)) { s with heap:=g,toks:=tk }) :
  Y4 (WW prog w) A (.builtin "max.loop" ⟨[.ref I,.none,.ref S],[(nm',d)]⟩) R s:=by
 have sw:S ∉ wr:=λh=>hS (W.sub _ h)
 have nm:(toString "max" ++ toString ".loop" : String) = "max.loop" := by decide
 obtain ⟨ep,at'⟩:=at0
 refine run_plain Yt zbg ?_
 show WT (WW prog w) A.in1 (zch (.ref S) >>= _) _ _ s
 refine Wl (XQ at' rfl ?_)
 show WT (WW prog w) A.in1 (tryCatch (Zz (.ref I)) _ >>= _) _ _ s
 rcases Nat.eq_zero_or_pos n with hn | hn
 ·refine Wl (Zd (W.done s _ _ (by rw[hn];exact st) λg tk kp=>?_))
  show WT (WW prog w) A.in1 (rule _ >>= _) _ _ _
  exact Wl (YV (WD (f0 hn g tk λc o c1 c2 e=>kp c o c1 e)))
 ·refine Wl (Zd (W.item 0 s _ _ hn st λv g tk pv st1 kp=>?_))
  have at1:=kp S _ sw at'
  show WT (WW prog w) A.in1 (updateSeq S (λ_=>#[v,v]) >>= _) _ _ _
  refine Wl ?_
  refine Zy at1 rfl ?_
  rw[nm]
  refine WD ⟨YK Yt _,Kx W cm hS _ (n - 1) 0 _ v (by omega) (W.frame _ _ _ st1 λc hc o e=>(XB _ _ (λz:S=c=>hS (by rw[z];exact hc))).trans e) pv ⟨_,Z2 _ at1 rfl⟩ λv' g' tk' p' kp'=>?_⟩
  exact f1 v' g' tk' hn p' λc o c1 c2 e=>kp' c o c1 c2 ((XB _ _ (W9 c2)).trans (kp c o c1 e))
end
variable {s:Wu}
theorem EC (a d:Wo):argsOk "max" ⟨[a],[(OF "default", d)]⟩:=by unfold argsOk;kernel_rfl
theorem Em (d:Wo):zas "max" ["key", "default"] 0 ⟨[],[(OF "default", d)]⟩=pure [none,some d]:=by kernel_rfl
theorem MI {id:String}{bi:Z9}{a:Args}{Q:Wo->Wu->Prop}(hk:builtinKind id=none)(hp:plainId id=true)(hb:entryFor table id=some bi)(ha:argsOk id a)
  (h:WT (WW prog w) A.in1 (bi a) (λfin s'=>match fin with
   | .done f=>(match (Except.ok f:zdh) with | .ok (.ret v)=>Q v s' | .ok _=>False | .error e=>E e s') | .again c'=>c'.quiet=true/\Y4 (WW prog w) A c' (λr s'=>match r with | .ok (.ret v)=>Q v s' | .ok _=>False | .error e=>E e s') s') E s):WT (WW prog w) A (zcj (.builtin id) a.pos a.kw) Q E s:=by
 refine wpAny_call (codeAny_call_builtin hp hb ?_);simp only[checkBuiltinCall,hk]
 unfold argsOk at ha
 split<;>rename_i sg
 ·rw[sg] at ha
  have ha':Bind.checkArgs id _ a=pure ():=ha
  rw[show (⟨a.pos,a.kw⟩:Args)=a from rfl,ha']
  exact WD h
 ·exact WD h
theorem EW {l:Addr}{xs:Array (Int×Tok)}{d:Wo}{Q:Wo->Wu->Prop}(hh:A.handled=none)(hl:s.heap.IsList l (zag xs))
  (f0:xs.size=0->∀ g tk,Kept s g->Q d { s with heap:=g,toks:=tk })
  (f1:∀ v g tk,0 < xs.size->(zag xs)[ZZ (λi j=>decide (zdw xs i > zdw xs j)) (xs.size - 1)]? = some v->Kept s g->Q v { s with heap:=g,toks:=tk }) :
  WT (WW prog w) A (zcj (.builtin "max") [.ref l] [(OF "default", d)]) Q E s:=by
 have nm:(toString "max" ++ toString ".loop" : String) = "max.loop" := by decide
 refine MI (a:=⟨[.ref l],[(OF "default", d)]⟩) F.kind_max F.plain_max F.entry_max (EC _ _) ?_
 show WT (WW prog w) A.in1 (zas "max" ["key", "default"] 0 ⟨[],[(OF "default", d)]⟩ >>= _) _ _ s
 refine Wl (zdu (Em d) ?_)
 refine Wl (WD ?_)
 refine Wl (iter_intList hl λs₂ e st hfp hlI=>?_)
 subst e
 refine Wl (Xz ?_);rw[nm]
 have W:=Walks.list (prog:=prog) (w:=w) (A:=A.in1) hh _ l hlI (zag xs)
 have n1:(zag xs).size=xs.size:=by simp[zag]
 have S0:(s.heap.push { cls:=.type "list_iterator", data:=.fields #[.ref l,.int 0 0] }).objs.size ∉ [s.heap.objs.size,l]:=λhm=>YH _ (hfp _ hm)
 have old:∀ g,(∀ c o,c ∉ [s.heap.objs.size]->c≠(s.heap.push { cls:=.type "list_iterator", data:=.fields #[.ref l,.int 0 0] }).objs.size->((s.heap.push { cls:=.type "list_iterator", data:=.fields #[.ref l,.int 0 0] }).push { cls:=.type "list", data:=.seq ([]:List Wo).toArray }).get? c=some o->g.get? c=some o)->Kept s g:=λg kp c o e=>by
  have lt:=WJ e
  exact kp c o (λh=>by rw[XO.mp h] at lt;exact YH _ lt) (by rw[Zb];exact W0 (Nat.lt_succ_of_lt lt)) (Wn _ (Wn _ e))
 refine WD ⟨YK Yt _,J3 W (CmpOf.ints_gt (zdw xs) λ_ _=>intItems_at) S0 (W.frame _ _ _ st λc _ o e=>Wn _ e) ⟨_,WN _ rfl⟩ (λz g tk kp=>?_) λv g tk hn pv kp=>?_⟩
 ·exact f0 (by rw[← n1];exact z) g tk (old g kp)
 ·rw[n1] at hn pv
  exact f1 v g tk hn pv (old g kp)
end
section
variable {X:Cx} {e d:WX} {p pos kp:Pos} {Te Td:ETr}
def SJ (K:Wj)(xs:List V)(zs:List V)(H:Hp)(Q:VK):Prop:=∃ (p:Addr) (ns:List Int) (z:V),xs=[.ref p]/\zs=[z]/\SqL K H p (ns.map V.int)/\(ns=[]->Q z H)/\(ns≠[]->∀ M,M∈ns->(∀ a∈ns,a<=M)->Q (.int M) H)
theorem Nz {t tk:TA}(hc:X.calm=true)(hg:Gl X "max")(hm:X.mg "max" = none)(ha:PA X [e] t)(hkw:PK X [⟨some (OF "default"),d,kp⟩] tk)(he:X3 pos (WH [e] X.env)=(false,XJ e X.env)::X3 pos (WH [] X.env):=by rfl)(hpl:(X3 pos (WH [e] X.env)).any (·.1)=false:=by rfl) :
  PE X (.Call (.Name "max" p) [e] [⟨some (OF "default"),d,kp⟩] pos) (λσ H Q=>t σ H λxs H1=>tk σ H1 λzs H2=>SJ X.K xs zs H2 Q):=by
 intro pins s σ H Q I h
 refine ZC (jI I hg hm (u:=.builtin "max") (by rfl) ?_)
 refine callWith_kw (thn (ha pos pins s σ H _ I h) λus s1 ⟨vs,H1,I1,r1,q1⟩=>thn (hkw pos pins s1 σ H1 _ I1 q1) λws s2 ⟨zs,H2,I2,rz,q2⟩=>?_) he hpl rfl rfl
 obtain ⟨q,ns,z,rfl,rfl,sq,k0,k1⟩:=q2
 obtain ⟨u,rfl,ru⟩:=vals1 r1
 cases ru
 obtain ⟨u,rfl,rz1⟩:=vals1 rz
 obtain ⟨its,rv,pl,_⟩:=I2.list sq
 obtain ⟨ps,rfl,rfl⟩:=gX (intsAre_of rv)
 have il:s2.heap.IsList q (zag ps.toArray):=by
  have:=pl.isList
  simpa[zag] using this
 have hs:ps.toArray.size=ps.length:=by simp
 refine EW (I2.ok.hd hc) il (λz0 g tk kp=>?_) λv g tk hn hv hk=>?_
 ·exact ⟨z,H2,I2.kept kp,rz1,k0 (by rw[hs] at z0;cases ps with | nil=>rfl | cons=>cases z0)⟩
 ·rcases intItems_at hv with ⟨t,rfl⟩
  obtain ⟨b1,b2⟩:=argBest_gt (zdw ps.toArray) (ps.toArray.size - 1)
  generalize ZZ (λi j=>decide (zdw ps.toArray i > zdw ps.toArray j)) (ps.toArray.size - 1)=m at hv b1 b2
  rw[hs] at b1 b2 hn
  have hk':m < (ps.map zdY).length:=by rw[Wm];omega
  refine ⟨.int _,H2,I2.kept hk,⟨t,rfl⟩,k1 (λz=>by rw[zco.mp z] at hn;cases hn) _ ?_ λa ha=>?_⟩
  ·rw[qy,WK hk']
   exact Yg hk'
  ·obtain ⟨j,hj,rfl⟩:=YL ha
   have:=b2 j (by rw[Wm] at hj;omega)
   rw[qy ps j,WK hj] at this
   exact this
def DB (Te Td:ETr):ETr:=λρ μ Q=>Te ρ μ λx μ1=>Td ρ μ1 λy μ2=>match x with
 | .ls xs=>∃ ns:List Int,xs=ns.map .int/\(ns=[]->Q y μ2)/\(ns≠[]->∀ M,M∈ns->(∀ a∈ns,a<=M)->Q (.int M) μ2)
 | _=>False
theorem DG (hc:X.calm=true)(hg:Gl X "max")(hm:X.mg "max" = none)(ha:LE X e Te)(hd:LE X d Td)(h1:WH [e] X.env=(false,XJ e X.env)::WH [] X.env:=by rfl)(he:X3 pos (WH [e] X.env)=(false,XJ e X.env)::X3 pos (WH [] X.env):=by rfl)(hpl:(X3 pos (WH [e] X.env)).any (·.1)=false:=by rfl) :
  LE X (.Call (.Name "max" p) [e] [⟨some (OF "default"),d,kp⟩] pos) (DB Te Td):=by
 obtain ⟨te,pe,se⟩:=ha.ex
 obtain ⟨td,pd,sd⟩:=hd.ex
 refine ⟨_,Nz hc hg hm (fm pe iQ h1) (K8 pd Pr) he hpl,λσ H ρ μ Q Q' rl h k=>se σ H ρ μ _ _ rl h λx H1 dx μ1 t1 m1 p1 h1=>sd σ H1 ρ μ1 _ _ (rl.go t1 m1) h1 λy H2 dy μ2 t2 m2 p2 h2=>?_⟩
 cases (p1.mono t2) with
 | @ls q xs ds sq l=>
  obtain ⟨ns,rfl,k0,k1⟩:=h2
  have ex:=l.ints_of
  subst ex
  exact ⟨q,ns,y,rfl,rfl,sq.sq,λz=>k _ H2 _ μ2 (t1.trans t2) m2 p2 (k0 z),λz M h3 h4=>k _ H2 _ μ2 (t1.trans t2) m2 (.int _) (k1 z M h3 h4)⟩
 | _=>exact Ww h2
end
end
section
open PySem PySem.Spec PyProof.Rows L2
def uZ (It':ATr)(G:GTr)(tt:TTr)(te:ETr)(n:Nat)(caps:List Nat):ETr:=λρ μ Q=>It' ρ μ λds μ1=>∀ p,μ1 p=none->fG p G tt te (fe ρ n caps) (λμ'=>Q (.obj p) μ') ds (up μ1 p (.lst []))
theorem JN {X:Cx}{tg iter elt:WX}{ifs:List WX}{scope:Scope}{pos spos py:Pos}{y:Str}{iy:Nat}{wi:TI}{g:TG}{tt:TT}{te:TE}{Nc:List Str}{n:Nat}{caps:List Nat}
  (hxe:X.xe=λ_ _=>False) (hcalm:X.calm=true) (hi:PI X tg iter wi)
  (hbody:∀ (cl:List (Str×Addr)) (C:Addr) (s₀:Wu) (H₀:Hp) (ex:List Addr),PG (bh X scope Nc cl C s₀ H₀ ex) tg g/\zy (bh X scope Nc cl C s₀ H₀ ex) ifs tt/\PE (bh X scope Nc cl C s₀ H₀ ex) elt te)
  (hfree:∀ y∈scope.names,y.2=.free->X.env.kindOf y.1=some .cell) (hcell:∀ y∈scope.names,y.2≠.cell) (gB:scope.kind=.function)
  (hnames:∀ y∈scope.names,y.2=.local->scope.names.lookup y.1=some .local) (hlen:Nc.length=n+caps.length)
  (hcap:∀ (j k:Nat),caps[j]? = some k->∃ x,Nc[n+j]? = some x/\X.N[k]? = some x/\scope.names.lookup x=some .free)
  (pgy:PG X (.Name y py) (mN iy))
  (hsw:YA (.ListComp elt [⟨tg,iter,ifs,0⟩] scope pos) (some (.Name y py)) spos.line X.env=pure true)
  (hs:∀ x,Xn iter X.env x=pure x:=by intro _;rfl) :
  PS X (.Assign [.Name y py] (.ListComp elt [⟨tg,iter,ifs,0⟩] scope pos) spos) (IG (kY wi g tt te n caps) (mN iy)):=
 xf (Z:=id) hxe hcalm hi hbody hfree hcell gB hnames hlen hcap pgy hsw (λσ H Q h=>⟨_,h,λpins D H5 s5 I5 q=>⟨H5,λ_ h=>h,I5,q⟩⟩) hs
theorem DO {K:Wj}{wi:TI}{It':ATr}{G:GTr}{Tt:TTr}{Te:ETr}{n:Nat}{caps:List Nat}(si:Pb K wi It'):Sim K (kY wi (mC K n G) (liftT K Tt) (mB K Te) n caps) (uZ It' G Tt Te n caps):=by
 intro σ H ρ μ Q Q' rl h k
 refine si σ H ρ μ _ _ rl h λJ H1 ds μ1 t1 m1 Y h1 D hD=>?_
 have hp:=h1 D (m1.free hD)
 have tD:Tk H1 (L2.upd H1 D (.lst [])):=.new hD
 have mD:bM K (L2.upd H1 D (.lst [])) (up μ1 D (.lst [])):=λa o e=>by
  by_cases ha:a=D
  ·subst ha
   rw[aE] at e;cases e
   exact ⟨[],aM,.nil⟩
  ·rw[aS ha] at e
   exact cw m1 hD a o e
 refine ⟨λi m ys H2=>m=ds.length - i/\i<=ds.length/\Tk H1 H2/\∃ μ2,bM K H2 μ2/\fG D G Tt Te (fe ρ n caps) (λμ'=>Q (.obj D) μ') (ds.drop i) μ2,
  ⟨ds.length,by simp,XX _,tD,_,mD,by simpa using hp⟩,?_⟩
 rintro i m ys H2 ⟨rfl,hi,t12,μ2,m2,h2⟩
 by_cases hlt:i < ds.length
 ·refine .inr ⟨Y.go i H2 t12 hlt,λys' H'=>Tk H1 H'/\∃ μ',bM K H' μ'/\fG D G Tt Te (fe ρ n caps) (λμ'=>Q (.obj D) μ') (ds.drop (i+1)) μ',λys' H' ⟨t',μ',m',h'⟩=>⟨ds.length - (i+1),by omega,rfl,hlt,t',μ',m',h'⟩,λx H3 y=>?_⟩
  obtain ⟨t23,⟨d,ed,pd⟩,mk⟩:=Y.yld i H2 x H3 t12 hlt y
  have e:ds.drop i=d::ds.drop (i+1):=by
   refine (Ye hlt).trans ?_
   congr 1
   rw[WK hlt] at ed
   exact Xg ed
  rw[e] at h2
  have t13:=t12.trans t23
  have r3:Rl K (kK σ n caps) H3 (fe ρ n caps) μ2:=pG (rl.go (t1.trans t13) (mk _ m2)) n caps
  refine ⟨_,_,d,_,r3,pd,h2,λσ4 H4 ρ4 μ4 t4 r4 kp h4=>⟨⟨kp.1.symm,λj v ej=>?_⟩,_,_,_,r4,h4,λb H5 μ5 t5 m5 h5=>?_⟩⟩
  ·by_cases hj:n<=j
   ·rw[kp.2 j hj];exact ej
   ·obtain ⟨j',k',e1,_⟩:=jO ej
    omega
  ·have t15:=t13.trans (t4.trans t5)
   cases b with
   | false=>exact qd ⟨t15,μ5,m5,h5⟩
   | true=>
    refine qB ⟨_,_,_,r4.go t5 m5,h5,λv H6 d6 μ6 t6 m6 p6 h6=>?_⟩
    obtain ⟨zs,ez,lz,h7⟩:=bU h6
    obtain ⟨xs,ex,lx⟩:=m6 D _ ez
    have t67:Tk H6 (L2.upd H6 D (.lst (xs++[v]))):=.upd (λys z=>by rw[ex] at z;cases z) λo' u z=>by rw[ex] at z;cases z
    refine ⟨xs,ex,by rw[lx.length];exact WS lz (by decide),(t15.trans t6).trans t67,up μ6 D (.lst (zs++[d6])),λa o ea=>?_,h7⟩
    by_cases ha:a=D
    ·subst ha
     rw[aE] at ea;cases ea
     exact ⟨_,aM,(lx.append (.cons p6 .nil)).mono t67⟩
    ·rw[aS ha] at ea
     exact (m6 a _ ea).ne t67 ha
 ·have e:i=ds.length:=by omega
  subst e
  rw[Ys] at h2
  exact .inl ⟨Y.stop _ H2 t12 (WG _),k _ _ _ μ2 (t1.trans t12) m2 (.obj _) h2⟩
theorem Ga {X:Cx}{tg elt iter:WX}{Te:ETr}{Tt:TTr}{pos spos py:Pos}{y:Str}{It':ATr}{G:GTr}{ifs:List WX}{scope fsc:Scope}(iy:Nat)(hN:X.N.Nodup)(XN Nc:List Str)(n:Nat)(caps:List Nat)(hxe:X.xe=λ_ _=>False)(hcalm:X.calm=true)(hi:LI X tg iter It')
  (hbody:∀ (cl:List (Str×Addr)) (C:Addr) (s₀:Wu) (H₀:Hp) (ex:List Addr),LGc (bh X scope Nc cl C s₀ H₀ ex) n tg G/\xA (bh X scope Nc cl C s₀ H₀ ex) ifs Tt/\LE (bh X scope Nc cl C s₀ H₀ ex) elt Te)
  (hsc:X.env.scope=fsc) (hXN:X.N=XN) (hok:ip fsc.names XN scope Nc n caps=true)
  (hiy:X.N[iy]? = some y:=by rfl) (hx:Loc X.env.scope y:=by first | exact ZV rfl | exact ZW rfl) (hf:X.fn y=true∨X.env.scope.names.lookup y=some .local:=by first | exact .inl rfl | exact .inr rfl | assumption)
  (hsw:YA (.ListComp elt [⟨tg,iter,ifs,0⟩] scope pos) (some (.Name y py)) spos.line X.env=pure true:=by rfl)
  (hs:∀ x,Xn iter X.env x=pure x:=by intro _;rfl) :
  LS X (.Assign [.Name y py] (.ListComp elt [⟨tg,iter,ifs,0⟩] scope pos) spos) (aP (uZ It' G Tt Te n caps) (ax iy)):=by
 unfold ip at hok
 simp only[Xm,Zl] at hok
 obtain ⟨⟨⟨h1,h2⟩,h3⟩,h4⟩:=hok
 obtain ⟨wi,pi,si⟩:=hi.ex
 refine ⟨_,JN (g:=mC X.K n G) (tt:=liftT X.K Tt) (te:=mB X.K Te) hxe hcalm pi (λcl C s₀ H₀ ex=>let ⟨h1,h2,h3⟩:=hbody cl C s₀ H₀ ex;⟨h1.pe,h2.pe,h3.pe⟩) (λy hy hf=>?_) (λy hy hf=>?_) (by simpa using h2) (λy hy hf=>?_) (by simpa using h3) (λj k hj=>?_) (iL hN hiy hx hf) hsw hs,λσ H ρ μ E E' rl h k=>DO si σ H ρ μ _ _ rl h λv H' d μ' t' m' p' h'=>iH iy σ H' ρ μ' v d _ _ (rl.go t' m') p' h' (k.go t').nx⟩
 ·have:=(h1 y hy).1.1
  show X.env.scope.names.lookup y.1=_
  rw[hsc]
  simpa[hf] using this
 ·have:=(h1 y hy).1.2
  simp[hf] at this
 ·have:=(h1 y hy).2
  simpa[hf] using this
 ·have hl:j < caps.length:=(W4.mp hj).1
  have:=h4 j (YM.mpr hl)
  rw[hj] at this
  dsimp only at this
  rw[hXN]
  cases e:XN[k]? with
  | none=>rw[e] at this;cases this
  | some x=>
   rw[e] at this
   dsimp only at this
   rw[Xm] at this
   exact ⟨x,by simpa using this.1,rfl,by simpa using this.2⟩
def Ab (ds:List D)(x:D):Nat:=ds.countP λy=>eqD y x
theorem Hq {X:Cx}{pins:List (Addr×Obj)}{σ:L2.St}{H:Hp}{s:Wu}(I:Inv X pins σ H s){dy:D}(oy:okD 38 dy=true):∀ {vs:List V} {ds:List D} {us:List Wo},DpL X.K H vs ds->Vals vs us->cz 38 ds=true->us.countP (lG s.heap (toP dy))=Ab ds dy
 | _,_,_,.nil,.nil,_=>Eq.refl _
 | _,d::ds,u::us,.cons p l,.cons r rs,ok=>by
  have ok':okD 38 d=true/\cz 38 ds=true:=by simpa[cz] using ok
  obtain ⟨as,ra⟩:=dk I p ok'.1 r
  obtain ⟨l1,_⟩:=gH 38 d ok'.1
  have e:lG s.heap (toP dy) u=eqD d dy:=by rw[DI ra l1,mO 38 38 d dy ok'.1 oy]
  unfold Ab
  rw[zdn,zdn,e,Hq I oy l rs ok'.2]
  rfl
theorem Hx {X:Cx}(hu:X.A.units+64 < cLine):MtM X "list.count" (λx vs H Q=>∃ p xs y ds dy,x=.ref p/\vs=[y]/\SqL X.K H p xs/\DpL X.K H xs ds/\Dp X.K H y dy/\cz 38 ds=true/\okD 38 dy=true/\Q (.int (Ab ds dy)) H):=by
 intro pins s σ H x vs v us Q I rx rv h
 obtain ⟨p,xs,y,ds,dy,rfl,rfl,sq,l,py,ok,oy,q⟩:=h
 cases (show v=Xc p from rx)
 obtain ⟨u,rfl,ru⟩:=rv.one
 obtain ⟨its,r,⟨o,n,e,c,hd,hdat⟩,_⟩:=I.list sq
 obtain ⟨bs,rb⟩:=dk I py oy ru
 have he:s.heap.get? p=some ⟨.type "list", none,.seq its.toArray n,o.slots⟩:=by
  rw[e];obtain ⟨c',dd,dt,sl⟩:=o;simp only at c hd hdat;subst c hd hdat;rfl
 have ea:=Hq I oy l r ok
 have fin:Q (.int (its.toArray.toList.countP (lG s.heap (toP dy)):Nat)) H:=by rw[show its.toArray.toList=its from rfl,ea];exact q
 refine Z5 F.slot_list_count ⟨_,he,rfl⟩ F.entry_list_count (F.args_list_count_2 _ _) (SeqAt.list_countAt p its.toArray n none o.slots u (lG s.heap (toP dy))) ⟨he,(qc I hu l r ok oy rb).1,?_⟩
 exact ⟨.int _,H,I.tok _,⟨_,rfl⟩,fin⟩
def A4 (To Ti:ETr):ETr:=λρ μ Q=>To ρ μ λx μ1=>qg μ1 x λ_=>Ti ρ μ1 λy μ2=>qg μ2 x λds=>(cz 38 ds=true/\okD 38 y=true)/\Q (.int (Ab ds y)) μ2
section
variable {X:Cx} {o i:WX} {To Ti:ETr} {apos cpos:Pos}
theorem le_count (hu:X.A.units+64 < cLine)(ho:LE X o To)(hi:LE X i Ti)
  (hbase:Zu o "count" X.env (XJ o X.env)=XJ o X.env:=by rfl)
  (hfew:((X3 cpos (WH [i] X.env)).all (λx=>!x.1)&&(zax cpos (Y7 [] X.env)).all (λx=>x.1.isSome)
   && decide (([i]:List WX).length+([]:List Zh).length+(if ([]:List Zh).isEmpty then 0 else 1) < 30))=true:=by rfl)
  (hline:(apos.endLine == cpos.line)=true:=by rfl) (hs:WH [i] X.env=(false,XJ i X.env)::WH [] X.env:=by rfl) (hplain:(X3 cpos (WH [] X.env)).any (·.1)=false:=by rfl) :
  LE X (.Call (.Attribute o "count" apos) [i] [] cpos) (A4 To Ti):=by
 obtain ⟨to,po,so⟩:=ho.ex
 obtain ⟨ti,pi,si⟩:=hi.ex
 refine ⟨_,zu Yk PySem.F.slot_list_count PySem.F.type_list_count (Hx hu) po (fm pi iQ hs) hbase hfew hline hs hplain,λσ H ρ μ Q Q' rl h k=>so σ H ρ μ _ _ rl h λx H1 dx μ1 t1 m1 p1 h1=>?_⟩
 obtain ⟨q,xs0,ds0,rfl,sq0,l0,h1⟩:=mE m1 p1 h1
 refine ⟨.inl ⟨rfl,_,sq0⟩,si σ H1 ρ μ1 _ _ (rl.go t1 m1) h1 λy H2 dy μ2 t2 m2 p2 h2=>?_⟩
 obtain ⟨q',xs,ds,eq,sq,l,h2⟩:=mE m2 (p1.mono t2) h2
 cases eq
 obtain ⟨⟨o1,o2⟩,h2⟩:=h2
 exact ⟨q,xs,y,ds,dy,rfl,rfl,sq,l,p2,o1,o2,k _ H2 _ μ2 (t1.trans t2) m2 (.int _) h2⟩
end
end
section
open PySem PySem.Spec PyProof.Rows L2
section
variable {X:Cx} {o i:WX} {To Ti:ETr} {apos cpos:Pos}
theorem Bn (l:Addr)(its:Array Wo)(n:Nat)(q:Addr)(its2:Array Wo)(n2:Nat)(dd:Option Addr)(sl:Array (Option Wo))(h0:¬ (!its.isEmpty&&XZ (its.size+its2.size))=true)(h1:its.size<=sizeLine)(h2:its.size+its2.size<=sizeLine+1) :
  Meets (Z9.«list.extend» ⟨[.ref l,.ref q],[]⟩) (λ_ R s=>s.heap.get? l=some { cls:=.type "list", dict:=none,data:=.seq its n,slots:=#[] }/\s.heap.get? q=some { cls:=.type "tuple", dict:=dd,data:=.seq its2 n2,slots:=sl }/\
   R (.ok (.ret YG)) { s with heap:=s.heap.update l (zbs λx=>x++its2) }):=
 .of_wp λprog w A R s h=>by
  rcases s with ⟨hp,g,d,tk,os⟩
  obtain ⟨hl,hb,h⟩:=h
  have z1:=zby
  have z2:=Z7
  have z3:=zao
  have z4:=zae
  have z5:=zaf
  have hz':(its++its2).size<=sizeLine+1:=by rw[zc7];omega
  wp_walk using (Zy hl rfl (hz:=h1) (_hz':=hz')),zap hl,zap hb
  exact ⟨_,rfl,h⟩
def Ut (K:Wj):V->List V->Hp->VK->Prop:=λx vs H Q=>∃ l b xs zs,x=.ref l/\vs=[.ref b]/\H l=some (.lst xs)/\(SqL K H b zs∨SqT K H b zs)/\xs.length+zs.length<=sizeLine/\Q .non (L2.upd H l (.lst (xs++zs)))
theorem MK:MtM X "list.extend" (Ut X.K):=by
 intro pins s σ H x vs v us Q I rx rv h
 obtain ⟨l,q,xs,zs,rfl,rfl,hH,hB,hz,qq⟩:=h
 rcases hB with hB | hB
 ·exact QV pins s σ H _ _ v us Q I rx rv ⟨l,q,xs,zs,rfl,rfl,hH,hB,hz,qq⟩
 cases (show v=Xc l from rx)
 obtain ⟨u,rfl,ru⟩:=rv.one
 cases (show u=Xc q from ru)
 obtain ⟨z,its,n,r,hl,e⟩:=I.NO hH
 obtain ⟨its2,r2,⟨o,e2,c2,n2,dat2⟩,_⟩:=I.tuple hB
 have e2':s.heap.get? q=some ⟨.type "tuple", o.dict,.seq its2.toArray n2,o.slots⟩:=by
  rw[e2];obtain ⟨c',dd,dt,sl⟩:=o;simp only at c2 dat2;subst c2 dat2;rfl
 have hl2:=r2.length
 have hs2:its.toArray.size+its2.toArray.size<=sizeLine:=by rw[WR,WR];omega
 have ID:¬ (!its.toArray.isEmpty&&XZ (its.toArray.size+its2.toArray.size))=true:=by
  rw[xh hs2,zb4];decide
 refine Z5 zcP ⟨_,e,rfl⟩ zcn (zb5 _ _) (Bn l its.toArray n q its2.toArray n2 o.dict o.slots ID (by omega) (by omega)) ⟨e,e2',?_⟩
 refine ⟨.non,_,I.LN (its':=its++its2) hH e (by simp) (r.append r2) ?_,rfl,qq⟩
 rw[Wv];omega
def ur (To Ti:ETr):ETr:=λρ μ Q=>To ρ μ λx μ1=>kObj x λa=>kL μ1 a λ_=>Ti ρ μ1 λy μ2=>DW μ2 y λes=>kL μ2 a λds=>ds.length+es.length<=1000000/\Q .non (up μ2 a (.lst (ds++es)))
theorem FV {K:Wj}{H:Hp}{μ:Mu}{x:V}{dx:D}{f:List D->Prop}(m:bM K H μ)(p:Dp K H x dx)(h:DW μ dx f):∃ q xs ds,x=.ref q/\(SqL K H q xs∨SqT K H q xs)/\DpL K H xs ds/\f ds:=by
 cases p with
 | tup sq l=>exact ⟨_,_,_,rfl,.inr sq,l,h⟩
 | ls sq l=>exact ⟨_,_,_,rfl,.inl sq.sq,l,h⟩
 | obj q=>
  obtain ⟨ds,e0,h⟩:=bU (show kL μ q _ from h)
  obtain ⟨xs,ex,l⟩:=m q _ e0
  exact ⟨q,xs,ds,rfl,.inl (SqL.of ex),l,h⟩
 | _=>exact Ww h
theorem pJ (ho:LE X o To)(hi:LE X i Ti)
  (hbase:Zu o "extend" X.env (XJ o X.env)=XJ o X.env:=by rfl)
  (hfew:((X3 cpos (WH [i] X.env)).all (λx=>!x.1)&&(zax cpos (Y7 [] X.env)).all (λx=>x.1.isSome)
   && decide (([i]:List WX).length+([]:List Zh).length+(if ([]:List Zh).isEmpty then 0 else 1) < 30))=true:=by rfl)
  (hline:(apos.endLine == cpos.line)=true:=by rfl) (hs:WH [i] X.env=(false,XJ i X.env)::WH [] X.env:=by rfl) (hplain:(X3 cpos (WH [] X.env)).any (·.1)=false:=by rfl) :
  LE X (.Call (.Attribute o "extend" apos) [i] [] cpos) (ur To Ti):=by
 obtain ⟨to,po,so⟩:=ho.ex
 obtain ⟨ti,pi,si⟩:=hi.ex
 refine ⟨_,zu Yk PySem.F.slot_list_extend PySem.F.type_list_extend MK po (fm pi iQ hs) hbase hfew hline hs hplain,λσ H ρ μ Q Q' rl h k=>so σ H ρ μ _ _ rl h λx H1 dx μ1 t1 m1 p1 h1=>?_⟩
 obtain ⟨q,rfl,h1⟩:=dD p1 h1
 obtain ⟨ds0,e0,h1⟩:=bU h1
 obtain ⟨xs0,ex0,_⟩:=m1 q _ e0
 refine ⟨.inl ⟨rfl,_,SqL.of ex0⟩,si σ H1 ρ μ1 _ _ (rl.go t1 m1) h1 λy H2 dy μ2 t2 m2 p2 h2=>?_⟩
 obtain ⟨q',ys,es,rfl,sq,l',h2⟩:=FV m2 p2 h2
 obtain ⟨ds,e2,hz,h2⟩:=bU h2
 obtain ⟨xs,ex,l⟩:=m2 q _ e2
 exact ⟨q,q',xs,ys,rfl,rfl,ex,sq,by rw[l.length,l'.length];exact big hz,k _ _ _ _ ((t1.trans t2).trans (lI ex)) (J2 m2 ex (l.append l')) .non h2⟩
end
end
theorem Mx (a b:ETr)(ρ:ST)(μ:Mu)(Q:DK):Jr a b ρ μ Q=a ρ μ λx μ1=>b ρ μ1 λy μ2=>kI x λi=>kI y λj=>((-4611686018427387904<=i/\i < 4611686018427387904)/\(-4611686018427387904<=j/\j < 4611686018427387904)/\(j - i).toNat<=1000000)/\Q (.tup (cE i (j - i).toNat)) μ2:=propext Wr
def RY (x y:D)(μ:Mu)(Q:DK):Prop:=match x with
 | .ls xs=>∃ ns:List Int,xs=ns.map .int/\(ns=[]->Q y μ)/\(ns≠[]->∀ M,M∈ns->(∀ a∈ns,a<=M)->Q (.int M) μ)
 | _=>False
theorem Nh (a b:ETr)(ρ:ST)(μ:Mu)(Q:DK):DB a b ρ μ Q=a ρ μ λx μ1=>b ρ μ1 λy μ2=>RY x y μ2 Q:=propext Wr
theorem Ge (a b:ETr)(ρ:ST)(μ:Mu)(Q:DK):A4 a b ρ μ Q=a ρ μ λx μ1=>qg μ1 x λ_=>b ρ μ1 λy μ2=>qg μ2 x λds=>(cz 38 ds=true/\okD 38 y=true)/\Q (.int (Ab ds y)) μ2:=propext Wr
theorem MF (a b:ETr)(ρ:ST)(μ:Mu)(Q:DK):ur a b ρ μ Q=a ρ μ λx μ1=>kObj x λa=>kL μ1 a λ_=>b ρ μ1 λy μ2=>DW μ2 y λes=>kL μ2 a λds=>ds.length+es.length<=1000000/\Q .non (up μ2 a (.lst (ds++es))):=propext Wr
theorem Qc (μ:Mu)(ds:List D)(f:List D->Prop):DW μ (.tup ds) f=f ds:=propext Wr
theorem O9 (μ:Mu)(ds:List D)(f:List D->Prop):DW μ (.ls ds) f=f ds:=propext Wr
def ENM (vs:List D)(μ:Mu)(Q:List D->Mu->Prop):Prop:=match vs with
 | [x]=>kS x λds=>Q (kW ds) μ
 | _=>False
theorem KL (t:ATr)(ρ:ST)(μ:Mu)(Q:List D->Mu->Prop):Ig t ρ μ Q=t ρ μ λvs μ1=>ENM vs μ1 Q:=propext Wr
theorem Ua (x:D)(μ:Mu)(Q:List D->Mu->Prop):ENM [x] μ Q=kS x λds=>Q (kW ds) μ:=propext Wr
def Oe (G:GTr)(tt:TTr)(te:ETr)(ρc:ST)(ds:List D)(μ:Mu)(Q:DK):Prop:=∀ p,μ p=none->fG p G tt te ρc (λμ'=>Q (.obj p) μ') ds (up μ p (.lst []))
theorem Gj (it:ATr)(G:GTr)(tt:TTr)(te:ETr)(n:Nat)(caps:List Nat)(ρ:ST)(μ:Mu)(Q:DK):uZ it G tt te n caps ρ μ Q=it ρ μ λds μ1=>Oe G tt te (fe ρ n caps) ds μ1 Q:=propext Wr
theorem JX (xs:List D)(μ:Mu)(Q:DK):iW pU [.tup xs] μ Q = ∃ ns:List Int,(xs=ns.map .int/\ns.length < 64)/\∀ ns':List Int,ns'.Perm ns->ns'.Pairwise (·<=·)->Q (.ls (ns'.map .int)) μ:=propext Wr
theorem M9 (xs:List D)(μ:Mu)(Q:DK):iW yn [.ls xs] μ Q = ∃ ns:List Int,xs=ns.map .int/\Q (.int ns.sum) μ:=propext Wr
theorem Tv (o:Option Int)(μ Q):rIs (dF o) .non μ Q=Q (.bl (decide (o=none))) μ:=by cases o<;>simp[rIs,dF]
def fc (ns:List Int):List Int:=ns.mergeSort (λa b=>decide (a<=b))
theorem lD (ns:List Int):(fc ns).Perm ns:=List.mergeSort_perm ..
theorem HE (ns:List Int):(fc ns).Pairwise (·<=·):=by
 have:=List.pairwise_mergeSort (le:=λa b:Int=>decide (a<=b)) (λa b c h1 h2=>by simp at *;omega) (λa b=>by simp;omega) ns
 exact this.imp λh=>by simpa using h
theorem oP:∀ {a b:List Int},a.Perm b->a.Pairwise (·<=·)->b.Pairwise (·<=·)->a=b
 | [],b,h,_,_=>(List.nil_perm.mp h).symm
 | x::a,[],h,_,_=>absurd h (by simp)
 | x::a,y::b,h,ha,hb=>by
  have ha':=ZF.mp ha
  have hb':=ZF.mp hb
  have hx:x∈y::b:=h.mem_iff.mp WL
  have hy:y∈x::a:=h.mem_iff.mpr WL
  have e:x=y:=by
   rcases WM.mp hx with e | e
   ·exact e
   ·rcases WM.mp hy with e' | e'
    ·exact e'.symm
    ·have h1:=ha'.1 y e'
     have h2:=hb'.1 x e
     omega
  subst e
  rw[oP ((List.perm_cons x).mp h) ha'.2 hb'.2]
theorem xJ {a ns:List Int}(h:a.Perm ns)(s:a.Pairwise (·<=·)):a=fc ns:=oP (h.trans (lD ns).symm) s (HE ns)
theorem nI (ns:List Int):(fc ns).length=ns.length:=(lD ns).length_eq
def own (n:Str)(ls:List Lt):List Lt:=ls.filter λl=>decide (l.nm=n)
def St'.und (x:St')(n:Str):Int:=(x.ws.map λw=>((own n (w.cm++w.st)).length:Int)).sum
def js (lf:Option Int)(places:Int):Int:=match lf with
 | none=>places
 | some l=>min places l
def rgI (a:Int)(n:Nat):List Int:=(W5 n).map λ(i:Nat)=>a+(i:Int)
theorem Ue (a:Int)(n:Nat):cE a n=(rgI a n).map .int:=by unfold cE rgI;rw[Wz];rfl
def Ss.fill (x:Ss)(pl:Nat):Ss×List Int:=
 let c:=js x.lf ((pl:Int) - ((x.ag.take pl).length:Int))
 (⟨x.nm,x.du,x.W,x.S,x.nx+c,x.lf.map (· - c),x.ag.drop (x.ag.take pl).length,x.lo,x.gd,x.mk',x.wt⟩,x.ag.take pl++rgI x.nx c.toNat)
def Ss.hd (x:Ss):Hd:=⟨x.gd,x.mk',x.lo.length,x.wt⟩
def Ss.rdy (g:Int)(R:RN)(x:Ss):Ss:=⟨x.nm,x.du,(R.beh g x.W x.S x.hd).1,(R.beh g x.W x.S x.hd).2,x.nx,x.lf,fc (x.ag++x.lo),[],0,0,0⟩
def Ss.bt (g:Int)(s:Sn)(x:Ss)(u:Int):Ss×List Int:=if x.du=some 0 then (x.rdy g s.rl).fill (max 0 ((s.rl.beh g x.W x.S x.hd).1 / g - u)).toNat else (x,[])
def c8 (ns:List (List Int)):Nat:=(ns.map Xr).foldr max 0
def j3 (ss:List Sn)(ns:List (List Int)):List (Str×Lt):=
 (W5 (c8 ns)).flatMap λt=>(WA ss ns).filterMap λp=>p.2[t]?.map λn=>(p.1.rd.headD (OF ""),⟨p.1.nm,n,0,0,0⟩)
def sdD (x:Str×Lt):D:=.tup [.str x.1,x.2.toD]
structure Wt where
 ca:List Lt
 lo:List Lt
 ou:List Lt
 st:List Lt
 la:Str
def Wt.toD (x:Wt):D:=.tup [.tup (ltD x.ca),.tup (ltD x.lo),.tup (ltD x.ou),.tup (ltD x.st),.str x.la]
def pass (w:Wy)(ns:List Str)(k:Ws)(aJ:List (Str×Lt)):Wt:=
 let ca:=k.cm++(aJ.filter λx=>decide (x.1=w.nm)).map (·.2)
 let h:=tk w k.st ca
 let t:=b7 w ns h.1 k.la
 ⟨ca,h.2,t.1,t.2.1,t.2.2⟩
def eI (ss:List Sn):List (L2.Key×D):=ss.map λs=>(.inr s.nm,.tup (s.rd.map .str))
def road (ss:List Sn)(n:Str):List Str:=((ss.find? λs=>decide (s.nm=n)).map Sn.rd).getD []
def cy (ss:List Sn)(l:Lt):Option Str:=(road ss l.nm)[l.hp.toNat+1]?
def yg:Option Str->D
 | none=>.non
 | some s=>.str s
structure Ev where
 wd:Str
 nm:Str
 nu:Int
 wy:Str
def Ev.toD (x:Ev):D:=.tup [.str x.wd,.str x.nm,.int x.nu,.str x.wy]
abbrev evD (xs:List Ev):List D:=xs.map Ev.toD
def evs (ss:List Sn)(w:Wy)(x:Wt):List Ev:=
 (x.ca.zipIdx.map λp=>⟨if (p.2:Int) < (x.ca.length:Int) - x.lo.length then OF "in" else OF "lost", p.1.nm,p.1.nu,w.nm⟩) ++
 x.ou.map λl=>⟨if cy ss l=none then OF "taken" else OF "out", l.nm,l.nu,w.nm⟩
def Lt.hU (x:Lt)(h:Int):Lt:=⟨x.nm,x.nu,x.ag+1,x.hp+h,x.mr⟩
def nr (ss:List Sn)(w:Wy)(x:Wt)(out:List Lt):Ws:=⟨(out.filter λl=>decide (cy ss l=some w.nm)).map (·.hU 1),x.st.map (·.hU 0),x.la⟩
def zR (s:Sn)(d:Option Int):Option Int:=d.map λi=>if i=0 then s.bt - 1 else i - 1
def su (d:Int):List Int->Int
 | []=>d
 | a::r=>(a::r).tail.foldl max a
def mQ (s:Sn)(x:Ss)(bz taken:List Lt):Ss:=
 let o:=own s.nm taken
 let m:=(o.map Lt.mr).sum
 ⟨x.nm,zR s x.du,x.W,x.S,x.nx,x.lf,x.ag,fc (x.lo++(own s.nm bz).map Lt.nu),x.gd+o.length - m,x.mk'+m,max x.wt (su 0 (o.map λl=>l.ag - l.hp))⟩
def Pn.bL (p:Pn)(st:St'):List (Ss×List Int):=XF (λs k=>k.bt p.g s (st.und k.nm)) p.ss st.ss
def Pn.aJ (p:Pn)(st:St'):List (Str×Lt):=j3 p.ss ((p.bL st).map (·.2))
def Pn.bC (p:Pn)(st:St'):List Wt:=XF (λw k=>pass w p.sn k (p.aJ st)) p.ws st.ws
def Pn.bz (p:Pn)(st:St'):List Lt:=(p.bC st).flatMap Wt.lo
def Pn.out (p:Pn)(st:St'):List Lt:=(p.bC st).flatMap Wt.ou
def Pn.taken (p:Pn)(st:St'):List Lt:=(p.out st).filter λl=>decide (cy p.ss l=none)
def Pn.step (p:Pn)(st:St'):St':=⟨XF (λw x=>nr p.ss w x (p.out st)) p.ws (p.bC st),XF (λs b=>mQ s b.1 (p.bz st) (p.taken st)) p.ss (p.bL st)⟩
def Pn.evs (p:Pn)(st:St'):List Ev:=(p.aJ st).map (λx=>⟨OF "sent", x.2.nm,x.2.nu,x.1⟩)++(XF (λw x=>L3.evs p.ss w x) p.ws (p.bC st)).flatten
theorem UI (x:Wt)(μ:Mu)(Q:DK):L3.rIx x.toD (.int 0) μ Q=Q (.tup (ltD x.ca)) μ:=propext Wr
theorem UM (x:Wt)(μ:Mu)(Q:DK):L3.rIx x.toD (.int 1) μ Q=Q (.tup (ltD x.lo)) μ:=propext Wr
theorem Vi (x:Wt)(μ:Mu)(Q:DK):L3.rIx x.toD (.int 2) μ Q=Q (.tup (ltD x.ou)) μ:=propext Wr
theorem VM (x:Wt)(μ:Mu)(Q:DK):L3.rIx x.toD (.int 3) μ Q=Q (.tup (ltD x.st)) μ:=propext Wr
theorem Wb (x:Wt)(μ:Mu)(Q:DK):L3.rIx x.toD (.int 4) μ Q=Q (.str x.la) μ:=propext Wr
theorem VP (x:Ev)(μ:Mu)(Q:DK):L3.rIx x.toD (.int 0) μ Q=Q (.str x.wd) μ:=propext Wr
theorem Vf (x:Ev)(μ:Mu)(Q:DK):L3.rIx x.toD (.int 1) μ Q=Q (.str x.nm) μ:=propext Wr
theorem Tj (i0 i1:Nat)(x:Str×Lt)(ρ:ST)(μ:Mu)(k:ST->Mu->Prop):de [i0,i1] (sdD x) ρ μ k=de [i0,i1] (.tup [.str x.1,x.2.toD]) ρ μ k:=propext Wr
def RN.sh1 (R:RN)(g S:Int)(h:Hd):Int:=if R.idle h then S else R.shr g S h
theorem MN (R:RN)(g W S:Int)(h:Hd):(R.beh g W S h).2=R.sh1 g S h:=by
 unfold RN.beh RN.sh1;split<;>rfl
theorem PU {R:RN}(k:R.Ok){g S:Int}{h:Hd}(H:h.Ok)(g0:0 < g)(S0:0<=S)(S1:S<=g):0<=R.sh1 g S h/\R.sh1 g S h<=g:=by
 unfold RN.sh1
 split
 ·exact ⟨S0,S1⟩
 ·rename_i hn;exact Io k H hn g0 S0 S1
theorem LH {R:RN}(K:R.Ok){g:Int}(g0:0 < g)(x:Int):g<=R.clip g x/\R.clip g x<=R.cap g:=by
 have c2:=Fp K (g:=g) g0
 unfold RN.clip;omega
def Ug:=Jn @Mx <| Jn @Nh <| Jn @Ge <| Jn @MF <| Jn @Qc <| Jn @O9 <| Jn @KL <| Jn @Ua <| Jn @Gj <| Jn @JX <| Jn @M9 <| Jn @Tv <| Jn @UI <| Jn @UM <| Jn @Vi <| Jn @VM <| Jn @Wb <| Jn @VP <| Jn @Vf <| Jn @Tj <| @SM
local macro_rules | `(tactic| walk_at "go")=>zzS "↓L3.Ug L3.Et ↓L3.xK ↓L3.wI ↓L3.wC ↓L3.xu ↓L3.zp ↓L3.wN ↓L3.kC ↓L3.je L3.cq L3.bY L3.cC L3.cf L3.ck L3.cD L3.cS L3.cV L3.bX L3.cv L3.cu L3.cx L3.cA L3.cT L3.cF L3.c6 L3.cB L3.cX L3.cj L3.c5 L3.jf L3.vv L3.wm L3.fe List.map_cons List.map_nil List.replicate List.cons_append List.nil_append L3.lk L3.DY L3.DZ L3.uY L3.kj L3.fu L3.uC L3.gU L3.m7 L3.nM L3.kx L3.ki L3.ky L3.kq true_and and_true and_self Bool.not_true Bool.not_false decide_true decide_false Bool.or_true Bool.or_false Bool.true_or Bool.false_or Bool.and_false Bool.false_and Bool.and_true Bool.true_and Int.reduceToNat Int.reducePow Int.reduceNeg Int.reduceSub Int.reduceAdd Int.reduceMul Int.reduceEq Int.reduceLT Int.reduceLE Int.reduceBEq L3.iC L3.fV L3.fL L3.fX L3.fS L3.fO L3.fQ L3.fK if_true if_false Bool.false_eq_true reduceCtorEq decide_eq_true_eq"
theorem eF {α β:Type}(p:α->Prop) [DecidablePred p] (f:α->β):∀ xs:List α,xs.filterMap (λx=>if p x then some (f x) else none)=(xs.filter λx=>decide (p x)).map f
 | []=>rfl
 | x::r=>by by_cases h:p x<;>simp[h,eF p f r]
theorem Jb {μ:Mu}{Q:DK}(ls:List Lt)(n:Str)(hl:ls.length<=900000)(ok:∀ x∈ls,WC x.nm=true)(hn:WC n=true)(k:Q (.ls (ltD (own n ls))) μ) :
  vg (ax 0) (TB (ak rEq (ak rIx (ai 0) (TC (.int 0))) (ai 1))) (ai 0) [none,some (.str n)] (ltD ls) μ Q:=by
 refine j6 ls Lt.toD (λx=>if x.nm=n then some x.toD else none) rfl (by omega) (λx hx μ' _ N nn=>?_) ?_
 ·walk_at "go"
  refine ⟨⟨ok x hx,hn⟩,kif (λh=>?_) (λh=>?_)⟩
  ·rw[if_pos h] at nn;exact nn
  ·rw[if_neg h] at nn;exact nn
 ·rw[eF (λx:Lt=>x.nm=n) Lt.toD];exact k
def Tr (ls:List Lt):Prop:=∀ x∈ls,WC x.nm=true
structure Ws.Ok (w:Ws):Prop where
 n:Tr (w.cm++w.st)
 l:w.cm.length+w.st.length<=900000
def fP:FSp:=λds μ Q=>kcA ds λd ds=>kcS ds λn ds=>kcN ds (∃ (g:Int) (x:St'),(d=x.toD g/\(∀ w∈x.ws,w.Ok)/\WC n=true)/\Q (.int (x.und n)) μ)
theorem sS:∀ ds μ Q,fP ds μ Q->ds.length=2:=λ_ _ _ h=>lcA h λ_ _ h=>lcS h λ_ _ h=>by rw[(ecN h).1];rfl
def oq:STr:=aA (aP (TC (.int 0)) (ax 2)) (aA (iJ (dq (ak L3.rIx (ai 0) (TC (.int 0)))) (ax 3) (MD (λm n=>m+n) 2 (au dg (ah (bO (dq (ak aR (ak L3.rIx (ai 3) (TC (.int 0))) (ak L3.rIx (ai 3) (TC (.int 1))))) (ax 0) (TB (ak rEq (ak L3.rIx (ai 0) (TC (.int 0))) (ai 1))) (ai 0) 1 [1]) (av))))) (a6 (ai 2)))
theorem vn:∀ ds μ Q,fP ds μ Q->oq { nx:=λ_ μ'=>RT Q .non μ',rt:=RT Q } (ini 4 ds) μ:=by
 intro ds μ Q h
 replace h:=ecA h
 obtain ⟨d,ds,rfl,h⟩:=h
 replace h:=ecS h
 obtain ⟨n,ds,rfl,h⟩:=h
 replace h:=ecN h
 obtain ⟨rfl,h⟩:=h
 walk_at "ini"
 unfold oq
 walk_at "go"
 obtain ⟨g,x,⟨rfl,hw,hn⟩,k⟩:=h
 walk_at "go"
 refine bT (λr ρ μ'=>∃ (a c:List Ws) (v3:Option D),r=wsD c/\ρ=[some (x.toD g),some (.str n),some (.int (a.map λw=>((own n (w.cm++w.st)).length:Int)).sum),v3]/\μ'=μ/\a++c=x.ws) ?_ ?_ _ _ _ ⟨[],x.ws,_,rfl,rfl,rfl,rfl⟩
 ·rintro ρ μ' ⟨a,c,v3,er,rfl,rfl,e⟩
  have:c=[]:=by cases c with | nil=>rfl | cons=>cases er
  subst this
  rw[W8] at e
  subst e
  walk_at "go"
  exact ⟨_,.refl _,k⟩
 ·rintro d r ρ μ' N ⟨a,c,v3,er,rfl,rfl,e⟩ hN
  cases c with
  | nil=>cases er
  | cons w c=>
  cases er
  have ho:=hw w (by rw[← e];simp)
  walk_at "go"
  have hl:=ho.l
  refine ⟨by simp;omega,?_⟩
  rw[← WQ]
  refine Jb (w.cm++w.st) n (by simp;omega) ho.n hn ?_
  walk_at "go"
  refine hN _ _ ⟨a++[w],c,some w.toD,rfl,?_,rfl,by rw[← e];simp⟩
  simp
def gK:FSp:=λds μ Q=>kcA ds λd ds=>kcI ds λn ds=>kcN ds (∃ (g:Int) (x:Ss),d=x.toD g/\Q (.int (js x.lf n)) μ)
theorem uX:∀ ds μ Q,gK ds μ Q->ds.length=2:=λ_ _ _ h=>lcA h λ_ _ h=>lcI h λ_ _ h=>by rw[(ecN h).1];rfl
def pX:STr:=a6 (kM (TB (ak rIs (ak L3.rIx (ai 0) (TC (.int 5))) (TC .non))) (ai 1) (au tQ (ah (ai 1) (ah (ak L3.rIx (ai 0) (TC (.int 5))) (av)))))
theorem yE:∀ ds μ Q,gK ds μ Q->pX { nx:=λ_ μ'=>RT Q .non μ',rt:=RT Q } (ini 2 ds) μ:=by
 intro ds μ Q h
 replace h:=ecA h
 obtain ⟨d,ds,rfl,h⟩:=h
 replace h:=ecI h
 obtain ⟨n,ds,rfl,h⟩:=h
 replace h:=ecN h
 obtain ⟨rfl,h⟩:=h
 walk_at "ini"
 unfold pX
 walk_at "go"
 obtain ⟨g,x,rfl,k⟩:=h
 walk_at "go"
 unfold js at k
 cases e:x.lf with
 | none=>rw[e] at k;exact jP (by simp) ⟨_,.refl _,k⟩
 | some l=>
  rw[e] at k
  refine iu (by simp) ?_
  show iW tQ [.int n,.int l] μ _
  walk_at "go"
  exact ⟨_,.refl _,k⟩
theorem K3 (g:Int)(x:Ss):cutD [.str x.nm,dF x.du,ft x.W g,ft x.S g,.int x.nx,dF x.lf,.tup (dh x.ag),.tup (dh x.lo),.int x.gd,.int x.mk',.int x.wt] none (some 4)=[.str x.nm,dF x.du,ft x.W g,ft x.S g]:=rfl
theorem LD (g:Int)(x:Ss):cutD [.str x.nm,dF x.du,ft x.W g,ft x.S g,.int x.nx,dF x.lf,.tup (dh x.ag),.tup (dh x.lo),.int x.gd,.int x.mk',.int x.wt] (some 7) none=[.tup (dh x.lo),.int x.gd,.int x.mk',.int x.wt]:=rfl
theorem Oo (g:Int)(x:Ss)(lo hi:Option Int)(μ:Mu)(Q:DK):rSl (x.toD g) lo hi μ Q=Q (.tup (cutD [.str x.nm,dF x.du,ft x.W g,ft x.S g,.int x.nx,dF x.lf,.tup (dh x.ag),.tup (dh x.lo),.int x.gd,.int x.mk',.int x.wt] lo hi)) μ:=propext Wr
def gP:FSp:=λds μ Q=>kcA ds λd ds=>kcI ds λn ds=>kcN ds (∃ (g:Int) (x:Ss) (m:Nat),(d=x.toD g/\n=m/\m<=1000/\(-4000000000000000000<=x.nx/\x.nx<=4000000000000000000)/\x.ag.length<=1000/\(∀ l,x.lf=some l->0<=l))/\Q (.tup [(x.fill m).1.toD g,.tup (dh (x.fill m).2)]) μ)
theorem u6:∀ ds μ Q,gP ds μ Q->ds.length=2:=λ_ _ _ h=>lcA h λ_ _ h=>lcI h λ_ _ h=>by rw[(ecN h).1];rfl
def sv:STr:=aA (aP (TSl (ak L3.rIx (ai 0) (TC (.int 6))) (ONo) (mS (ai 1))) (ax 2)) (aA (aP (au gK (ah (ai 0) (ah (ak jr (ai 1) (au dg (ah (ai 2) (av)))) (av)))) (ax 3)) (aA (aP (ak L3.rIx (ai 0) (TC (.int 4))) (ax 4)) (aA (aP (kM (TB (ak rIs (ak L3.rIx (ai 0) (TC (.int 5))) (TC .non))) (TC .non) (ak jr (ak L3.rIx (ai 0) (TC (.int 5))) (ai 3))) (ax 5)) (aA (aP (ak aR (ak aR (TSl (ai 0) (ONo) (mS (TC (.int 4)))) (bB (ah (ak aR (ai 4) (ai 3)) (ah (ai 5) (ah (TSl (ak L3.rIx (ai 0) (TC (.int 6))) (mS (au dg (ah (ai 2) (av)))) (ONo)) (av)))))) (TSl (ai 0) (mS (TC (.int 7))) (ONo))) (ax 6)) (a6 (bB (ah (ai 6) (ah (ak aR (ai 2) (Jr (ai 4) (ak aR (ai 4) (ai 3)))) (av)))))))))
theorem xt:∀ ds μ Q,gP ds μ Q->sv { nx:=λ_ μ'=>RT Q .non μ',rt:=RT Q } (ini 7 ds) μ:=by
 intro ds μ Q h
 replace h:=ecA h
 obtain ⟨d,ds,rfl,h⟩:=h
 replace h:=ecI h
 obtain ⟨n,ds,rfl,h⟩:=h
 replace h:=ecN h
 obtain ⟨rfl,h⟩:=h
 walk_at "ini"
 unfold sv
 walk_at "go"
 obtain ⟨g,x,m,⟨rfl,rfl,hm,⟨n0,n1⟩,ha,hl⟩,k⟩:=h
 simp only[↓Oo]
 have c1:cutD (dh x.ag) none (some (m:Int))=dh (x.ag.take m):=by rw[Cw];exact zeb.symm
 have c2:∀ L:Nat,cutD (dh x.ag) (some (L:Int)) none=dh (x.ag.drop L):=λL=>by rw[uu];exact zec.symm
 walk_at "go"
 simp only[c1,K3,LD,Wm,c2]
 refine ⟨g,x,rfl,?_⟩
 have tl:(x.ag.take m).length<=m:=by simp;omega
 have e1:(x.fill m).1.toD g=.tup ([.str x.nm,dF x.du,ft x.W g,ft x.S g]++[.int (x.nx+js x.lf ((m:Int) - ((x.ag.take m).length:Int))),dF (x.lf.map (· - js x.lf ((m:Int) - ((x.ag.take m).length:Int)))),.tup (dh (x.ag.drop (x.ag.take m).length))]++[.tup (dh x.lo),.int x.gd,.int x.mk',.int x.wt]):=rfl
 have e2:dh (x.fill m).2=dh (x.ag.take m)++cE x.nx (js x.lf ((m:Int) - ((x.ag.take m).length:Int))).toNat:=by rw[Ue,← WQ];rfl
 rw[e1,e2] at k
 have c0:0<=js x.lf ((m:Int) - ((x.ag.take m).length:Int))/\js x.lf ((m:Int) - ((x.ag.take m).length:Int))<=1000:=by
  unfold js
  cases e:x.lf with
  | none=>simp only;omega
  | some l=>have:=hl l e;simp only;omega
 generalize js x.lf ((m:Int) - ((x.ag.take m).length:Int))=c at *
 have e3:(x.nx+c - x.nx).toNat=c.toNat:=by congr 1;omega
 walk_at "go"
 rw[e3]
 cases e:x.lf with
 | none=>
  rw[e] at k
  refine jP rfl ⟨by simp,by simp,⟨⟨by omega,by omega⟩,⟨by omega,by omega⟩,by omega⟩,?_,_,.refl _,k⟩
  rw[eu];omega
 | some l=>
  rw[e] at k
  refine iu nofun ?_
  walk_at "go"
  refine ⟨by simp,by simp,⟨⟨by omega,by omega⟩,⟨by omega,by omega⟩,by omega⟩,?_,_,.refl _,k⟩
  rw[eu];omega
structure Ss.Ok (g:Int) (R:RN) (x:Ss):Prop where
 n:WC x.nm=true
 w0:g<=x.W
 w1:x.W<=R.cap g
 s0:0<=x.S
 s1:x.S<=g
 h:x.hd.Ok
 n0:-4000000000000000000<=x.nx
 n1:x.nx<=4000000000000000000
 a:x.ag.length+x.lo.length<=60
 l:∀ i,x.lf=some i->0<=i
theorem UG (st:St')(n:Str):0<=st.und n:=by
 unfold St'.und
 generalize st.ws=l
 induction l with
 | nil=>simp
 | cons a l ih=>simp only[WE,Xb];omega
theorem ML (o:Option Int):eqD (dF o) (.int 0)=decide (o=some 0):=by cases o<;>simp[dF,eqD]
theorem Hc {R:RN}(K:R.Ok){g W S:Int}(g0:0 < g)(h:Hd)(w0:g<=W)(w1:W<=R.cap g):g<=(R.beh g W S h).1/\(R.beh g W S h).1<=R.cap g:=by
 unfold RN.beh
 split
 ·exact ⟨w0,w1⟩
 ·exact LH K g0 _
def kf:FSp:=λds μ Q=>kcI ds λg ds=>kcA ds λsd ds=>kcA ds λkd ds=>kcA ds λtd ds=>kcN ds (∃ (s:Sn) (x:Ss) (st:St'),((sd=s.toD/\kd=x.toD g/\td=st.toD g)/\s.rl.Ok/\Gd g/\x.Ok g s.rl/\∀ w∈st.ws,w.Ok)/\Q (.tup [(x.bt g s (st.und x.nm)).1.toD g,.tup (dh (x.bt g s (st.und x.nm)).2)]) μ)
theorem AF:∀ ds μ Q,kf ds μ Q->ds.length=4:=λ_ _ _ h=>lcI h λ_ _ h=>lcA h λ_ _ h=>lcA h λ_ _ h=>lcA h λ_ _ h=>by rw[(ecN h).1];rfl
def wU:STr:=aA (bW (TB (ak rNe (ak L3.rIx (ai 2) (TC (.int 1))) (TC (.int 0)))) (a6 (bB (ah (ai 2) (ah (bB (av)) (av))))) (bo)) (aA (aP (bB (ah (ak L3.rIx (ai 2) (TC (.int 8))) (ah (ak L3.rIx (ai 2) (TC (.int 9))) (ah (au dg (ah (ak L3.rIx (ai 2) (TC (.int 7))) (av))) (ah (ak L3.rIx (ai 2) (TC (.int 10))) (av)))))) (ax 4)) (aA (aP (au gF (ah (ak L3.rIx (ai 1) (TC (.int 5))) (ah (ai 0) (ah (ak L3.rIx (ai 2) (TC (.int 2))) (ah (ak L3.rIx (ai 2) (TC (.int 3))) (ah (ai 4) (av))))))) (ax 5)) (aA (aP (au bG (ah (au pU (ah (ak aR (ak L3.rIx (ai 2) (TC (.int 6))) (ak L3.rIx (ai 2) (TC (.int 7)))) (av))) (av))) (ax 6)) (aA (aP (bB (ah (ak L3.rIx (ai 2) (TC (.int 0))) (ah (ak L3.rIx (ai 2) (TC (.int 1))) (ah (ak L3.rIx (ai 5) (TC (.int 0))) (ah (ak L3.rIx (ai 5) (TC (.int 1))) (ah (ak L3.rIx (ai 2) (TC (.int 4))) (ah (ak L3.rIx (ai 2) (TC (.int 5))) (ah (ai 6) (ah (bB (av)) (ah (TC (.int 0)) (ah (TC (.int 0)) (ah (TC (.int 0)) (av))))))))))))) (ax 7)) (a6 (au gP (ah (ai 7) (ah (au qj (ah (TC (.int 0)) (ah (ak jr (au gI (ah (ak L3.rIx (ai 5) (TC (.int 0))) (av))) (au fP (ah (ai 3) (ah (ak L3.rIx (ai 2) (TC (.int 0))) (av))))) (av)))) (av)))))))))
theorem Fi:∀ ds μ Q,kf ds μ Q->wU { nx:=λ_ μ'=>RT Q .non μ',rt:=RT Q } (ini 8 ds) μ:=by
 intro ds μ Q h
 replace h:=ecI h
 obtain ⟨g,ds,rfl,h⟩:=h
 replace h:=ecA h
 obtain ⟨sd,ds,rfl,h⟩:=h
 replace h:=ecA h
 obtain ⟨kd,ds,rfl,h⟩:=h
 replace h:=ecA h
 obtain ⟨td,ds,rfl,h⟩:=h
 replace h:=ecN h
 obtain ⟨rfl,h⟩:=h
 walk_at "ini"
 unfold wU
 walk_at "go"
 obtain ⟨s,x,st,⟨⟨rfl,rfl,rfl⟩,K,G,X,hw⟩,k⟩:=h
 obtain ⟨g0,g1⟩:=id G
 have gp:0 < g:=by omega
 walk_at "go"
 refine ⟨by cases x.du<;>rfl,?_⟩
 rw[ML]
 unfold Ss.bt at k
 refine UP (λhd=>?_) (λhd=>?_)
 ·rw[if_neg hd] at k
  exact ⟨_,.refl _,k⟩
 rw[if_pos hd] at k
 have cl:=A2 K gp
 have xa:=X.a;have w1:=X.w1;have w0:=X.w0
 rw[Wm]
 refine ⟨s.rl,x.W,x.S,x.hd,⟨⟨rfl,rfl⟩,K,X.h,G,⟨QT _ gp,.of (by omega) (by omega)⟩,QT _ gp,⟨X.s0,X.s1⟩⟩,λw z Vw Vz=>?_⟩
 have bi:=Hc K gp x.hd (S:=x.S) w0 w1
 have e1:=GD Vw
 have e2:=GD Vz
 walk_at "go"
 refine ⟨by simp;omega,x.ag++x.lo,⟨by rw[WQ],by simp;omega⟩,λns' pm so=>?_⟩
 have e3:=xJ pm so
 walk_at "go"
 refine ⟨_,_,⟨Vw,.of (by omega) (by omega)⟩,?_⟩
 walk_at "go"
 refine ⟨g,st,⟨rfl,hw,X.n⟩,?_⟩
 walk_at "go"
 have u0:=UG st x.nm
 have d60:(s.rl.beh g x.W x.S x.hd).1 / g<=60:=Y2 gp (by omega)
 have hm:max 0 ((s.rl.beh g x.W x.S x.hd).1 / g - st.und x.nm)=((max 0 ((s.rl.beh g x.W x.S x.hd).1 / g - st.und x.nm)).toNat:Int):=by omega
 rw[hm,e1,e2,e3]
 refine ⟨g,x.rdy g s.rl,_,⟨rfl,rfl,by omega,⟨X.n0,X.n1⟩,?_,X.l⟩,⟨_,.refl _,k⟩⟩
 show (fc (x.ag++x.lo)).length<=1000
 rw[nI,Wv];omega
theorem CZ {ns:List (List Int)}{n:List Int}(h:n∈ns):n.length<=c8 ns:=by
 unfold c8
 induction ns with
 | nil=>cases h
 | cons a r ih=>
  rcases WM.mp h with rfl | h
  ·simp only[WE,zbK];omega
  ·have:=ih h;simp only[WE,zbK];omega
theorem CM {ns:List (List Int)}{k:Nat}(h:∀ n∈ns,n.length<=k):c8 ns<=k:=by
 unfold c8
 induction ns with
 | nil=>simp
 | cons a r ih=>
  have h1:=h a WL
  have h2:=ih λn hn=>h n (WU _ hn)
  simp only[WE,zbK];omega
theorem LR {ns:List (List Int)}{M:Int}(h:M∈ns.map λn=>(n.length:Int))(g:∀ a∈ns.map λn=>(n.length:Int),a<=M):M=c8 ns:=by
 obtain ⟨n,hn,rfl⟩:=Wq.mp h
 have h1:=CZ hn
 have h2:c8 ns<=n.length:=CM λm hm=>by have:=g _ (Wq.mpr ⟨m,hm,rfl⟩);omega
 omega
def cG (t:Nat)(p:Sn×List Int):Option (Str×Lt):=p.2[t]?.map λn=>(p.1.rd.headD (OF ""),⟨p.1.nm,n,0,0,0⟩)
theorem j5 (ss:List Sn)(ns:List (List Int)):j3 ss ns=(W5 (c8 ns)).flatMap λt=>(WA ss ns).filterMap (cG t):=rfl
abbrev nsD (ns:List (List Int)):List D:=ns.map λn=>.tup (dh n)
def dH:FSp:=λds μ Q=>kcA ds λsd ds=>kcL ds λnd ds=>kcN ds (∃ (ss:List Sn) (ns:List (List Int)),((sd=.tup (snD ss)/\nd=nsD ns)/\ss.length<=100/\ns.length<=100/\(∀ n∈ns,n.length<=1000)/\∀ s∈ss,s.rd≠[])/\Q (.ls ((j3 ss ns).map sdD)) μ)
theorem Fq {ns:List (List Int)}{μ:Mu}{Q:DK}(k:Q (.int (c8 ns:Nat)) μ):RY (.ls (ns.map λn=>.int (n.length:Int))) (.int 0) μ Q:=by
 refine ⟨ns.map λn=>(n.length:Int),by rw[Wz];rfl,λe=>?_,λ_ M h1 h2=>by rw[LR h1 h2];exact k⟩
 rw[zco.mp e] at k
 exact k
theorem Fc (ss:List Sn)(ns:List (List Int)):XF (λd e=>D.tup [d,e]) (snD ss) (nsD ns)=(WA ss ns).map λp=>.tup [p.1.toD,.tup (dh p.2)]:=by
 simp only[snD,nsD,WA,zdo,zbh]
theorem lW:∀ ds μ Q,dH ds μ Q->ds.length=2:=λ_ _ _ h=>lcA h λ_ _ h=>lcL h λ_ _ h=>by rw[(ecN h).1];rfl
def jj:STr:=aA (aP (nD (av)) (ax 2)) (aA (iJ (gL (DB (bO (dq (ai 1)) (ax 0) (eG) (au dg (ah (ai 0) (av))) 1 []) (TC (.int 0)))) (ax 3) (iJ (kZ (ah (ai 0) (ah (ai 1) (av)))) (de [4,5]) (bW (TB (ak rLt (ai 3) (au dg (ah (ai 5) (av))))) (fE (o7 (ai 2) (bB (ah (ak L3.rIx (ak L3.rIx (ai 4) (TC (.int 1))) (TC (.int 0))) (ah (bB (ah (ak L3.rIx (ai 4) (TC (.int 0))) (ah (ak L3.rIx (ai 5) (ai 3)) (ah (TC (.int 0)) (ah (TC (.int 0)) (ah (TC (.int 0)) (av))))))) (av)))))) (bo)))) (a6 (yS (ai 2))))
theorem m8:∀ ds μ Q,dH ds μ Q->jj { nx:=λ_ μ'=>RT Q .non μ',rt:=RT Q } (ini 6 ds) μ:=by
 intro ds μ Q h
 replace h:=ecA h
 obtain ⟨sd,ds,rfl,h⟩:=h
 replace h:=ecL h
 obtain ⟨nd,ds,rfl,h⟩:=h
 replace h:=ecN h
 obtain ⟨rfl,h⟩:=h
 walk_at "ini"
 unfold jj
 walk_at "go"
 obtain ⟨ss,ns,⟨⟨rfl,rfl⟩,hs,hn,h1000,hrd⟩,k⟩:=h
 intro p hp
 walk_at "go"
 refine bH ns (λn=>.tup (dh n)) (λn=>.int (n.length:Int)) rfl (by omega) (λn hn μ' _ N nn=>?_) ?_
 ·walk_at "go"
  rw[Wm]
  exact nn
 have m1:c8 ns<=1000:=CM h1000
 walk_at "go"
 refine Fq ?_
 walk_at "go"
 refine ⟨⟨by omega,by omega⟩,?_⟩
 rw[show ((c8 ns:Int)).toNat=c8 ns from rfl]
 refine bT (λr ρ μ'=>∃ (t:Nat) (acc:List (Str×Lt)) (v3 v4 v5:Option D),r=cE t (c8 ns - t)/\t<=c8 ns/\ρ=[some (.tup (snD ss)),some (.ls (nsD ns)),some (.obj p),v3,v4,v5]/\acc=(W5 t).flatMap (λt=>(WA ss ns).filterMap (cG t))/\acc.length<=t*100/\μ'=up μ p (.lst (acc.map sdD))) ?_ ?_ _ _ _ ⟨0,[],_,_,_,rfl,by omega,rfl,rfl,by simp,rfl⟩
 ·rintro ρ μ' ⟨t,acc,v3,v4,v5,er,ht,rfl,rfl,_,rfl⟩
  have et:t=c8 ns:=by
   cases e:c8 ns - t with
   | zero=>omega
   | succ n=>rw[e,om] at er;cases er
  subst et
  walk_at "go"
  rw[← j5,uf hp]
  exact ⟨_,.refl _,k⟩
 ·rintro d r ρ μ' N ⟨t,acc,v3,v4,v5,er,ht,rfl,ea,la,rfl⟩ hN
  cases e:c8 ns - t with
  | zero=>rw[e] at er;cases er
  | succ n=>
  rw[e,om] at er
  cases er
  walk_at "go"
  rw[Fc]
  have lz:(WA ss ns).length<=100:=by simp;omega
  refine bT (λr ρ μ'=>∃ (a c:List (Sn×List Int)) (v4 v5:Option D),r=c.map (λp=>.tup [p.1.toD,.tup (dh p.2)])/\a++c=WA ss ns/\ρ=[some (.tup (snD ss)),some (.ls (nsD ns)),some (.obj p),some (.int t),v4,v5]/\μ'=up μ p (.lst ((acc++a.filterMap (cG t)).map sdD))) ?_ ?_ _ _ _ ⟨[],WA ss ns,_,_,rfl,rfl,rfl,by simp⟩
  ·rintro ρ μ' ⟨a,c,v4,v5,er,ez,rfl,rfl⟩
   have:c=[]:=by cases c with | nil=>rfl | cons=>cases er
   subst this
   rw[W8] at ez
   subst ez
   refine hN _ _ ⟨t+1,_,_,_,_,?_,by omega,rfl,?_,?_,rfl⟩
   ·congr 1
    ·omega
   ·rw[zbL,Xw,← ea];simp
   ·have:=Yi (cG t) (WA ss ns)
    rw[Wv];omega
  ·rintro d r ρ μ' N ⟨a,c,v4,v5,er,ez,rfl,rfl⟩ hN
   cases c with
   | nil=>cases er
   | cons x c=>
   cases er
   obtain ⟨s,own⟩:=x
   have hx:(s,own)∈WA ss ns:=by rw[← ez];simp
   have hs':s∈ss:=(WI hx).1
   walk_at "go"
   rw[Wm]
   obtain ⟨fw,rw',erd⟩:∃ fw rw',s.rd=fw::rw':=by
    cases e:s.rd with
    | nil=>exact absurd e (hrd s hs')
    | cons a b=>exact ⟨a,b,rfl⟩
   refine kif (λhc=>?_) (λhc=>?_)
   ·have hc':t < own.length:=by omega
    have g1:(zc2 D.str s.rd)[0]? = some (.str fw):=by rw[erd];rfl
    have g2:atD (dh own) (t:Int)=some (.int own[t]):=by rw[bZ];simp[hc']
    have la':=Yi (cG t) a
    have az:a.length<=100:=by have:=congrArg Xr ez;simp at this;omega
    walk_at "go"
    rw[zd,g1]
    walk_at "go"
    rw[g2]
    walk_at "go"
    refine ⟨by simp;omega,hN _ _ ⟨a++[(s,own)],c,_,_,rfl,by rw[← ez];simp,rfl,?_⟩⟩
    have e3:cG t (s,own)=some (fw,⟨s.nm,own[t],0,0,0⟩):=by unfold cG;simp[hc',erd]
    rw[Xv,show [(s,own)].filterMap (cG t)=[(fw,⟨s.nm,own[t],0,0,0⟩)] by simp[e3]]
    simp[sdD,Lt.toD]
   ·have e3:cG t (s,own)=none:=by unfold cG;simp;omega
    refine hN _ _ ⟨a++[(s,own)],c,_,_,rfl,by rw[← ez];simp,rfl,?_⟩
    rw[Xv,show [(s,own)].filterMap (cG t)=[] by simp[e3],W8]
def kh:FSp:=λds μ Q=>kcA ds λwd ds=>kcT ds λnd ds=>kcA ds λkd ds=>kcL ds λsd ds=>kcN ds (∃ (w:Wy) (ns:List Str) (k:Ws) (aJ:List (Str×Lt)),((wd=w.toD/\nd=ns.map .str/\kd=k.toD/\sd=aJ.map sdD)/\(WC w.nm=true/\∀ x∈aJ,WC x.1=true)/\0<=w.pc/\(∀ n∈ns,WC n=true)/\(∀ l∈k.cm++k.st++aJ.map (·.2),l.nm∈ns)/\k.cm.length+k.st.length+aJ.length<=900000/\ns.length<=900000)/\Q (pass w ns k aJ).toD μ)
theorem EJ {μ:Mu}{Q:DK}(aJ:List (Str×Lt)){w:Wy}(hl:aJ.length<=900000)(ok:∀ x∈aJ,WC x.1=true)(hn:WC w.nm=true)(k:Q (.ls (ltD ((aJ.filter λx=>decide (x.1=w.nm)).map (·.2)))) μ) :
  vg (de [0,1]) (TB (ak rEq (ai 0) (ak rIx (ai 2) (TC (.int 0))))) (ai 1) [none,none,some w.toD] (aJ.map sdD) μ Q:=by
 refine j6 aJ sdD (λx=>if x.1=w.nm then some x.2.toD else none) rfl (by omega) (λx hx μ' _ N nn=>?_) ?_
 ·walk_at "go"
  refine ⟨⟨ok x hx,hn⟩,kif (λh=>?_) (λh=>?_)⟩
  ·rw[if_pos h] at nn;exact nn
  ·rw[if_neg h] at nn;exact nn
 ·rw[eF (λx:Str×Lt=>x.1=w.nm) (λx=>x.2.toD)];unfold ltD at k;rw[Wz] at k;exact k
theorem A8:∀ ds μ Q,kh ds μ Q->ds.length=4:=λ_ _ _ h=>lcA h λ_ _ h=>lcT h λ_ _ h=>lcA h λ_ _ h=>lcL h λ_ _ h=>by rw[(ecN h).1];rfl
def xg:STr:=aA (aP (ak aR (ak L3.rIx (ai 2) (TC (.int 0))) (au bG (ah (bO (dq (ai 3)) (de [0,1]) (TB (ak rEq (ai 0) (ak L3.rIx (ai 2) (TC (.int 0))))) (ai 1) 2 [0]) (av)))) (ax 4)) (aA (aP (au gG (ah (ai 0) (ah (ak L3.rIx (ai 2) (TC (.int 1))) (ah (ai 4) (av))))) (ax 5)) (aA (aP (au i9 (ah (ai 0) (ah (ai 1) (ah (ak L3.rIx (ai 5) (TC (.int 0))) (ah (ak L3.rIx (ai 2) (TC (.int 2))) (av)))))) (ax 6)) (a6 (bB (ah (ai 4) (ah (ak L3.rIx (ai 5) (TC (.int 1))) (ah (ak L3.rIx (ai 6) (TC (.int 0))) (ah (ak L3.rIx (ai 6) (TC (.int 1))) (ah (ak L3.rIx (ai 6) (TC (.int 2))) (av))))))))))
theorem D4:∀ ds μ Q,kh ds μ Q->xg { nx:=λ_ μ'=>RT Q .non μ',rt:=RT Q } (ini 7 ds) μ:=by
 intro ds μ Q h
 replace h:=ecA h
 obtain ⟨wd,ds,rfl,h⟩:=h
 replace h:=ecT h
 obtain ⟨nd,ds,rfl,h⟩:=h
 replace h:=ecA h
 obtain ⟨kd,ds,rfl,h⟩:=h
 replace h:=ecL h
 obtain ⟨sd,ds,rfl,h⟩:=h
 replace h:=ecN h
 obtain ⟨rfl,h⟩:=h
 walk_at "ini"
 unfold xg
 walk_at "go"
 obtain ⟨w,ns,x,aJ,⟨⟨rfl,rfl,rfl,rfl⟩,⟨hw,hs⟩,pc,hn,hl,len,len2⟩,k⟩:=h
 walk_at "go"
 refine EJ aJ (by omega) hs hw ?_
 walk_at "go"
 have lf:=Yx (λx:Str×Lt=>decide (x.1=w.nm)) aJ
 refine ⟨by simp only[Wm];omega,?_⟩
 rw[← WQ]
 generalize hca:x.cm++(aJ.filter λx=>decide (x.1=w.nm)).map (·.2)=ca
 have lca:ca.length<=x.cm.length+aJ.length:=by rw[← hca];simp only[Wv,Wm];omega
 have nca:∀ l∈ca,l.nm∈ns:=λl h=>by
  rw[← hca] at h
  rcases W2.mp h with h | h
  ·exact hl l (by simp[h])
  ·obtain ⟨y,hy,rfl⟩:=Wq.mp h
   exact hl y.2 (WZ _ (Wq.mpr ⟨y,(Xd.mp hy).1,rfl⟩))
 refine ⟨w,x.st,ca,⟨rfl,rfl,rfl,by omega⟩,?_⟩
 walk_at "go"
 have ln:=Bz w ca x.st []
 have nn:=Ja w (λn=>n∈ns) ca x.st [] (λl h=>hl l (by simp[h])) (λl h=>nomatch h) nca
 refine ⟨w,ns,(tk w x.st ca).1,⟨rfl,λ_=>⟨.inl rfl,hn,nn.1,len2⟩,rfl,?_,pc⟩,?_⟩
 ·unfold tk;simp only[zaj] at ln;omega
 ·walk_at "go"
  subst hca
  exact ⟨_,.refl _,k⟩
theorem rW {ss:List Sn}{n:Str}(h:n∈ss.map Sn.nm):bP (eI ss) (.inr n)=some (.tup ((road ss n).map .str)):=by
 unfold bP eI road
 induction ss with
 | nil=>cases h
 | cons s r ih=>
  by_cases e:s.nm=n
  ·simp[e]
  ·have h':n∈r.map Sn.nm:=by
    rcases WM.mp h with z | z
    ·exact absurd z.symm e
    ·exact z
   have:=ih h'
   simp only[WE,Xx]
   have e1:decide ((YT s.nm:L2.Key)=YT n)=false:=by simp[e]
   have e2:decide (s.nm=n)=false:=by simp[e]
   rw[e1,e2]
   exact this
def da:FSp:=λds μ Q=>kcO ds λr ds=>kcA ds λld ds=>kcN ds (∃ (ss:List Sn) (l:Lt),(ld=l.toD/\μ r=some (.dct (eI ss))/\l.nm∈ss.map Sn.nm/\0<=l.hp)/\Q (yg (cy ss l)) μ)
theorem r8:∀ ds μ Q,da ds μ Q->ds.length=2:=λ_ _ _ h=>lcO h λ_ _ h=>lcA h λ_ _ h=>by rw[(ecN h).1];rfl
def mj:STr:=aA (aP (bS (ai 0) (ak L3.rIx (ai 1) (TC (.int 0)))) (ax 2)) (a6 (kM (TB (ak rLt (ak aR (ak L3.rIx (ai 1) (TC (.int 3))) (TC (.int 1))) (au dg (ah (ai 2) (av))))) (ak L3.rIx (ai 2) (ak aR (ak L3.rIx (ai 1) (TC (.int 3))) (TC (.int 1)))) (TC .non)))
theorem sR:∀ ds μ Q,da ds μ Q->mj { nx:=λ_ μ'=>RT Q .non μ',rt:=RT Q } (ini 3 ds) μ:=by
 intro ds μ Q h
 replace h:=ecO h
 obtain ⟨r,ds,rfl,h⟩:=h
 replace h:=ecA h
 obtain ⟨ld,ds,rfl,h⟩:=h
 replace h:=ecN h
 obtain ⟨rfl,h⟩:=h
 walk_at "ini"
 unfold mj
 walk_at "go"
 obtain ⟨ss,l,⟨rfl,er,hl,h0⟩,k⟩:=h
 walk_at "go"
 refine UC er (ml (rW hl) ?_)
 obtain ⟨h,eh⟩:=ZM h0
 have e1:cy ss l=(road ss l.nm)[h+1]?:=by unfold cy;rw[eh];rfl
 rw[e1] at k
 walk_at "go"
 rw[Wm]
 refine kif (λhc=>?_) (λhc=>?_)
 ·have hc':h+1 < (road ss l.nm).length:=by omega
  rw[WK hc'] at k
  refine ml (d:=.str (road ss l.nm)[h+1]) ?_ ⟨_,.refl _,k⟩
  rw[eh,show ((h:Int)+1)=((h+1:Nat):Int) by omega,bZ]
  simp[hc']
 ·rw[List.getElem?_eq_none (by omega)] at k
  exact ⟨_,.refl _,k⟩
theorem Mh (ls:List Lt):kW (ltD ls)=ls.zipIdx.map λp=>.tup [.int (p.2:Nat),p.1.toD]:=by
 refine List.ext_getElem? λi=>?_
 rw[ue]
 simp[List.getElem?_zipIdx]
 cases ls[i]? <;> rfl
theorem Dr (o:Option Str)(μ:Mu)(Q:DK):rIs (yg o) .non μ Q=Q (.bl (decide (o=none))) μ:=by cases o<;>simp[rIs,yg]
def evA (w:Wy)(n:Int)(p:Lt×Nat):Ev:=⟨if (p.2:Int) < n then OF "in" else OF "lost", p.1.nm,p.1.nu,w.nm⟩
def evB (ss:List Sn)(w:Wy)(l:Lt):Ev:=⟨if cy ss l=none then OF "taken" else OF "out", l.nm,l.nu,w.nm⟩
theorem Ra (ss:List Sn)(w:Wy)(x:Wt):evs ss w x=x.ca.zipIdx.map (evA w ((x.ca.length:Int) - x.lo.length))++x.ou.map (evB ss w):=rfl
def fY:FSp:=λds μ Q=>kcA ds λwd ds=>kcO ds λr ds=>kcA ds λtd ds=>kcN ds (∃ (w:Wy) (ss:List Sn) (x:Wt),((wd=w.toD/\td=x.toD)/\μ r=some (.dct (eI ss))/\(∀ l∈x.ou,l.nm∈ss.map Sn.nm/\0<=l.hp)/\x.ca.length+x.ou.length<=900000)/\Q (.ls (evD (evs ss w x))) μ)
theorem tE:∀ ds μ Q,fY ds μ Q->ds.length=3:=λ_ _ _ h=>lcA h λ_ _ h=>lcO h λ_ _ h=>lcA h λ_ _ h=>by rw[(ecN h).1];rfl
def oI:STr:=aA (aP (nD (av)) (ax 3)) (aA (iJ (Ig (ah (ak L3.rIx (ai 2) (TC (.int 0))) (av))) (de [4,5]) (aA (aP (kM (TB (ak rLt (ai 4) (ak jr (au dg (ah (ak L3.rIx (ai 2) (TC (.int 0))) (av))) (au dg (ah (ak L3.rIx (ai 2) (TC (.int 1))) (av)))))) (TC (.str "in")) (TC (.str "lost"))) (ax 6)) (fE (o7 (ai 3) (bB (ah (ai 6) (ah (ak L3.rIx (ai 5) (TC (.int 0))) (ah (ak L3.rIx (ai 5) (TC (.int 1))) (ah (ak L3.rIx (ai 0) (TC (.int 0))) (av)))))))))) (aA (iJ (dq (ak L3.rIx (ai 2) (TC (.int 2)))) (ax 5) (aA (aP (kM (TB (ak rIs (au da (ah (ai 1) (ah (ai 5) (av)))) (TC .non))) (TC (.str "taken")) (TC (.str "out"))) (ax 6)) (fE (o7 (ai 3) (bB (ah (ai 6) (ah (ak L3.rIx (ai 5) (TC (.int 0))) (ah (ak L3.rIx (ai 5) (TC (.int 1))) (ah (ak L3.rIx (ai 0) (TC (.int 0))) (av)))))))))) (a6 (yS (ai 3)))))
theorem vF:∀ ds μ Q,fY ds μ Q->oI { nx:=λ_ μ'=>RT Q .non μ',rt:=RT Q } (ini 7 ds) μ:=by
 intro ds μ Q h
 replace h:=ecA h
 obtain ⟨wd,ds,rfl,h⟩:=h
 replace h:=ecO h
 obtain ⟨r,ds,rfl,h⟩:=h
 replace h:=ecA h
 obtain ⟨td,ds,rfl,h⟩:=h
 replace h:=ecN h
 obtain ⟨rfl,h⟩:=h
 walk_at "ini"
 unfold oI
 walk_at "go"
 obtain ⟨w,ss,x,⟨⟨rfl,rfl⟩,er,ho,hl⟩,k⟩:=h
 intro p hp
 have npr:r≠p:=λz=>by rw[z,hp] at er;cases er
 walk_at "go"
 rw[Mh]
 refine bT (λrr ρ μ'=>∃ (a c:List (Lt×Nat)) (v4 v5 v6:Option D),rr=c.map (λp=>.tup [.int (p.2:Nat),p.1.toD])/\a++c=x.ca.zipIdx/\ρ=[some w.toD,some (.obj r),some x.toD,some (.obj p),v4,v5,v6]/\μ'=up μ p (.lst (evD (a.map (evA w ((x.ca.length:Int) - x.lo.length)))))) ?_ ?_ _ _ _ ⟨[],x.ca.zipIdx,_,_,_,rfl,rfl,rfl,rfl⟩
 ·rintro ρ μ' ⟨a,c,v4,v5,v6,er',ez,rfl,rfl⟩
  have:c=[]:=by cases c with | nil=>rfl | cons=>cases er'
  subst this
  rw[W8] at ez
  subst ez
  walk_at "go"
  refine bT (λrr ρ μ'=>∃ (a c:List Lt) (v4 v5 v6:Option D),rr=ltD c/\a++c=x.ou/\ρ=[some w.toD,some (.obj r),some x.toD,some (.obj p),v4,v5,v6]/\μ'=up μ p (.lst (evD (x.ca.zipIdx.map (evA w ((x.ca.length:Int) - x.lo.length))++a.map (evB ss w))))) ?_ ?_ _ _ _ ⟨[],x.ou,_,_,_,rfl,rfl,rfl,by simp⟩
  ·rintro ρ μ' ⟨a,c,v4,v5,v6,er',ez,rfl,rfl⟩
   have:c=[]:=by cases c with | nil=>rfl | cons=>cases er'
   subst this
   rw[W8] at ez
   subst ez
   walk_at "go"
   rw[uf hp,← Ra]
   exact ⟨_,.refl _,k⟩
  ·rintro d rr ρ μ' N ⟨a,c,v4,v5,v6,er',ez,rfl,rfl⟩ hN
   cases c with
   | nil=>cases er'
   | cons l c=>
   cases er'
   have hl':=ho l (by rw[← ez];simp)
   have la:a.length<=x.ou.length:=by rw[← ez];simp
   walk_at "go"
   refine ⟨ss,l,⟨rfl,by rw[aS npr];exact er,hl'.1,hl'.2⟩,?_⟩
   walk_at "go"
   rw[Dr]
   walk_at "go"
   have fin:∀ wd,wd=(if cy ss l=none then OF "taken" else OF "out")->(evD (x.ca.zipIdx.map (evA w ((x.ca.length:Int) - x.lo.length))++a.map (evB ss w))).length < 1000000/\N [some w.toD,some (.obj r),some x.toD,some (.obj p),v4,some l.toD,some (.str wd)] (up μ p (.lst (evD (x.ca.zipIdx.map (evA w ((x.ca.length:Int) - x.lo.length))++a.map (evB ss w))++[.tup [.str wd,.str l.nm,.int l.nu,.str w.nm]]))):=λwd e=>by
    refine ⟨by simp;omega,hN _ _ ⟨a++[l],c,_,_,_,rfl,by rw[← ez];simp,rfl,?_⟩⟩
    simp[evB,Ev.toD,e]
   refine kif (λh=>?_) (λh=>?_)
   ·walk_at "go"
    exact fin _ (by rw[if_pos h])
   ·walk_at "go"
    exact fin _ (by rw[if_neg h])
 ·rintro d rr ρ μ' N ⟨a,c,v4,v5,v6,er',ez,rfl,rfl⟩ hN
  cases c with
  | nil=>cases er'
  | cons y c=>
  cases er'
  obtain ⟨l,i⟩:=y
  have la:a.length<=x.ca.length:=by have:=congrArg Xr ez;simp at this;omega
  walk_at "go"
  simp only[Wm]
  have fin:∀ wd,wd=(if (i:Int) < (x.ca.length:Int) - x.lo.length then OF "in" else OF "lost")->(evD (a.map (evA w ((x.ca.length:Int) - x.lo.length)))).length < 1000000/\N [some w.toD,some (.obj r),some x.toD,some (.obj p),some (.int i),some l.toD,some (.str wd)] (up μ p (.lst (evD (a.map (evA w ((x.ca.length:Int) - x.lo.length)))++[.tup [.str wd,.str l.nm,.int l.nu,.str w.nm]]))):=λwd e=>by
   refine ⟨by simp;omega,hN _ _ ⟨a++[(l,i)],c,_,_,_,rfl,by rw[← ez];simp,rfl,?_⟩⟩
   simp[evA,Ev.toD,e]
  refine kif (λh=>?_) (λh=>?_)
  ·walk_at "go"
   have:=fin _ (by rw[if_pos h])
   simpa using this
  ·walk_at "go"
   have:=fin _ (by rw[if_neg h])
   simpa using this
def mI:FSp:=λds μ Q=>kcA ds λld ds=>kcI ds λh ds=>kcN ds (∃ l:Lt,ld=l.toD/\Q (l.hU h).toD μ)
theorem HV:∀ ds μ Q,mI ds μ Q->ds.length=2:=λ_ _ _ h=>lcA h λ_ _ h=>lcI h λ_ _ h=>by rw[(ecN h).1];rfl
def Gq:STr:=a6 (bB (ah (ak L3.rIx (ai 0) (TC (.int 0))) (ah (ak L3.rIx (ai 0) (TC (.int 1))) (ah (ak aR (ak L3.rIx (ai 0) (TC (.int 2))) (TC (.int 1))) (ah (ak aR (ak L3.rIx (ai 0) (TC (.int 3))) (ai 1)) (ah (ak L3.rIx (ai 0) (TC (.int 4))) (av)))))))
theorem LC:∀ ds μ Q,mI ds μ Q->Gq { nx:=λ_ μ'=>RT Q .non μ',rt:=RT Q } (ini 2 ds) μ:=by
 intro ds μ Q h
 replace h:=ecA h
 obtain ⟨ld,ds,rfl,h⟩:=h
 replace h:=ecI h
 obtain ⟨h0,ds,rfl,h⟩:=h
 replace h:=ecN h
 obtain ⟨rfl,h⟩:=h
 walk_at "ini"
 unfold Gq
 walk_at "go"
 obtain ⟨l,rfl,k⟩:=h
 walk_at "go"
 exact ⟨_,.refl _,k⟩
theorem LU (o:Option Str)(n:Str):eqD (yg o) (.str n)=decide (o=some n):=by cases o<;>simp[yg,eqD]
theorem NF (o:Option Str)(h:∀ n,o=some n->WC n=true):okD 40 (yg o)=true:=by
 cases o with
 | none=>rfl
 | some n=>simpa[yg,okD] using h n rfl
def fN:FSp:=λds μ Q=>kcA ds λwd ds=>kcO ds λr ds=>kcA ds λtd ds=>kcO ds λo ds=>kcN ds (∃ (w:Wy) (ss:List Sn) (x:Wt) (out:List Lt),((wd=w.toD/\td=x.toD)/\(μ r=some (.dct (eI ss))/\μ o=some (.lst (ltD out)))/\(∀ l∈out,l.nm∈ss.map Sn.nm/\0<=l.hp)/\(WC w.nm=true/\∀ s∈ss,∀ n∈s.rd,WC n=true)/\out.length<=900000/\x.st.length<=900000)/\Q (nr ss w x out).toD μ)
theorem LX {ss:List Sn}(h:∀ s∈ss,∀ n∈s.rd,WC n=true){l:Lt}{n:Str}(e:cy ss l=some n):WC n=true:=by
 unfold cy road at e
 cases f:ss.find? λs=>decide (s.nm=l.nm) with
 | none=>rw[f] at e;simp at e
 | some s=>
  rw[f] at e
  exact h s (zaH f) n (YD e)
theorem tq:∀ ds μ Q,fN ds μ Q->ds.length=4:=λ_ _ _ h=>lcA h λ_ _ h=>lcO h λ_ _ h=>lcA h λ_ _ h=>lcO h λ_ _ h=>by rw[(ecN h).1];rfl
def nV:STr:=aA (aP (jN (ai 3) (ax 0) (TB (ak rEq (au da (ah (ai 1) (ah (ai 0) (av)))) (ak L3.rIx (ai 2) (TC (.int 0))))) (au mI (ah (ai 0) (ah (TC (.int 1)) (av)))) 1 [1,0]) (ax 4)) (a6 (bB (ah (au bG (ah (ai 4) (av))) (ah (au bG (ah (bO (dq (ak L3.rIx (ai 2) (TC (.int 3)))) (ax 0) (eG) (au mI (ah (ai 0) (ah (TC (.int 0)) (av)))) 1 []) (av))) (ah (ak L3.rIx (ai 2) (TC (.int 4))) (av))))))
theorem vE:∀ ds μ Q,fN ds μ Q->nV { nx:=λ_ μ'=>RT Q .non μ',rt:=RT Q } (ini 5 ds) μ:=by
 intro ds μ Q h
 replace h:=ecA h
 obtain ⟨wd,ds,rfl,h⟩:=h
 replace h:=ecO h
 obtain ⟨r,ds,rfl,h⟩:=h
 replace h:=ecA h
 obtain ⟨td,ds,rfl,h⟩:=h
 replace h:=ecO h
 obtain ⟨o,ds,rfl,h⟩:=h
 replace h:=ecN h
 obtain ⟨rfl,h⟩:=h
 walk_at "ini"
 unfold nV
 walk_at "go"
 obtain ⟨w,ss,x,out,⟨⟨rfl,rfl⟩,⟨er,eo⟩,ho,⟨hw,hs⟩,l1,l2⟩,k⟩:=h
 refine bx eo ?_
 refine ny out Lt.toD (λl=>if cy ss l=some w.nm then some (l.hU 1).toD else none) rfl eo (by omega) (λl hl μ' sb N nn=>?_) ?_
 ·walk_at "go"
  refine ⟨ss,l,⟨rfl,sb _ _ er,(ho l hl).1,(ho l hl).2⟩,?_⟩
  walk_at "go"
  rw[LU]
  refine ⟨⟨NF _ λn e=>LX hs e,hw⟩,kif (λh=>?_) (λh=>?_)⟩
  ·rw[if_pos h] at nn
   exact ⟨l,rfl,nn⟩
  ·rw[if_neg h] at nn;exact nn
 ·rw[eF (λl:Lt=>cy ss l=some w.nm) (λl=>(l.hU 1).toD)]
  walk_at "go"
  refine bH x.st Lt.toD (λl=>(l.hU 0).toD) rfl (by omega) (λl hl μ' sb N nn=>?_) ?_
  ·walk_at "go"
   exact ⟨l,rfl,nn⟩
  ·walk_at "go"
   refine ⟨_,.refl _,?_⟩
   unfold nr Ws.toD ltD at k
   simp only[Wz] at k
   exact k
def fJ:FSp:=λds μ Q=>kcA ds λsd ds=>kcA ds λd ds=>kcN ds (∃ (s:Sn) (o:Option Int),(sd=s.toD/\d=dF o)/\Q (dF (zR s o)) μ)
theorem sN:∀ ds μ Q,fJ ds μ Q->ds.length=2:=λ_ _ _ h=>lcA h λ_ _ h=>lcA h λ_ _ h=>by rw[(ecN h).1];rfl
def nY:STr:=aA (bW (TB (ak rIs (ai 1) (TC .non))) (a6 (TC .non)) (bo)) (a6 (kM (TB (ak rEq (ai 1) (TC (.int 0)))) (ak jr (ak L3.rIx (ai 0) (TC (.int 2))) (TC (.int 1))) (ak jr (ai 1) (TC (.int 1)))))
theorem ve:∀ ds μ Q,fJ ds μ Q->nY { nx:=λ_ μ'=>RT Q .non μ',rt:=RT Q } (ini 2 ds) μ:=by
 intro ds μ Q h
 replace h:=ecA h
 obtain ⟨sd,ds,rfl,h⟩:=h
 replace h:=ecA h
 obtain ⟨d,ds,rfl,h⟩:=h
 replace h:=ecN h
 obtain ⟨rfl,h⟩:=h
 walk_at "ini"
 unfold nY
 obtain ⟨s,o,⟨rfl,rfl⟩,k⟩:=h
 cases o with
 | none=>
  simp only[dF]
  walk_at "go"
  exact ⟨_,.refl _,k⟩
 | some i=>
  simp only[dF]
  walk_at "go"
  by_cases h:i=0
  ·refine jP h ⟨_,.refl _,?_⟩
   have e:zR s (some i)=some (s.bt - 1):=by simp[zR,h]
   rw[e] at k;exact k
  ·refine iu h ⟨_,.refl _,?_⟩
   have e:zR s (some i)=some (i - 1):=by simp[zR,h]
   rw[e] at k;exact k
theorem wK {d M:Int}{ns:List Int}(ne:ns≠[])(h:M∈ns)(g:∀ a∈ns,a<=M):su d ns=M:=by
 have key:∀ (l:List Int) (a:Int),(∀ b∈a::l,b<=M)->M∈a::l->l.foldl max a=M:=by
  intro l
  induction l with
  | nil=>intro a h1 h2;simp at h2;exact h2.symm
  | cons b l ih=>
   intro a h1 h2
   rw[XR]
   refine ih (max a b) (λc hc=>?_) ?_
   ·rcases WM.mp hc with rfl | hc
    ·have:=h1 a (by simp);have:=h1 b (by simp);omega
    ·exact h1 c (by simp[hc])
   ·have ha:=h1 a (by simp);have hb:=h1 b (by simp)
    rcases WM.mp h2 with e | h2
    ·have:max a b=M:=by omega
     rw[this];simp
    ·rcases WM.mp h2 with e | h2
     ·have:max a b=M:=by omega
      rw[this];simp
     ·simp[h2]
 cases ns with
 | nil=>exact absurd rfl ne
 | cons a l=>exact key l a g h
theorem OM {ns:List Int}{μ:Mu}{Q:DK}(k:Q (.int (su 0 ns)) μ):RY (.ls (ns.map .int)) (.int 0) μ Q:=by
 refine ⟨ns,rfl,λe=>?_,λne M h1 h2=>by rw[wK ne h1 h2] at k;exact k⟩
 rw[e] at k;exact k
theorem JD (g:Int)(x:Ss):cutD [.str x.nm,dF x.du,ft x.W g,ft x.S g,.int x.nx,dF x.lf,.tup (dh x.ag),.tup (dh x.lo),.int x.gd,.int x.mk',.int x.wt] (some 2) (some 7)=[ft x.W g,ft x.S g,.int x.nx,dF x.lf,.tup (dh x.ag)]:=rfl
def d9:FSp:=λds μ Q=>kcA ds λsd ds=>kcA ds λkd ds=>kcO ds λlo ds=>kcL ds λtk ds=>kcN ds (∃ (g:Int) (s:Sn) (x:Ss) (bz taken:List Lt),((sd=s.toD/\kd=x.toD g/\tk=ltD taken)/\μ lo=some (.lst (ltD bz))/\(WC s.nm=true/\(∀ l∈bz,WC l.nm=true)/\∀ l∈taken,WC l.nm=true)/\(bz.length<=900000/\taken.length<=900000)/\x.lo.length+(own s.nm bz).length < 64)/\Q ((mQ s x bz taken).toD g) μ)
theorem nB:∀ ds μ Q,d9 ds μ Q->ds.length=4:=λ_ _ _ h=>lcA h λ_ _ h=>lcA h λ_ _ h=>lcO h λ_ _ h=>lcL h λ_ _ h=>by rw[(ecN h).1];rfl
def jD:STr:=aA (aP (jN (ai 2) (ax 0) (TB (ak rEq (ak L3.rIx (ai 0) (TC (.int 0))) (ak L3.rIx (ai 1) (TC (.int 0))))) (ak L3.rIx (ai 0) (TC (.int 1))) 1 [0]) (ax 4)) (aA (aP (bO (dq (ai 3)) (ax 0) (TB (ak rEq (ak L3.rIx (ai 0) (TC (.int 0))) (ak L3.rIx (ai 1) (TC (.int 0))))) (ai 0) 1 [0]) (ax 5)) (aA (aP (au yn (ah (bO (dq (ai 5)) (ax 0) (eG) (ak L3.rIx (ai 0) (TC (.int 4))) 1 []) (av))) (ax 6)) (aA (aP (DB (bO (dq (ai 5)) (ax 0) (eG) (ak jr (ak L3.rIx (ai 0) (TC (.int 2))) (ak L3.rIx (ai 0) (TC (.int 3)))) 1 []) (TC (.int 0))) (ax 7)) (aA (aP (bB (ah (ak jr (ak aR (ak L3.rIx (ai 1) (TC (.int 8))) (au dg (ah (ai 5) (av)))) (ai 6)) (ah (ak aR (ak L3.rIx (ai 1) (TC (.int 9))) (ai 6)) (ah (au qj (ah (ak L3.rIx (ai 1) (TC (.int 10))) (ah (ai 7) (av)))) (av))))) (ax 8)) (aA (aP (bB (ah (ak L3.rIx (ai 1) (TC (.int 0))) (ah (au fJ (ah (ai 0) (ah (ak L3.rIx (ai 1) (TC (.int 1))) (av)))) (av)))) (ax 9)) (a6 (ak aR (ak aR (ak aR (ai 9) (TSl (ai 1) (mS (TC (.int 2))) (mS (TC (.int 7))))) (bB (ah (au bG (ah (au pU (ah (ak aR (ak L3.rIx (ai 1) (TC (.int 7))) (au bG (ah (ai 4) (av)))) (av))) (av))) (av)))) (ai 8))))))))
theorem pC:∀ ds μ Q,d9 ds μ Q->jD { nx:=λ_ μ'=>RT Q .non μ',rt:=RT Q } (ini 10 ds) μ:=by
 intro ds μ Q h
 replace h:=ecA h
 obtain ⟨sd,ds,rfl,h⟩:=h
 replace h:=ecA h
 obtain ⟨kd,ds,rfl,h⟩:=h
 replace h:=ecO h
 obtain ⟨lo,ds,rfl,h⟩:=h
 replace h:=ecL h
 obtain ⟨tk,ds,rfl,h⟩:=h
 replace h:=ecN h
 obtain ⟨rfl,h⟩:=h
 walk_at "ini"
 unfold jD
 walk_at "go"
 obtain ⟨g,s,x,bz,taken,⟨⟨rfl,rfl,rfl⟩,el,⟨hn,h1,h2⟩,⟨l1,l2⟩,h64⟩,k⟩:=h
 refine bx el ?_
 refine ny bz Lt.toD (λl=>if l.nm=s.nm then some (.int l.nu) else none) rfl el (by omega) (λl hl μ' sb N nn=>?_) ?_
 ·walk_at "go"
  refine ⟨⟨h1 l hl,hn⟩,kif (λh=>?_) (λh=>?_)⟩
  ·rw[if_pos h] at nn;exact nn
  ·rw[if_neg h] at nn;exact nn
 rw[eF (λl:Lt=>l.nm=s.nm) (λl=>D.int l.nu)]
 walk_at "go"
 refine j6 taken Lt.toD (λl=>if l.nm=s.nm then some l.toD else none) rfl (by omega) (λl hl μ' sb N nn=>?_) ?_
 ·walk_at "go"
  refine ⟨⟨h2 l hl,hn⟩,kif (λh=>?_) (λh=>?_)⟩
  ·rw[if_pos h] at nn;exact nn
  ·rw[if_neg h] at nn;exact nn
 rw[eF (λl:Lt=>l.nm=s.nm) Lt.toD]
 have lo2:=Yx (λl:Lt=>decide (l.nm=s.nm)) taken
 walk_at "go"
 refine bH (own s.nm taken) Lt.toD (λl=>.int l.mr) rfl (by unfold own;omega) (λl hl μ' sb N nn=>?_) ?_
 ·walk_at "go"
  exact nn
 walk_at "go"
 refine ⟨(own s.nm taken).map Lt.mr,by rw[Wz];rfl,?_⟩
 walk_at "go"
 refine bH (own s.nm taken) Lt.toD (λl=>.int (l.ag - l.hp)) rfl (by unfold own;omega) (λl hl μ' sb N nn=>?_) ?_
 ·walk_at "go"
  exact nn
 walk_at "go"
 rw[show (own s.nm taken).map (λl=>D.int (l.ag - l.hp))=((own s.nm taken).map λl=>l.ag - l.hp).map .int by rw[Wz];rfl]
 refine OM ?_
 simp only[↓Oo]
 walk_at "go"
 simp only[JD]
 refine ⟨s,x.du,⟨rfl,rfl⟩,?_⟩
 unfold own at h64
 have eo:(List.filter (λx:Lt=>decide (x.nm=s.nm)) bz).map (λl=>D.int l.nu)=((own s.nm bz).map Lt.nu).map .int:=by unfold own;rw[Wz];rfl
 refine ⟨by simp,by simp only[Wm];omega,x.lo++(own s.nm bz).map Lt.nu,⟨by rw[eo,WQ],by unfold own;rw[Wv,Wm];exact h64⟩,λns' pm so=>?_⟩
 rw[xJ pm so]
 refine ⟨by simp,by simp,_,.refl _,?_⟩
 have e:(mQ s x bz taken).toD g=_:=rfl
 unfold mQ Ss.toD own at k
 simp only[Wm]
 exact k
theorem Hz {kvs:List (L2.Key×D)}{k:L2.Key}{d:D}(h:k ∉ kvs.map (·.1)):putD kvs k d=kvs++[(k,d)]:=by
 unfold putD
 refine if_neg λz=>?_
 obtain ⟨x,hx,e⟩:=Z6.mp z
 exact h (Wq.mpr ⟨x,hx,by simpa using e⟩)
theorem kA:∀ (more kvs:List (L2.Key×D)),((kvs++more).map (·.1)).Nodup->jy kvs more=kvs++more
 | [],kvs,_=>by simp[jy]
 | (k,d)::r,kvs,h=>by
  have h1:k ∉ kvs.map (·.1):=λz=>by
   rw[WQ,WE,YF] at h
   exact h.2.2 k z k (by simp) rfl
  show jy (putD kvs k d) r=_
  rw[Hz h1,kA r _ (by simpa using h)]
  simp
theorem Ej {ss:List Sn}(h:(ss.map Sn.nm).Nodup):jy [] (eI ss)=eI ss:=by
 refine kA _ [] ?_
 rw[Yc]
 unfold eI
 rw[Wz]
 have:(ss.map ((λx:L2.Key×D=>x.1) ∘ λs=>((.inr s.nm,.tup (s.rd.map .str)):L2.Key×D)))=(ss.map Sn.nm).map YT:=by rw[Wz];rfl
 rw[this]
 exact zaO _ (λa b (hab:a≠b) (z:YT a=YT b)=>hab (zel z)) h
theorem qN {α β:Type}(f:α->D)(g:β->D)(xs:List α)(ys:List β):XF (λd e=>D.tup [d,e]) (xs.map f) (ys.map g)=(WA xs ys).map λy=>.tup [f y.1,g y.2]:=by
 simp only[WA,zdo,zbh]
theorem BL {α:Type}{G:GTr}{te:ETr}{ρc:ST}{ds:List D}{μ:Mu}{Q:DK}(xs:List α)(t:α->D)(h:α->D)(hds:ds=xs.map t)(hl:xs.length<=999999)
  (step:∀ x∈xs,∀ μ',Sub μ μ'->∀ (N:DK),N (h x) μ'->G (t x) ρc μ' λρ1 μ1=>te ρ1 μ1 N)
  (k:∀ p,μ p=none->Q (.obj p) (up μ p (.lst (xs.map h)))):Oe G eG te ρc ds μ Q:=by
 subst hds
 intro p hp
 suffices go:∀ (r done:List α),done++r=xs->fG p G eG te ρc (λμ'=>Q (.obj p) μ') (r.map t) (up μ p (.lst (done.map h))) from go xs [] rfl
 intro r
 induction r with
 | nil=>
  intro done e
  rw[W8] at e;subst e
  exact k p hp
 | cons d r ih=>
  intro done e
  have hd:d∈xs:=by rw[← e];simp
  have lf:(done.map h).length < 1000000:=by
   have:=congrArg Xr e
   simp at this ⊢;omega
  refine step d hd _ (Sub.new hp) _ (bx aE ⟨lf,?_⟩)
  rw[iC]
  have:=ih (done++[d]) (by rw[← e];simp)
  rw[WQ] at this
  exact this
theorem vw {β:Type}(f:Wt->List β)(zs:List (Wy×Wt)):(zs.flatMap λy=>f y.2)=(zs.map (·.2)).flatMap f:=by rw[zdp]
def btD (g:Int)(b:Ss×List Int):D:=.tup [b.1.toD g,.tup (dh b.2)]
theorem br {α β γ:Type}(f:α->β->γ)(xs:List α)(ys:List β):XF f xs ys=(WA xs ys).map λp=>f p.1 p.2:=by
 simp[WA,zbh]
structure QD (p:Pn) (st:St'):Prop where
 g:Gd p.g
 sd:p.sn.Nodup
 sl:p.ss.length<=100
 wl:p.ws.length<=100
 sn:∀ n∈p.sn,WC n=true
 rl:∀ s∈p.ss,s.rl.Ok/\s.rd≠[]/\∀ n∈s.rd,WC n=true
 wy:∀ w∈p.ws,WC w.nm=true/\0<=w.pc
 ws:∀ w∈st.ws,w.Ok
 ss:∀ y∈WA p.ss st.ss,y.2.Ok p.g y.1.rl
 nb:∀ b∈p.bL st,b.2.length<=1000
 se:∀ x∈p.aJ st,WC x.1=true/\x.2.nm∈p.sn
 sz:(p.aJ st).length<=100000
 wz:∀ w∈st.ws,(∀ l∈w.cm++w.st,l.nm∈p.sn)/\w.cm.length+w.st.length<=700000
 go:∀ x∈p.bC st,x.ca.length+x.ou.length<=900000/\x.st.length<=900000
 ou:∀ l∈p.out st,l.nm∈p.sn/\0<=l.hp
 lo:∀ l∈p.bz st,l.nm∈p.sn
 oz:(p.out st).length<=900000
 lz:(p.bz st).length<=900000
 ez:(p.evs st).length<=900000
 lt:∀ y∈WA p.ss (p.bL st),y.2.1.lo.length+(own y.1.nm (p.bz st)).length < 64
def iR:FSp:=λds μ Q=>kcA ds λpd ds=>kcA ds λsd ds=>kcN ds (∃ (p:Pn) (st:St'),((pd=p.toD/\sd=st.toD p.g)/\QD p st)/\Q (.tup [(p.step st).toD p.g,.ls (evD (p.evs st))]) μ)
theorem zc:∀ ds μ Q,iR ds μ Q->ds.length=2:=λ_ _ _ h=>lcA h λ_ _ h=>lcA h λ_ _ h=>by rw[(ecN h).1];rfl
def uB:STr:=aA (aP (ak L3.rIx (ai 0) (TC (.int 2))) (ax 2)) (aA (aP (au bG (ah (bO (dq (ai 2)) (ax 0) (eG) (ak L3.rIx (ai 0) (TC (.int 0))) 1 []) (av))) (ax 3)) (aA (aP (au tY (ah (bO (dq (ai 2)) (ax 0) (eG) (bB (ah (ak L3.rIx (ai 0) (TC (.int 0))) (ah (ak L3.rIx (ai 0) (TC (.int 1))) (av)))) 1 []) (av))) (ax 4)) (aA (aP (bO (kZ (ah (ai 2) (ah (ak L3.rIx (ai 1) (TC (.int 1))) (av)))) (de [0,1]) (eG) (au kf (ah (ak L3.rIx (ai 3) (TC (.int 0))) (ah (ai 0) (ah (ai 1) (ah (ai 2) (av)))))) 2 [1,0]) (ax 5)) (aA (aP (au dH (ah (ai 2) (ah (bO (dq (ai 5)) (de [0,1]) (eG) (ai 1) 2 []) (av)))) (ax 6)) (aA (aP (bO (kZ (ah (ak L3.rIx (ai 0) (TC (.int 1))) (ah (ak L3.rIx (ai 1) (TC (.int 0))) (av)))) (de [0,1]) (eG) (au kh (ah (ai 0) (ah (ai 2) (ah (ai 1) (ah (ai 3) (av)))))) 2 [3,6]) (ax 7)) (aA (aP (uZ (dq (ai 6)) (de [0,1]) (eG) (bB (ah (TC (.str "sent")) (ah (ak L3.rIx (ai 1) (TC (.int 0))) (ah (ak L3.rIx (ai 1) (TC (.int 1))) (ah (ai 0) (av)))))) 2 []) (ax 8)) (aA (aP (nD (av)) (ax 9)) (aA (aP (nD (av)) (ax 10)) (aA (iJ (kZ (ah (ak L3.rIx (ai 0) (TC (.int 1))) (ah (ai 7) (av)))) (de [11,12]) (aA (fE (ur (ai 8) (au fY (ah (ai 11) (ah (ai 4) (ah (ai 12) (av))))))) (aA (fE (ur (ai 9) (ak L3.rIx (ai 12) (TC (.int 1))))) (fE (ur (ai 10) (ak L3.rIx (ai 12) (TC (.int 2)))))))) (aA (aP (jN (ai 10) (ax 0) (TB (ak rIs (au da (ah (ai 1) (ah (ai 0) (av)))) (TC .non))) (ai 0) 1 [4]) (ax 13)) (aA (aP (bO (kZ (ah (ak L3.rIx (ai 0) (TC (.int 1))) (ah (ai 7) (av)))) (de [0,1]) (eG) (au fN (ah (ai 0) (ah (ai 2) (ah (ai 1) (ah (ai 3) (av)))))) 2 [4,10]) (ax 14)) (aA (aP (bO (kZ (ah (ai 2) (ah (ai 5) (av)))) (de [0,1]) (eG) (au d9 (ah (ai 0) (ah (ak L3.rIx (ai 1) (TC (.int 0))) (ah (ai 2) (ah (ai 3) (av)))))) 2 [9,13]) (ax 15)) (a6 (bB (ah (bB (ah (au bG (ah (ai 14) (av))) (ah (au bG (ah (ai 15) (av))) (av)))) (ah (yS (ai 8)) (av)))))))))))))))))
theorem AY:∀ ds μ Q,iR ds μ Q->uB { nx:=λ_ μ'=>RT Q .non μ',rt:=RT Q } (ini 16 ds) μ:=by
 intro ds μ Q h
 replace h:=ecA h
 obtain ⟨pd,ds,rfl,h⟩:=h
 replace h:=ecA h
 obtain ⟨sd,ds,rfl,h⟩:=h
 replace h:=ecN h
 obtain ⟨rfl,h⟩:=h
 walk_at "ini"
 unfold uB
 walk_at "go"
 obtain ⟨p,st,⟨⟨rfl,rfl⟩,R⟩,k⟩:=h
 have sl:=R.sl
 walk_at "go"
 refine bH p.ss Sn.toD (λs=>.str s.nm) rfl (by omega) (λs hs μ' sb N nn=>?_) ?_
 ·walk_at "go"
  exact nn
 walk_at "go"
 refine bH p.ss Sn.toD (λs=>.tup [.str s.nm,.tup (s.rd.map .str)]) rfl (by omega) (λs hs μ' sb N nn=>?_) ?_
 ·walk_at "go"
  exact nn
 walk_at "go"
 refine ⟨eI p.ss,by unfold eI;rw[Wz];rfl,by unfold eI;rw[Wm];omega,λr hr=>?_⟩
 rw[Ej R.sd]
 walk_at "go"
 rw[qN]
 have lz:∀ {α β:Type} (xs:List α) (ys:List β),(WA xs ys).length<=xs.length:=λxs ys=>by simp;omega
 refine bH (WA p.ss st.ss) (λy=>.tup [y.1.toD,y.2.toD p.g]) (λy=>btD p.g (y.2.bt p.g y.1 (st.und y.2.nm))) rfl (by have:=lz p.ss st.ss;omega) (λy hy μ' sb N nn=>?_) ?_
 ·walk_at "go"
  exact ⟨y.1,y.2,st,⟨⟨rfl,rfl,rfl⟩,(R.rl _ (WI hy).1).1,R.g,R.ss y hy,R.ws⟩,nn⟩
 have eb:(WA p.ss st.ss).map (λy=>btD p.g (y.2.bt p.g y.1 (st.und y.2.nm)))=(p.bL st).map (btD p.g):=by unfold Pn.bL;rw[br,Wz];rfl
 have lb:(p.bL st).length<=100:=by unfold Pn.bL;rw[XW];omega
 rw[eb]
 walk_at "go"
 refine bH (p.bL st) (btD p.g) (λb=>.tup (dh b.2)) rfl (by omega) (λb hb μ' sb N nn=>?_) ?_
 ·unfold btD
  walk_at "go"
  exact nn
 walk_at "go"
 refine ⟨p.ss,(p.bL st).map (·.2),⟨⟨rfl,by unfold nsD;rw[Wz];rfl⟩,sl,by rw[Wm];exact lb,λn hn=>?_,λs hs=>(R.rl s hs).2.1⟩,?_⟩
 ·obtain ⟨b,hb,rfl⟩:=Wq.mp hn
  exact R.nb b hb
 rw[show j3 p.ss ((p.bL st).map (·.2))=p.aJ st from rfl]
 have sz:=R.sz
 have wl:=R.wl
 walk_at "go"
 rw[qN]
 refine bH (WA p.ws st.ws) (λy=>.tup [y.1.toD,y.2.toD]) (λy=>(pass y.1 p.sn y.2 (p.aJ st)).toD) rfl (by have:=lz p.ws st.ws;omega) (λy hy μ' sb N nn=>?_) ?_
 ·walk_at "go"
  have hw:=R.wy _ (WI hy).1
  have hk:=R.wz _ (WI hy).2
  have len2:p.sn.length<=900000:=by unfold Pn.sn;rw[Wm];omega
  refine ⟨y.1,p.sn,y.2,p.aJ st,⟨⟨rfl,by unfold Pn.sn;rw[Wz];rfl,rfl,rfl⟩,⟨hw.1,λx hx=>(R.se x hx).1⟩,hw.2,R.sn,λl hl=>?_,by have:=hk.2;omega,len2⟩,nn⟩
  rcases W2.mp hl with hl | hl
  ·exact hk.1 l hl
  ·obtain ⟨x,hx,rfl⟩:=Wq.mp hl
   exact (R.se x hx).2
 have ew:(WA p.ws st.ws).map (λy=>(pass y.1 p.sn y.2 (p.aJ st)).toD)=(p.bC st).map Wt.toD:=by unfold Pn.bC;rw[br,Wz];rfl
 rw[ew]
 walk_at "go"
 refine BL (p.aJ st) sdD (λx=>(⟨OF "sent", x.2.nm,x.2.nu,x.1⟩:Ev).toD) rfl (by omega) (λx hx μ' sb N nn=>?_) (λe he=>?_)
 ·walk_at "go"
  exact nn
 walk_at "go"
 intro l hl o ho
 walk_at "go"
 rw[qN]
 have er0:up μ r (.dct (eI p.ss)) r=some (.dct (eI p.ss)):=aE
 generalize hμr:up μ r (.dct (eI p.ss))=μr at *
 have nre:r≠e:=λz=>by rw[← z,er0] at he;cases he
 have nel:e≠l:=λz=>by rw[← z,aE] at hl;cases hl
 have nlo:l≠o:=λz=>by rw[← z,aE] at ho;cases ho
 have hl':μr l=none:=by rw[aS (W9 nel)] at hl;exact hl
 have ho1:up μr e (.lst ((p.aJ st).map λx=>(⟨OF "sent", x.2.nm,x.2.nu,x.1⟩:Ev).toD)) o=none:=by rw[aS (W9 nlo)] at ho;exact ho
 have neo:e≠o:=λz=>by rw[← z,aE] at ho1;cases ho1
 have ho':μr o=none:=by rw[aS (W9 neo)] at ho1;exact ho1
 have nrl:r≠l:=λz=>by rw[← z,er0] at hl';cases hl'
 have nro:r≠o:=λz=>by rw[← z,er0] at ho';cases ho'
 have og:=R.go;have oe:=R.ez;have oz:=R.oz;have olz:=R.lz
 have TR:∀ {a},a∈WA p.ws (p.bC st)->a.2∈p.bC st:=λh=>(WI h).2
 have lw:(p.bC st).length<=p.ws.length:=by unfold Pn.bC;rw[XW];omega
 have zw:(WA p.ws (p.bC st)).map (·.2)=p.bC st:=by
  rw[List.map_snd_zip];exact lw
 refine bT (λrr ρ μ'=>∃ (a c:List (Wy×Wt)) (v11 v12 v13 v14 v15:Option D),rr=c.map (λy=>.tup [y.1.toD,y.2.toD])/\a++c=WA p.ws (p.bC st)/\
  ρ=[some p.toD,some (st.toD p.g),some (.tup (snD p.ss)),some (.tup (p.ss.map λs=>.str s.nm)),some (.obj r),some (.ls ((p.bL st).map (btD p.g))),some (.ls ((p.aJ st).map sdD)),some (.ls ((p.bC st).map Wt.toD)),some (.obj e),some (.obj l),some (.obj o),v11,v12,v13,v14,v15]/\
  (μ' e=some (.lst (evD ((p.aJ st).map (λx=>⟨OF "sent", x.2.nm,x.2.nu,x.1⟩)++a.flatMap λy=>evs p.ss y.1 y.2)))/\μ' l=some (.lst (ltD (a.flatMap λy=>y.2.lo)))/\μ' o=some (.lst (ltD (a.flatMap λy=>y.2.ou))))/\∀ b,b≠e->b≠l->b≠o->μ' b=μr b) ?_ ?_ _ _ _
  ⟨[],WA p.ws (p.bC st),_,_,_,_,_,rfl,rfl,rfl,⟨?_,?_,?_⟩,λb h1 h2 h3=>?_⟩
 rotate_left 2
 ·rw[aS neo,aS nel,aE];simp
 ·rw[aS nlo,aE];rfl
 ·rw[aE];rfl
 ·rw[aS h3,aS h2,aS h1]
 ·rintro ρ μ' ⟨a,c,v11,v12,v13,v14,v15,er',ez,rfl,⟨ee,el,eo⟩,eq⟩
  have:c=[]:=by cases c with | nil=>rfl | cons=>cases er'
  subst this
  rw[W8] at ez
  subst ez
  have el':μ' l=some (.lst (ltD (p.bz st))):=by rw[el,vw,zw];rfl
  have eo':μ' o=some (.lst (ltD (p.out st))):=by rw[eo,vw,zw];rfl
  have ee':μ' e=some (.lst (evD (p.evs st))):=by rw[ee];unfold Pn.evs;rw[br];congr 3
  have er1:μ' r=some (.dct (eI p.ss)):=by rw[eq r nre nrl nro];exact er0
  have hnm:∀ {n},n∈p.sn->n∈p.ss.map Sn.nm:=λh=>h
  walk_at "go"
  refine bx eo' ?_
  refine ny (p.out st) Lt.toD (λl=>if cy p.ss l=none then some l.toD else none) rfl eo' (by omega) (λy hy μ2 sb N nn=>?_) ?_
  ·walk_at "go"
   refine ⟨p.ss,y,⟨rfl,sb _ _ er1,hnm (R.ou y hy).1,(R.ou y hy).2⟩,?_⟩
   show rIs (yg (cy p.ss y)) .non μ2 _
   rw[Dr]
   walk_at "go"
   refine kif (λh=>?_) (λh=>?_)
   ·rw[if_pos h] at nn;exact nn
   ·rw[if_neg h] at nn;exact nn
  rw[eF (λl:Lt=>cy p.ss l=none) Lt.toD]
  rw[show (p.out st).filter (λl=>decide (cy p.ss l=none))=p.taken st from rfl]
  walk_at "go"
  rw[qN]
  refine bH (WA p.ws (p.bC st)) (λy=>.tup [y.1.toD,y.2.toD]) (λy=>(nr p.ss y.1 y.2 (p.out st)).toD) rfl (by have:=lz p.ws (p.bC st);omega) (λy hy μ2 sb N nn=>?_) ?_
  ·walk_at "go"
   have h1:=R.wy _ (WI hy).1
   exact ⟨y.1,p.ss,y.2,p.out st,⟨⟨rfl,rfl⟩,⟨sb _ _ er1,sb _ _ eo'⟩,λx hx=>⟨hnm (R.ou x hx).1,(R.ou x hx).2⟩,⟨h1.1,λs hs=>(R.rl s hs).2.2⟩,R.oz,(R.go _ (TR hy)).2⟩,nn⟩
  have e1:(WA p.ws (p.bC st)).map (λy=>(nr p.ss y.1 y.2 (p.out st)).toD)=wsD (p.step st).ws:=by unfold Pn.step wsD;simp only;rw[br,Wz];rfl
  rw[e1]
  walk_at "go"
  rw[qN]
  have lt1:(p.taken st).length<=900000:=by have:=Yx (λl:Lt=>decide (cy p.ss l=none)) (p.out st);unfold Pn.taken;omega
  refine bH (WA p.ss (p.bL st)) (λy=>.tup [y.1.toD,btD p.g y.2]) (λy=>(mQ y.1 y.2.1 (p.bz st) (p.taken st)).toD p.g) rfl (by have:=lz p.ss (p.bL st);omega) (λy hy μ2 sb N nn=>?_) ?_
  ·unfold btD
   walk_at "go"
   have hs:=(WI hy).1
   refine ⟨p.g,y.1,y.2.1,p.bz st,p.taken st,⟨⟨rfl,rfl,rfl⟩,sb _ _ el',⟨R.sn _ (Wq.mpr ⟨_,hs,rfl⟩),λx hx=>R.sn _ (R.lo x hx),λx hx=>R.sn _ (R.ou x (Xd.mp hx).1).1⟩,⟨R.lz,lt1⟩,R.lt y hy⟩,nn⟩
  have e2:(WA p.ss (p.bL st)).map (λy=>(mQ y.1 y.2.1 (p.bz st) (p.taken st)).toD p.g)=ssD p.g (p.step st).ss:=by unfold Pn.step ssD;simp only;rw[br,Wz];rfl
  rw[e2]
  walk_at "go"
  refine bx ee' ?_
  refine ⟨μ,λb ob hb=>?_,k⟩
  have nb:∀ z,μr z=none->b≠z:=λz hz w=>by
   rw[w] at hb
   rw[← hμr] at hz
   by_cases hzr:z=r
   ·rw[hzr,hr] at hb;cases hb
   ·rw[aS hzr,hb] at hz;cases hz
  have n1:=nb e he
  have n2:=nb l hl'
  have n3:=nb o ho'
  unfold dn
  rw[if_neg n1,eq b n1 n2 n3,← hμr,aS (λw=>by rw[w,hr] at hb;cases hb)]
  exact hb
 ·rintro d rr ρ μ' N ⟨a,c,v11,v12,v13,v14,v15,er',ez,rfl,⟨ee,el,eo⟩,eq⟩ hN
  cases c with
  | nil=>cases er'
  | cons y c=>
  cases er'
  have hy:y∈WA p.ws (p.bC st):=by rw[← ez];simp
  have hyw:=TR hy
  have er1:μ' r=some (.dct (eI p.ss)):=by rw[eq r nre nrl nro];exact er0
  walk_at "go"
  refine bx ee ?_
  have hou:∀ x∈y.2.ou,x.nm∈p.ss.map Sn.nm/\0<=x.hp:=λx hx=>R.ou x (X8.mpr ⟨_,hyw,hx⟩)
  refine ⟨y.1,p.ss,y.2,⟨⟨rfl,rfl⟩,er1,hou,(og _ hyw).1⟩,?_⟩
  walk_at "go"
  have za:a++y::c=WA p.ws (p.bC st):=ez
  have le1:(evD ((p.aJ st).map (λx=>⟨OF "sent", x.2.nm,x.2.nu,x.1⟩)++a.flatMap λy=>evs p.ss y.1 y.2)).length+(evD (evs p.ss y.1 y.2)).length<=1000000:=by
   have:(p.evs st).length=(p.aJ st).length+((a++y::c).flatMap λy=>evs p.ss y.1 y.2).length:=by
    unfold Pn.evs;rw[br,za,Wv,Wm];rfl
   rw[Xw,XG,Wv,Wv] at this
   simp only[Wm,Wv];omega
  have ll1:(ltD (a.flatMap λy=>y.2.lo)).length+(ltD y.2.lo).length<=1000000:=by
   have:(p.bz st).length=((a++y::c).flatMap λy=>y.2.lo).length:=by unfold Pn.bz;rw[za,vw,zw]
   rw[Xw,XG,Wv,Wv] at this
   simp only[Wm];omega
  have lo1:(ltD (a.flatMap λy=>y.2.ou)).length+(ltD y.2.ou).length<=1000000:=by
   have:(p.out st).length=((a++y::c).flatMap λy=>y.2.ou).length:=by unfold Pn.out;rw[za,vw,zw]
   rw[Xw,XG,Wv,Wv] at this
   simp only[Wm];omega
  refine bx ee ⟨le1,?_⟩
  walk_at "go"
  refine bx (by rw[aS (W9 nel)];exact el) (bx (by rw[aS (W9 nel)];exact el) ⟨ll1,?_⟩)
  walk_at "go"
  refine bx (by rw[aS (W9 nlo),aS (W9 neo)];exact eo) (bx (by rw[aS (W9 nlo),aS (W9 neo)];exact eo) ⟨lo1,?_⟩)
  refine hN _ _ ⟨a++[y],c,_,_,_,_,_,rfl,by rw[← ez];simp,rfl,⟨?_,?_,?_⟩,λb h1 h2 h3=>?_⟩
  ·rw[aS neo,aS nel,aE,Xw];simp
  ·rw[aS nlo,aE,Xw];simp
  ·rw[aE,Xw];simp
  ·rw[aS h3,aS h2,aS h1,eq b h1 h2 h3]
theorem rM {α:Type}{f g:α->Nat}:∀ {l:List α},(∀ x∈l,f x<=g x)->(l.map f).sum<=(l.map g).sum
 | [],_=>WG _
 | a::r,h=>by
  have h1:=h a WL
  have h2:=rM (l:=r) λx hx=>h x (WU _ hx)
  simp only[WE,Xb];omega
theorem a5 {α:Type}(f g:α->Nat):∀ l:List α,(l.map λx=>f x+g x).sum=(l.map f).sum+(l.map g).sum
 | []=>rfl
 | a::r=>by have:=a5 f g r;simp only[WE,Xb];omega
theorem kg {α:Type}{f:α->Nat}{k:Nat}:∀ {l:List α},(∀ x∈l,f x<=k)->(l.map f).sum<=l.length*k
 | [],_=>by simp
 | a::r,h=>by
  have h1:=h a WL
  have h2:=kg (l:=r) λx hx=>h x (WU _ hx)
  simp only[WE,Xb,WY,Nat.succ_mul];omega
theorem iV {α:Type}{f:α->Nat}:∀ {l:List α} {x:α},x∈l->f x<=(l.map f).sum
 | a::r,x,h=>by
  simp only[WE,Xb]
  rcases WM.mp h with rfl | h
  ·omega
  ·have:=iV (f:=f) h;omega
theorem nO {κ:Type} [DecidableEq κ] (a:κ):∀ {ks:List κ},ks.Nodup->(ks.map λk=>if a=k then 1 else 0).sum<=1
 | [],_=>by simp
 | k::r,h=>by
  have h':=Xk.mp h
  simp only[WE,Xb]
  by_cases e:a=k
  ·have:(r.map λk=>if a=k then 1 else 0).sum=0:=by
    have:∀ l:List κ,a ∉ l->(l.map λk=>if a=k then 1 else 0).sum=0:=by
     intro l
     induction l with
     | nil=>intro _;rfl
     | cons b l ih=>
      intro hl
      simp only[WM,not_or] at hl
      simp[hl.1,ih hl.2]
    exact this r (by rw[e];exact h'.1)
   rw[if_pos e,this];exact WG 1
  ·rw[if_neg e];have:=nO a h'.2;omega
theorem split_le {α κ:Type} [DecidableEq κ] (f:α->κ){ks:List κ}(nd:ks.Nodup):∀ xs:List α,(ks.map λk=>(xs.filter λx=>decide (f x=k)).length).sum<=xs.length
 | []=>by
  have:∀ l:List κ,(l.map λ_=>0).sum=0:=λl=>by induction l<;>simp_all
  simpa using this ks
 | x::r=>by
  have h1:=split_le f nd r
  have h2:=nO (f x) nd
  have e:(ks.map λk=>((x::r).filter λx=>decide (f x=k)).length)=ks.map λk=>(if f x=k then 1 else 0)+(r.filter λx=>decide (f x=k)).length:=by
   refine W3 λk _=>?_
   by_cases z:f x=k<;>simp[z];omega
  rw[e,a5,WY];omega
theorem Ca (ns:List Str):∀ ls:List Lt,(∀ l∈ls,l.nm∈ns)->ls.length<=(ns.map λn=>(own n ls).length).sum
 | [],_=>by simp
 | x::r,h=>by
  have h1:=Ca ns r λl hl=>h l (WU _ hl)
  have hx:=h x WL
  have e:(ns.map λn=>(own n (x::r)).length)=ns.map λn=>(if x.nm=n then 1 else 0)+(own n r).length:=by
   refine W3 λk _=>?_
   unfold own
   by_cases z:x.nm=k<;>simp[z];omega
  have h2:1<=(ns.map λn=>if x.nm=n then 1 else 0).sum:=by
   have:=iV (f:=λn=>if x.nm=n then 1 else 0) hx
   simpa using this
  rw[e,a5,WY];omega
theorem vY (n:Str)(ls:List Lt):(own n ls).length=(ls.map Lt.nm).count n:=by
 unfold own
 induction ls with
 | nil=>rfl
 | cons x r ih=>by_cases z:x.nm=n<;>simp[z,ih]
theorem pI (n:Str)(a b:List Lt):(own n (a++b)).length=(own n a).length+(own n b).length:=by unfold own;simp
theorem qS:∀ {l:List Lt} {i:Nat} (h:i < l.length),([l[i]]++l.eraseIdx i).Perm l
 | x::r,0,_=>.refl _
 | x::r,i+1,h=>by
  have:=qS (l:=r) (i:=i) (by simpa using h)
  simp only[List.getElem_cons_succ,List.eraseIdx_cons_succ]
  exact (List.Perm.swap x _ _).trans (this.cons x)
theorem ri (ws:List Str)(p:Int):∀ (f:Nat) (st out:List Lt) (l:Str),((dW ws p f st out l).1++(dW ws p f st out l).2.1).Perm (out++st)
 | 0,st,out,l=>.refl _
 | f+1,st,out,l=>by
  unfold dW
  split
  ·split
   ·rename_i n _
    split
    ·rename_i x e
     refine (ri ws p f _ _ _).trans ?_
     obtain ⟨hi,rfl⟩:=W4.mp e
     rw[Y6]
     exact zbS _ (qS hi)
    ·exact .refl _
   ·exact .refl _
  ·exact .refl _
theorem dB (w:Wy)(ws:List Str)(st:List Lt)(l:Str):((b7 w ws st l).1++(b7 w ws st l).2.1).Perm st:=by
 unfold b7
 split
 ·exact ri ..
 ·simp only[zbT];exact .refl _
theorem pS (w:Wy):∀ (ys a b:List Lt),(((ys.foldl (b5 w) (a,b)).1++(ys.foldl (b5 w) (a,b)).2).map Lt.nm).Perm ((a++b++ys).map Lt.nm)
 | [],a,b=>by simp
 | y::r,a,b=>by
  rw[XR]
  by_cases h:w.rm<=(a.length:Int)
  ·rw[gT h]
   refine (pS w r a (b++[y])).trans (by simp)
  ·rw[oJ h]
   refine (pS w r (a++[gE w y a.length]) b).trans ?_
   simp only[WQ,WE,Zk,Dt,Y6]
   refine zbS _ ?_
   exact (List.perm_middle (l₁:=zc2 Lt.nm b)).symm
def Lt.In (sn:List Str)(l:Lt):Prop:=l.nm∈sn/\0<=l.hp/\0<=l.mr/\l.mr<=1
theorem Ny {sn:List Str}{w:Wy}{x:Lt}(n:Nat)(h:x.In sn):(gE w x n).In sn:=by
 unfold gE
 split
 ·exact h
 ·split
  ·exact h
  ·exact ⟨h.1,h.2.1,(show (0:Int)<=1 by decide),Xf 1⟩
theorem A1 {sn:List Str}(w:Wy):∀ (ys a b:List Lt),(∀ l∈a,l.In sn)->(∀ l∈b,l.In sn)->(∀ l∈ys,l.In sn)->(∀ l∈(ys.foldl (b5 w) (a,b)).1,l.In sn)/\∀ l∈(ys.foldl (b5 w) (a,b)).2,l.In sn
 | [],a,b,h1,h2,_=>⟨h1,h2⟩
 | y::r,a,b,h1,h2,h3=>by
  rw[XR]
  have hy:=h3 y WL
  have hr:∀ l∈r,l.In sn:=λl hl=>h3 l (WU _ hl)
  by_cases h:w.rm<=(a.length:Int)
  ·rw[gT h]
   refine A1 w r a (b++[y]) h1 (λl hl=>?_) hr
   rcases W2.mp hl with hl | hl
   ·exact h2 l hl
   ·rw[XO.mp hl];exact hy
  ·rw[oJ h]
   refine A1 w r _ b (λl hl=>?_) h2 hr
   rcases W2.mp hl with hl | hl
   ·exact h1 l hl
   ·rw[XO.mp hl];exact Ny _ hy
theorem GG (w:Wy)(ns:List Str)(k:Ws)(aJ:List (Str×Lt))(n:Str):(own n (pass w ns k aJ).lo).length+(own n (pass w ns k aJ).ou).length+(own n (pass w ns k aJ).st).length=(own n (pass w ns k aJ).ca).length+(own n k.st).length:=by
 have h1:=(pS w (pass w ns k aJ).ca k.st []).count_eq n
 have h2:=((dB w ns (tk w k.st (pass w ns k aJ).ca).1 k.la).map Lt.nm).count_eq n
 simp only[WQ,Xs,← vY] at h1 h2
 have e1:(pass w ns k aJ).lo=(tk w k.st (pass w ns k aJ).ca).2:=rfl
 have e2:(pass w ns k aJ).ou=(b7 w ns (tk w k.st (pass w ns k aJ).ca).1 k.la).1:=rfl
 have e3:(pass w ns k aJ).st=(b7 w ns (tk w k.st (pass w ns k aJ).ca).1 k.la).2.1:=rfl
 rw[e1,e2,e3]
 unfold tk at *
 have:(own n ([]:List Lt)).length=0:=rfl
 omega
theorem GL (w:Wy)(ns:List Str)(k:Ws)(aJ:List (Str×Lt)):(pass w ns k aJ).lo.length+(pass w ns k aJ).ou.length+(pass w ns k aJ).st.length=(pass w ns k aJ).ca.length+k.st.length:=by
 have h1:=(pS w (pass w ns k aJ).ca k.st []).length_eq
 have h2:=(dB w ns (tk w k.st (pass w ns k aJ).ca).1 k.la).length_eq
 simp only[Wm,Wv,zaj] at h1 h2
 have e1:(pass w ns k aJ).lo=(tk w k.st (pass w ns k aJ).ca).2:=rfl
 have e2:(pass w ns k aJ).ou=(b7 w ns (tk w k.st (pass w ns k aJ).ca).1 k.la).1:=rfl
 have e3:(pass w ns k aJ).st=(b7 w ns (tk w k.st (pass w ns k aJ).ca).1 k.la).2.1:=rfl
 rw[e1,e2,e3]
 unfold tk at *
 omega
theorem MR {sn:List Str}{w:Wy}{ns:List Str}{k:Ws}{aJ:List (Str×Lt)}(hk:∀ l∈k.cm++k.st,l.In sn)(hs:∀ x∈aJ,x.2.In sn):(∀ l∈(pass w ns k aJ).ca,l.In sn)/\(∀ l∈(pass w ns k aJ).lo,l.In sn)/\(∀ l∈(pass w ns k aJ).ou,l.In sn)/\∀ l∈(pass w ns k aJ).st,l.In sn:=by
 have hca:∀ l∈(pass w ns k aJ).ca,l.In sn:=λl hl=>by
  rcases W2.mp (show l∈k.cm++(aJ.filter λx=>decide (x.1=w.nm)).map (·.2) from hl) with hl | hl
  ·exact hk l (by simp[hl])
  ·obtain ⟨x,hx,rfl⟩:=Wq.mp hl
   exact hs x (Xd.mp hx).1
 have ht:=A1 w (pass w ns k aJ).ca k.st [] (λl hl=>hk l (by simp[hl])) (λl hl=>nomatch hl) hca
 have hp:=dB w ns (tk w k.st (pass w ns k aJ).ca).1 k.la
 refine ⟨hca,ht.2,λl hl=>ht.1 l (hp.mem_iff.mp (Xq _ hl)),λl hl=>ht.1 l (hp.mem_iff.mp (WZ _ hl))⟩
theorem Ds {lf:Option Int}{k:Int}(k0:0<=k)(hl:∀ i,lf=some i->0<=i):0<=js lf k/\js lf k<=k/\∀ i,lf.map (· - js lf k)=some i->0<=i:=by
 cases lf with
 | none=>exact ⟨k0,Xf _,λi h=>by cases h⟩
 | some l=>
  have:=hl l rfl
  refine ⟨?_,?_,λi h=>?_⟩
  ·show 0<=min k l;omega
  ·show min k l<=k;omega
  ·have e:l - min k l=i:=by simpa[js] using h
   omega
theorem NB (a:Int)(n:Nat):(rgI a n).length=n:=by unfold rgI;simp
structure Fills (x:Ss) (pl:Nat) (b:Ss×List Int):Prop where
 same:b.1.nm=x.nm/\b.1.du=x.du/\b.1.W=x.W/\b.1.S=x.S/\b.1.lo=x.lo/\b.1.gd=x.gd/\b.1.mk'=x.mk'/\b.1.wt=x.wt
 few:b.2.length<=pl
 all:b.1.ag.length+b.2.length<=max x.ag.length pl
 n0:x.nx<=b.1.nx
 n1:b.1.nx<=x.nx+pl
 l:∀ i,b.1.lf=some i->0<=i
theorem K0 {x:Ss}(pl:Nat)(hl:∀ i,x.lf=some i->0<=i):Fills x pl (x.fill pl):=by
 have tl:(x.ag.take pl).length=min pl x.ag.length:=YO
 obtain ⟨c0,c1,c2⟩:=Ds (lf:=x.lf) (k:=(pl:Int) - ((x.ag.take pl).length:Int)) (by omega) hl
 have e1:(x.fill pl).1.ag.length=x.ag.length - (x.ag.take pl).length:=by show (x.ag.drop _).length=_;rw[Zj]
 have e2:(x.fill pl).2.length=(x.ag.take pl).length+(js x.lf ((pl:Int) - ((x.ag.take pl).length:Int))).toNat:=by show (x.ag.take pl++rgI _ _).length=_;rw[Wv,NB]
 have e3:(x.fill pl).1.nx=x.nx+js x.lf ((pl:Int) - ((x.ag.take pl).length:Int)):=rfl
 refine ⟨⟨rfl,rfl,rfl,rfl,rfl,rfl,rfl,rfl⟩,by omega,by omega,by omega,by omega,c2⟩
structure SsI (g:Int) (R:RN) (n:Nat) (x:Ss):Prop where
 w0:g<=x.W
 w1:x.W<=R.cap g
 s0:0<=x.S
 s1:x.S<=g
 g0:0<=x.gd
 g1:x.gd<=60*n
 m0:0<=x.mk'
 m1:x.mk'<=60*n
 t0:0<=x.wt
 n0:0<=x.nx
 n1:x.nx<=60*n
 l:∀ i,x.lf=some i->0<=i
theorem SsI.ok {g:Int}{R:RN}{n:Nat}{x:Ss}(h:SsI g R n x)(hn:n<=10000)(nm:WC x.nm=true)(a:x.ag.length+x.lo.length<=60):x.Ok g R:=by
 have:=h.g1;have:=h.m1;have:=h.n1
 exact ⟨nm,h.w0,h.w1,h.s0,h.s1,⟨h.g0,(show x.gd<=1000000 by omega),h.m0,(show x.mk'<=1000000 by omega),(show (0:Int)<=(x.lo.length:Int) by omega),(show (x.lo.length:Int)<=1000000 by omega),h.t0⟩,by have:=h.n0;omega,by omega,a,h.l⟩
structure Ci (g:Int) (R:RN) (n:Nat) (u:Int) (x:Ss) (b:Ss×List Int):Prop where
 nm:b.1.nm=x.nm
 i:SsI g R (n+1) b.1
 g:b.1.gd<=60*n
 m:b.1.mk'<=60*n
 few:b.2.length<=60
 all:u+(b.2.length:Int)+(b.1.ag.length:Int)+(b.1.lo.length:Int)<=60
theorem Ux {p:Int}{s:Sn}{n:Nat}{x:Ss}{u:Int}(K:s.rl.Ok)(g0:0 < p)(h:SsI p s.rl n x)(hd:x.hd.Ok)(u0:0<=u)(a:u+(x.ag.length:Int)+(x.lo.length:Int)<=60):Ci p s.rl n u x (x.bt p s u):=by
 unfold Ss.bt
 have i:=h
 split
 ·have bi:=Hc K g0 x.hd (S:=x.S) h.w0 h.w1
  have bs:=PU K hd g0 h.s0 h.s1
  rw[← MN s.rl p x.W x.S x.hd] at bs
  have cl:=A2 K g0
  have d60:(s.rl.beh p x.W x.S x.hd).1 / p<=60:=Y2 g0 (by omega)
  generalize hpl:(max 0 ((s.rl.beh p x.W x.S x.hd).1 / p - u)).toNat=pl
  have F:=K0 (x:=x.rdy p s.rl) pl h.l
  have la:(x.rdy p s.rl).ag.length=x.ag.length+x.lo.length:=by show (fc _).length=_;rw[nI,Wv]
  obtain ⟨e1,e2,e3,e4,e5,e6,e7,e8⟩:=F.same
  have f1:=F.few;have f2:=F.all;have f3:=F.n0;have f4:=F.n1
  have ex:(x.rdy p s.rl).nx=x.nx:=rfl
  have elo:((x.rdy p s.rl).fill pl).1.lo.length=0:=by rw[e5];rfl
  have:=h.n0;have:=h.n1
  have z6:((x.rdy p s.rl).fill pl).1.gd=0:=e6
  have z7:((x.rdy p s.rl).fill pl).1.mk'=0:=e7
  have z8:((x.rdy p s.rl).fill pl).1.wt=0:=e8
  refine ⟨e1,⟨?_,?_,?_,?_,by omega,by omega,by omega,by omega,by omega,by omega,by omega,F.l⟩,by omega,by omega,by omega,by omega⟩
  ·rw[e3];exact bi.1
  ·rw[e3];exact bi.2
  ·rw[e4];exact bs.1
  ·rw[e4];exact bs.2
 ·have:=h.g1;have:=h.m1;have:=h.n1
  exact ⟨rfl,⟨h.w0,h.w1,h.s0,h.s1,h.g0,(show x.gd<=60*((n+1:Nat):Int) by omega),h.m0,(show x.mk'<=60*((n+1:Nat):Int) by omega),h.t0,h.n0,(show x.nx<=60*((n+1:Nat):Int) by omega),h.l⟩,h.g1,h.m1,by simp,by simpa using a⟩
theorem sG {ss:List Sn}{ns:List (List Int)}{x:Str×Lt}(h:x∈j3 ss ns):∃ s∈ss,∃ n,x=(s.rd.headD (OF ""),⟨s.nm,n,0,0,0⟩):=by
 rw[j5] at h
 obtain ⟨t,_,h⟩:=X8.mp h
 obtain ⟨y,hy,e⟩:=ZA.mp h
 unfold cG at e
 cases q:y.2[t]? with
 | none=>rw[q] at e;cases e
 | some n=>
  rw[q] at e
  cases e
  exact ⟨y.1,(WI hy).1,n,rfl⟩
theorem xo (n:Str)(t:Nat):∀ zs:List (Sn×List Int),(own n ((zs.filterMap (cG t)).map (·.2))).length<=(zs.map λy=>if n=y.1.nm then 1 else 0).sum
 | []=>by simp[own]
 | y::r=>by
  have ih:=xo n t r
  simp only[WE,Xb]
  cases e:cG t y with
  | none=>rw[za0 e];omega
  | some z=>
   rw[za1 e,WE]
   have ez:z.2.nm=y.1.nm:=by
    unfold cG at e
    cases q:y.2[t]? with
    | none=>rw[q] at e;cases e
    | some k=>rw[q] at e;cases e;rfl
   unfold own at *
   by_cases h:n=y.1.nm
   ·rw[if_pos h]
    rw[YQ]
    split
    ·rw[WY];omega
    ·omega
   ·rw[if_neg h,zbi (by rw[ez];simp;exact λz=>h z.symm)];omega
theorem tS (n:Str)(t L:Nat)(hL:L<=t):∀ zs:List (Sn×List Int),(∀ y∈zs,y.1.nm=n->y.2.length<=L)->(own n ((zs.filterMap (cG t)).map (·.2))).length=0
 | [],_=>rfl
 | y::r,h=>by
  have ih:=tS n t L hL r λy hy=>h y (WU _ hy)
  cases e:cG t y with
  | none=>rw[za0 e];exact ih
  | some z=>
   rw[za1 e,WE]
   unfold cG at e
   cases q:y.2[t]? with
   | none=>rw[q] at e;cases e
   | some k=>
    rw[q] at e;cases e
    have hlt:=(W4.mp q).1
    have ne:¬ y.1.nm=n:=λz=>by have:=h y WL z;omega
    unfold own at *
    rw[zbi (by simpa using ne)]
    exact ih
theorem l6 {α:Type}(n:Str)(f:α->List Lt):∀ xs:List α,(own n (xs.flatMap f)).length=(xs.map λx=>(own n (f x)).length).sum
 | []=>rfl
 | x::r=>by rw[XG,pI,l6 n f r];rfl
theorem K7 (L:Nat):∀ M:Nat,((W5 M).map λt=>if t < L then 1 else 0).sum<=L
 | 0=>by simp
 | M+1=>by
  have key:∀ M:Nat,((W5 M).map λt=>if t < L then 1 else 0).sum=min M L:=by
   intro M
   induction M with
   | zero=>simp
   | succ M ih=>
    rw[zbL,WQ,List.sum_append,ih]
    simp only[WE,Zk,Xb,List.sum_nil]
    split<;>omega
  rw[key];omega
theorem pQ {α β:Type}:∀ (xs:List α) (ys:List β),((WA xs ys).map (·.1)) <+: xs
 | [],_=>by simp
 | x::r,[]=>by simp
 | x::r,y::s=>by simpa using pQ r s
theorem Kh {ss:List Sn}{ns:List (List Int)}(nd:(ss.map Sn.nm).Nodup)(n:Str)(L:Nat)(h:∀ y∈WA ss ns,y.1.nm=n->y.2.length<=L):(own n ((j3 ss ns).map (·.2))).length<=L:=by
 rw[j5,Z8,l6]
 refine Xi (rM (g:=λt=>if t < L then 1 else 0) λt _=>?_) (K7 L _)
 split
 ·refine Xi (xo n t _) ?_
  have e:((WA ss ns).map λy=>if n=y.1.nm then 1 else 0)=((WA ss ns).map (·.1.nm)).map λk=>if n=k then 1 else 0:=by rw[Wz];rfl
  rw[e]
  refine nO n ?_
  have e2:(WA ss ns).map (·.1.nm)=((WA ss ns).map (·.1)).map Sn.nm:=by rw[Wz];rfl
  rw[e2]
  exact nd.sublist (((pQ ss ns).sublist).map Sn.nm)
 ·rw[tS n t L (by omega) _ h];exact WG 0
def St'.jg (x:St')(n:Str):Nat:=(x.ws.map λw=>(own n (w.cm++w.st)).length).sum
theorem Ob (x:St')(n:Str):x.und n=(x.jg n:Int):=by
 unfold St'.und St'.jg
 induction x.ws with
 | nil=>rfl
 | cons a l ih=>simp only[WE,Xb,ih];omega
structure cM (p:Pn) (m:Int) (n:Nat) (st:St'):Prop where
 K:p.Ok m
 lw:st.ws.length=p.ws.length
 nm:st.ss.map Ss.nm=p.sn
 lt:∀ w∈st.ws,∀ l∈w.cm++w.st,l.In p.sn
 ss:∀ y∈WA p.ss st.ss,SsI p.g y.1.rl n y.2
 cn:∀ x∈st.ss,(st.jg x.nm:Int)+(x.ag.length:Int)+(x.lo.length:Int)<=60
theorem Ew {ns:List Str}(h:ns.Pairwise λa b=>ltS a b=true):ns.Nodup:=h.imp λ{a b} h e=>by
 subst e
 have:¬ a.cps.toList < a.cps.toList:=List.lt_irrefl _
 simp[ltS,this] at h
theorem jH {α β:Type}{f:α->List β}{k:Nat}{l:List α}(h:∀ x∈l,(f x).length<=k):(l.flatMap f).length<=l.length*k:=by
 rw[List.length_flatMap];exact kg h
theorem nC {α β:Type}{f:α->β}{a b:α}:∀ {l:List α},(l.map f).Nodup->a∈l->b∈l->f a=f b->a=b
 | x::r,h,ha,hb,e=>by
  have h':=Xk.mp h
  rcases WM.mp ha with ea | ha
  ·rcases WM.mp hb with eb | hb
   ·rw[ea,eb]
   ·exact absurd (Wq.mpr ⟨b,hb,by rw[← e,ea]⟩:f x∈r.map f) h'.1
  ·rcases WM.mp hb with eb | hb
   ·exact absurd (Wq.mpr ⟨a,ha,by rw[e,eb]⟩:f x∈r.map f) h'.1
   ·exact nC h'.2 ha hb e
section
variable {p:Pn} {m:Int} {n:Nat} {st:St'} (I:cM p m n st)
include I
theorem cM.sd:p.sn.Nodup:=Ew I.K.sd
theorem cM.ls:st.ss.length=p.ss.length:=by have:=congrArg Xr I.nm;simpa using this
theorem cM.znm {y:Sn×Ss}(h:y∈WA p.ss st.ss):y.2.nm=y.1.nm:=by
 obtain ⟨i,hi,e⟩:=YL h
 have h1:i < p.ss.length:=by simp at hi;omega
 have h2:i < st.ss.length:=by simp at hi;omega
 have e1:=congrArg (λl=>l[i]?) I.nm
 simp[h1,h2] at e1
 rw[← e]
 simpa using e1
theorem cM.snm {a:Str}(h:a∈p.sn):∃ x∈st.ss,x.nm=a:=by rw[← I.nm] at h;obtain ⟨x,hx,e⟩:=Wq.mp h;exact ⟨x,hx,e⟩
theorem cM.Uj {a:Str}(h:a∈p.sn):st.jg a<=60:=by
 obtain ⟨x,hx,rfl⟩:=I.snm h
 have:=I.cn x hx;omega
theorem cM.snl:p.sn.length<=8:=by unfold Pn.sn;rw[Wm];exact I.K.s1
theorem cM.MT {w:Ws}(h:w∈st.ws):w.cm.length+w.st.length<=480:=by
 have h1:=Ca p.sn (w.cm++w.st) λl hl=>(I.lt w h l hl).1
 have h2:(p.sn.map λa=>(own a (w.cm++w.st)).length).sum<=p.sn.length*60:=kg λa ha=>by
  have:=I.Uj ha
  have:=iV (f:=λw:Ws=>(own a (w.cm++w.st)).length) h
  unfold St'.jg at *;omega
 have:=I.snl
 rw[Wv] at h1;omega
theorem cM.sok {a:Str}(h:a∈p.sn):WC a=true:=by
 obtain ⟨s,hs,rfl⟩:=Wq.mp h
 exact (I.K.s s hs).n
theorem cM.xok (hn:n<=10000){y:Sn×Ss}(h:y∈WA p.ss st.ss):y.2.Ok p.g y.1.rl:=by
 have hx:=(WI h).2
 have c:=I.cn _ hx
 refine (I.ss y h).ok hn (I.sok ?_) (by omega)
 rw[I.znm h];exact Wq.mpr ⟨_,(WI h).1,rfl⟩
theorem cM.bt (hn:n<=10000){y:Sn×Ss}(h:y∈WA p.ss st.ss):Ci p.g y.1.rl n (st.jg y.2.nm) y.2 (y.2.bt p.g y.1 (st.und y.2.nm)):=by
 have hx:=(WI h).2
 have hs:=(WI h).1
 have c:=I.cn _ hx
 rw[Ob]
 exact Ux (I.K.s _ hs).k (by have:=I.K.g.1;omega) (I.ss y h) (I.xok hn h).h (by omega) c
theorem cM.VA (hn:n<=10000){b:Ss×List Int}(h:b∈p.bL st):∃ y∈WA p.ss st.ss,b=y.2.bt p.g y.1 (st.und y.2.nm)/\Ci p.g y.1.rl n (st.jg y.2.nm) y.2 b:=by
 unfold Pn.bL at h
 rw[br] at h
 obtain ⟨y,hy,rfl⟩:=Wq.mp h
 exact ⟨y,hy,rfl,I.bt hn hy⟩
theorem cM.nb (hn:n<=10000){b:Ss×List Int}(h:b∈p.bL st):b.2.length<=60:=by obtain ⟨y,_,_,B⟩:=I.VA hn h;exact B.few
theorem cM.zb {y:Sn×(Ss×List Int)}(h:y∈WA p.ss (p.bL st)):∃ x,(y.1,x)∈WA p.ss st.ss/\y.2=x.bt p.g y.1 (st.und x.nm):=by
 obtain ⟨i,hi,e⟩:=YL h
 have h1:i < p.ss.length:=by simp at hi;omega
 have h2:i < st.ss.length:=by have:=I.ls;omega
 refine ⟨st.ss[i],?_,?_⟩
 ·have:i < (WA p.ss st.ss).length:=by simp;omega
  have hm:=Yg this
  rw[zbj] at hm
  rw[← e];simpa using hm
 ·rw[← e]
  simp[Pn.bL]
theorem cM.zs {y:Sn×List Int}(h:y∈WA p.ss ((p.bL st).map (·.2))):∃ b,(y.1,b)∈WA p.ss (p.bL st)/\y.2=b.2:=by
 rw[X4] at h
 obtain ⟨z,hz,rfl⟩:=Wq.mp h
 exact ⟨z.2,hz,rfl⟩
theorem cM.NV (hn:n<=10000){x:Ss}{s:Sn}(h:(s,x)∈WA p.ss st.ss):(own s.nm ((p.aJ st).map (·.2))).length<=(x.bt p.g s (st.und x.nm)).2.length:=by
 refine Kh I.sd s.nm _ λy hy e=>?_
 obtain ⟨b,hb,e2⟩:=I.zs hy
 obtain ⟨x',hx',e3⟩:=I.zb hb
 have e3':b=x'.bt p.g y.1 (st.und x'.nm):=e3
 have es:y.1=s:=nC (f:=Sn.nm) I.sd (WI hx').1 (WI h).1 e
 have ex:x'=x:=by
  refine nC (f:=Ss.nm) (by rw[I.nm];exact I.sd) (WI hx').2 (WI h).2 ?_
  have n1:x'.nm=y.1.nm:=I.znm hx'
  have n2:x.nm=s.nm:=I.znm h
  rw[n1,n2];exact e
 rw[e2,e3',es,ex]
 exact WG _
theorem cM.VN {s:Sn}(h:s∈p.ss):∃ x,(s,x)∈WA p.ss st.ss:=by
 obtain ⟨i,hi,e⟩:=YL h
 have h2:i < st.ss.length:=by have:=I.ls;omega
 have:i < (WA p.ss st.ss).length:=by simp;omega
 have hm:=Yg this
 rw[zbj] at hm
 exact ⟨_,by rw[← e];exact hm⟩
theorem cM.vm {x:Str×Lt}(h:x∈p.aJ st):x.2.In p.sn/\WC x.1=true:=by
 obtain ⟨s,hs,k,rfl⟩:=sG h
 have hk:=I.K.s s hs
 refine ⟨⟨Wq.mpr ⟨s,hs,rfl⟩,Xf 0,Xf 0,(show (0:Int)<=1 by decide)⟩,?_⟩
 cases e:s.rd with
 | nil=>exact absurd e hk.r0
 | cons a r=>
  have:a∈p.wn:=hk.r.subset (by rw[e];simp)
  obtain ⟨w,hw,rfl⟩:=Wq.mp this
  exact (I.K.w w hw).n
theorem cM.Ju (hn:n<=10000):(p.aJ st).length<=480:=by
 have h1:=Ca p.sn ((p.aJ st).map (·.2)) λl hl=>by obtain ⟨x,hx,rfl⟩:=Wq.mp hl;exact (I.vm hx).1.1
 have h2:(p.sn.map λa=>(own a ((p.aJ st).map (·.2))).length).sum<=p.sn.length*60:=kg λa ha=>by
  obtain ⟨s,hs,rfl⟩:=Wq.mp ha
  obtain ⟨x,hx⟩:=I.VN hs
  exact Xi (I.NV hn hx) (I.bt hn hx).few
 have:=I.snl
 rw[Wm] at h1;omega
theorem cM.FO {x:Wt}(h:x∈p.bC st):∃ y∈WA p.ws st.ws,x=pass y.1 p.sn y.2 (p.aJ st):=by
 unfold Pn.bC at h
 rw[br] at h
 obtain ⟨y,hy,rfl⟩:=Wq.mp h
 exact ⟨y,hy,rfl⟩
theorem cM.vG {x:Wt}(h:x∈p.bC st):(∀ l∈x.ca,l.In p.sn)/\(∀ l∈x.lo,l.In p.sn)/\(∀ l∈x.ou,l.In p.sn)/\∀ l∈x.st,l.In p.sn:=by
 obtain ⟨y,hy,rfl⟩:=I.FO h
 exact MR (I.lt _ (WI hy).2) λx hx=>(I.vm hx).1
theorem cM.yR (hn:n<=10000){x:Wt}(h:x∈p.bC st):x.ca.length<=960/\x.lo.length+x.ou.length+x.st.length<=1440:=by
 obtain ⟨y,hy,rfl⟩:=I.FO h
 have h1:=I.MT (WI hy).2
 have h2:=I.Ju hn
 have h3:=GL y.1 p.sn y.2 (p.aJ st)
 have h4:(pass y.1 p.sn y.2 (p.aJ st)).ca.length<=y.2.cm.length+(p.aJ st).length:=by
  show (y.2.cm++((p.aJ st).filter λx=>decide (x.1=y.1.nm)).map (·.2)).length<=_
  rw[Wv,Wm]
  have:=Yx (λx:Str×Lt=>decide (x.1=y.1.nm)) (p.aJ st)
  omega
 omega
theorem cM.wl:(p.bC st).length<=6:=by unfold Pn.bC;rw[XW];have:=I.K.w1;omega
end
theorem nE {α:Type}(a b:α->Bool)(l:List α):(l.filter a).filter b=(l.filter b).filter a:=by
 rw[YZ,YZ];congr 1;funext x;exact Bool.and_comm ..
theorem KQ (n:Str)(q:Str×Lt->Bool)(l:List (Str×Lt)):(own n ((l.filter q).map (·.2))).length=((l.filter λx=>decide (x.2.nm=n)).filter q).length:=by
 unfold own
 rw[zbM,Wm,← nE]
 rfl
theorem wM (n:Str)(h:Int)(l:List Lt):(own n (l.map (·.hU h))).length=(own n l).length:=by
 rw[vY,vY,Wz];rfl
theorem c9 {α β γ:Type}(P:α×β->γ):∀ (xs:List α) (ys:List β),WA xs ((WA xs ys).map P)=(WA xs ys).map λy=>(y.1,P y)
 | [],_=>by simp
 | x::r,[]=>by simp
 | x::r,y::s=>by simp[c9 P r s]
theorem lU {α β:Type}:∀ {xs:List α} {ys:List β},xs.length<=ys.length->(WA xs ys).map (·.1)=xs
 | [],_,_=>by simp
 | x::r,[],h=>by simp at h
 | x::r,y::s,h=>by simp[lU (xs:=r) (ys:=s) (by simpa using h)]
theorem mF {α β:Type}:∀ {xs:List α} {ys:List β},ys.length<=xs.length->(WA xs ys).map (·.2)=ys
 | _,[],_=>by simp
 | [],y::s,h=>by simp at h
 | x::r,y::s,h=>by simp[mF (xs:=r) (ys:=s) (by simpa using h)]
theorem EG (q:Lt->Bool)(n:Str)(l:List Lt):(own n (l.filter q)).length+(own n (l.filter λx=>!q x)).length=(own n l).length:=by
 unfold own
 induction l with
 | nil=>rfl
 | cons x r ih=>by_cases h1:q x<;>by_cases h2:x.nm=n<;>simp[h1,h2] at ih ⊢ <;> omega
theorem Gk {p:Pn}{st:St'}(nd:p.wn.Nodup)(lw:st.ws.length=p.ws.length)(a:Str) :
  (p.step st).jg a+(own a (p.taken st)).length+(own a (p.bz st)).length<=st.jg a+(own a ((p.aJ st).map (·.2))).length:=by
 generalize hZ:WA p.ws st.ws=Z
 have z1:Z.map (·.1)=p.ws:=by rw[← hZ];exact lU (by omega)
 have z2:Z.map (·.2)=st.ws:=by rw[← hZ];exact mF (by omega)
 let P:Wy×Ws->Wt:=λy=>pass y.1 p.sn y.2 (p.aJ st)
 have ew:p.bC st=Z.map P:=by unfold Pn.bC;rw[br,hZ]
 have el:(own a (p.bz st)).length=(Z.map λy=>(own a (P y).lo).length).sum:=by unfold Pn.bz;rw[l6,ew,Wz];rfl
 have eo:(own a (p.out st)).length=(Z.map λy=>(own a (P y).ou).length).sum:=by unfold Pn.out;rw[l6,ew,Wz];rfl
 have e3:(Z.map λy=>(own a (P y).lo).length).sum+(Z.map λy=>(own a (P y).ou).length).sum+(Z.map λy=>(own a (P y).st).length).sum=(Z.map λy=>(own a (P y).ca).length).sum+(Z.map λy=>(own a y.2.st).length).sum:=by
  rw[← a5,← a5,← a5]
  congr 1
  exact W3 λy _=>GG y.1 p.sn y.2 (p.aJ st) a
 have e4:(Z.map λy=>(own a (P y).ca).length).sum<=(Z.map λy=>(own a y.2.cm).length).sum+(own a ((p.aJ st).map (·.2))).length:=by
  have:(Z.map λy=>(own a (P y).ca).length)=Z.map λy=>(own a y.2.cm).length+(((p.aJ st).filter λx=>decide (x.2.nm=a)).filter λx=>decide (x.1=y.1.nm)).length:=by
   refine W3 λy _=>?_
   show (own a (y.2.cm++((p.aJ st).filter λx=>decide (x.1=y.1.nm)).map (·.2))).length=_
   rw[pI,KQ]
  rw[this,a5]
  have h2:=split_le (f:=λx:Str×Lt=>x.1) nd ((p.aJ st).filter λx=>decide (x.2.nm=a))
  have h3:(Z.map λy=>(((p.aJ st).filter λx=>decide (x.2.nm=a)).filter λx=>decide (x.1=y.1.nm)).length)=(p.wn.map λk=>(((p.aJ st).filter λx=>decide (x.2.nm=a)).filter λx=>decide (x.1=k)).length):=by
   unfold Pn.wn;rw[← z1,Wz,Wz];rfl
  rw[h3]
  have h4:(own a ((p.aJ st).map (·.2))).length=((p.aJ st).filter λx=>decide (x.2.nm=a)).length:=by
   unfold own;rw[zbM,Wm];rfl
  omega
 have e5:st.jg a=(Z.map λy=>(own a y.2.cm).length).sum+(Z.map λy=>(own a y.2.st).length).sum:=by
  unfold St'.jg
  rw[← z2,Wz,← a5]
  congr 1
  exact W3 λy _=>pI ..
 have e6:(p.step st).jg a=(Z.map λy=>(own a ((p.out st).filter λl=>decide (cy p.ss l=some y.1.nm))).length).sum+(Z.map λy=>(own a (P y).st).length).sum:=by
  unfold St'.jg Pn.step
  simp only
  rw[br,ew,← hZ,c9,hZ,Wz,Wz,← a5]
  congr 1
  refine W3 λy _=>?_
  show (own a (((p.out st).filter λl=>decide (cy p.ss l=some y.1.nm)).map (·.hU 1)++(P y).st.map (·.hU 0))).length=_
  rw[pI,wM,wM]
 have e7:(Z.map λy=>(own a ((p.out st).filter λl=>decide (cy p.ss l=some y.1.nm))).length).sum<=(own a ((p.out st).filter λl=>!decide (cy p.ss l=none))).length:=by
  have nd2:(p.wn.map some).Nodup:=zaO _ (λa b (h:a≠b) (z:some a=some b)=>h (Xg z)) nd
  have h2:=split_le (f:=cy p.ss) nd2 (own a ((p.out st).filter λl=>!decide (cy p.ss l=none)))
  rw[Wz] at h2
  have h3:(Z.map λy=>(own a ((p.out st).filter λl=>decide (cy p.ss l=some y.1.nm))).length)=p.wn.map ((λk=>((own a ((p.out st).filter λl=>!decide (cy p.ss l=none))).filter λx=>decide (cy p.ss x=k)).length) ∘ some):=by
   unfold Pn.wn
   rw[← z1,Wz,Wz]
   refine W3 λy _=>?_
   unfold own
   simp only[Function.comp,YZ]
   congr 2
   funext x
   by_cases h1:x.nm=a<;>cases h:cy p.ss x<;>simp[h1]
  rw[h3];exact h2
 have e8:=EG (λl=>decide (cy p.ss l=none)) a (p.out st)
 have e9:(own a (p.taken st)).length=(own a ((p.out st).filter λl=>decide (cy p.ss l=none))).length:=rfl
 omega
theorem ug:∀ {l:List Lt},(∀ x∈l,0<=x.mr/\x.mr<=1)->0<=(l.map Lt.mr).sum/\(l.map Lt.mr).sum<=(l.length:Int)
 | [],_=>by simp
 | x::r,h=>by
  have h1:=h x WL
  have h2:=ug (l:=r) λx hx=>h x (WU _ hx)
  simp only[WE,Xb,WY];omega
section
variable {p:Pn} {m:Int} {n:Nat} {st:St'} (I:cM p m n st) (hn:n<=10000)
include I
theorem cM.CJ {l:Lt}(h:l∈p.out st):l.In p.sn:=by
 obtain ⟨x,hx,hl⟩:=X8.mp h
 exact (I.vG hx).2.2.1 l hl
theorem cM.OZ {l:Lt}(h:l∈p.bz st):l.In p.sn:=by
 obtain ⟨x,hx,hl⟩:=X8.mp h
 exact (I.vG hx).2.1 l hl
include hn
theorem cM.cons {s:Sn}{b:Ss×List Int}(h:(s,b)∈WA p.ss (p.bL st)):b.1.nm=s.nm/\SsI p.g s.rl (n+1) b.1/\b.1.gd<=60*n/\b.1.mk'<=60*n/\
  ((p.step st).jg s.nm:Int)+((own s.nm (p.taken st)).length:Int)+((own s.nm (p.bz st)).length:Int)+(b.1.ag.length:Int)+(b.1.lo.length:Int)<=60:=by
 obtain ⟨x,hx,e⟩:=I.zb h
 have e':b=x.bt p.g s (st.und x.nm):=e
 have B:Ci p.g s.rl n (st.jg x.nm) x (x.bt p.g s (st.und x.nm)):=I.bt hn hx
 have nm:x.nm=s.nm:=I.znm hx
 have c:=Gk (p:=p) (st:=st) I.K.wd I.lw s.nm
 have d:(own s.nm ((p.aJ st).map (·.2))).length<=(x.bt p.g s (st.und x.nm)).2.length:=I.NV hn hx
 have a:=B.all
 rw[← e'] at B d a
 rw[nm] at a
 exact ⟨B.nm.trans nm,B.i,B.g,B.m,by omega⟩
theorem cM.rd:QD p st:=by
 have w1:=I.K.w1;have s1:=I.K.s1
 have wl:=I.wl
 have sl:=I.Ju hn
 have lo:=jH (f:=Wt.lo) (k:=1440) (l:=p.bC st) λx hx=>by have:=(I.yR hn hx).2;omega
 have ou:=jH (f:=Wt.ou) (k:=1440) (l:=p.bC st) λx hx=>by have:=(I.yR hn hx).2;omega
 refine ⟨I.K.g,I.sd,by omega,by omega,λa ha=>I.sok ha,λs hs=>⟨(I.K.s s hs).k,(I.K.s s hs).r0,λa ha=>?_⟩,λw hw=>⟨(I.K.w w hw).n,by have:=(I.K.w w hw).p0;omega⟩,λw hw=>⟨λl hl=>I.sok (I.lt w hw l hl).1,by have:=I.MT hw;omega⟩,
  λy hy=>I.xok hn hy,λb hb=>by have:=I.nb hn hb;omega,λx hx=>⟨(I.vm hx).2,(I.vm hx).1.1⟩,by omega,λw hw=>⟨λl hl=>(I.lt w hw l hl).1,by have:=I.MT hw;omega⟩,λx hx=>by have:=I.yR hn hx;omega,
  λl hl=>⟨(I.CJ hl).1,(I.CJ hl).2.1⟩,λl hl=>(I.OZ hl).1,?_,?_,?_,λy hy=>?_⟩
 ·have:a∈p.wn:=(I.K.s s hs).r.subset ha
  obtain ⟨w,hw,rfl⟩:=Wq.mp this
  exact (I.K.w w hw).n
 ·show ((p.bC st).flatMap Wt.ou).length<=_;omega
 ·show ((p.bC st).flatMap Wt.lo).length<=_;omega
 ·unfold Pn.evs
  rw[Wv,Wm,br]
  have h2:(WA p.ws (p.bC st)).length<=6:=by simp;omega
  have h3:=jH (f:=λy:Wy×Wt=>evs p.ss y.1 y.2) (k:=2400) (l:=WA p.ws (p.bC st)) λy hy=>by
   have:=I.yR hn (WI hy).2
   show (y.2.ca.zipIdx.map _++y.2.ou.map _).length<=_
   rw[Wv,Wm,Wm,zaF];omega
  rw[zdq] at h3
  omega
 ·have:=(I.cons hn (s:=y.1) (b:=y.2) hy).2.2.2.2
  omega
theorem cM.next:cM p m (n+1) (p.step st):=by
 have lwt:(p.bC st).length=p.ws.length:=by unfold Pn.bC;rw[XW];have:=I.lw;omega
 have lb:(p.bL st).length=p.ss.length:=by unfold Pn.bL;rw[XW];have:=I.ls;omega
 have es:(p.step st).ss=(WA p.ss (p.bL st)).map λy=>mQ y.1 y.2.1 (p.bz st) (p.taken st):=by unfold Pn.step;simp only;rw[br]
 have key:∀ y∈WA p.ss (p.bL st),(mQ y.1 y.2.1 (p.bz st) (p.taken st)).nm=y.1.nm:=λy hy=>(I.cons hn (s:=y.1) (b:=y.2) hy).1
 refine ⟨I.K,?_,?_,λw hw l hl=>?_,λy hy=>?_,λx hx=>?_⟩
 ·unfold Pn.step;simp only;rw[XW];omega
 ·rw[es,Wz]
  have:(WA p.ss (p.bL st)).map (Ss.nm ∘ λy=>mQ y.1 y.2.1 (p.bz st) (p.taken st))=(WA p.ss (p.bL st)).map (Sn.nm ∘ (·.1)):=W3 λy hy=>key y hy
  rw[this,← Wz,lU (by omega)]
 ·unfold Pn.step at hw
  simp only at hw
  rw[br] at hw
  obtain ⟨y,hy,rfl⟩:=Wq.mp hw
  rcases W2.mp hl with hl | hl
  ·obtain ⟨z,hz,rfl⟩:=Wq.mp (show l∈((p.out st).filter λl=>decide (cy p.ss l=some y.1.nm)).map (·.hU 1) from hl)
   have h:=I.CJ (Xd.mp hz).1
   exact ⟨h.1,(show 0<=z.hp+1 by have:=h.2.1;omega),h.2.2⟩
  ·obtain ⟨z,hz,rfl⟩:=Wq.mp (show l∈y.2.st.map (·.hU 0) from hl)
   have h:=(I.vG (WI hy).2).2.2.2 z hz
   exact ⟨h.1,(show 0<=z.hp+0 by have:=h.2.1;omega),h.2.2⟩
 ·rw[es,c9] at hy
  obtain ⟨z,hz,rfl⟩:=Wq.mp hy
  obtain ⟨h1,h2,h3,h4,h5⟩:=I.cons hn (s:=z.1) (b:=z.2) hz
  have mk:=ug (l:=own z.1.nm (p.taken st)) λl hl=>by
   have:=I.CJ (Xd.mp (Xd.mp hl).1).1
   exact this.2.2
  have g0:=h2.g0;have m0:=h2.m0;have t0:=h2.t0
  refine ⟨h2.w0,h2.w1,h2.s0,h2.s1,?_,?_,?_,?_,?_,h2.n0,h2.n1,h2.l⟩
  ·show 0<=z.2.1.gd+((own z.1.nm (p.taken st)).length:Int) - ((own z.1.nm (p.taken st)).map Lt.mr).sum;omega
  ·show z.2.1.gd+((own z.1.nm (p.taken st)).length:Int) - ((own z.1.nm (p.taken st)).map Lt.mr).sum<=60*((n+1:Nat):Int);omega
  ·show 0<=z.2.1.mk'+((own z.1.nm (p.taken st)).map Lt.mr).sum;omega
  ·show z.2.1.mk'+((own z.1.nm (p.taken st)).map Lt.mr).sum<=60*((n+1:Nat):Int);omega
  ·show 0<=max z.2.1.wt _;omega
 ·rw[es] at hx
  obtain ⟨z,hz,rfl⟩:=Wq.mp hx
  obtain ⟨h1,h2,h3,h4,h5⟩:=I.cons hn (s:=z.1) (b:=z.2) hz
  rw[key z hz]
  have e:(mQ z.1 z.2.1 (p.bz st) (p.taken st)).lo.length=z.2.1.lo.length+(own z.1.nm (p.bz st)).length:=by
   show (fc (z.2.1.lo++(own z.1.nm (p.bz st)).map Lt.nu)).length=_
   rw[nI,Wv,Wm]
  have e2:(mQ z.1 z.2.1 (p.bz st) (p.taken st)).ag=z.2.1.ag:=rfl
  rw[e,e2];omega
end
theorem LJ {p:Pn}{m:Int}(K:p.Ok m):cM p m 0 p.beg:=by
 have g1:=K.g.1
 have nm:∀ s:Sn,(Sn.beg p.g s).nm=s.nm:=λs=>rfl
 have und:∀ a,p.beg.jg a=0:=λa=>by
  unfold St'.jg Pn.beg
  simp only[Wz]
  have:∀ l:List Wy,(l.map λ_=>0).sum=0:=λl=>by induction l<;>simp_all
  exact this p.ws
 refine ⟨K,by simp[Pn.beg],by unfold Pn.beg;simp only[Wz];rfl,λw hw l hl=>?_,λy hy=>?_,λx hx=>?_⟩
 ·unfold Pn.beg at hw
  obtain ⟨_,_,rfl⟩:=Wq.mp hw
  cases hl
 ·have hy':y∈WA p.ss (p.ss.map (Sn.beg p.g)):=hy
  rw[X4] at hy'
  obtain ⟨z,hz,rfl⟩:=Wq.mp hy'
  have e:z.2=z.1:=by
   have:∀ (l:List Sn) (z:Sn×Sn),z∈WA l l->z.2=z.1:=by
    intro l
    induction l with
    | nil=>intro z hz;simp at hz
    | cons a l ih=>
     intro z hz
     rcases WM.mp (by simpa using hz) with e | h
     ·rw[e]
     ·exact ih z h
   exact this _ z hz
  have hk:=K.s z.1 (WI hz).1
  have R:=hk.k
  have q0:=R.w.q0;have s0:=R.t.q0
  show SsI p.g z.1.rl 0 (Sn.beg p.g z.2)
  rw[e]
  refine ⟨?_,?_,Xf 0,(show (0:Int)<=p.g by omega),Xf 0,Xf 0,Xf 0,Xf 0,Xf 0,Xf 0,Xf 0,λi hi=>(hk.mm i hi).1⟩
  ·show p.g<=z.1.rl.p*p.g / z.1.rl.q
   rw[XS q0]
   have:=WO R.w.ge (show 0<=p.g by omega)
   rw[zb6,X1 z.1.rl.q] at this
   exact this
  ·show z.1.rl.p*p.g / z.1.rl.q<=z.1.rl.r*p.g / z.1.rl.s
   rw[XS s0]
   generalize hW:z.1.rl.p*p.g / z.1.rl.q=W
   have h1:W*z.1.rl.q<=z.1.rl.p*p.g:=by rw[← hW];exact zbJ _ (by omega)
   have h2:=WO h1 (show 0<=z.1.rl.s by omega)
   have h3:=WO R.wt (show 0<=p.g by omega)
   refine Ze (a:=z.1.rl.q) ?_ q0
   calc W*z.1.rl.s*z.1.rl.q=W*z.1.rl.q*z.1.rl.s:=by ac_rfl
    _<=z.1.rl.p*p.g*z.1.rl.s:=h2
    _=z.1.rl.p*z.1.rl.s*p.g:=by ac_rfl
    _<=z.1.rl.r*z.1.rl.q*p.g:=h3
    _=z.1.rl.r*p.g*z.1.rl.q:=by ac_rfl
 ·have hx':x∈p.ss.map (Sn.beg p.g):=hx
  obtain ⟨s,hs,rfl⟩:=Wq.mp hx'
  rw[und]
  show ((0:Nat):Int)+((0:Nat):Int)+((0:Nat):Int)<=60
  decide
def spD (is:List Nat):List (L2.Key×D):=is.map λi:Nat=>(.inl (i:Int),.bl true)
def UW (cs:List Int)(t l u:Int)(c:Addr):List (L2.Key×D):=[(.inr (OF "cells"),.ls (cs.map .int)),(.inr (OF "turn"),.int t),(.inr (OF "left"),.int l),(.inr (OF "used"),.int u),(.inr (OF "spent"),.obj c)]
structure Pq (μ:Mu) (b c:Addr) (n:Nat):Prop where
 ne:b≠c
 ex:∃ (cs:List Int) (t l u:Int) (is:List Nat),μ b=some (.dct (UW cs t l u c))/\μ c=some (.dct (spD is))/\(0<=t/\t<=n)/\is.Nodup/\(∀ i∈is,i < cs.length)/\cs.length<=63
structure Al (b c:Addr) (n:Nat) (μ μ':Mu):Prop where
 p:Pq μ' b c n
 o:∀ a,a≠b->a≠c->μ' a=μ a
theorem Pq.mono {μ:Mu}{b c:Addr}{n m:Nat}(h:Pq μ b c n)(k:n<=m):Pq μ b c m:=by
 obtain ⟨ne,cs,t,l,u,is,e1,e2,⟨t0,t1⟩,r⟩:=h
 exact ⟨ne,cs,t,l,u,is,e1,e2,⟨t0,by omega⟩,r⟩
theorem Al.mono {μ μ':Mu}{b c:Addr}{n m:Nat}(h:Al b c n μ μ')(k:n<=m):Al b c m μ μ':=⟨h.p.mono k,h.o⟩
theorem Al.trans {b c:Addr}{μ μ1 μ2:Mu}{n m:Nat}(h:Al b c n μ μ1)(k:Al b c m μ1 μ2):Al b c m μ μ2:=⟨k.p,λa h1 h2=>(k.o a h1 h2).trans (h.o a h1 h2)⟩
theorem Pq.nb {μ:Mu}{b c a:Addr}{n:Nat}(h:Pq μ b c n)(e:μ a=none):a≠b/\a≠c:=by
 obtain ⟨_,cs,t,l,u,is,e1,e2,_⟩:=h
 exact ⟨(λz=>by subst z;rw[e1] at e;cases e),(λz=>by subst z;rw[e2] at e;cases e)⟩
theorem Pq.up {μ:Mu}{b c a:Addr}{o:MO}{n:Nat}(h:Pq μ b c n)(k:a≠b/\a≠c):Pq (up μ a o) b c n:=by
 obtain ⟨ne,cs,t,l,u,is,e1,e2,r⟩:=h
 exact ⟨ne,cs,t,l,u,is,by rw[aS k.1.symm];exact e1,by rw[aS k.2.symm];exact e2,r⟩
section
variable (cs:List Int) (t l u x:Int) (c:Addr)
end
section
variable {G:GTr} {tt:TTr} {te:ETr} {ρc:ST} {ds:List D} {μ:Mu} {Q:DK} {b c:Addr} {n m:Nat}
end
def nxF (ss:List Ss)(n:Str):Int:=((ss.find? λx=>decide (x.nm=n)).map Ss.nx).getD 0
def Lt.lw (f:Str->Int)(l:Lt):Lt:=⟨l.nm,l.nu - f l.nm,l.ag,l.hp,l.mr⟩
def Ws.lw (f:Str->Int)(w:Ws):Ws:=⟨w.cm.map (Lt.lw f),w.st.map (Lt.lw f),w.la⟩
def Ss.lk (x:Ss):Ss:=⟨x.nm,x.du,x.W,x.S,0,x.lf,x.ag.map (· - x.nx),x.lo.map (· - x.nx),x.gd,x.mk',x.wt⟩
def St'.lk (st:St'):St':=⟨st.ws.map (Ws.lw (nxF st.ss)),st.ss.map Ss.lk⟩
def Lt.mv (f:Str->Int)(l:Lt):Lt:=⟨l.nm,l.nu+f l.nm,l.ag,l.hp,l.mr⟩
def Ws.mv (f:Str->Int)(w:Ws):Ws:=⟨w.cm.map (Lt.mv f),w.st.map (Lt.mv f),w.la⟩
def Ss.mv (f:Str->Int)(x:Ss):Ss:=⟨x.nm,x.du,x.W,x.S,x.nx+f x.nm,x.lf,x.ag.map (· + f x.nm),x.lo.map (· + f x.nm),x.gd,x.mk',x.wt⟩
def St'.mv (f:Str->Int)(st:St'):St':=⟨st.ws.map (Ws.mv f),st.ss.map (Ss.mv f)⟩
structure StL (st:St'):Prop where
 nd:(st.ss.map Ss.nm).Nodup
 sn:∀ x∈st.ss,WC x.nm=true
 lt:∀ w∈st.ws,∀ l∈w.cm++w.st,l.nm∈st.ss.map Ss.nm
 la:∀ w∈st.ws,WC w.la=true
 z1:st.ws.length<=100/\st.ss.length<=100
 z2:∀ w∈st.ws,w.cm.length<=10000/\w.st.length<=10000
 z3:∀ x∈st.ss,x.ag.length<=10000/\x.lo.length<=10000
theorem Od (ss:List Ss):(ss.map Ss.lk).map Ss.nm=ss.map Ss.nm:=by rw[Wz];rfl
theorem N4 (f:Str->Int)(ss:List Ss):(ss.map (Ss.mv f)).map Ss.nm=ss.map Ss.nm:=by rw[Wz];rfl
theorem StL.lk {st:St'}(h:StL st):StL st.lk:=by
 refine ⟨by show ((st.ss.map Ss.lk).map Ss.nm).Nodup;rw[Od];exact h.nd,λx hx=>?_,λw hw l hl=>?_,λw hw=>?_,?_,λw hw=>?_,λx hx=>?_⟩
 ·obtain ⟨y,hy,rfl⟩:=Wq.mp hx
  exact h.sn y hy
 ·obtain ⟨v,hv,rfl⟩:=Wq.mp hw
  show l.nm∈(st.ss.map Ss.lk).map Ss.nm
  rw[Od]
  have hl:l∈v.cm.map (Lt.lw (nxF st.ss))++v.st.map (Lt.lw (nxF st.ss)):=hl
  rw[← WQ] at hl
  obtain ⟨k,hk,rfl⟩:=Wq.mp hl
  exact h.lt v hv k hk
 ·obtain ⟨v,hv,rfl⟩:=Wq.mp hw
  exact h.la v hv
 ·show (st.ws.map (Ws.lw (nxF st.ss))).length<=100/\(st.ss.map Ss.lk).length<=100
  rw[Wm,Wm];exact h.z1
 ·obtain ⟨v,hv,rfl⟩:=Wq.mp hw
  show (v.cm.map _).length<=_/\(v.st.map _).length<=_
  rw[Wm,Wm];exact h.z2 v hv
 ·obtain ⟨y,hy,rfl⟩:=Wq.mp hx
  show (y.ag.map _).length<=_/\(y.lo.map _).length<=_
  rw[Wm,Wm];exact h.z3 y hy
theorem StL.mv {st:St'}(f:Str->Int)(h:StL st):StL (st.mv f):=by
 refine ⟨by show ((st.ss.map (Ss.mv f)).map Ss.nm).Nodup;rw[N4];exact h.nd,λx hx=>?_,λw hw l hl=>?_,λw hw=>?_,?_,λw hw=>?_,λx hx=>?_⟩
 ·obtain ⟨y,hy,rfl⟩:=Wq.mp hx
  exact h.sn y hy
 ·obtain ⟨v,hv,rfl⟩:=Wq.mp hw
  show l.nm∈(st.ss.map (Ss.mv f)).map Ss.nm
  rw[N4]
  have hl:l∈v.cm.map (Lt.mv f)++v.st.map (Lt.mv f):=hl
  rw[← WQ] at hl
  obtain ⟨k,hk,rfl⟩:=Wq.mp hl
  exact h.lt v hv k hk
 ·obtain ⟨v,hv,rfl⟩:=Wq.mp hw
  exact h.la v hv
 ·show (st.ws.map (Ws.mv f)).length<=100/\(st.ss.map (Ss.mv f)).length<=100
  rw[Wm,Wm];exact h.z1
 ·obtain ⟨v,hv,rfl⟩:=Wq.mp hw
  show (v.cm.map _).length<=_/\(v.st.map _).length<=_
  rw[Wm,Wm];exact h.z2 v hv
 ·obtain ⟨y,hy,rfl⟩:=Wq.mp hx
  show (y.ag.map _).length<=_/\(y.lo.map _).length<=_
  rw[Wm,Wm];exact h.z3 y hy
def Pn.run (p:Pn):Nat->St'
 | 0=>p.beg
 | n+1=>p.step (p.run n)
def Pn.rows (p:Pn)(n:Nat):List D:=(W5 n).map λi=>.ls (evD (p.evs (p.run i)))
theorem Pn.eU {p:Pn}{m:Int}(K:p.Ok m):∀ n:Nat,n<=10000->cM p m n (p.run n)
 | 0,_=>LJ K
 | n+1,h=>(p.eU K n (by omega)).next (by omega)
theorem zx (ws:List Str)(p:Int):∀ (f:Nat) (st out:List Lt) (l:Str),(dW ws p f st out l).2.2=l∨(dW ws p f st out l).2.2∈ws
 | 0,_,_,_=>.inl rfl
 | f+1,st,out,l=>by
  unfold dW
  split
  ·split
   ·rename_i n hn
    split
    ·rename_i x _
     rcases zx ws p f (st.eraseIdx (at1 n st)) (out++[x]) n with e | e
     ·rw[e];exact .inr (zF hn).1
     ·exact .inr e
    ·exact .inl rfl
   ·exact .inl rfl
  ·exact .inl rfl
theorem Fh (w:Wy)(ws:List Str)(st:List Lt)(l:Str)(hl:WC l=true)(hw:∀ n∈ws,WC n=true):WC (b7 w ws st l).2.2=true:=by
 unfold b7
 split
 ·rcases zx ws w.pc st.length st [] l with e | e
  ·rw[e];exact hl
  ·exact hw _ e
 ·show WC (OF "")=true
  decide +kernel
theorem Ib {p:Pn}{m:Int}(K:p.Ok m):∀ n:Nat,n<=10000->∀ w∈(p.run n).ws,WC w.la=true
 | 0,_,w,hw=>by
  obtain ⟨_,_,rfl⟩:=Wq.mp hw
  show WC (OF "")=true
  decide +kernel
 | n+1,h,w,hw=>by
  have I:=p.eU K n (by omega)
  have ih:=Ib K n (by omega)
  have hw:w∈XF (λw x=>nr p.ss w x (p.out (p.run n))) p.ws (p.bC (p.run n)):=hw
  rw[br] at hw
  obtain ⟨y,hy,rfl⟩:=Wq.mp hw
  show WC y.2.la=true
  obtain ⟨z,hz,e⟩:=I.FO (WI hy).2
  rw[e]
  exact Fh _ _ _ _ (ih _ (WI hz).2) λn hn=>I.sok hn
theorem Di {p:Pn}{m:Int}(K:p.Ok m){n:Nat}(h:n<=10000):StL (p.run n):=by
 have I:=p.eU K n h
 have s1:=K.s1
 have w1:=K.w1
 refine ⟨by rw[I.nm];exact I.sd,λx hx=>?_,λw hw l hl=>?_,Ib K n h,⟨by rw[I.lw];omega,by rw[I.ls];omega⟩,λw hw=>?_,λx hx=>?_⟩
 ·exact I.sok (by rw[← I.nm];exact Wq.mpr ⟨x,hx,rfl⟩)
 ·rw[I.nm];exact (I.lt w hw l hl).1
 ·have:=I.MT hw;omega
 ·have:=I.cn x hx;omega
def Wt.mv (f:Str->Int)(x:Wt):Wt:=⟨x.ca.map (Lt.mv f),x.lo.map (Lt.mv f),x.ou.map (Lt.mv f),x.st.map (Lt.mv f),x.la⟩
abbrev Ev.mv (f:Str->Int)(x:Ev):Ev:=⟨x.wd,x.nm,x.nu+f x.nm,x.wy⟩
theorem Ss.Ok.mv {g:Int}{R:RN}{x:Ss}(f:Str->Int)(h:x.Ok g R)(a:-4000000000000000000<=x.nx+f x.nm/\x.nx+f x.nm<=4000000000000000000):(x.mv f).Ok g R:=by
 have e:(x.mv f).hd=x.hd:=by unfold Ss.hd Ss.mv;simp
 exact ⟨h.n,h.w0,h.w1,h.s0,h.s1,by rw[e];exact h.h,a.1,a.2,by unfold Ss.mv;simp only[Wm];exact h.a,h.l⟩
theorem Gp:∀ s∈[OF "sent", OF "in", OF "lost", OF "taken", OF "out"],WC s=true:=by decide +kernel
theorem NT {p:Pn}{st:St'}(R:QD p st):∀ e∈p.evs st,WC e.wd=true/\e.nm∈p.sn/\WC e.wy=true:=by
 intro e he
 unfold Pn.evs at he
 rcases W2.mp he with h | h
 ·obtain ⟨x,hx,rfl⟩:=Wq.mp h
  have:=R.se x hx
  exact ⟨Gp _ (by simp),this.2,this.1⟩
 ·rw[br] at h
  obtain ⟨l,hl,he'⟩:=zbk.mp h
  obtain ⟨⟨w,x⟩,hy,rfl⟩:=Wq.mp hl
  have hw:=(R.wy w (WI hy).1).1
  have hx:=(WI hy).2
  rcases W2.mp he' with h | h
  ·obtain ⟨z,hz,rfl⟩:=Wq.mp h
   have hz1:z.1∈x.ca:=List.fst_mem_of_mem_zipIdx hz
   refine ⟨Gp _ (by split<;>simp),?_,hw⟩
   unfold Pn.bC at hx
   rw[br] at hx
   obtain ⟨⟨w',k⟩,hk,rfl⟩:=Wq.mp hx
   rcases W2.mp (show z.1∈k.cm++((p.aJ st).filter λx=>decide (x.1=w'.nm)).map (·.2) from hz1) with h | h
   ·exact (R.wz k (WI hk).2).1 _ (Xq _ h)
   ·obtain ⟨s,hs,e⟩:=Wq.mp h
    rw[← e]
    exact (R.se s (Xd.mp hs).1).2
  ·obtain ⟨l,hl,rfl⟩:=Wq.mp h
   exact ⟨Gp _ (by split<;>simp),(R.ou l (X8.mpr ⟨x,hx,hl⟩)).1,hw⟩
theorem cM.nx {p:Pn}{m:Int}{n:Nat}{st:St'}(I:cM p m n st):∀ x∈st.ss,0<=x.nx/\x.nx<=60*n:=by
 intro x hx
 obtain ⟨i,hi,e⟩:=YL hx
 have h1:i < p.ss.length:=by rw[← I.ls];exact hi
 have:(p.ss[i],st.ss[i])∈WA p.ss st.ss:=by
  rw[← zbj (h:=by simp;omega)];exact Yg ..
 have h:=I.ss _ this
 rw[← e]
 exact ⟨h.n0,h.n1⟩
abbrev Lt.key (l:Lt):Str×Int:=(l.nm,l.nu)
def cK (k:Str×Int)(ls:List Lt):Nat:=(ls.map Lt.key).count k
theorem jx (k:Str×Int)(a b:List Lt):cK k (a++b)=cK k a+cK k b:=by unfold cK;rw[WQ,Xs]
theorem pH {α:Type}(k:Str×Int)(f:α->List Lt):∀ xs:List α,cK k (xs.flatMap f)=(xs.map λx=>cK k (f x)).sum
 | []=>rfl
 | x::r=>by rw[XG,jx,pH k f r];rfl
theorem DE (k:Str×Int)(h:Int)(l:List Lt):cK k (l.map (·.hU h))=cK k l:=by unfold cK;rw[Wz];rfl
theorem J8 (k:Str×Int)(q:Lt->Bool):∀ l:List Lt,cK k (l.filter q)+cK k (l.filter λx=>!q x)=cK k l
 | []=>rfl
 | x::r=>by
  have ih:=J8 k q r
  unfold cK at *
  by_cases h1:q x<;>simp[h1,Yd] at ih ⊢ <;> omega
theorem Km {k:Str×Int}{a b:List Lt}(h:a.Perm b):cK k a=cK k b:=(h.map Lt.key).count_eq k
theorem ME (w:Wy)(x:Lt)(n:Nat):(gE w x n).key=x.key:=by
 unfold gE
 split
 ·rfl
 ·split<;>rfl
theorem Ad (w:Wy)(k:Str×Int):∀ (ys a b:List Lt),cK k (ys.foldl (b5 w) (a,b)).1+cK k (ys.foldl (b5 w) (a,b)).2=cK k a+cK k b+cK k ys
 | [],a,b=>rfl
 | y::r,a,b=>by
  have e:cK k (y::r)=cK k [y]+cK k r:=jx k [y] r
  rw[XR,e]
  by_cases h:w.rm<=(a.length:Int)
  ·rw[gT h,Ad w k r a (b++[y]),jx];omega
  ·rw[oJ h,Ad w k r _ b,jx]
   have:cK k [gE w y a.length]=cK k [y]:=by unfold cK;rw[WE,WE,ME]
   omega
theorem GC (w:Wy)(ns:List Str)(s:Ws)(se:List (Str×Lt))(k:Str×Int):cK k (pass w ns s se).lo+cK k (pass w ns s se).ou+cK k (pass w ns s se).st=cK k (pass w ns s se).ca+cK k s.st:=by
 have h1:=Ad w k (pass w ns s se).ca s.st []
 have h2:=Km (k:=k) (dB w ns (tk w s.st (pass w ns s se).ca).1 s.la)
 rw[jx] at h2
 have e1:(pass w ns s se).lo=(tk w s.st (pass w ns s se).ca).2:=rfl
 have e2:(pass w ns s se).ou=(b7 w ns (tk w s.st (pass w ns s se).ca).1 s.la).1:=rfl
 have e3:(pass w ns s se).st=(b7 w ns (tk w s.st (pass w ns s se).ca).1 s.la).2.1:=rfl
 rw[e1,e2,e3]
 unfold tk at *
 have:cK k []=0:=rfl
 omega
def St'.fly (st:St')(k:Str×Int):Nat:=(st.ws.map λw=>cK k (w.cm++w.st)).sum
theorem KP (k:Str×Int){κ:Type} [DecidableEq κ] (f:Lt->κ){ks:List κ}(nd:ks.Nodup)(ls:List Lt):(ks.map λj=>cK k (ls.filter λl=>decide (f l=j))).sum<=cK k ls:=by
 have e:∀ xs:List Lt,cK k xs=(xs.filter λl=>decide (l.key=k)).length:=λxs=>by
  unfold cK
  induction xs with
  | nil=>rfl
  | cons a r ih=>by_cases h:a.key=k<;>simp[Yd,h,ih]
 have h:=split_le f nd (ls.filter λl=>decide (l.key=k))
 rw[e ls]
 refine Xi (zbu ?_) h
 congr 1
 refine W3 λj _=>?_
 rw[e,nE]
def Wt.tot (x:Wt)(k:Str×Int):Nat:=cK k x.lo+cK k x.ou+cK k x.st
theorem Ic {p:Pn}{st:St'}(nd:p.wn.Nodup)(lw:st.ws.length=p.ws.length)(k:Str×Int):((p.bC st).map λx=>x.tot k).sum<=st.fly k+cK k ((p.aJ st).map (·.2)):=by
 generalize hZ:WA p.ws st.ws=Z
 have z1:Z.map (·.1)=p.ws:=by rw[← hZ];exact lU (by omega)
 have z2:Z.map (·.2)=st.ws:=by rw[← hZ];exact mF (by omega)
 let P:Wy×Ws->Wt:=λy=>pass y.1 p.sn y.2 (p.aJ st)
 have ew:p.bC st=Z.map P:=by unfold Pn.bC;rw[br,hZ]
 have e3:(Z.map λy=>cK k (P y).lo).sum+(Z.map λy=>cK k (P y).ou).sum+(Z.map λy=>cK k (P y).st).sum=(Z.map λy=>cK k (P y).ca).sum+(Z.map λy=>cK k y.2.st).sum:=by
  rw[← a5,← a5,← a5]
  congr 1
  exact W3 λy _=>GC y.1 p.sn y.2 (p.aJ st) k
 have e4:(Z.map λy=>cK k (P y).ca).sum<=(Z.map λy=>cK k y.2.cm).sum+cK k ((p.aJ st).map (·.2)):=by
  have:(Z.map λy=>cK k (P y).ca)=Z.map λy=>cK k y.2.cm+cK k (((p.aJ st).filter λx=>decide (x.1=y.1.nm)).map (·.2)):=by
   refine W3 λy _=>?_
   show cK k (y.2.cm++_)=_
   rw[jx]
  rw[this,a5]
  have h2:(Z.map λy=>cK k (((p.aJ st).filter λx=>decide (x.1=y.1.nm)).map (·.2))).sum<=cK k ((p.aJ st).map (·.2)):=by
   have e:∀ xs:List (Str×Lt),cK k (xs.map (·.2))=(xs.filter λx=>decide (x.2.key=k)).length:=λxs=>by
    unfold cK
    induction xs with
    | nil=>rfl
    | cons a r ih=>by_cases h:a.2.key=k<;>simp[Yd,h] at ih ⊢ <;> omega
   have h:=split_le (f:=λx:Str×Lt=>x.1) nd ((p.aJ st).filter λx=>decide (x.2.key=k))
   rw[e]
   refine Xi (zbu ?_) h
   unfold Pn.wn
   rw[← z1,Wz,Wz]
   congr 1
   refine W3 λy _=>?_
   rw[e,nE]
   rfl
  omega
 have e5:st.fly k=(Z.map λy=>cK k y.2.cm).sum+(Z.map λy=>cK k y.2.st).sum:=by
  unfold St'.fly
  rw[← z2,Wz,← a5]
  congr 1
  exact W3 λy _=>jx ..
 have e0:((p.bC st).map λx=>x.tot k).sum=(Z.map λy=>cK k (P y).lo).sum+(Z.map λy=>cK k (P y).ou).sum+(Z.map λy=>cK k (P y).st).sum:=by
  rw[ew,Wz,← a5,← a5]
  rfl
 omega
theorem JH {p:Pn}{st:St'}(nd:p.wn.Nodup)(lw:st.ws.length=p.ws.length)(k:Str×Int) :
  (p.step st).fly k+cK k (p.taken st)+cK k (p.bz st)<=st.fly k+cK k ((p.aJ st).map (·.2)):=by
 generalize hZ:WA p.ws st.ws=Z
 have z1:Z.map (·.1)=p.ws:=by rw[← hZ];exact lU (by omega)
 have z2:Z.map (·.2)=st.ws:=by rw[← hZ];exact mF (by omega)
 let P:Wy×Ws->Wt:=λy=>pass y.1 p.sn y.2 (p.aJ st)
 have ew:p.bC st=Z.map P:=by unfold Pn.bC;rw[br,hZ]
 have el:cK k (p.bz st)=(Z.map λy=>cK k (P y).lo).sum:=by unfold Pn.bz;rw[pH,ew,Wz];rfl
 have eo:cK k (p.out st)=(Z.map λy=>cK k (P y).ou).sum:=by unfold Pn.out;rw[pH,ew,Wz];rfl
 have e0:((p.bC st).map λx=>x.tot k).sum=(Z.map λy=>cK k (P y).lo).sum+(Z.map λy=>cK k (P y).ou).sum+(Z.map λy=>cK k (P y).st).sum:=by
  rw[ew,Wz,← a5,← a5]
  rfl
 have e1:=Ic nd lw k
 have e6:(p.step st).fly k=(Z.map λy=>cK k ((p.out st).filter λl=>decide (cy p.ss l=some y.1.nm))).sum+(Z.map λy=>cK k (P y).st).sum:=by
  unfold St'.fly Pn.step
  simp only
  rw[br,ew,← hZ,c9,hZ,Wz,Wz,← a5]
  congr 1
  refine W3 λy _=>?_
  show cK k (((p.out st).filter λl=>decide (cy p.ss l=some y.1.nm)).map (·.hU 1)++(P y).st.map (·.hU 0))=_
  rw[jx,DE,DE]
 have e7:(Z.map λy=>cK k ((p.out st).filter λl=>decide (cy p.ss l=some y.1.nm))).sum<=cK k ((p.out st).filter λl=>!decide (cy p.ss l=none)):=by
  have nd2:(p.wn.map some).Nodup:=zaO _ (λa b (h:a≠b) (z:some a=some b)=>h (Xg z)) nd
  have h2:=KP k (cy p.ss) nd2 ((p.out st).filter λl=>!decide (cy p.ss l=none))
  refine Xi (zbu ?_) h2
  unfold Pn.wn
  rw[← z1,Wz,Wz,Wz]
  congr 1
  refine W3 λy _=>?_
  show cK k _=cK k _
  rw[YZ]
  congr 2
  funext x
  cases h:cy p.ss x<;>simp[h]
 have e8:=J8 k (λl=>decide (cy p.ss l=none)) (p.out st)
 have e9:cK k (p.taken st)=cK k ((p.out st).filter λl=>decide (cy p.ss l=none)):=rfl
 omega
theorem wH {α β:Type}(f:α->β->Nat)(ys:List β):∀ xs:List α,(xs.map λx=>(ys.map λy=>f x y).sum).sum=(ys.map λy=>(xs.map λx=>f x y).sum).sum
 | []=>by
  have:∀ l:List β,(l.map λ_=>0).sum=0:=λl=>by induction l<;>simp_all
  simpa using (this ys).symm
 | a::r=>by
  rw[WE];rw[Xb]
  simp only[WE,Xb,Zk]
  rw[wH f ys r,← a5]
theorem yB (k:Str×Int)(t:Nat):∀ zs:List (Sn×List Int),cK k ((zs.filterMap (cG t)).map (·.2))=(zs.map λy=>if y.1.nm=k.1/\y.2[t]? = some k.2 then 1 else 0).sum
 | []=>rfl
 | y::r=>by
  have ih:=yB k t r
  unfold cK at *
  rw[Yo,WE,Xb,← ih]
  unfold cG
  cases e:y.2[t]? with
  | none=>simp
  | some n=>
   simp only[zbH,WE,Yd]
   by_cases h:y.1.nm=k.1/\n=k.2
   ·obtain ⟨k1,k2⟩:=k
    obtain ⟨rfl,rfl⟩:=h
    simp;omega
   ·have:¬ ((y.1.nm,n)=k):=λz=>h (by rw[← z];exact ⟨rfl,rfl⟩)
    have h':¬ (y.1.nm=k.1/\some n=some k.2):=λz=>h ⟨z.1,Xg z.2⟩
    rw[if_neg h']
    simp[this]
theorem Ji (i:Int):∀ (ns:List Int) (L:Nat),((W5 L).map λt=>if ns[t]? = some i then 1 else 0).sum<=ns.count i
 | [],L=>by
  have:∀ l:List Nat,(l.map λ_=>0).sum=0:=λl=>by induction l<;>simp_all
  simpa using this (W5 L)
 | a::r,0=>by simp
 | a::r,L+1=>by
  have ih:=Ji i r L
  rw[ZX,WE,Xb]
  rw[Wz]
  have e:((W5 L).map ((λt=>if (a::r)[t]? = some i then 1 else 0) ∘ Nat.succ))=(W5 L).map λt=>if r[t]? = some i then 1 else 0:=W3 λt ht=>by simp
  rw[e,Yd]
  by_cases h:a=i<;>simp[h]<;>omega
theorem K2 {ss:List Sn}{ns:List (List Int)}(nd:(ss.map Sn.nm).Nodup){s:Sn}{n:List Int}(h:(s,n)∈WA ss ns)(i:Int):cK (s.nm,i) ((j3 ss ns).map (·.2))<=n.count i:=by
 rw[j5,Z8,pH]
 have e:((W5 (c8 ns)).map λt=>cK (s.nm,i) (((WA ss ns).filterMap (cG t)).map (·.2)))=(W5 (c8 ns)).map λt=>((WA ss ns).map λy=>if y.1.nm=s.nm/\y.2[t]? = some i then 1 else 0).sum:=W3 λt ht=>yB (s.nm,i) t _
 rw[e,wH]
 have one:∀ zs:List (Sn×List Int),(zs.map λy=>y.1.nm).Nodup->(s,n)∈zs->(zs.map λy=>((W5 (c8 ns)).map λt=>if y.1.nm=s.nm/\y.2[t]? = some i then 1 else 0).sum).sum<=n.count i:=λzs=>by
  have zero:∀ (y:Sn×List Int),y.1.nm≠s.nm->((W5 (c8 ns)).map λt=>if y.1.nm=s.nm/\y.2[t]? = some i then 1 else 0).sum=0:=λy hy=>by
   have:∀ l:List Nat,(l.map λt=>if y.1.nm=s.nm/\y.2[t]? = some i then 1 else 0).sum=0:=λl=>by induction l<;>simp_all
   exact this _
  induction zs with
  | nil=>intro _ h;cases h
  | cons y r ih=>
   intro nd h
   rw[WE] at nd
   have ⟨n1,n2⟩:=Xk.mp nd
   rw[WE];rw[Xb]
   rcases WM.mp h with h | h
   ·have h0:(r.map λy=>((W5 (c8 ns)).map λt=>if y.1.nm=s.nm/\y.2[t]? = some i then 1 else 0).sum).sum=0:=by
     have:∀ l:List (Sn×List Int),(∀ y∈l,y.1.nm≠s.nm)->(l.map λy=>((W5 (c8 ns)).map λt=>if y.1.nm=s.nm/\y.2[t]? = some i then 1 else 0).sum).sum=0:=λl=>by
      induction l with
      | nil=>intro _;rfl
      | cons a l ih=>intro hl;rw[WE,Xb,zero a (hl a WL),ih λy hy=>hl y (WU _ hy)]
     refine this r λy' hy' e=>n1 ?_
     rw[← h]
     exact Wq.mpr ⟨y',hy',e⟩
    rw[h0,← h]
    have:=Ji i n (c8 ns)
    simpa using this
   ·have hy:y.1.nm≠s.nm:=λe=>n1 (by rw[e];exact Wq.mpr ⟨(s,n),h,rfl⟩)
    rw[zero y hy]
    have:=ih n2 h
    omega
 refine one _ ?_ h
 have:(WA ss ns).map (λy=>y.1.nm)=((WA ss ns).map (·.1)).map Sn.nm:=by rw[Wz];rfl
 rw[this]
 exact nd.sublist (((pQ ss ns).sublist).map Sn.nm)
theorem LQ (a i:Int)(n:Nat):(rgI a n).count i=if a<=i/\i < a+n then 1 else 0:=by
 unfold rgI
 induction n with
 | zero=>rw[if_neg (by omega)];rfl
 | succ n ih=>
  rw[zbL,WQ,Xs,ih]
  show _+List.count i [a+(n:Int)]=_
  rw[List.count_singleton]
  by_cases h:a+(n:Int)=i
  ·rw[if_neg (by omega),if_pos (by simpa using h),if_pos (by omega)]
  ·rw[if_neg (c:=(a+(n:Int) == i)=true) (by simpa using h)]
   by_cases h2:a<=i/\i < a+(n:Int)
   ·rw[if_pos h2,if_pos (by omega)]
   ·rw[if_neg h2,if_neg (by omega)]
theorem uK (i:Int)(xs:List Int):(fc xs).count i=xs.count i:=(lD xs).count_eq i
theorem QK (g:Int)(s:Sn)(x:Ss)(u:Int)(hl:∀ i,x.lf=some i->0<=i)(i:Int):(x.bt g s u).2.count i+(x.bt g s u).1.ag.count i+(x.bt g s u).1.lo.count i=x.ag.count i+x.lo.count i+(if x.nx<=i/\i < (x.bt g s u).1.nx then 1 else 0)/\x.nx<=(x.bt g s u).1.nx:=by
 unfold Ss.bt
 split
 ·generalize (max 0 ((s.rl.beh g x.W x.S x.hd).1 / g - u)).toNat=m
  unfold Ss.fill Ss.rdy
  simp only
  have tl:((fc (x.ag++x.lo)).take m).length<=m:=by simp;omega
  generalize hc:js x.lf ((m:Int) - (((fc (x.ag++x.lo)).take m).length:Int))=c
  have c0:0<=c:=by
   rw[← hc]
   unfold js
   cases e:x.lf with
   | none=>simp only;omega
   | some l=>have:=hl l e;simp only;omega
  have e1:=uK i (x.ag++x.lo)
  rw[Xs] at e1
  have e2:((fc (x.ag++x.lo)).take m).count i+((fc (x.ag++x.lo)).drop ((fc (x.ag++x.lo)).take m).length).count i=(fc (x.ag++x.lo)).count i:=by
   rw[← Xs]
   congr 1
   rw[YO]
   by_cases h:m<=(fc (x.ag++x.lo)).length
   ·rw[zbE h,zbT]
   ·rw[za8 (by omega),YY (by omega),Ys,W8]
  rw[Xs,LQ,Yb c0]
  have e3:([]:List Int).count i=0:=rfl
  refine ⟨by omega,by omega⟩
 ·refine ⟨?_,Xf _⟩
  have e3:([]:List Int).count i=0:=rfl
  show ([]:List Int).count i+x.ag.count i+x.lo.count i=x.ag.count i+x.lo.count i+(if x.nx<=i/\i < x.nx then 1 else 0)
  rw[if_neg (by omega)]
  omega
def St'.One (st:St'):Prop:=∀ x∈st.ss,∀ i:Int,st.fly (x.nm,i)+x.ag.count i+x.lo.count i<=if 0<=i/\i < x.nx then 1 else 0
theorem Hn {p:Pn}{m:Int}{n:Nat}{st:St'}(I:cM p m n st)(hn:n<=10000)(O:st.One):(p.step st).One:=by
 intro x' hx' i
 unfold Pn.step at hx'
 simp only at hx'
 rw[br] at hx'
 obtain ⟨⟨s,b⟩,hb,rfl⟩:=Wq.mp hx'
 obtain ⟨x,hx,eb⟩:=I.zb (y:=(s,b)) hb
 simp only at eb hx
 have nm:x.nm=s.nm:=I.znm hx
 have X:=O x (WI hx).2 i
 have B:=QK p.g s x (st.und x.nm) (I.ss _ hx).l i
 have N:=(I.cons hn hb).1
 have F:=JH (p:=p) (st:=st) I.K.wd I.lw (s.nm,i)
 have S:cK (s.nm,i) ((p.aJ st).map (·.2))<=b.2.count i:=by
  unfold Pn.aJ
  refine K2 I.sd ?_ i
  rw[X4]
  exact Wq.mpr ⟨(s,b),hb,rfl⟩
 rw[← eb] at B
 have n0:=(I.ss _ hx).n0
 simp only at n0
 have L:((own s.nm (p.bz st)).map Lt.nu).count i=cK (s.nm,i) (p.bz st):=by
  unfold cK own
  generalize p.bz st=ls
  induction ls with
  | nil=>rfl
  | cons a r ih=>
   by_cases h:a.nm=s.nm
   ·by_cases h2:a.nu=i<;>simp[h,h2,Yd,ih]
   ·have:¬ ((a.nm,a.nu)=(s.nm,i)):=λz=>h (by injection z)
    simp[h,this,Yd,ih]
 show (p.step st).fly (b.1.nm,i)+b.1.ag.count i+(fc (b.1.lo++(own s.nm (p.bz st)).map Lt.nu)).count i<=if 0<=i/\i < b.1.nx then 1 else 0
 rw[N,uK,Xs,L]
 rw[nm] at X
 obtain ⟨B1,B2⟩:=B
 by_cases h1:0<=i/\i < x.nx
 ·rw[if_pos h1] at X
  rw[if_neg (by omega)] at B1
  rw[if_pos (by omega)]
  omega
 ·rw[if_neg h1] at X
  by_cases h2:x.nx<=i/\i < b.1.nx
  ·rw[if_pos h2] at B1
   rw[if_pos (by omega)]
   omega
  ·rw[if_neg h2] at B1
   rw[if_neg (by omega)]
   omega
theorem DJ {w:Wy}:∀ {ys a b:List Lt},w.rm<=(a.length:Int)->ys.foldl (b5 w) (a,b)=(a,b++ys)
 | [],a,b,_=>by simp
 | y::r,a,b,h=>by
  rw[XR,gT h,DJ h,Y6]
  rfl
theorem FK (w:Wy):∀ ys a b:List Lt,∃ k,k<=ys.length/\(ys.foldl (b5 w) (a,b)).2=b++ys.drop k
 | [],a,b=>⟨0,WG _,by simp⟩
 | y::r,a,b=>by
  by_cases h:w.rm<=(a.length:Int)
  ·exact ⟨0,XX _,by rw[DJ h];rfl⟩
  ·rw[XR,oJ h]
   obtain ⟨k,hk,e⟩:=FK w r (a++[gE w y a.length]) b
   exact ⟨k+1,by simpa using hk,e⟩
abbrev evI (w:Wy)(l:Lt):Ev:=⟨OF "in", l.nm,l.nu,w.nm⟩
abbrev evL (w:Wy)(l:Lt):Ev:=⟨OF "lost", l.nm,l.nu,w.nm⟩
theorem D5 (ss:List Sn)(w:Wy)(ns:List Str)(k:Ws)(se:List (Str×Lt)):∃ c,(pass w ns k se).lo=(pass w ns k se).ca.drop c/\evs ss w (pass w ns k se)=((pass w ns k se).ca.take c).map (evI w)++(pass w ns k se).lo.map (evL w)++(pass w ns k se).ou.map (evB ss w):=by
 obtain ⟨c,hc,e⟩:=FK w (pass w ns k se).ca k.st []
 have e':(pass w ns k se).lo=(pass w ns k se).ca.drop c:=by
  have:(pass w ns k se).lo=(tk w k.st (pass w ns k se).ca).2:=rfl
  rw[this];unfold tk;rw[e];rfl
 refine ⟨c,e',?_⟩
 generalize pass w ns k se=x at *
 unfold evs
 congr 1
 rw[e']
 have len:(x.ca.length:Int) - (x.ca.drop c).length=c:=by rw[Zj];omega
 rw[len]
 refine List.ext_getElem (by simp;omega) λj h1 h2=>?_
 simp only[Wm,zaF] at h1
 rw[zbl,List.getElem_zipIdx]
 simp only[Nat.zero_add]
 by_cases h:j < c
 ·rw[List.getElem_append_left (by simp;omega),zbl,List.getElem_take,if_pos (by omega)]
 ·rw[List.getElem_append_right (by simp;omega),zbl,List.getElem_drop,if_neg (by omega)]
  congr 1<;>(congr 1;congr 1;simp;omega)
def Ev.fin (e:Ev):Prop:=e.wd=OF "lost" ∨ e.wd=OF "taken"
abbrev Ev.key (e:Ev):Str×Int:=(e.nm,e.nu)
theorem IT {k:Str×Int}{ls:List Lt}{l:Lt}(h:l∈ls)(e:l.key=k):1<=cK k ls:=by
 unfold cK
 exact ZG.mpr (by rw[← e];exact Wq.mpr ⟨l,h,rfl⟩)
def Pn.told (p:Pn)(st:St'):List Ev:=(XF (λw x=>L3.evs p.ss w x) p.ws (p.bC st)).flatten
theorem E5 {p:Pn}{st:St'}{e:Ev}:e∈p.told st↔∃ w k,(w,k)∈WA p.ws st.ws/\e∈evs p.ss w (pass w p.sn k (p.aJ st)):=by
 unfold Pn.told Pn.bC
 constructor
 ·intro h
  obtain ⟨l,hl,he⟩:=zbk.mp h
  rw[br,br,c9,Wz] at hl
  obtain ⟨⟨w,k⟩,hz,rfl⟩:=Wq.mp hl
  exact ⟨w,k,hz,he⟩
 ·rintro ⟨w,k,hz,he⟩
  refine zbk.mpr ⟨_,?_,he⟩
  rw[br,br,c9,Wz]
  exact Wq.mpr ⟨(w,k),hz,rfl⟩
theorem Dm {p:Pn}{st:St'}{w:Wy}{k:Ws}(h:(w,k)∈WA p.ws st.ws):pass w p.sn k (p.aJ st)∈p.bC st:=by
 unfold Pn.bC
 rw[br]
 exact Wq.mpr ⟨(w,k),h,rfl⟩
theorem S6:OF "in" ≠ OF "lost" /\ OF "in" ≠ OF "taken" /\ OF "out" ≠ OF "lost" /\ OF "out" ≠ OF "taken" /\ OF "taken" ≠ OF "lost" /\ OF "in" ≠ OF "sent" /\ OF "lost" ≠ OF "sent" /\ OF "out" ≠ OF "sent" /\ OF "taken" ≠ OF "sent" := by decide +kernel
theorem Mv {p:Pn}{st:St'}{e:Ev}(h:e∈p.told st):e.wd≠OF "sent" /\ (e.wd=OF "lost" -> 1<=cK e.key (p.bz st))/\(e.wd=OF "taken" -> 1<=cK e.key (p.taken st)):=by
 obtain ⟨w,k,hz,he⟩:=E5.mp h
 obtain ⟨c,_,q⟩:=D5 p.ss w p.sn k (p.aJ st)
 rw[q] at he
 obtain ⟨n1,n2,n3,n4,n5,n6,n7,n8,n9⟩:=S6
 rcases W2.mp he with (he | he)
 ·rcases W2.mp he with (he | he)
  ·obtain ⟨l,hl,rfl⟩:=Wq.mp he
   exact ⟨n6,λz=>absurd z n1,λz=>absurd z n2⟩
  ·obtain ⟨l,hl,rfl⟩:=Wq.mp he
   exact ⟨n7,λ_=>IT (X8.mpr ⟨_,Dm hz,hl⟩) rfl,λz=>absurd z.symm n5⟩
 ·obtain ⟨l,hl,rfl⟩:=Wq.mp he
  have ho:l∈p.out st:=X8.mpr ⟨_,Dm hz,hl⟩
  unfold evB
  by_cases hn:cy p.ss l=none
  ·simp only[hn,if_true]
   exact ⟨n9,λz=>absurd z n5,λ_=>IT (Xd.mpr ⟨ho,by simp[hn]⟩) rfl⟩
  ·simp only[hn,if_false]
   exact ⟨n8,λz=>absurd z n3,λz=>absurd z n4⟩
theorem nA {s:Sn}{n:List Int}(t:Nat):∀ {zs:List (Sn×List Int)},(zs.map λy=>y.1.nm).Nodup->(s,n)∈zs->(zs.filterMap (cG t)).filter (λx=>decide (x.2.nm=s.nm))=(cG t (s,n)).toList
 | y::r,nd,h=>by
  rw[WE] at nd
  have ⟨n1,n2⟩:=Xk.mp nd
  have nmT:∀ (y:Sn×List Int) z,cG t y=some z->z.2.nm=y.1.nm:=λy z e=>by
   unfold cG at e
   cases q:y.2[t]? with
   | none=>rw[q] at e;cases e
   | some j=>rw[q] at e;cases e;rfl
  have none_of:∀ zs:List (Sn×List Int),(∀ y∈zs,y.1.nm≠s.nm)->(zs.filterMap (cG t)).filter (λx=>decide (x.2.nm=s.nm))=[]:=λzs hz=>by
   refine zbB.mpr λz hz'=>?_
   obtain ⟨y,hy,e⟩:=ZA.mp hz'
   rw[nmT y z e]
   simpa using hz y hy
  rw[Yo]
  rcases WM.mp h with h | h
  ·subst h
   have h0:=none_of r λy hy e=>n1 (Wq.mpr ⟨y,hy,e⟩)
   cases e:cG t (s,n) with
   | none=>simpa using h0
   | some z=>
    have:=nmT _ z e
    simp only[YQ,this,decide_true,if_true,h0]
    rfl
  ·have hy:y.1.nm≠s.nm:=λe=>n1 (by rw[e];exact Wq.mpr ⟨(s,n),h,rfl⟩)
   cases e:cG t y with
   | none=>exact nA t n2 h
   | some z=>
    have:=nmT _ z e
    simp only[YQ,this,hy,decide_false]
    exact nA t n2 h
theorem xi {α β:Type}(f:α->β):∀ (ns:List α) (L:Nat),ns.length<=L->(W5 L).flatMap (λt=>(ns[t]?.map f).toList)=ns.map f
 | [],L,_=>by simp
 | a::r,0,h=>by simp at h
 | a::r,L+1,h=>by
  rw[ZX]
  rw[XG,zdp]
  have:=xi f r L (by simpa using h)
  simpa using this
theorem ET {ss:List Sn}{ns:List (List Int)}(nd:(ss.map Sn.nm).Nodup){s:Sn}{n:List Int}(h:(s,n)∈WA ss ns):(j3 ss ns).filter (λx=>decide (x.2.nm=s.nm))=n.map λj=>(s.rd.headD (OF ""),⟨s.nm,j,0,0,0⟩):=by
 have nd':((WA ss ns).map λy=>y.1.nm).Nodup:=by
  have:(WA ss ns).map (λy=>y.1.nm)=((WA ss ns).map (·.1)).map Sn.nm:=by rw[Wz];rfl
  rw[this]
  exact nd.sublist (((pQ ss ns).sublist).map Sn.nm)
 rw[j5,List.filter_flatMap]
 rw[← xi (λj=>(s.rd.headD (OF ""),(⟨s.nm,j,0,0,0⟩:Lt))) n (c8 ns) (CZ (WI h).2)]
 congr 1
 funext t
 exact nA t nd' h
theorem Lk (p:Pn):p.beg.One:=by
 intro x hx i
 obtain ⟨s,hs,rfl⟩:=Wq.mp (show x∈p.ss.map (Sn.beg p.g) from hx)
 have:p.beg.fly (s.nm,i)=0:=by
  unfold St'.fly Pn.beg
  rw[Wz]
  have:∀ l:List Wy,(l.map λ_=>0).sum=0:=λl=>by induction l<;>simp_all
  exact this p.ws
 show p.beg.fly (s.nm,i)+0+0<=_
 rw[this]
 exact XX _
theorem Pn.vQ {p:Pn}{m:Int}(K:p.Ok m):∀ n:Nat,n<=10000->(p.run n).One
 | 0,_=>Lk p
 | n+1,h=>Hn (p.eU K n (by omega)) (by omega) (p.vQ K n (by omega))
abbrev evS (s:Sn)(j:Int):Ev:=⟨OF "sent", s.nm,j,s.rd.headD (OF "")⟩
theorem KC {p:Pn}{m:Int}{n:Nat}{st:St'}(I:cM p m n st){s:Sn}{x:Ss}(hx:(s,x)∈WA p.ss st.ss) :
  (p.evs st).filter (λe=>decide (e.nm=s.nm))=(x.bt p.g s (st.und x.nm)).2.map (evS s)++(p.told st).filter λe=>decide (e.nm=s.nm):=by
 have hb:(s,(x.bt p.g s (st.und x.nm)).2)∈WA p.ss ((p.bL st).map (·.2)):=by
  unfold Pn.bL
  rw[br,X4,c9 (λy:Sn×Ss=>y.2.bt p.g y.1 (st.und y.2.nm)),Wz]
  exact Wq.mpr ⟨(s,x),hx,rfl⟩
 have h:=ET I.sd hb
 unfold Pn.evs
 rw[zcR]
 congr 1
 rw[zbM]
 have:(p.aJ st).filter ((λe:Ev=>decide (e.nm=s.nm)) ∘ λx=>(⟨OF "sent", x.2.nm,x.2.nu,x.1⟩:Ev))=(p.aJ st).filter λx=>decide (x.2.nm=s.nm):=rfl
 rw[this]
 show ((j3 p.ss ((p.bL st).map (·.2))).filter _).map _=_
 rw[h,Wz]
 rfl
theorem Ng {w:Wy}{P:Lt->Prop}(hP:∀ l n,P l->P (gE w l n)):∀ ys a b:List Lt,(∀ l∈a,P l)->(∀ l∈b,P l)->(∀ l∈ys,P l)->(∀ l∈(ys.foldl (b5 w) (a,b)).1,P l)/\∀ l∈(ys.foldl (b5 w) (a,b)).2,P l
 | [],a,b,h1,h2,_=>⟨h1,h2⟩
 | y::r,a,b,h1,h2,h3=>by
  have hy:=h3 y WL
  have hr:∀ l∈r,P l:=λl hl=>h3 l (WU _ hl)
  rw[XR]
  by_cases h:w.rm<=(a.length:Int)
  ·rw[gT h]
   refine Ng hP r a (b++[y]) h1 (λl hl=>?_) hr
   rcases W2.mp hl with (hl | hl)
   ·exact h2 l hl
   ·rw[XO.mp hl];exact hy
  ·rw[oJ h]
   refine Ng hP r _ b (λl hl=>?_) h2 hr
   rcases W2.mp hl with (hl | hl)
   ·exact h1 l hl
   ·rw[XO.mp hl];exact hP y _ hy
def f6 (p:Pn)(w:Wy)(l:Lt):Prop:=0<=l.hp/\(road p.ss l.nm)[l.hp.toNat]? = some w.nm
theorem Ai {p:Pn}{w:Wy}(v:Wy)(l:Lt)(n:Nat)(h:f6 p w l):f6 p w (gE v l n):=by
 have:(gE v l n).hp=l.hp/\(gE v l n).nm=l.nm:=by
  unfold gE
  split
  ·exact ⟨rfl,rfl⟩
  ·split<;>exact ⟨rfl,rfl⟩
 unfold f6
 rw[this.1,this.2]
 exact h
def St'.Hop (p:Pn)(st:St'):Prop:=∀ y∈WA p.ws st.ws,∀ l∈y.2.cm++y.2.st,f6 p y.1 l
theorem Kq {ss:List Sn}(nd:(ss.map Sn.nm).Nodup){s:Sn}(h:s∈ss):road ss s.nm=s.rd:=by
 unfold road
 induction ss with
 | nil=>cases h
 | cons a r ih=>
  rw[WE] at nd
  have ⟨n1,n2⟩:=Xk.mp nd
  rw[Xx]
  rcases WM.mp h with (e | h)
  ·subst e;simp
  ·have:a.nm≠s.nm:=λe=>n1 (by rw[e];exact Wq.mpr ⟨s,h,rfl⟩)
   simp only[this,decide_false]
   exact ih n2 h
theorem D1 {p:Pn}{m:Int}{n:Nat}{st:St'}(I:cM p m n st)(H:st.Hop p){w:Wy}{k:Ws}(hz:(w,k)∈WA p.ws st.ws):(∀ l∈(pass w p.sn k (p.aJ st)).ca,f6 p w l)/\(∀ l∈(pass w p.sn k (p.aJ st)).lo,f6 p w l)/\(∀ l∈(pass w p.sn k (p.aJ st)).ou,f6 p w l)/\∀ l∈(pass w p.sn k (p.aJ st)).st,f6 p w l:=by
 have ca:∀ l∈(pass w p.sn k (p.aJ st)).ca,f6 p w l:=λl hl=>by
  rcases W2.mp (show l∈k.cm++((p.aJ st).filter λx=>decide (x.1=w.nm)).map (·.2) from hl) with (hl | hl)
  ·exact H _ hz l (Xq _ hl)
  ·obtain ⟨x,hx,rfl⟩:=Wq.mp hl
   obtain ⟨hx,hw⟩:=Xd.mp hx
   have hw:x.1=w.nm:=by simpa using hw
   obtain ⟨s,hs,j,rfl⟩:=sG (show x∈j3 p.ss ((p.bL st).map (·.2)) from hx)
   refine ⟨Xf _,?_⟩
   show (road p.ss s.nm)[0]? = some w.nm
   rw[Kq I.sd hs,← hw]
   cases e:s.rd with
   | nil=>exact absurd e (I.K.s s hs).r0
   | cons a l=>rfl
 have h:=Ng (w:=w) (P:=f6 p w) (λl n=>Ai w l n) (pass w p.sn k (p.aJ st)).ca k.st [] (λl hl=>H _ hz l (WZ _ hl)) (λ_ h=>nomatch h) ca
 have pm:=dB w p.sn (tk w k.st (pass w p.sn k (p.aJ st)).ca).1 k.la
 refine ⟨ca,h.2,λl hl=>h.1 l (pm.mem_iff.mp (Xq _ hl)),λl hl=>h.1 l (pm.mem_iff.mp (WZ _ hl))⟩
theorem JZ {p:Pn}{m:Int}{n:Nat}{st:St'}(I:cM p m n st)(hn:n<=10000)(H:st.Hop p):(p.step st).Hop p:=by
 intro y hy l hl
 obtain ⟨w,k'⟩:=y
 rw[show (p.step st).ws=XF (λw x=>nr p.ss w x (p.out st)) p.ws (p.bC st) from rfl] at hy
 unfold Pn.bC at hy
 rw[br,br,c9 (λy:Wy×Ws=>pass y.1 p.sn y.2 (p.aJ st)),Wz] at hy
 have hy:(w,k')∈WA p.ws ((WA p.ws st.ws).map λy:Wy×Ws=>nr p.ss y.1 (pass y.1 p.sn y.2 (p.aJ st)) (p.out st)):=hy
 rw[c9 (λy:Wy×Ws=>nr p.ss y.1 (pass y.1 p.sn y.2 (p.aJ st)) (p.out st))] at hy
 obtain ⟨⟨w',k⟩,hz,e⟩:=Wq.mp hy
 cases e
 rcases W2.mp (show l∈((p.out st).filter λl=>decide (cy p.ss l=some w'.nm)).map (·.hU 1)++(pass w' p.sn k (p.aJ st)).st.map (·.hU 0) from hl) with (hl | hl)
 ·obtain ⟨z,hz',rfl⟩:=Wq.mp hl
  obtain ⟨ho,hw⟩:=Xd.mp hz'
  have hw:cy p.ss z=some w'.nm:=by simpa using hw
  have h0:=((I.rd hn).ou z ho).2
  refine ⟨by show 0<=z.hp+1;omega,?_⟩
  show (road p.ss z.nm)[(z.hp+1).toNat]? = some w'.nm
  rw[show (z.hp+1).toNat=z.hp.toNat+1 by omega]
  exact hw
 ·obtain ⟨z,hz',rfl⟩:=Wq.mp hl
  have h:=(D1 I H hz).2.2.2 z hz'
  refine ⟨by show 0<=z.hp+0;have:=h.1;omega,?_⟩
  show (road p.ss z.nm)[(z.hp+0).toNat]? = some w'.nm
  rw[Int.add_zero]
  exact h.2
theorem MS (p:Pn):p.beg.Hop p:=by
 intro y hy l hl
 obtain ⟨w,k⟩:=y
 rw[show p.beg.ws=p.ws.map λ_=>(⟨[],[],OF ""⟩:Ws) from rfl,X4] at hy
 obtain ⟨⟨a,b⟩,_,e⟩:=Wq.mp hy
 cases e
 cases hl
theorem Pn.CW {p:Pn}{m:Int}(K:p.Ok m):∀ n:Nat,n<=10000->(p.run n).Hop p
 | 0,_=>MS p
 | n+1,h=>JZ (p.eU K n (by omega)) (by omega) (p.CW K n (by omega))
def Sf (s:String):D:=.tup [.str (OF s)]
theorem Ni {k:Str×Int}{ls:List Lt}(h:1<=cK k ls):∃ l∈ls,l.key=k:=by
 obtain ⟨l,hl,e⟩:=Wq.mp (ZG.mp (show 0 < (ls.map Lt.key).count k by unfold cK at h;omega))
 exact ⟨l,hl,e⟩
theorem MQ {k:Str×Int}{ls:List Lt}{l:Lt}(h:l∈ls)(e:l.key=k):1<=cK k ls:=ZG.mpr (Wq.mpr ⟨l,h,e⟩)
theorem QM (i0 i1 i2:Nat)(w:Ws)(ρ:ST)(μ:Mu)(k:ST->Mu->Prop):de [i0,i1,i2] w.toD ρ μ k=de [i0,i1,i2] (.tup [.tup (ltD w.cm),.tup (ltD w.st),.str w.la]) ρ μ k:=propext Wr
abbrev Pt:=(Str×Int)×D
def kyL (k:Str×Int):List L2.Key:=[.inr k.1,.inl k.2]
theorem CB {a b:Str×Int}(h:kyL a=kyL b):a=b:=by
 unfold kyL at h
 have h1:a.1=b.1:=by have:=(za2 h).1;injection this
 have h2:a.2=b.2:=by have:=(za2 (za2 h).2).1;injection this
 exact zbY h1 h2
def nz (ps:List Pt):List (List L2.Key×D):=ps.map λy=>(kyL y.1,y.2)
theorem yQ {a:List Pt}{k:Str×Int}{d:D}(h:k ∉ a.map (·.1)):putD (nz a) (kyL k) d=nz (a++[(k,d)]):=by
 unfold putD nz
 rw[if_neg,WQ]
 ·rfl
 ·intro z
  obtain ⟨y,hy,e⟩:=Z6.mp z
  obtain ⟨q,hq,rfl⟩:=Wq.mp hy
  exact h (Wq.mpr ⟨q,hq,CB (by simpa using e)⟩)
theorem CS {a:List Pt}{k:Str×Int}(h:k ∉ a.map (·.1)):bP (nz a) (kyL k)=none:=by
 unfold bP nz
 rw[List.find?_eq_none.mpr λy hy=>?_];rfl
 obtain ⟨q,hq,rfl⟩:=Wq.mp hy
 intro e
 exact h (Wq.mpr ⟨q,hq,CB (by simpa using e)⟩)
def plR (w:String)(nm:Str)(ls:List Lt):List Pt:=(ls.zipIdx 0).map λz=>(z.1.key,.tup [.str (OF w),.str nm,.int (z.2:Nat)])
def ptW (y:Wy×Ws):List Pt:=plR "comes" y.1.nm y.2.cm++plR "stands" y.1.nm y.2.st
def ptS (x:Ss):List Pt:=(x.ag.map λi=>((x.nm,i),Sf "again"))++x.lo.map λi=>((x.nm,i),Sf "lost")
def pts (p:Pn)(st:St'):List Pt:=(WA p.ws st.ws).flatMap ptW++st.ss.flatMap ptS
theorem pL (w:String)(nm:Str)(ls:List Lt):(plR w nm ls).map (·.1)=ls.map Lt.key:=by
 unfold plR
 rw[Wz,show ((λx:Pt=>x.1) ∘ λz:Lt×Nat=>((z.1.key,.tup [.str (OF w),.str nm,.int (z.2:Nat)]):Pt))=Lt.key ∘ (·.1) from rfl,← Wz,List.zipIdx_map_fst]
def St'.Uq (st:St'):Prop:=∀ x∈st.ss,∀ i:Int,st.fly (x.nm,i)+x.ag.count i+x.lo.count i<=1
theorem One.uq {st:St'}(h:st.One):st.Uq:=λx hx i=>by have:=h x hx i;split at this<;>omega
theorem Ml (k:Str×Int)(x:Ss):((ptS x).map (·.1)).count k=if x.nm=k.1 then x.ag.count k.2+x.lo.count k.2 else 0:=by
 have one:∀ (d:D) (ns:List Int),((ns.map λi=>(((x.nm,i),d):Pt)).map (·.1)).count k=if x.nm=k.1 then ns.count k.2 else 0:=λd ns=>by
  induction ns with
  | nil=>simp
  | cons n r ih=>
   rw[WE,WE,Yd,ih,Yd]
   by_cases h:x.nm=k.1
   ·rw[if_pos h,if_pos h]
    have:((x.nm,n) == k)=(n == k.2):=by
     rw[zdG];rw[beq_iff_eq,beq_iff_eq]
     exact ⟨λe=>congrArg (·.2) e,λe=>zbY h e⟩
    simp only[this]
   ·rw[if_neg h,if_neg h]
    have:((x.nm,n) == k)=false:=by
     rw[beq_eq_false_iff_ne]
     exact λe=>h (congrArg (·.1) e)
    simp[this]
 unfold ptS
 rw[WQ,Xs,one,one]
 split<;>rfl
theorem Qt {p:Pn}{st:St'}(U:st.Uq)(nd:(st.ss.map Ss.nm).Nodup)(lt:∀ w∈st.ws,∀ l∈w.cm++w.st,l.nm∈st.ss.map Ss.nm)(len:st.ws.length<=p.ws.length):((pts p st).map (·.1)).Nodup:=by
 rw[List.nodup_iff_count]
 intro k
 unfold pts
 rw[WQ,Xs]
 have e1:(((WA p.ws st.ws).flatMap ptW).map (·.1)).count k=st.fly k:=by
  have z2:(WA p.ws st.ws).map (·.2)=st.ws:=mF (by omega)
  have e:st.fly k=((WA p.ws st.ws).map λy=>cK k (y.2.cm++y.2.st)).sum:=by
   unfold St'.fly
   rw[← z2,Wz,z2];rfl
  rw[e]
  generalize WA p.ws st.ws=zs
  induction zs with
  | nil=>rfl
  | cons y r ih=>
   rw[XG,WQ,Xs,ih,WE,Xb]
   congr 1
   unfold ptW
   rw[WQ,pL,pL,← WQ]
   rfl
 have e2:∀ ss:List Ss,((ss.flatMap ptS).map (·.1)).count k=(ss.map λx=>if x.nm=k.1 then x.ag.count k.2+x.lo.count k.2 else 0).sum:=λss=>by
  induction ss with
  | nil=>rfl
  | cons x r ih=>rw[XG,WQ,Xs,ih,WE,Xb,Ml]
 have z0:∀ ss:List Ss,(∀ x∈ss,x.nm≠k.1)->(ss.map λx=>if x.nm=k.1 then x.ag.count k.2+x.lo.count k.2 else 0).sum=0:=λss h=>by
  induction ss with
  | nil=>rfl
  | cons x r ih=>rw[WE,Xb,ih λy hy=>h y (WU _ hy),if_neg (h x WL)]
 have z1:∀ ss:List Ss,(ss.map Ss.nm).Nodup->∀ x∈ss,x.nm=k.1->(ss.map λx=>if x.nm=k.1 then x.ag.count k.2+x.lo.count k.2 else 0).sum=x.ag.count k.2+x.lo.count k.2:=λss=>by
  induction ss with
  | nil=>intro _ x hx;cases hx
  | cons y r ih=>
   intro nd x hx e
   rw[WE] at nd
   have ⟨n1,n2⟩:=Xk.mp nd
   rw[WE];rw[Xb]
   rcases WM.mp hx with e' | hx
   ·subst e'
    rw[if_pos e,z0 r λz hz q=>n1 (Wq.mpr ⟨z,hz,q.trans e.symm⟩)]
    omega
   ·rw[if_neg λq=>n1 (Wq.mpr ⟨x,hx,e.trans q.symm⟩),ih n2 x hx e]
    omega
 rw[e1,e2]
 by_cases h:k.1∈st.ss.map Ss.nm
 ·obtain ⟨x,hx,e⟩:=Wq.mp h
  rw[z1 st.ss nd x hx e]
  have:=U x hx k.2
  rw[show (x.nm,k.2)=k from zbY e rfl] at this
  omega
 ·rw[z0 st.ss λx hx e=>h (Wq.mpr ⟨x,hx,e⟩)]
  have:st.fly k=0:=by
   by_cases q:1<=st.fly k
   ·exfalso
    unfold St'.fly at q
    obtain ⟨w,hw,q⟩:∃ w∈st.ws,1<=cK k (w.cm++w.st):=by
     generalize st.ws=ws at q
     induction ws with
     | nil=>simp at q
     | cons w r ih=>
      by_cases z:1<=cK k (w.cm++w.st)
      ·exact ⟨w,WL,z⟩
      ·rw[WE,Xb] at q
       obtain ⟨v,hv,y⟩:=ih (by omega)
       exact ⟨v,WU _ hv,y⟩
    obtain ⟨l,hl,e⟩:=Ni q
    exact h (by rw[← e];exact lt w hw l hl)
   ·omega
  omega
theorem u7 {α β:Type}{f:α->List β}{M:Nat}:∀ {xs:List α},(∀ x∈xs,(f x).length<=M)->(xs.flatMap f).length<=xs.length*M
 | [],_=>by simp
 | x::r,h=>by
  have h1:=h x WL
  have h2:=u7 (f:=f) (M:=M) (xs:=r) λy hy=>h y (WU _ hy)
  rw[XG,Wv,WY,Nat.add_mul]
  omega
theorem Ll {p:Pn}{st:St'}(S:StL st)(hw:p.ws.length<=6)(hs:st.ss.length<=8):(pts p st).length<=900000:=by
 have h1:((WA p.ws st.ws).flatMap ptW).length<=(WA p.ws st.ws).length*20000:=u7 λy hy=>by
  have:=S.z2 y.2 (WI (a:=y.1) (b:=y.2) hy).2
  unfold ptW plR
  simp
  omega
 have h2:(st.ss.flatMap ptS).length<=st.ss.length*20000:=u7 λx hx=>by
  have:=S.z3 x hx
  unfold ptS
  simp
  omega
 have h3:(WA p.ws st.ws).length<=6:=by rw[zdF];omega
 unfold pts
 rw[Wv]
 omega
theorem Dv {p:Pn}{st:St'}{w:Wy}{k':Ws}(hy:(w,k')∈WA p.ws (p.step st).ws):∃ k,(w,k)∈WA p.ws st.ws/\k'=nr p.ss w (pass w p.sn k (p.aJ st)) (p.out st):=by
 rw[show (p.step st).ws=XF (λw x=>nr p.ss w x (p.out st)) p.ws (p.bC st) from rfl] at hy
 unfold Pn.bC at hy
 rw[br,br,c9 (λy:Wy×Ws=>pass y.1 p.sn y.2 (p.aJ st)),Wz] at hy
 have hy:(w,k')∈WA p.ws ((WA p.ws st.ws).map λy:Wy×Ws=>nr p.ss y.1 (pass y.1 p.sn y.2 (p.aJ st)) (p.out st)):=hy
 rw[c9 (λy:Wy×Ws=>nr p.ss y.1 (pass y.1 p.sn y.2 (p.aJ st)) (p.out st))] at hy
 obtain ⟨⟨w',k⟩,hz,e⟩:=Wq.mp hy
 cases e
 exact ⟨k,hz,rfl⟩
theorem Dq {p:Pn}{m:Int}{n:Nat}{st:St'}(I:cM p m n st){s:Sn}{x':Ss}(h:(s,x')∈WA p.ss (p.step st).ss):∃ x,(s,x)∈WA p.ss st.ss/\x'=mQ s (x.bt p.g s (st.und x.nm)).1 (p.bz st) (p.taken st):=by
 rw[show (p.step st).ss=XF (λs b=>mQ s b.1 (p.bz st) (p.taken st)) p.ss (p.bL st) from rfl,br,c9 (λy:Sn×(Ss×List Int)=>mQ y.1 y.2.1 (p.bz st) (p.taken st))] at h
 obtain ⟨⟨s',b⟩,hb,e⟩:=Wq.mp h
 cases e
 obtain ⟨x,hx,eb⟩:=I.zb (y:=(s',b)) hb
 simp only at eb hx
 subst eb
 exact ⟨x,hx,rfl⟩
section
variable {P:Lt->Prop} (h1:∀ w l n,P l->P (gE w l n)) (h2:∀ l,P l->P (l.hU 1)/\P (l.hU 0)) (h3:∀ nm j,P ⟨nm,j,0,0,0⟩)
include h1 h3 in
theorem Hv {p:Pn}{st:St'}{w:Wy}{k:Ws}(H:∀ l∈k.cm++k.st,P l):(∀ l∈(pass w p.sn k (p.aJ st)).ou,P l)/\∀ l∈(pass w p.sn k (p.aJ st)).st,P l:=by
 have ca:∀ l∈(pass w p.sn k (p.aJ st)).ca,P l:=λl hl=>by
  rcases W2.mp (show l∈k.cm++((p.aJ st).filter λx=>decide (x.1=w.nm)).map (·.2) from hl) with (hl | hl)
  ·exact H l (Xq _ hl)
  ·obtain ⟨x,hx,rfl⟩:=Wq.mp hl
   obtain ⟨s,hs,j,rfl⟩:=sG (show x∈j3 p.ss ((p.bL st).map (·.2)) from (Xd.mp hx).1)
   exact h3 _ _
 have h:=Ng (w:=w) (P:=P) (λl n=>h1 w l n) (pass w p.sn k (p.aJ st)).ca k.st [] (λl hl=>H l (WZ _ hl)) (λ_ h=>nomatch h) ca
 have pm:=dB w p.sn (tk w k.st (pass w p.sn k (p.aJ st)).ca).1 k.la
 exact ⟨λl hl=>h.1 l (pm.mem_iff.mp (Xq _ hl)),λl hl=>h.1 l (pm.mem_iff.mp (WZ _ hl))⟩
include h1 h2 h3 in
theorem N6 {p:Pn}{m:Int}(K:p.Ok m):∀ n:Nat,n<=1000->∀ y∈WA p.ws (p.run n).ws,∀ l∈y.2.cm++y.2.st,P l
 | 0,_,y,hy,l,hl=>by
  obtain ⟨w,k⟩:=y
  rw[show (p.run 0).ws=p.ws.map λ_=>(⟨[],[],OF ""⟩:Ws) from rfl,X4] at hy
  obtain ⟨⟨a,b⟩,_,e⟩:=Wq.mp hy
  cases e
  cases hl
 | n+1,hn,y,hy,l,hl=>by
  have ih:=N6 K n (by omega)
  have I:=p.eU K n (by omega)
  obtain ⟨w,k'⟩:=y
  obtain ⟨k,hz,rfl⟩:=Dv (st:=p.run n) hy
  rcases W2.mp (show l∈((p.out (p.run n)).filter λl=>decide (cy p.ss l=some w.nm)).map (·.hU 1)++(pass w p.sn k (p.aJ (p.run n))).st.map (·.hU 0) from hl) with (hl | hl)
  ·obtain ⟨z,hz',rfl⟩:=Wq.mp hl
   obtain ⟨x,hx,hzx⟩:=X8.mp (show z∈(p.bC (p.run n)).flatMap Wt.ou from (Xd.mp hz').1)
   unfold Pn.bC at hx
   rw[br] at hx
   obtain ⟨⟨w2,k2⟩,hk2,rfl⟩:=Wq.mp hx
   exact (h2 z ((Hv h1 h3 (ih _ hk2)).1 z hzx)).1
  ·obtain ⟨z,hz',rfl⟩:=Wq.mp hl
   exact (h2 z ((Hv h1 h3 (ih _ hz)).2 z hz')).2
end
theorem KG {p:Pn}{m:Int}(K:p.Ok m){n:Nat}(hn:n<=1000):∀ y∈WA p.ws (p.run n).ws,∀ l∈y.2.cm++y.2.st,l.hp<=l.ag:=by
 refine N6 (P:=λl=>l.hp<=l.ag) (λw l n h=>?_) (λl h=>⟨by show l.hp+1<=l.ag+1;omega,by show l.hp+0<=l.ag+1;omega⟩) (λ_ _=>Xf _) K n hn
 unfold gE
 split
 ·exact h
 ·split<;>exact h
theorem uO {w:Wy}:∀ ys a b:List Lt,(a.length:Int)<=w.rm->((ys.foldl (b5 w) (a,b)).1.length:Int)<=w.rm
 | [],a,b,h=>h
 | y::r,a,b,h=>by
  rw[XR]
  by_cases q:w.rm<=(a.length:Int)
  ·rw[gT q];exact uO r a _ h
  ·rw[oJ q]
   refine uO r _ b ?_
   rw[Wv]
   show ((a.length+1:Nat):Int)<=w.rm
   omega
theorem uc (ws:List Str)(pc:Int):∀ (f:Nat) (st out:List Lt) (l:Str),(dW ws pc f st out l).2.2=l∨∃ x∈st,(dW ws pc f st out l).2.2=x.nm
 | 0,st,out,l=>.inl rfl
 | f+1,st,out,l=>by
  unfold dW
  split
  ·split
   ·rename_i nx e
    split
    ·rename_i x ex
     have hx:=RX ex
     have mx:=YD ex
     rcases uc ws pc f (st.eraseIdx (at1 nx st)) (out++[x]) nx with h | ⟨z,hz,h⟩
     ·exact .inr ⟨x,mx,by rw[h,hx]⟩
     ·exact .inr ⟨z,zaZ hz,h⟩
    ·exact .inl rfl
   ·exact .inl rfl
  ·exact .inl rfl
structure GN (p:Pn) (w:Wy) (k:Ws):Prop where
 rm:(k.st.length:Int)<=w.rm
 ln:w.tn=false->k.la=OF ""
 la:k.la=OF "" ∨ k.la∈p.sn
theorem yl {p:Pn}{m:Int}(K:p.Ok m):∀ n:Nat,n<=1000->∀ y∈WA p.ws (p.run n).ws,GN p y.1 y.2
 | 0,_,y,hy=>by
  obtain ⟨w,k⟩:=y
  rw[show (p.run 0).ws=p.ws.map λ_=>(⟨[],[],OF ""⟩:Ws) from rfl,X4] at hy
  obtain ⟨⟨a,b⟩,hab,e⟩:=Wq.mp hy
  cases e
  have:=(K.w a (WI hab).1)
  exact ⟨by have:=this.r0;show ((0:Nat):Int)<=a.rm;omega,λ_=>rfl,.inl rfl⟩
 | n+1,hn,y,hy=>by
  have I:=p.eU K n (by omega)
  obtain ⟨w,k'⟩:=y
  obtain ⟨k,hz,rfl⟩:=Dv (st:=p.run n) hy
  have R:=yl K n (by omega) _ hz
  have pm:=dB w p.sn (tk w k.st (pass w p.sn k (p.aJ (p.run n))).ca).1 k.la
  have lt:=uO (w:=w) (pass w p.sn k (p.aJ (p.run n))).ca k.st [] R.rm
  have ll:=pm.length_eq
  rw[Wv] at ll
  refine ⟨?_,λht=>?_,?_⟩
  ·show (((pass w p.sn k (p.aJ (p.run n))).st.map (·.hU 0)).length:Int)<=w.rm
   rw[Wm]
   show (((b7 w p.sn (tk w k.st (pass w p.sn k (p.aJ (p.run n))).ca).1 k.la).2.1).length:Int)<=w.rm
   have:(((tk w k.st (pass w p.sn k (p.aJ (p.run n))).ca).1).length:Int)<=w.rm:=lt
   omega
  ·show (b7 w p.sn (tk w k.st (pass w p.sn k (p.aJ (p.run n))).ca).1 k.la).2.2=_
   unfold b7
   rw[if_neg (by rw[ht];simp)]
  ·show (b7 w p.sn (tk w k.st (pass w p.sn k (p.aJ (p.run n))).ca).1 k.la).2.2=_∨(b7 w p.sn (tk w k.st (pass w p.sn k (p.aJ (p.run n))).ca).1 k.la).2.2∈_
   have inn:∀ l∈(tk w k.st (pass w p.sn k (p.aJ (p.run n))).ca).1,l.nm∈p.sn:=λl hl=>by
    have hx:pass w p.sn k (p.aJ (p.run n))∈p.bC (p.run n):=by
     unfold Pn.bC
     rw[br]
     exact Wq.mpr ⟨(w,k),hz,rfl⟩
    have wi:=I.vG hx
    rcases W2.mp (pm.mem_iff.mpr hl) with h | h
    ·exact (wi.2.2.1 l h).1
    ·exact (wi.2.2.2 l h).1
   unfold b7
   by_cases ht:w.tn=true
   ·rw[if_pos ht]
    rcases uc p.sn w.pc _ (tk w k.st (pass w p.sn k (p.aJ (p.run n))).ca).1 [] k.la with h | ⟨x,hx,h⟩
    ·rw[h];exact R.la
    ·rw[h];exact .inr (inn x hx)
   ·rw[if_neg ht];exact .inl rfl
theorem C0 {α:Type}:∀ l:List α,WA l l=l.map λx=>(x,x)
 | []=>rfl
 | x::r=>by rw[List.zip_cons_cons,C0 r];rfl
structure Us (s:Sn) (x:Ss):Prop where
 du:∃ d,x.du=some d/\0<=d/\d < max s.bt (s.bg+1)
 mn:(s.mn=none/\x.lf=none)∨∃ k l,s.mn=some k/\x.lf=some l/\x.nx+l=k
theorem MJ (g:Int)(s:Sn)(x:Ss)(u:Int):(x.bt g s u).1.du=x.du/\∃ c:Int,(x.bt g s u).1.nx=x.nx+c/\(x.bt g s u).1.lf=x.lf.map (· - c):=by
 unfold Ss.bt
 by_cases h:x.du=some 0
 ·rw[if_pos h]
  exact ⟨rfl,_,rfl,rfl⟩
 ·rw[if_neg h]
  refine ⟨rfl,0,by show x.nx=x.nx+0;omega,?_⟩
  show x.lf=x.lf.map (· - 0)
  cases x.lf with
  | none=>rfl
  | some i=>show some i=some (i - 0);congr 1;omega
theorem Dj {p:Pn}{m:Int}(K:p.Ok m):∀ n:Nat,n<=1000->∀ s x,(s,x)∈WA p.ss (p.run n).ss->Us s x
 | 0,_,s,x,hx=>by
  rw[show (p.run 0).ss=p.ss.map (Sn.beg p.g) from rfl,X4] at hx
  obtain ⟨⟨a,b⟩,hab,e⟩:=Wq.mp hx
  have e2:b=a:=by
   rw[C0] at hab
   obtain ⟨z,_,e⟩:=Wq.mp hab
   cases e;rfl
  subst e2
  have e1:b=s:=congrArg (·.1) e
  have e3:Sn.beg p.g b=x:=congrArg (·.2) e
  subst e1 e3
  have S:=K.s b (WI hab).1
  refine ⟨⟨b.bg,rfl,S.g0,by have:=Int.le_max_right b.bt (b.bg+1);omega⟩,?_⟩
  cases e:b.mn with
  | none=>exact .inl ⟨rfl,e⟩
  | some k=>exact .inr ⟨k,k,rfl,e,by show (0:Int)+k=k;omega⟩
 | n+1,hn,s,x',hx'=>by
  have I:=p.eU K n (by omega)
  obtain ⟨x,hx,rfl⟩:=Dq I hx'
  have F:=Dj K n (by omega) s x hx
  have S:=K.s s (WI hx).1
  obtain ⟨b1,c,b2,b3⟩:=MJ p.g s x ((p.run n).und x.nm)
  obtain ⟨d,ed,d0,d1⟩:=F.du
  have bt1:=S.b0
  refine ⟨⟨if d=0 then s.bt - 1 else d - 1,?_,?_⟩,?_⟩
  ·show zR s (x.bt p.g s ((p.run n).und x.nm)).1.du=_
   rw[b1,ed]
   rfl
  ·have:=Int.le_max_left s.bt (s.bg+1)
   split<;>omega
  ·show (s.mn=none/\(x.bt p.g s ((p.run n).und x.nm)).1.lf=none)∨∃ k l,s.mn=some k/\(x.bt p.g s ((p.run n).und x.nm)).1.lf=some l/\(x.bt p.g s ((p.run n).und x.nm)).1.nx+l=k
   rw[b2,b3]
   rcases F.mn with ⟨h,h'⟩ | ⟨k,l,h,h',e⟩
   ·exact .inl ⟨h,by rw[h'];rfl⟩
   ·exact .inr ⟨k,l - c,h,by rw[h'];rfl,by omega⟩
theorem RR (g:Int)(s:Sn)(x:Ss)(u:Int)(hl:∀ i,x.lf=some i->0<=i):(x.bt g s u).2.length=0∨((x.bt g s u).2.length:Int)+u<=(x.bt g s u).1.W / g:=by
 unfold Ss.bt
 by_cases h:x.du=some 0
 ·rw[if_pos h]
  show ((x.rdy g s.rl).fill (max 0 ((s.rl.beh g x.W x.S x.hd).1 / g - u)).toNat).2.length=0∨(((x.rdy g s.rl).fill (max 0 ((s.rl.beh g x.W x.S x.hd).1 / g - u)).toNat).2.length:Int)+u<=(s.rl.beh g x.W x.S x.hd).1 / g
  generalize (s.rl.beh g x.W x.S x.hd).1 / g=W
  have le:∀ pl:Nat,((x.rdy g s.rl).fill pl).2.length<=pl:=λpl=>by
   unfold Ss.fill
   simp only
   have nl:(x.rdy g s.rl).lf=x.lf:=rfl
   have:=Ds (lf:=(x.rdy g s.rl).lf) (k:=(pl:Int) - (((x.rdy g s.rl).ag.take pl).length:Int)) (by rw[YO];omega) (by rw[nl];exact hl)
   rw[Wv]
   have e:∀ (a:Int) (n:Nat),(rgI a n).length=n:=λa n=>by unfold rgI;simp
   rw[e]
   omega
  have:=le (max 0 (W - u)).toNat
  omega
 ·rw[if_neg h]
  exact .inl rfl
def cW (w n:Str)(es:List Ev):Nat:=(es.filter λe=>decide (e.wd=w)&&decide (e.nm=n)).length
structure Tt where
 nm:Str
 s:Int
 t:Int
 l:Int
 m:Int
def Tt.toD (x:Tt):D:=.tup [.str x.nm,.int x.s,.int x.t,.int x.l,.int x.m]
abbrev vS:Str:=OF "sent"
abbrev vT:Str:=OF "taken"
abbrev vL:Str:=OF "lost"
def mir (x y:Ss):Int:=if x.du=some 0 then y.mk' else y.mk' - x.mk'
def Vg (es:List Ev)(r:Tt)(x y:Ss):Tt:=⟨r.nm,r.s+cW vS r.nm es,r.t+cW vT r.nm es,r.l+cW vL r.nm es,r.m+mir x y⟩
def Se (rows:List Tt)(old new:List Ss)(es:List Ev):List Tt:=(WA rows (WA old new)).map λy=>Vg es y.1 y.2.1 y.2.2
def Pn.tot (p:Pn):Nat->List Tt
 | 0=>p.ss.map λs=>⟨s.nm,0,0,0,0⟩
 | n+1=>Se (p.tot n) (p.run n).ss (p.run (n+1)).ss (p.evs (p.run n))
theorem PJ {p:Pn}{m:Int}{n:Nat}{st:St'}(I:cM p m n st)(hn:n<=10000):(p.evs st).length<=14880:=by
 have w1:=I.K.w1
 have sl:=I.Ju hn
 unfold Pn.evs
 rw[Wv,Wm,br]
 have h2:(WA p.ws (p.bC st)).length<=6:=by simp;omega
 have h3:=jH (f:=λy:Wy×Wt=>evs p.ss y.1 y.2) (k:=2400) (l:=WA p.ws (p.bC st)) λy hy=>by
  have:=I.yR hn (WI hy).2
  show (y.2.ca.zipIdx.map _++y.2.ou.map _).length<=_
  rw[Wv];rw[Wm,Wm,zaF];omega
 rw[zdq] at h3
 omega
section
open PySem PySem.Spec PyProof.Rows L2
end
section
open PySem PySem.Spec PyProof.Rows L2
section
variable {X:Cx} {a b c d:WX} {ta tb tc td:TE} {Ta Tb Tc Td:ETr} {pos:Pos} {o1 o2 o3:zcq} {r1 r2 r3:L2.R2} {R1 R2 R3:DR2}
end
end
section
open PySem PySem.Spec PyProof.Rows L2
section
variable {X:Cx} {tg a b:WX} {Ta Tb:ETr} {pos:Pos}
end
end
section
open PySem PySem.Spec PyProof.Rows L2
end
section
open PySem PySem.Spec PyProof.Rows L2
def kDT (μ:Mu)(a:Addr)(f:List (List Key×D)->Prop):Prop:=match μ a with
 | some (.dcT kvs)=>f kvs
 | _=>False
def kTK:List D->(List Key->Prop)->Prop
 | [],f=>f []
 | d::r,f=>mV d λk=>kTK r λks=>f (k::ks)
theorem Dk {μ:Mu}{a:Addr}{f:List (List Key×D)->Prop}(h:kDT μ a f):∃ ds,μ a=some (.dcT ds)/\f ds:=by
 unfold kDT at h
 split at h
 ·rename_i kvs e;exact ⟨kvs,e,h⟩
 ·exact h.elim
theorem u9 {K:Wj}{H:Hp}:∀ {vs:List V} {ds:List D} {f:List Key->Prop},DpL K H vs ds->kTK ds f->∃ ks:List Key,vs=ks.map kV/\f ks
 | _,_,_,.nil,h=>⟨[],rfl,h⟩
 | _,_,_,.cons p l,h=>by
  obtain ⟨k,rfl,h⟩:=kc p h
  obtain ⟨ks,rfl,h⟩:=u9 l h
  exact ⟨k::ks,rfl,h⟩
theorem AS {H:Hp}{q:Addr}{u:HO}{xs:List (List Key×V)}(ex:H q=some (.dT xs)):Tk H (L2.upd H q u):=
 .upd (λys z=>by rw[ex] at z;cases z) λo' w z=>by rw[ex] at z;cases z
theorem RM {K:Wj}{H:Hp}{μ:Mu}{q:Addr}{xs ys:List (List Key×V)}{ds:List (List Key×D)}(m:bM K H μ)(ex:H q=some (.dT xs))(l:DpK K H ys ds):bM K (L2.upd H q (.dT ys)) (up μ q (.dcT ds)):=λz y ez=>by
 by_cases zq:z=q
 ·subst zq
  rw[aE] at ez;cases ez
  exact ⟨ys,aM,l.mono (AS ex)⟩
 ·rw[aS zq] at ez
  exact (m z _ ez).ne (AS ex) zq
section
variable {X:Cx} {o e value:WX} {es:List WX} {To Te:ETr} {Ta:ATr} {pos tpos ppos apos cpos:Pos} {x1:Nat}
def Cd:ETr:=λρ μ Q=>∀ p,μ p=none->Q (.obj p) (up μ p (.dcT []))
theorem Mm:LE X (.Dict [] [] pos) Cd:=⟨_,Jo,λσ H ρ μ Q Q' rl h k p hp=>k _ _ _ (up μ p (.dcT [])) (.new hp) (λz y ez=>by
 by_cases zq:z=p
 ·subst zq
  rw[aE] at ez;cases ez
  exact ⟨[],aM,.nil⟩
 ·rw[aS zq] at ez
  exact cw rl.mu hp z y ez) (.obj p) (h p (rl.mu.free hp))⟩
def vx (To:ETr)(Ta:ATr)(Te:ETr):STr:=λE ρ μ=>Te ρ μ λv μ1=>To ρ μ1 λx μ2=>Ta ρ μ2 λds μ3=>ds.length<=1000/\kObj x λa=>kDT μ3 a λkvs=>kTK ds λk=>kvs.length < 1000000/\E.nx ρ (up μ3 a (.dcT (putD kvs k v)))
theorem zk (hu:X.A.units+64 < cLine)(ho:LE X o To)(hi:LA X es Ta)(he:LE X value Te)(hs:YA value (some (.Subscript o (.Tuple es x1 ppos) tpos)) pos.line X.env=pure false:=by rfl) :
  LS X (.Assign [.Subscript o (.Tuple es x1 ppos) tpos] value pos) (vx To Ta Te):=by
 obtain ⟨to,po,so⟩:=ho.ex
 obtain ⟨ta,pa,sa⟩:=hi.ex
 obtain ⟨te,pe,se⟩:=he.ex
 refine ⟨_,Du (hu1 hu) po (Bt pa) pe hs,λσ H ρ μ E E' rl h k=>se σ H ρ μ _ _ rl h λv H1 dv μ1 t1 m1 p1 h1=>so σ H1 ρ μ1 _ _ (rl.go t1 m1) h1 λx H2 dx μ2 t2 m2 p2 h2=>
  sa σ H2 ρ μ2 _ _ (rl.go (t1.trans t2) m2) h2 λvs H3 ds μ3 t3 m3 l3 h3=>?_⟩
 obtain ⟨hl,h3⟩:=h3
 refine ⟨by rw[l3.length];exact Xi hl (by decide),λb hb=>?_⟩
 obtain ⟨q,rfl,h3⟩:=dD p2 h3
 obtain ⟨kvs,e0,h3⟩:=Dk h3
 obtain ⟨kk,rfl,h3⟩:=u9 l3 h3
 obtain ⟨xs,ex,l⟩:=m3 q _ e0
 have t4:Tk H3 (L2.upd H3 b (.tup (kk.map kV))):=.new hb
 have ex':L2.upd H3 b (.tup (kk.map kV)) q=some (.dT xs):=by rw[aN (λz=>by rw[z,hb] at ex;cases ex)];exact ex
 have t5:=t4.trans (AS (u:=.dT (putK xs kk v)) ex')
 have t15:=t1.trans (t2.trans (t3.trans t5))
 refine ⟨q,_,rfl,sP.t ex' aM (by rw[l.length];exact WS h3.1 (by decide)),k.nx _ _ ρ _ t15 (rl.go t15 (RM (cw m3 hb) ex' ((l.put kk (p1.mono (t2.trans t3))).mono t4))) h3.2⟩
end
end
section
open PySem PySem.Spec PyProof.Rows L2
def Av:List GTr->List D->ST->Mu->(ST->Mu->Prop)->Prop
 | [],[],ρ,μ,k=>k ρ μ
 | g::gs,d::ds,ρ,μ,k=>g d ρ μ λρ' μ'=>Av gs ds ρ' μ' k
 | _,_,_,_,_=>False
def PZ (gs:List GTr):GTr:=λd ρ μ k=>match d with
 | .tup ds=>ds.length=gs.length/\Av gs ds ρ μ k
 | _=>False
def SA (K:Wj)(t:TGs)(gs:List GTr):Prop:=∀ σ H ρ μ vs ds (k:ST->Mu->Prop) (k':L2.St->Hp->Prop),Rl K σ H ρ μ->DpL K H vs ds->Av gs ds ρ μ k->um K H k k'->t vs σ H k'
structure LGm (X:Cx) (es:List WX) (gs:List GTr):Prop where
 ex:∃ t,PGs X es t/\SA X.K t gs
section
variable {X:Cx} {e:WX} {es:List WX} {gs:List GTr} {G:GTr} {pos:Pos}
theorem NC:LGm X [] []:=⟨_,vj,λσ H ρ μ vs ds k k' rl l h q=>by
 cases l with
 | nil=>exact ⟨rfl,q _ _ _ _ (.refl H) rl h⟩
 | cons=>exact Ww h⟩
theorem wY (h1:LG X e G)(h2:LGm X es gs)(hs:(XD (e::es) X.env).map (·.2)=zbn e X.env::(XD es X.env).map (·.2):=by rfl):LGm X (e::es) (G::gs):=by
 obtain ⟨g,pg,sg⟩:=h1.ex
 obtain ⟨t,pt,st⟩:=h2.ex
 refine ⟨_,qW pg pt hs,λσ H ρ μ vs ds k k' rl l h q=>?_⟩
 cases l with
 | nil=>exact Ww h
 | @cons v d vs ds p l=>exact ⟨v,vs,rfl,sg σ H ρ μ v d _ _ rl p h λσ1 H1 ρ1 μ1 t1 r1 h1=>st σ1 H1 ρ1 μ1 vs ds k k' r1 (l.mono t1) h1 λ_ _ _ _ t'=>q _ _ _ _ (t1.trans t')⟩
theorem OV {k:Nat}(hc:X.calm=true)(h:LGm X es gs)(hn:(XD es X.env).length=gs.length:=by rfl)(hst:(XD es X.env).findIdx? (·.1)=none:=by rfl):LG X (.Tuple es k pos) (PZ gs):=by
 obtain ⟨t,pt,st⟩:=h.ex
 refine ⟨_,B4 hc pt hn hst,λσ H ρ μ v d k k' rl p h q=>?_⟩
 cases p with
 | @tup a xs ds sq l=>exact ⟨a,xs,rfl,sq,by rw[l.length];exact h.1,st σ H ρ μ xs ds k k' rl l h.2 q⟩
 | _=>exact Ww h
end
section
variable {X:Cx} {o a value:WX} {lo hi:Option WX} {To Ta Te:ETr} {Tl Th:OTr} {pos tpos p2 spos:Pos}
end
theorem Fx (ρ:ST)(μ:Mu)(k:ST->Mu->Prop):Av [] [] ρ μ k=k ρ μ:=propext Wr
theorem DX (g:GTr)(gs:List GTr)(d:D)(ds:List D)(ρ:ST)(μ:Mu)(k:ST->Mu->Prop):Av (g::gs) (d::ds) ρ μ k=g d ρ μ λρ' μ'=>Av gs ds ρ' μ' k:=propext Wr
theorem PY (gs:List GTr)(ds:List D)(ρ:ST)(μ:Mu)(k:ST->Mu->Prop):PZ gs (.tup ds) ρ μ k=(ds.length=gs.length/\Av gs ds ρ μ k):=propext Wr
end
theorem Je (ρ:ST)(μ:Mu)(Q:DK):Cd ρ μ Q = ∀ p,μ p=none->Q (.obj p) (up μ p (.dcT [])):=propext Wr
theorem HK (a:ETr)(b:ATr)(e:ETr)(nx:ST->Mu->Prop)(rt:DK)(bk ct:ST->Mu->Prop)(ρ:ST)(μ:Mu):vx a b e ⟨nx,rt,bk,ct⟩ ρ μ=e ρ μ λv μ1=>a ρ μ1 λx μ2=>b ρ μ2 λds μ3=>ds.length<=1000/\kObj x λa=>kDT μ3 a λkvs=>kTK ds λk=>kvs.length < 1000000/\nx ρ (up μ3 a (.dcT (putD kvs k v))):=propext Wr
theorem Sm (f:List L2.Key->Prop):kTK [] f=f []:=propext Wr
theorem R7 (d:D)(r:List D)(f:List L2.Key->Prop):kTK (d::r) f=mV d λk=>kTK r λks=>f (k::ks):=propext Wr
theorem Ro {μ:Mu}{a:Addr}{kvs:List (List L2.Key×D)}{f:List (List L2.Key×D)->Prop}:kDT (up μ a (.dcT kvs)) a f=f kvs:=by unfold kDT;rw[aE]
section
open PySem PySem.Spec PyProof.Rows L2
section
variable {X:Cx} {o i:WX} {apos cpos:Pos}
end
end
section
open PySem PySem.Spec PyProof PyProof.Rows L2
section
variable {X:Cx} {o:WX} {apos cpos pos p:Pos} {x:Str}
end
end
section
open PySem PySem.Spec PyProof.Rows L2
end
section
open PySem PySem.Spec PyProof.Rows L2
section
variable {X:Cx} {i o:WX} {pos:Pos} {Ti To:ETr}
end
end
section
open PySem PySem.Spec PyProof.Rows L2
def kF (μ:Mu)(a:Addr)(f:List (Key×D)->Prop):Prop:=match μ a with
 | some (.dcF kvs)=>f kvs
 | _=>False
theorem Az {μ:Mu}{a:Addr}{f:List (Key×D)->Prop}(h:kF μ a f):∃ ds,μ a=some (.dcF ds)/\f ds:=by
 unfold kF at h
 split at h
 ·rename_i kvs e;exact ⟨kvs,e,h⟩
 ·exact h.elim
theorem oA {μ:Mu}{a:Addr}{f:List (Key×D)->Prop}{ds:List (Key×D)}(e:μ a=some (.dcF ds))(h:f ds):kF μ a f:=by
 unfold kF;rw[e];exact h
def xN:Key->D
 | .inl i=>.int i
 | .inr s=>.str s
theorem Ho {K:Wj}{H:Hp}(k:Key):Dp K H (kV k) (xN k):=by
 cases k with
 | inl i=>exact .int i
 | inr s=>exact .str s
theorem Dh {P:W7}{w:Xh}{k:Key}{u:Wo}(h:(bI P w).is k u=true):RelV (kV k) u:=by
 rcases bV (show rB k u=true from h) with ⟨i,t,rfl,rfl⟩ | ⟨x,t,rfl,rfl⟩
 ·exact ⟨t,rfl⟩
 ·exact ⟨t,rfl⟩
theorem _root_.L2.Inv.Wc {X:Cx}{pins:List (Addr×Obj)}{σ:L2.St}{H:Hp}{s:Wu}{c:Addr}{xs:List (Key×V)}(I1:Inv X pins σ H s)(ec:H c=some (.dK xs)):∃ o,Inv X pins σ (L2.upd H c (.frz o (.dK xs))) s:=by
 have ok:=I1.hok c _ ec
 obtain ⟨z,zs,vs,kv,o,es,ep,hg,rest⟩:=id ok
 have nl:∀ d o,H d=some o->(∀ ys,o≠.dK ys)->d≠c:=λd o e1 e2 w=>by subst w;rw[ec] at e1;cases e1;exact e2 _ rfl
 refine ⟨o,I1.un (h':=s.heap) (t':=s.toks) (H':=L2.upd H c (.frz o (.dK xs))) ⟨λd o e _ _ _=>e,λd o e _ _ _=>⟨o.slots,e⟩,λd o e w _=>?_,λd o e _=>⟨o,e⟩,λd ys e=>?_,λd o u e=>?_,λd ps e=>⟨#[],?_⟩⟩ λd u e=>?_⟩
 ·rw[aN (λz=>by subst z;rw[ec] at w;cases w)];exact w
 ·rw[aN (nl d _ e (λ_=>nofun))];exact e
 ·rw[aN (nl d _ e (λ_=>nofun))];exact e
 ·rw[aN (nl d _ e (λ_=>nofun)),e];simp
 ·by_cases hd:d=c
  ·subst hd
   rw[aM] at e;cases e
   exact ⟨hg,ok⟩
  ·rw[aN hd] at e
   refine (I1.hok d u e).nK (λk w _ q=>q) (λk q=>?_) λk ys q=>?_
   ·rw[aN (nl k _ q (λ_=>nofun))];exact q
   ·rw[aN (nl k _ q (λ_=>nofun))];exact q
section
variable {X:Cx} {tg o a i e:WX} {T To Ta Ti:ETr} {pos:Pos}
def T9 (t:TE):TE:=λσ H Q=>t σ H λv H1=>∃ a xs,v=.ref a/\H1 a=some (.dK xs)/\∀ o,Q v (L2.upd H1 a (.frz o (.dK xs)))
theorem Nb {t:TE}(h:PE X e t):PE X e (T9 t):=by
 intro pins s σ H Q I hh
 refine thn (h pins s σ H _ I hh) λu s1 ⟨v,H1,I1,r,a,xs,ev,ea,q⟩=>?_
 obtain ⟨o,I2⟩:=I1.Wc ea
 exact ⟨v,_,I2,r,q o⟩
def CV (T:ETr):ETr:=λρ μ Q=>T ρ μ λx μ1=>kObj x λa=>kD μ1 a λkvs=>Q (.obj a) (up μ1 a (.dcF kvs))
theorem DF (h:LE X e T):LE X e (CV T):=by
 obtain ⟨t,p,s⟩:=h.ex
 refine ⟨_,Nb p,λσ H ρ μ Q Q' rl h k=>s σ H ρ μ _ _ rl h λv H1 d μ1 t1 m1 p1 h1=>?_⟩
 obtain ⟨q,rfl,h1⟩:=dD p1 h1
 obtain ⟨kvs,e0,h2⟩:=mY h1
 obtain ⟨xs,ex,l⟩:=m1 q _ e0
 refine ⟨q,xs,rfl,ex,λu=>?_⟩
 have t2:Tk H1 (L2.upd H1 q (.frz u (.dK xs))):=nj ex
 refine k _ _ _ (up μ1 q (.dcF kvs)) (t1.trans t2) (λz y ez=>?_) (.obj q) h2
 by_cases zq:z=q
 ·subst zq
  rw[aE] at ez;cases ez
  exact ⟨xs,⟨u,aM⟩,l.mono t2⟩
 ·rw[aS zq] at ez
  exact (m1 z _ ez).ne t2 zq
def jw (To Ti:ETr):ETr:=λρ μ Q=>To ρ μ λx μ1=>Ti ρ μ1 λy μ2=>kObj x λa=>kF μ2 a λkvs=>mV y λk=>kO (bP kvs k) λd=>Q d μ2
theorem iI (hu:X.A.units+64 < cLine)(ho:LE X o To)(hi:LE X i Ti)(hs:Li i:=by intro _ _;rfl):LE X (.Subscript o i pos) (jw To Ti):=by
 obtain ⟨to,po,so⟩:=ho.ex
 obtain ⟨ti,pi,si⟩:=hi.ex
 refine ⟨_,Dn (hu1 hu) po pi hs,λσ H ρ μ Q Q' rl h k=>so σ H ρ μ _ _ rl h λx H1 dx μ1 t1 m1 p1 h1=>si σ H1 ρ μ1 _ _ (rl.go t1 m1) h1 λy H2 dy μ2 t2 m2 p2 h2=>?_⟩
 obtain ⟨q,rfl,h2⟩:=dD p1 h2
 obtain ⟨kvs,e0,h2⟩:=Az h2
 obtain ⟨kk,rfl,h2⟩:=kc p2 h2
 obtain ⟨d,e1,h2⟩:=jz h2
 obtain ⟨xs,⟨ob,ex⟩,l⟩:=m2 q _ e0
 rcases l.look kk with ⟨z,_⟩ | ⟨v,d',z,ev,pv⟩
 ·rw[z] at e1;cases e1
 ·rw[z] at e1;cases e1
  exact ⟨q,v,rfl,by rw[← ev];exact .inl ⟨xs,kk,.inr ⟨ob,ex⟩,rfl,rfl⟩,k _ H2 _ μ2 (t1.trans t2) m2 pv h2⟩
end
def Itd (a:Addr)(o:Obj)(xs:List (Key×V)):It:=
 ⟨λi H=>H a=some (.frz o (.dK xs))/\i < xs.length,λi H x H'=>H'=H/\∃ k v,xs[i]? = some (k,v)/\x=kV k,λi H=>H a=some (.frz o (.dK xs))/\xs.length<=i⟩
theorem Fy:∀ {kvs:List (Key×V)} {vs:List (Key×Wo)} {i:Nat} {k:Key} {v:V},KV kvs vs->kvs[i]? = some (k,v)->∃ u,vs[i]? = some (k,u)
 | _,_,i,_,_,.nil,e=>by simp at e
 | _,b::_,0,k,v,.cons r t,e=>by
  simp at e
  subst e
  exact ⟨b.2,congrArg some (zbY r.1.symm rfl)⟩
 | _,_,i+1,k,v,.cons r t,e=>by
  obtain ⟨u,h⟩:=Fy (i:=i) (k:=k) (v:=v) t (by simpa using e)
  exact ⟨u,by simpa using h⟩
theorem Dy {P:W7}{w:Xh}{H:Hp}{h:Heap}{a:Addr}{o:Obj}{xs:List (Key×V)}{es:Array zcf}{ep:Nat}(hd:o.data=.dict es ep)(ok:cQ P w H h a (.frz o (.dK xs))):∃ vs,KV xs vs/\h.DictAt (bI P w) a vs ep:=by
 obtain ⟨hg,z,zs,vs,kv,o',es',ep',hg',c,d,r⟩:=ok
 rw[hg] at hg';cases hg'
 rw[hd] at d;cases d
 exact ⟨vs,kv,o,es,hg,c,hd,r⟩
theorem D8 {P:W7}{w:Xh}{K:Wj}{tg:WX}(a it:Addr)(o:Obj)(xs:List (Key×V)){es:Array zcf}{ep:Nat}(hd:o.data=.dict es ep):Turn P w K tg (Itd a o xs) [it] it (λi h=>h.IsKeyIter it a i xs.length ep) where
 mem:=by simp
 obj:=λi h st b hb=>by
  have e:b=it:=by simpa using hb
  subst e
  obtain ⟨o,e,c,d⟩:=st
  exact ⟨o,e,λv z=>by rw[d] at z;cases z⟩
 keep:=λi h h' st k=>st.at λo e=>k it (by simp) o e
 item:=by
  intro X hP hw hK hc i pins s σ H E I hf st hg
  subst hP hw hK
  obtain ⟨eH,hi⟩:=hg
  obtain ⟨vs,kv,dat⟩:=Dy hd (I.hok a _ eH)
  obtain ⟨f0,f1,f2,f3,f4,f5⟩:=hf it (by simp)
  obtain ⟨⟨k,v⟩,hx⟩:∃ y,xs[i]? = some y:=⟨xs[i],WK hi⟩
  obtain ⟨u,hu⟩:=Fy kv hx
  have len:=kv.length
  rw[len] at st
  refine wpAny_pyNext_dict_item st dat hu λkey h' hkey st' sb=>?_
  have I1:Inv X pins σ H { s with heap:=h' }:=I.turned (t':=s.toks) (λb o hb e=>(sb.2 b hb).trans e) f0 f1 f3 f4 f5
  obtain ⟨oo,e,c,d⟩:=id st'
  rw[← len] at st'
  exact ⟨key,rfl,CH (s:={ s with heap:=h' }) e c d (by decide) ⟨kV k,H,I1,Dh hkey,⟨rfl,k,v,hx,rfl⟩,st',λb hb=>(hf b hb).1⟩⟩
 done:=by
  intro X hP hw hK hc i pins s σ H E I hf st hg
  subst hP hw hK
  obtain ⟨eH,hi⟩:=hg
  obtain ⟨vs,kv,dat⟩:=Dy hd (I.hok a _ eH)
  obtain ⟨f0,f1,f2,f3,f4,f5⟩:=hf it (by simp)
  have len:=kv.length
  rw[len] at st
  exact wpAny_pyNext_dict_end (I.ok.hd hc) st dat (by simp;omega) λh' eb=>⟨rfl,I.turned (t':=s.toks) (λb o hb e=>eb b o hb e) f0 f1 f3 f4 f5⟩
 self:=λ_ _ _ _ _ st h=>wpAny_pyIter_keyiter st h
def UQ (tl:TE):TI:=λσ H R=>tl σ H λx H1=>∃ a o xs,x=.ref a/\H1 a=some (.frz o (.dK xs))/\R (Itd a o xs) H1
section
variable {X:Cx} {tg a:WX} {Ta:ETr}
theorem QX {tl:TE}(hl:PE X a tl):PI X tg a (UQ tl):=by
 intro pins s σ H R I h
 refine thn (hl pins s σ H _ I h) λv s1 ⟨x,H1,I1,r1,q,o,xs,ex,eH,qq⟩=>?_
 subst ex
 cases (show v=Xc q from r1)
 obtain ⟨hg,z,zs,vs,kv,o',es,ep,hg',c,d,r⟩:=(show cQ X.prog X.w H1 s1.heap q (.frz o (.dK xs)) from I1.hok q _ eH)
 rw[hg] at hg';cases hg'
 have dat:s1.heap.DictAt (bI X.prog X.w) q vs ep:=⟨o,es,hg,c,d,r⟩
 have len:=kv.length
 refine wpAny_pyIter_dict zs dat ⟨s1.heap.objs.size,[s1.heap.objs.size],_,_,H1,rfl,I1.kept (t':=s1.toks) (λb o e=>Wn _ e),D8 q _ o xs d,?_,λb hb=>?_,qq⟩
 ·exact ⟨_,WN _ rfl,rfl,by rw[len];rfl⟩
 ·have e:b=s1.heap.objs.size:=by simpa using hb
  subst e
  exact I1.A7 (WG _) (I1.hok.fresh (WG _))
def Ri (t:ETr):ATr:=λρ μ Q=>t ρ μ λx μ1=>kObj x λa=>kF μ1 a λkvs=>Q (kvs.map λy=>xN y.1) μ1
theorem Po (ha:LE X a Ta):LI X tg a (Ri Ta):=by
 obtain ⟨ta,pa,sa⟩:=ha.ex
 refine ⟨_,QX pa,λσ H ρ μ Q R rl h k=>sa σ H ρ μ _ _ rl h λx H1 d μ1 t1 m1 p1 h1=>?_⟩
 obtain ⟨q,rfl,h1⟩:=dD p1 h1
 obtain ⟨kvs,e0,h1⟩:=Az h1
 obtain ⟨xs,⟨o,ex⟩,l⟩:=m1 q _ e0
 have lk:xs.map (·.1)=kvs.map (·.1):=l.1
 have ll:xs.length=kvs.length:=by have:=congrArg Xr lk;simpa using this
 refine ⟨q,o,xs,rfl,ex,k _ H1 _ μ1 t1 m1 ⟨λi H' t hi=>?_,λi H' v H'' t hi yv=>?_,λi H' t hi=>?_⟩ h1⟩
 ·rw[Wm] at hi
  exact ⟨t.frz _ _ _ ex,by omega⟩
 ·obtain ⟨rfl,k,v,hx,rfl⟩:=yv
  refine ⟨.refl _,⟨xN k,?_,Ho k⟩,λ_ m=>m⟩
  have:(xs.map (·.1))[i]? = some k:=by rw[Xo,hx];rfl
  rw[lk,Xo] at this
  rw[Xo]
  cases e:kvs[i]? with
  | none=>rw[e] at this;cases this
  | some y=>rw[e] at this;cases this;rfl
 ·rw[Wm] at hi
  exact ⟨t.frz _ _ _ ex,by omega⟩
end
theorem IP {P:W7}{w:Xh}{vs:List (Key×Wo)}{acc:Array Wo}{kvs:List (Key×V)}(kv:KV kvs vs)(h:ItemsOf (λi v=>∃ k x,vs[i]? = some (k,x)/\(bI P w).is k v=true) acc vs.length):Vals (kvs.map λy=>kV y.1) acc.toList:=by
 obtain ⟨h1,h2⟩:=h
 have len:=kv.length
 refine ig (by simp[h1,len]) λj u v hu hv=>?_
 obtain ⟨k,x,e,r⟩:=h2 j u (by simpa using hu)
 rw[Xo] at hv
 cases q:kvs[j]? with
 | none=>rw[q] at hv;cases hv
 | some y=>
  rw[q] at hv
  cases hv
  obtain ⟨u',e'⟩:=Fy (k:=y.1) (v:=y.2) kv q
  rw[e] at e'
  cases e'
  exact Dh r
theorem BE {X:Cx}(hc:X.calm=true):cH X (.type "list") (λxs H Q=>∃ d o kvs,xs=[.ref d]/\H d=some (.frz o (.dK kvs))/\∀ q,H q=none->FN Q (.ref q) (L2.upd H q (.lst (kvs.map λy=>kV y.1)))):=by
 intro pins s σ H xs us Q I r h
 obtain ⟨d,o,kvs,rfl,ed,q⟩:=h
 obtain ⟨u,rfl,rx⟩:=vals1 r
 cases (show u=Xc d from rx)
 obtain ⟨hg,z,zs,vs,kv,dd⟩:=(show cQ X.prog X.w H s.heap d (.frz o (.dK kvs)) from I.hok d _ ed)
 obtain ⟨ep,dat⟩:=dd.dictAt
 refine PySem.W.kdl_call (PySem.W.kdl_dict (knd:=bI X.prog X.w) (kvs:=vs) (ep:=ep) (d:=d) zs) (I.ok.hd hc) dat (by rw[← kv.length];exact z) λh' tk acc' c' hk hS hacc=>?_
 have rel:=IP kv hacc
 have I2:Inv X pins σ (L2.upd H s.heap.objs.size (.lst (kvs.map λy=>kV y.1))) { s with heap:=h',toks:=tk }:=I.laid (o:=.lst (kvs.map λy=>kV y.1)) (λb u e=>hk b u e) (WG _) ⟨by rw[Wm];exact z,acc'.toList,c',rel,by simpa using hS⟩
 obtain ⟨a,ys,ea,eH,q2⟩:=q _ (I.hok.fresh (WG _))
 cases ea
 obtain ⟨ob,I3⟩:=I2.frz eH
 exact ⟨.ref _,_,I3,rfl,q2 ob⟩
def vI:FSp:=λds μ Q=>match ds with
 | [.obj a]=>kF μ a λkvs=>Q (.ls (kvs.map λy=>xN y.1)) μ
 | _=>False
theorem Ck {K:Wj}{H:Hp}:∀ {xs:List (Key×V)} {kvs:List (Key×D)},xs.map (·.1)=kvs.map (·.1)->DpL K H (xs.map λy=>kV y.1) (kvs.map λy=>xN y.1)
 | [],[],_=>.nil
 | [],y::r,h=>by cases h
 | x::r,[],h=>by cases h
 | x::r,y::t,h=>by
  obtain ⟨h1,h2⟩:=za2 h
  have h1:x.1=y.1:=h1
  rw[WE,WE,h1]
  exact .cons (Ho _) (Ck h2)
theorem EB {K:Wj}:mK K (λxs H Q=>∃ d o kvs,xs=[.ref d]/\H d=some (.frz o (.dK kvs))/\∀ q,H q=none->FN Q (.ref q) (L2.upd H q (.lst (kvs.map λy=>kV y.1)))) vI:=λH μ xs ds Q Q' m p h k=>by
 unfold vI at h
 split at h
 ·rename_i q
  cases p with | cons p1 p2=>
  cases p2;cases p1
  obtain ⟨kvs,e0,h⟩:=Az h
  obtain ⟨ys,⟨o,ex⟩,l⟩:=m q _ e0
  exact ⟨_,o,ys,rfl,ex,λz hz=>fH m (Ck l.1) h k hz⟩
 ·exact h.elim
section
variable {X:Cx} {es:List WX} {o:WX} {Ta:ATr} {To:ETr} {ppos pos:Pos} {x1:Nat}
def yH (neg:Bool)(Ta:ATr)(To:ETr):ETr:=λρ μ Q=>Ta ρ μ λds μ1=>ds.length<=1000/\To ρ μ1 λx μ2=>kObj x λa=>kDT μ2 a λkvs=>kTK ds λk=>Q (.bl (if neg then !(bP kvs k).isSome else (bP kvs k).isSome)) μ2
theorem GH {K:Wj}{ta:TA}{to:TE}(sa:O8 K ta Ta)(so:Sim K to To):Sim K (Ub (Uz ta) to) (yH false Ta To):=λσ H ρ μ Q Q' rl h k=>sa σ H ρ μ _ _ rl h λvs H1 ds μ1 t1 m1 l1 h1=>by
 obtain ⟨hl,h1⟩:=h1
 refine ⟨by rw[l1.length];exact Xi hl (by decide),λb hb=>?_⟩
 have tb:Tk H1 (L2.upd H1 b (.tup vs)):=.new hb
 refine so σ _ ρ μ1 _ _ (rl.go (t1.trans tb) (cw m1 hb)) h1 λx H2 dx μ2 t2 m2 p2 h2=>?_
 obtain ⟨q,rfl,h2⟩:=dD p2 h2
 obtain ⟨kvs,e0,h2⟩:=Dk h2
 obtain ⟨kk,rfl,h2⟩:=u9 l1 h2
 obtain ⟨xs,ex,l⟩:=m2 q _ e0
 have eb:H2 b=some (.tup (kk.map kV)):=t2.tup _ _ aM
 have is:(gi xs kk).isSome=(bP kvs kk).isSome:=by rcases l.look kk with ⟨a,b⟩ | ⟨v,d,a,b,_⟩ <;> rw[a,b]<;>rfl
 refine ⟨q,gi xs kk,rfl,ni.t ex eb,k _ H2 _ μ2 (t1.trans (tb.trans t2)) m2 (.bl _) ?_⟩
 rw[is]
 exact h2
theorem Dd (hu:X.A.units+64 < cLine)(hi:LA X es Ta)(ho:LE X o To)(hm:XY .In o=false:=by rfl):LT X (.Compare (.Tuple es x1 ppos) [.In] [o] pos) (TB (yH false Ta To)):=by
 obtain ⟨ta,pa,sa⟩:=hi.ex
 obtain ⟨to,po,so⟩:=ho.ex
 exact ⟨_,Rb (Rz (hu1 hu) (Bt pa) po) hm,Cg (GH sa so)⟩
end
end
theorem KU (T:ETr)(ρ:ST)(μ:Mu)(Q:DK):CV T ρ μ Q=T ρ μ λx μ1=>kObj x λa=>kD μ1 a λkvs=>Q (.obj a) (up μ1 a (.dcF kvs)):=propext Wr
theorem IL (a b:ETr)(ρ:ST)(μ:Mu)(Q:DK):jw a b ρ μ Q=a ρ μ λx μ1=>b ρ μ1 λy μ2=>kObj x λa=>kF μ2 a λkvs=>mV y λk=>kO (bP kvs k) λd=>Q d μ2:=propext Wr
theorem Rw (t:ETr)(ρ:ST)(μ:Mu)(Q:List D->Mu->Prop):Ri t ρ μ Q=t ρ μ λx μ1=>kObj x λa=>kF μ1 a λkvs=>Q (kvs.map λy=>xN y.1) μ1:=propext Wr
theorem Lq (n:Bool)(a:ATr)(b:ETr)(ρ:ST)(μ:Mu)(Q:DK):yH n a b ρ μ Q=a ρ μ λds μ1=>ds.length<=1000/\b ρ μ1 λx μ2=>kObj x λa=>kDT μ2 a λkvs=>kTK ds λk=>Q (.bl (if n then !(bP kvs k).isSome else (bP kvs k).isSome)) μ2:=propext Wr
theorem JW (a:Addr)(μ:Mu)(Q:DK):iW vI [.obj a] μ Q=kF μ a λkvs=>Q (.ls (kvs.map λy=>xN y.1)) μ:=propext Wr
theorem Dz {R:RN}(K:R.Ok)(μ:Mu)(Q:DK):L3.rIx R.toD (.int (-1)) μ Q=Q (fr R.r R.s) μ:=by
 have st:=K.st
 unfold RN.toD
 cases h:R.wd with
 | gn=>
  obtain ⟨e1,e2⟩:=st h
  rw[e1,e2]
  exact propext Wr
 | step=>exact propext Wr
 | iB=>exact propext Wr
 | kH=>exact propext Wr
 | calm=>exact propext Wr
theorem E9 {W g:Int}(g0:0 < g)(h:g<=W):∃ a b:Int,ft W g=fr a b/\0 < b/\b<=a/\b<=g/\a<=W/\(∀ r s,W*s<=r*g->a*s<=r*b)/\g.fmod b=0/\a.fdiv b=W / g:=by
 have dp:(0:Int) < (W6 W g:Int):=by
  have:=X0 W (b:=g) (by omega)
  omega
 obtain ⟨a,ea⟩:=zbc W g
 obtain ⟨b,eb⟩:=zaL W g
 generalize hd:((W6 W g:Nat):Int)=d at *
 have fa:W.fdiv d=a:=by rw[ea,Yv _ (by omega)];exact za3 a (by omega)
 have fb:g.fdiv d=b:=by rw[eb,Yv _ (by omega)];exact za3 b (by omega)
 have b0:0 < b:=by
  by_cases q:0 < b
  ·exact q
  ·have:d*b<=d*0:=YS (by omega) (by omega)
   omega
 have ba:b<=a:=by
  have:d*b<=d*a:=by omega
  exact Yz this dp
 have le1:∀ x:Int,0 < x->x<=d*x:=λx hx=>by
  have:1*x<=d*x:=WO (by omega) (by omega)
  omega
 refine ⟨a,b,by unfold ft;rw[hd,fa,fb],b0,ba,by rw[eb];exact le1 b b0,by rw[ea];exact le1 a (by omega),λr s h=>?_,?_,?_⟩
 ·rw[ea,eb] at h
  have:d*(a*s)<=d*(r*b):=by
   have e1:d*a*s=d*(a*s):=zcG ..
   have e2:r*(d*b)=d*(r*b):=by ac_rfl
   omega
  exact Yz this dp
 ·rw[eb,Zf _ (by omega)]
  exact Int.mul_emod_left d b
 ·rw[Yv _ (by omega),ea,eb]
  exact (Int.mul_ediv_mul_of_pos a b dp).symm
theorem QN {R:RN}(K:R.Ok){g W:Int}(h:W<=R.cap g):W*R.s<=R.r*g:=by
 have s0:=K.t.q0
 unfold RN.cap at h
 have:=(XS s0).mp h
 exact this
theorem Ij {p:Pn}{m:Int}{n:Nat}{st:St'}(I:cM p m n st){s:Sn}{x:Ss}(hx:(s,x)∈WA p.ss st.ss):cW vS s.nm (p.evs st)=(x.bt p.g s (st.und x.nm)).2.length:=by
 have e:=KC I hx
 have:cW vS s.nm (p.evs st)=(((p.evs st).filter λe=>decide (e.nm=s.nm)).filter λe=>decide (e.wd=vS)).length:=by
  unfold cW
  rw[YZ]
 rw[this,e,zcR,Wv]
 have h1:(((x.bt p.g s (st.und x.nm)).2.map (evS s)).filter λe=>decide (e.wd=vS))=(x.bt p.g s (st.und x.nm)).2.map (evS s):=List.filter_eq_self.mpr λe he=>by
  obtain ⟨j,_,rfl⟩:=Wq.mp he
  exact decide_eq_true rfl
 have h2:(((p.told st).filter λe=>decide (e.nm=s.nm)).filter λe=>decide (e.wd=vS))=[]:=zbB.mpr λe he=>by
  have:=(Mv (Xd.mp he).1).1
  simpa using this
 rw[h1,h2,Wm]
 rfl
def St'.names (st:St'):List Str:=st.ws.flatMap λw=>(w.cm++w.st).map Lt.nm
theorem Fn (st:St')(n:Str):Ab (st.names.map .str) (.str n)=st.jg n:=by
 unfold Ab St'.names St'.jg own
 induction st.ws with
 | nil=>rfl
 | cons w r ih=>
  rw[XG,WQ,List.countP_append,ih,WE,Xb]
  congr 1
  rw[zdH,zdH,List.countP_eq_length_filter]
  congr 1
section
open PySem PySem.Spec PyProof.Rows L2
section
variable {X:Cx} {es:List WX} {is:List Nat} {pos:Pos}
end
end
end L3
namespace Kk
local macro_rules | `(tactic| walk_at "ln")=>`(tactic| (intro ds μ Q h;split at h;rfl;exact h.elim))
open PySem L3
def VO:=Jn @Je <| Jn @HK <| Jn @Sm <| Jn @R7 <| Jn @Ro <| Jn @PY <| Jn @Fx <| Jn @DX <| Jn @QM <| Jn @KU <| Jn @IL <| Jn @Rw <| Jn @Lq <| Jn @JW <| @Ug
local macro_rules | `(tactic| walk_at "go")=>zzS "↓Kk.VO L3.Et ↓L3.xK ↓L3.wI ↓L3.wC ↓L3.xu ↓L3.zp ↓L3.wN ↓L3.kC ↓L3.je L3.cq L3.bY L3.cC L3.cf L3.ck L3.cD L3.cS L3.cV L3.bX L3.cv L3.cu L3.cx L3.cA L3.cT L3.cF L3.c6 L3.cB L3.cX L3.cj L3.c5 L3.jf L3.vv L3.wm L3.fe List.map_cons List.map_nil List.replicate List.cons_append List.nil_append L3.lk L3.DY L3.DZ L3.uY L3.kj L3.fu L3.uC L3.gU L3.m7 L3.nM L3.kx L3.ki L3.ky L3.kq true_and and_true and_self Bool.not_true Bool.not_false decide_true decide_false Bool.or_true Bool.or_false Bool.true_or Bool.false_or Bool.and_false Bool.false_and Bool.and_true Bool.true_and Int.reduceToNat Int.reducePow Int.reduceNeg Int.reduceSub Int.reduceAdd Int.reduceMul Int.reduceEq Int.reduceLT Int.reduceLE Int.reduceBEq L3.iC L3.fV L3.fL L3.fX L3.fS L3.fO L3.fQ L3.fK if_true if_false Bool.false_eq_true reduceCtorEq decide_eq_true_eq"
local macro_rules | `(tactic| walk_at "ok")=>`(tactic| (simp only[L3.jm,L3.MulOk,L3.S64,L3.fB,L3.pW] at *;omega))
local macro_rules | `(tactic| walk_at "ini")=>`(tactic| simp only[ini,List.map,List.length,List.replicate,Nat.reduceSub,Nat.reduceAdd,Nat.sub_self,List.cons_append,List.nil_append,List.append_nil])
abbrev iZ:FSp:=L3.aB
def rO:STr:=aA (bW (mL (TB (ak rGt (bS (ai 0) (TC (.str "left"))) (TC (.int 0)))) (TB (ak rLt (bS (ai 0) (TC (.str "given"))) (TC (.int 60))))) (aA (lT (λm n=>m+n) (ai 0) (TC (.str "given")) (TC (.int 1))) (aA (aP (ak kG (bS (ai 0) (TC (.str "left"))) (ai 1)) (ax 3)) (aA (jq (ai 0) (TC (.str "left")) (ak lB (bS (ai 0) (TC (.str "left"))) (ai 1))) (a6 (ai 3))))) (bo)) (aA (jq (ai 0) (TC (.str "seed")) (au L3.ja (ah (bS (ai 0) (TC (.str "seed"))) (ah (bS (ai 0) (TC (.str "many"))) (av))))) (a6 (ak kG (ak lB (bS (ai 0) (TC (.str "seed"))) (TC (.int 7))) (ai 1))))
def yf:STr:=aA (lT (λm n=>m+n) (ai 0) (TC (.str "many")) (TC (.int 1))) (aA (bW (mL (TOr (TB (ak rEq (bS (ai 0) (TC (.str "left"))) (TC (.int 0)))) (TB (ak rEq (bS (ai 0) (TC (.str "given"))) (TC (.int 60))))) (TB (ak rLt (bS (ai 0) (TC (.str "at"))) (au dg (ah (bS (ai 0) (TC (.str "cells"))) (av)))))) (aA (aP (au wR (ah (ak L3.rIx (bS (ai 0) (TC (.str "cells"))) (bS (ai 0) (TC (.str "at")))) (av))) (ax 2)) (aA (lT (λm n=>m+n) (ai 0) (TC (.str "at")) (TC (.int 1))) (aA (jq (ai 0) (TC (.str "left")) (ak eC (ai 2) (au AQ (ah (ak rGe (ai 2) (ak Js (TC (.int 10)) (TC (.int 18)))) (av))))) (aA (jq (ai 0) (TC (.str "given")) (TC (.int 0))) (jq (ai 0) (TC (.str "seed")) (au L3.ja (ah (ak aR (bS (ai 0) (TC (.str "seed"))) (ai 2)) (ah (bS (ai 0) (TC (.str "many"))) (av))))))))) (bo)) (rO))
theorem sU:∀ ds μ Q,iZ ds μ Q->ds.length=2:=L3.Eo
theorem vH:∀ ds μ Q,iZ ds μ Q->yf { nx:=λ_ μ'=>RT Q .non μ',rt:=RT Q } (ini 4 ds) μ:=L3.IJ
abbrev iN:FSp:=L3.jC
def qZ:STr:=aA (aP (ak aR (TC (.int 1)) (au L3.aB (ah (ai 0) (ah (TC (.int 5)) (av))))) (ax 5)) (aA (aP (au L3.b8 (ah (ak aR (TC (.int 1)) (au L3.aB (ah (ai 0) (ah (ak eC (TC (.int 2)) (ai 5)) (av))))) (ah (ai 5) (av)))) (ax 6)) (aA (aP (au L3.b8 (ah (ak aR (TC (.int 1)) (au L3.aB (ah (ai 0) (ah (ai 5) (av))))) (ah (ak aR (ai 5) (TC (.int 1))) (av)))) (ax 7)) (aA (bW (TB (ak rEq (ai 2) (TC (.str "still")))) (a6 (bB (ah (ai 2) (ah (ai 3) (av))))) (bo)) (aA (bW (TB (ak rEq (ai 2) (TC (.str "step")))) (a6 (bB (ah (ai 2) (ah (ai 3) (ah (ai 6) (ah (ai 7) (ah (ai 4) (av)))))))) (bo)) (aA (bW (TB (ak rEq (ai 2) (TC (.str "swell")))) (a6 (bB (ah (ai 2) (ah (ai 3) (ah (au L3.b8 (ah (ak aR (ak L3.rIx (ai 6) (TC (.int 0))) (ak L3.rIx (ai 6) (TC (.int 1)))) (ah (ak L3.rIx (ai 6) (TC (.int 1))) (av)))) (ah (ai 7) (ah (ai 4) (av)))))))) (bo)) (aA (bW (TB (ak rEq (ai 2) (TC (.str "heed")))) (a6 (bB (ah (ai 2) (ah (ai 3) (ah (ai 6) (ah (au L3.b8 (ah (ak aR (TC (.int 1)) (au L3.aB (ah (ai 0) (ah (ai 5) (av))))) (ah (ai 5) (av)))) (ah (ai 4) (av)))))))) (bo)) (aA (aP (au L3.aB (ah (ai 0) (ah (TC (.int 4)) (av)))) (ax 8)) (a6 (bB (ah (ai 2) (ah (ai 3) (ah (ai 6) (ah (ai 8) (ah (ak aR (ai 8) (au L3.aB (ah (ai 0) (ah (TC (.int 5)) (av))))) (ah (ai 4) (av))))))))))))))))
def y3:STr:=aA (aP (ak L3.rIx (fv (ah (TC (.str "still")) (ah (TC (.str "step")) (ah (TC (.str "swell")) (ah (TC (.str "heed")) (ah (TC (.str "calm")) (av))))))) (au L3.aB (ah (ai 0) (ah (TC (.int 5)) (av))))) (ax 2)) (aA (qU 3 4 (ah (au L3.cR (ah (ai 0) (ah (TC (.int 1)) (ah (ai 1) (av))))) (ah (au L3.cR (ah (ai 0) (ah (TC (.int 1)) (ah (ai 1) (av))))) (av)))) (aA (bW (TB (ak rGt (ak eC (ak L3.rIx (ai 3) (TC (.int 0))) (ak L3.rIx (ai 4) (TC (.int 1)))) (ak eC (ak L3.rIx (ai 4) (TC (.int 0))) (ak L3.rIx (ai 3) (TC (.int 1)))))) (qU 3 4 (ah (ai 4) (ah (ai 3) (av)))) (bo)) (qZ)))
theorem sO:∀ ds μ Q,iN ds μ Q->ds.length=2:=L3.D6
theorem vZ:∀ ds μ Q,iN ds μ Q->y3 { nx:=λ_ μ'=>RT Q .non μ',rt:=RT Q } (ini 9 ds) μ:=L3.Ir
abbrev gq:FSp:=L3.iT
def nJ:STr:=aA (aP (ak L3.rIx (fv (ah (TC (.int 1)) (ah (TC (.int 1)) (ah (TC (.int 2)) (ah (TC (.int 3)) (ah (ak aR (TC (.int 1)) (au L3.aB (ah (ai 0) (ah (TC (.int 8)) (av))))) (av))))))) (au L3.aB (ah (ai 0) (ah (TC (.int 5)) (av))))) (ax 5)) (aA (aP (ak L3.rIx (fv (ah (TC .non) (ah (TC .non) (ah (au L3.aB (ah (ai 0) (ah (TC (.int 4)) (av)))) (ah (au L3.aB (ah (ai 0) (ah (TC (.int 40)) (av)))) (av)))))) (au L3.aB (ah (ai 0) (ah (TC (.int 4)) (av))))) (ax 6)) (a6 (bB (ah (ai 1) (ah (ai 4) (ah (ai 5) (ah (ak L3.rIx (fv (ah (TC (.int 0)) (ah (TC (.int 0)) (ah (au L3.aB (ah (ai 0) (ah (TC (.int 3)) (av)))) (ah (au L3.aB (ah (ai 0) (ah (TC (.int 12)) (av)))) (av)))))) (au L3.aB (ah (ai 0) (ah (TC (.int 4)) (av))))) (ah (ai 6) (ah (au L3.jC (ah (ai 0) (ah (ai 3) (av)))) (av))))))))))
def tj:STr:=aA (aP (au bG (ah (bO (dq (ai 2)) (ax 0) (TB (ak rEq (au L3.aB (ah (ai 1) (ah (TC (.int 2)) (av)))) (TC (.int 0)))) (ak L3.rIx (ai 0) (TC (.int 0))) 1 [0]) (av))) (ax 4)) (aA (bW (TB (ak rEq (au dg (ah (ai 4) (av))) (TC (.int 0)))) (aP (bB (ah (ak L3.rIx (ak L3.rIx (ai 2) (au L3.aB (ah (ai 0) (ah (au dg (ah (ai 2) (av))) (av))))) (TC (.int 0))) (av))) (ax 4)) (bo)) (nJ))
theorem pk:∀ ds μ Q,gq ds μ Q->ds.length=4:=L3.yk
theorem sy:∀ ds μ Q,gq ds μ Q->tj { nx:=λ_ μ'=>RT Q .non μ',rt:=RT Q } (ini 7 ds) μ:=L3.zM
def dm (y:Wy×Ws):List (Str×Int):=(y.2.cm++y.2.st).map Lt.key
def eX (x:Ss):List (Str×Int):=(x.ag++x.lo).map λi=>(x.nm,i)
theorem wD (p:Pn)(st:St'):(pts p st).map (·.1)=(WA p.ws st.ws).flatMap dm++st.ss.flatMap eX:=by
 unfold pts
 rw[WQ,Z8,Z8]
 congr 1
 ·congr 1
  funext y
  unfold ptW dm
  rw[WQ,pL,pL,WQ]
 ·congr 1
  funext x
  unfold ptS eX
  rw[WQ,Wz,Wz,WQ]
  rfl
def kb (ks:List (Str×Int)):List Pt:=ks.map λk=>(k,.bl true)
theorem JG (ks:List (Str×Int)):(kb ks).map (·.1)=ks:=by unfold kb;rw[Wz];exact List.map_id _
theorem Ow {ns:List Str}(h:∀ n∈ns,WC n=true):cz 38 (ns.map D.str)=true:=by
 induction ns with
 | nil=>rfl
 | cons a r ih=>rw[WE,fu,uY,h a WL,ih λn hn=>h n (WU _ hn)];rfl
theorem tV (a:List Pt):(nz a).length=a.length:=by unfold nz;simp
theorem D0 {g:Int}{ss:List Ss}(nd:(ss.map Ss.nm).Nodup){x:Ss}(h:x∈ss):bP (ss.map λx=>((.inr x.nm,x.toD g):L2.Key×D)) (.inr x.nm)=some (x.toD g):=by
 unfold bP
 induction ss with
 | nil=>cases h
 | cons y r ih=>
  rw[WE] at nd
  have ⟨n1,n2⟩:=Xk.mp nd
  rw[WE,Xx]
  rcases WM.mp h with (e | h)
  ·subst e;simp
  ·have:¬ ((YT y.nm:L2.Key)=YT x.nm):=λe=>n1 (by injection e with e;rw[e];exact Wq.mpr ⟨x,h,rfl⟩)
   simp only[this,decide_false]
   exact ih n2 h
def cJ:FSp:=λds μ Q=>kcA ds λpd ds=>kcA ds λsd ds=>kcN ds (∃ (p:Pn) (m:Int) (n:Nat),(pd=p.toD/\sd=(p.run n).toD p.g/\p.Ok m/\n<=1000)/\Q (.bl true) μ)
theorem jT:∀ ds μ Q,cJ ds μ Q->ds.length=2:=λ_ _ _ h=>lcA h λ_ _ h=>lcA h λ_ _ h=>by rw[(ecN h).1];rfl
def gm:STr:=aA (aP (CV (au tY (ah (bO (dq (ak L3.rIx (ai 1) (TC (.int 1)))) (ax 0) (eG) (bB (ah (ak L3.rIx (ai 0) (TC (.int 0))) (ah (ai 0) (av)))) 1 []) (av)))) (ax 2)) (aA (aP (CV (au tY (ah (bO (dq (ak L3.rIx (ai 0) (TC (.int 2)))) (ax 0) (eG) (bB (ah (ak L3.rIx (ai 0) (TC (.int 0))) (ah (ak L3.rIx (ai 0) (TC (.int 1))) (av)))) 1 []) (av)))) (ax 3)) (aA (aP (Cd) (ax 4)) (aA (iJ (kZ (ah (ak L3.rIx (ai 0) (TC (.int 1))) (ah (ak L3.rIx (ai 1) (TC (.int 0))) (av)))) (PZ [ax 5,de [6,7,8]]) (aA (bW (TOr (TB (ak rGt (au dg (ah (ai 7) (av))) (ak L3.rIx (ai 5) (TC (.int 2))))) (TOr (mL (TB (ak rEq (ak L3.rIx (ai 5) (TC (.int 4))) (TC (.str "line")))) (TB (ak rNe (ai 8) (TC (.str ""))))) (TB (ak (xk true) (ai 8) (ak aR (au vI (ah (ai 3) (av))) (fv (ah (TC (.str "")) (av)))))))) (a6 (TC (.bl false))) (bo)) (iJ (dq (ak aR (ai 6) (ai 7))) (de [9,10,11,12,13]) (aA (bW (TOr (rL (TB (ij rLe rLt (TC (.int 0)) (ai 12) (au dg (ah (jw (ai 3) (ai 9)) (av)))))) (TOr (TB (ak rNe (ak L3.rIx (jw (ai 3) (ai 9)) (ai 12)) (ak L3.rIx (ai 5) (TC (.int 0))))) (TOr (TB (ak (xk true) (ai 13) (bB (ah (TC (.int 0)) (ah (TC (.int 1)) (av)))))) (TB (ak rLe (ai 11) (ak jr (ai 12) (TC (.int 1)))))))) (a6 (TC (.bl false))) (bo)) (aA (bW (TOr (rL (TB (ij rLe rLt (TC (.int 0)) (ai 10) (ak L3.rIx (jw (ai 2) (ai 9)) (TC (.int 4)))))) (TB (yH false (ah (ai 9) (ah (ai 10) (av))) (ai 4)))) (a6 (TC (.bl false))) (bo)) (vx (ai 4) (ah (ai 9) (ah (ai 10) (av))) (TC (.bl true)))))))) (aA (iJ (Ri (ai 2)) (ax 9) (iJ (dq (ak aR (ak L3.rIx (jw (ai 2) (ai 9)) (TC (.int 6))) (ak L3.rIx (jw (ai 2) (ai 9)) (TC (.int 7))))) (ax 10) (aA (bW (TOr (rL (TB (ij rLe rLt (TC (.int 0)) (ai 10) (ak L3.rIx (jw (ai 2) (ai 9)) (TC (.int 4)))))) (TB (yH false (ah (ai 9) (ah (ai 10) (av))) (ai 4)))) (a6 (TC (.bl false))) (bo)) (vx (ai 4) (ah (ai 9) (ah (ai 10) (av))) (TC (.bl true)))))) (a6 (TC (.bl true)))))))
theorem kP:∀ ds μ Q,cJ ds μ Q->gm { nx:=λ_ μ'=>RT Q .non μ',rt:=RT Q } (ini 14 ds) μ:=by
 intro ds μ Q h
 replace h:=ecA h
 obtain ⟨pd,ds,rfl,h⟩:=h
 replace h:=ecA h
 obtain ⟨sd,ds,rfl,h⟩:=h
 replace h:=ecN h
 obtain ⟨rfl,h⟩:=h
 walk_at "ini"
 unfold gm
 walk_at "go"
 obtain ⟨p,m,n,⟨rfl,rfl,K,hn⟩,k⟩:=h
 have S:=Di K (n:=n) (by omega)
 have s1:=K.s1
 have sl:=S.z1.2
 have I:=p.eU K n (by omega)
 have R:=I.rd (by omega)
 have U:=One.uq (p.vQ K n (by omega))
 have lw:=I.lw
 have knd:=Qt (p:=p) U S.nd S.lt (by omega)
 rw[wD] at knd
 have SU:(((p.run n).ss.map λx=>((.inr x.nm,x.toD p.g):L2.Key×D)).map (·.1)).Nodup:=by
  rw[Wz]
  exact Yl.mpr ((Yl.mp S.nd).imp λh e=>h (by injection e))
 have Sk:((eI p.ss).map (·.1)).Nodup:=by
  unfold eI
  rw[Wz]
  exact Yl.mpr ((Yl.mp I.sd).imp λh e=>h (by injection e))
 walk_at "go"
 refine bH (p.run n).ss (Ss.toD p.g) (λx=>.tup [.str x.nm,x.toD p.g]) rfl (by omega) (λx hx μ' sb N nn=>?_) ?_
 ·walk_at "go"
  exact nn
 refine ⟨(p.run n).ss.map λx=>(.inr x.nm,x.toD p.g),by rw[Wz];rfl,by rw[Wm];omega,λa ha=>?_⟩
 rw[kA _ [] (by rw[Yc];exact SU),Yc]
 walk_at "go"
 refine bH p.ss Sn.toD (λs=>.tup [.str s.nm,.tup (s.rd.map .str)]) rfl (by omega) (λs hs μ' sb N nn=>?_) ?_
 ·walk_at "go"
  exact nn
 refine ⟨eI p.ss,by unfold eI;rw[Wz];rfl,by unfold eI;rw[Wm];omega,λa2 ha2=>?_⟩
 rw[kA _ [] (by rw[Yc];exact Sk),Yc]
 walk_at "go"
 intro c hc
 have aa:a≠a2:=λz=>by rw[← z,aE] at ha2;cases ha2
 have Ma0:up (up μ a (.dcF ((p.run n).ss.map λx=>(.inr x.nm,x.toD p.g)))) a2 (.dcF (eI p.ss)) a=some (.dcF ((p.run n).ss.map λx=>(.inr x.nm,x.toD p.g))):=by rw[aS aa,aE]
 have Mb0:up (up μ a (.dcF ((p.run n).ss.map λx=>(.inr x.nm,x.toD p.g)))) a2 (.dcF (eI p.ss)) a2=some (.dcF (eI p.ss)):=aE
 have Sb:∀ ob:MO,Sub μ (up (up (up μ a (.dcF ((p.run n).ss.map λx=>(.inr x.nm,x.toD p.g)))) a2 (.dcF (eI p.ss))) c ob):=λob=>((Sub.new (o:=.dcF ((p.run n).ss.map λx=>(.inr x.nm,x.toD p.g))) ha).trans (Sub.new ha2)).trans (Sub.new hc)
 generalize up (up μ a (.dcF ((p.run n).ss.map λx=>((.inr x.nm,x.toD p.g):L2.Key×D)))) a2 (.dcF (eI p.ss))=M at *
 have Ma:∀ ob:MO,up M c ob a=some (.dcF ((p.run n).ss.map λx=>(.inr x.nm,x.toD p.g))):=λob=>by rw[aS (λz=>by rw[z,hc] at Ma0;cases Ma0)];exact Ma0
 have Mb:∀ ob:MO,up M c ob a2=some (.dcF (eI p.ss)):=λob=>by rw[aS (λz=>by rw[z,hc] at Mb0;cases Mb0)];exact Mb0
 have Ud:∀ x∈(p.run n).ss,bP ((p.run n).ss.map λx=>((.inr x.nm,x.toD p.g):L2.Key×D)) (.inr x.nm)=some (x.toD p.g):=λx hx=>D0 S.nd hx
 have snk:∀ nm∈p.sn,WC nm=true:=R.sn
 have emp:WC (OF "")=true:=by decide +kernel
 have O:=p.vQ K n (by omega)
 have pre:∀ A B:List (Str×Int),A++B=(WA p.ws (p.run n).ws).flatMap dm++(p.run n).ss.flatMap eX->A.length<=900000:=λA B e=>by
  have h1:=Ll (p:=p) S K.w1 (by have:=congrArg Xr I.nm;simp only[Wm,Pn.sn] at this;omega)
  have h2:=congrArg Xr (wD p (p.run n))
  have h3:=congrArg Xr e
  rw[Wm] at h2
  rw[Wv] at h3
  omega
 rw[qN]
 refine bT (λr ρ μ'=>∃ (dn rs:List (Wy×Ws)) (v5 v6 v7 v8 v9 v10 v11 v12 v13:Option D),r=rs.map (λy=>.tup [y.1.toD,y.2.toD])/\dn++rs=WA p.ws (p.run n).ws/\ρ=[some p.toD,some ((p.run n).toD p.g),some (.obj a),some (.obj a2),some (.obj c),v5,v6,v7,v8,v9,v10,v11,v12,v13]/\μ'=up M c (.dcT (nz (kb (dn.flatMap dm))))) ?_ ?_ _ _ _ ⟨[],WA p.ws (p.run n).ws,_,_,_,_,_,_,_,_,_,rfl,rfl,rfl,rfl⟩
 ·rintro ρ μ' ⟨dn,rs,v5,v6,v7,v8,v9,v10,v11,v12,v13,er,es,rfl,rfl⟩
  cases rs with
  | cons _ _=>cases er
  | nil=>
  rw[W8] at es
  subst es
  walk_at "go"
  refine oA (Ma _) ?_
  rw[Wz]
  refine bT (λr ρ μ'=>∃ (dn rs:List Ss) (v9 v10:Option D),r=rs.map (λx=>.str x.nm)/\dn++rs=(p.run n).ss/\ρ=[some p.toD,some ((p.run n).toD p.g),some (.obj a),some (.obj a2),some (.obj c),v5,v6,v7,v8,v9,v10,v11,v12,v13]/\μ'=up M c (.dcT (nz (kb ((WA p.ws (p.run n).ws).flatMap dm++dn.flatMap eX))))) ?_ ?_ _ _ _ ⟨[],(p.run n).ss,_,_,rfl,rfl,rfl,by simp⟩
  ·rintro ρ μ' ⟨dn,rs,v9,v10,er,es,rfl,rfl⟩
   walk_at "go"
   exact ⟨μ,Sb _,k⟩
  ·rintro d r ρ μ' N ⟨dn,rs,v9,v10,er,es,rfl,rfl⟩ hN
   cases rs with
   | nil=>cases er
   | cons x rs=>
   cases er
   have hx:x∈(p.run n).ss:=by rw[← es];simp
   have z:=S.z3 x hx
   have rx:=Ud x hx
   have ks:(WA p.ws (p.run n).ws).flatMap dm++dn.flatMap eX++eX x++rs.flatMap eX=(WA p.ws (p.run n).ws).flatMap dm++(p.run n).ss.flatMap eX:=by rw[← es];simp
   rw[← ks] at knd
   have kl:=pre _ _ ks
   walk_at "go"
   refine oA (Ma _) (ml rx ?_)
   walk_at "go"
   refine oA (Ma _) (ml rx ?_)
   walk_at "go"
   rw[show dh x.ag++dh x.lo=dh (x.ag++x.lo) from WQ.symm]
   have len:∀ a:List Int,(dh a).length=a.length:=λa=>Wm _
   refine ⟨by rw[len,len];omega,?_⟩
   refine bT (λr ρ μ'=>∃ (e c':List Int) (v10:Option D),r=dh c'/\e++c'=x.ag++x.lo/\ρ=[some p.toD,some ((p.run n).toD p.g),some (.obj a),some (.obj a2),some (.obj c),v5,v6,v7,v8,some (.str x.nm),v10,v11,v12,v13]/\μ'=up M c (.dcT (nz (kb ((WA p.ws (p.run n).ws).flatMap dm++dn.flatMap eX++e.map λi=>(x.nm,i)))))) ?_ ?_ _ _ _ ⟨[],x.ag++x.lo,_,rfl,rfl,rfl,by simp⟩
   ·rintro ρ μ' ⟨e,c',v10,er,ee,rfl,rfl⟩
    cases c' with
    | cons _ _=>cases er
    | nil=>
    rw[W8] at ee
    subst ee
    exact hN _ _ ⟨dn++[x],rs,_,_,rfl,by rw[← es];simp,rfl,by rw[Xw];simp[eX]⟩
   ·rintro d r ρ μ' N2 ⟨e,c',v10,er,ee,rfl,rfl⟩ hN2
    cases c' with
    | nil=>cases er
    | cons i c'=>
    cases er
    have hi:i∈x.ag++x.lo:=by rw[← ee];simp
    have o1:=O x hx i
    have o2:1<=x.ag.count i+x.lo.count i:=by
     rw[← Xs]
     exact ZG.mpr hi
    have hb:0<=i/\i < x.nx:=by
     split at o1
     ·assumption
     ·omega
    have nk:(x.nm,i) ∉ (kb ((WA p.ws (p.run n).ws).flatMap dm++dn.flatMap eX++e.map λi=>(x.nm,i))).map (·.1):=by
     rw[JG]
     intro hm
     have e1:eX x=(e.map λi=>(x.nm,i))++((x.nm,i)::c'.map λi=>(x.nm,i)):=by unfold eX;rw[← ee];simp
     have k1:=(YF.mp knd).1
     rw[e1,← Y6,YF] at k1
     exact k1.2.2 _ hm _ (by simp) rfl
    have no:bP (nz (kb ((WA p.ws (p.run n).ws).flatMap dm++dn.flatMap eX++e.map λi=>(x.nm,i)))) (kyL (x.nm,i))=none:=CS nk
    have ll:((WA p.ws (p.run n).ws).flatMap dm++dn.flatMap eX++e.map λi=>(x.nm,i)).length < 1000000:=by
     have h3:=congrArg Xr ee
     rw[Wv,WY] at h3
     have h4:(eX x).length=(x.ag++x.lo).length:=Wm _
     rw[Wv,h4] at kl
     rw[Wv,Wm]
     omega
    walk_at "go"
    refine jP hb.1 (oA (Ma _) (ml rx ?_))
    walk_at "go"
    rw[show [YT x.nm,zaI i]=kyL (x.nm,i) from rfl,no]
    refine ik hb.2 ⟨(show 2<=1000 by decide),Co (λh=>by cases h) λ_=>⟨(show 2<=1000 by decide),by rw[tV];unfold kb;rw[Wm];exact ll,?_⟩⟩
    rw[yQ nk]
    exact hN2 _ _ ⟨e++[i],c',_,rfl,by rw[← ee];simp,rfl,by unfold kb;simp⟩
 ·rintro d r ρ μ' N ⟨dn,rs,v5,v6,v7,v8,v9,v10,v11,v12,v13,er,es,rfl,rfl⟩ hN
  cases rs with
  | nil=>cases er
  | cons y rs=>
  cases er
  obtain ⟨w,s⟩:=y
  have hz:(w,s)∈WA p.ws (p.run n).ws:=by rw[← es];simp
  have RO:GN p w s:=yl K n hn _ hz
  have AG:∀ l∈s.cm++s.st,l.hp<=l.ag:=KG K hn _ hz
  have HO:∀ l∈s.cm++s.st,f6 p w l:=p.CW K n (by omega) _ hz
  have hsw:=(WI hz).2
  have lak:WC s.la=true:=S.la s hsw
  have z:=S.z2 s hsw
  have ln:uD w.tn=OF "line" -> w.tn=false:=by cases w.tn<;>decide +kernel
  have lnk:WC (OF "line")=true:=by decide +kernel
  have kn:((eI p.ss).map λy=>xN y.1)++[D.str ""]=(p.sn++[OF ""]).map D.str:=by
   unfold eI Pn.sn
   rw[WQ,Wz,Wz]
   rfl
  have kno:∀ u∈p.sn++[OF ""],WC u=true:=λu hu=>by
   rcases W2.mp hu with h | h
   ·exact snk u h
   ·rw[XO.mp h];exact emp
  have ltl:∀ l∈s.cm++s.st,∃ x∈(p.run n).ss,x.nm=l.nm/\0<=l.nu/\l.nu < x.nx:=λl hl=>by
   obtain ⟨x,hx,e⟩:=Wq.mp (S.lt s hsw l hl)
   have o1:=O x hx l.nu
   have fl:1<=(p.run n).fly (x.nm,l.nu):=by
    have h1:1<=cK (x.nm,l.nu) (s.cm++s.st):=MQ hl (zbY e.symm rfl)
    have h2:=iV (f:=λw:Ws=>cK (x.nm,l.nu) (w.cm++w.st)) hsw
    unfold St'.fly
    omega
   split at o1
   ·rename_i h;exact ⟨x,hx,e,h.1,h.2⟩
   ·omega
  walk_at "go"
  refine ⟨rfl,iu (by rw[Wm];have:=RO.rm;omega) ⟨⟨C1 _,lnk⟩,?_⟩⟩
  refine (λtail=>kif (λh=>⟨⟨lak,emp⟩,ik (RO.ln (ln h)) tail⟩) λ_=>tail) ?_
  refine oA (Mb _) ?_
  rw[kn,C7]
  refine ⟨by unfold eI;rw[Wm,Wm];show p.ss.length+1<=1000000;omega,⟨Ow kno,lak⟩,ik ?_ ⟨by rw[Wm,Wm];omega,?_⟩⟩
  ·rcases RO.la with h | h
   ·rw[h];simp
   ·exact Xq _ h
  rw[show ltD s.cm++ltD s.st=ltD (s.cm++s.st) from WQ.symm]
  have ks:dn.flatMap dm++dm (w,s)++(rs.flatMap dm++(p.run n).ss.flatMap eX)=(WA p.ws (p.run n).ws).flatMap dm++(p.run n).ss.flatMap eX:=by rw[← es];simp
  rw[← ks] at knd
  have kl:=pre _ _ ks
  refine bT (λr ρ μ'=>∃ (e c':List Lt) (v9 v10 v11 v12 v13:Option D),r=ltD c'/\e++c'=s.cm++s.st/\ρ=[some p.toD,some ((p.run n).toD p.g),some (.obj a),some (.obj a2),some (.obj c),some w.toD,some (.tup (ltD s.cm)),some (.tup (ltD s.st)),some (.str s.la),v9,v10,v11,v12,v13]/\μ'=up M c (.dcT (nz (kb (dn.flatMap dm++e.map Lt.key))))) ?_ ?_ _ _ _ ⟨[],s.cm++s.st,_,_,_,_,_,rfl,rfl,rfl,by simp⟩
  ·rintro ρ μ' ⟨e,c',v9,v10,v11,v12,v13,er,ee,rfl,rfl⟩
   cases c' with
   | cons _ _=>cases er
   | nil=>
   rw[W8] at ee
   subst ee
   exact hN _ _ ⟨dn++[(w,s)],rs,_,_,_,_,_,_,_,_,_,rfl,by rw[← es];simp,rfl,by rw[Xw];simp[dm]⟩
  ·rintro d r ρ μ' N2 ⟨e,c',v9,v10,v11,v12,v13,er,ee,rfl,rfl⟩ hN2
   cases c' with
   | nil=>cases er
   | cons l c'=>
   cases er
   have hl:l∈s.cm++s.st:=by rw[← ee];simp
   obtain ⟨x,hx,xn,n0,n1⟩:=ltl l hl
   obtain ⟨h0,hr⟩:=HO l hl
   have ag:=AG l hl
   have inn:=I.lt s hsw l hl
   have nk:l.key ∉ (kb (dn.flatMap dm++e.map Lt.key)).map (·.1):=by
    rw[JG]
    intro hm
    have e1:dm (w,s)=e.map Lt.key++(l.key::c'.map Lt.key):=by unfold dm;rw[← ee];simp
    have k1:=(YF.mp knd).1
    rw[e1,← Y6,YF] at k1
    exact k1.2.2 _ hm _ (by simp) rfl
   have no:bP (nz (kb (dn.flatMap dm++e.map Lt.key))) (kyL l.key)=none:=CS nk
   have hlen:l.hp.toNat < (road p.ss l.nm).length:=(W4.mp hr).1
   have ll:(dn.flatMap dm++e.map Lt.key).length < 1000000:=by
    have h3:=congrArg Xr ee
    rw[Wv,Wv,WY] at h3
    have h4:(dm (w,s)).length=(s.cm++s.st).length:=Wm _
    rw[Wv,h4,Wv] at kl
    rw[Wv,Wm]
    omega
   have rx:=Ud x hx
   rw[xn] at rx
   have atr:atD ((road p.ss l.nm).map D.str) l.hp=some (.str w.nm):=by
    obtain ⟨hh,eh⟩:∃ hh:Nat,l.hp=(hh:Int):=⟨l.hp.toNat,by omega⟩
    rw[eh] at hr ⊢
    rw[ZU] at hr
    rw[bZ,Xo,hr]
    rfl
   have wk:=(K.w w (WI hz).1).n
   walk_at "go"
   refine jP h0 ?_
   refine oA (Mb _) (ml (rW inn.1) ?_)
   walk_at "go"
   refine ik (by rw[Wm];omega) (oA (Mb _) (ml (rW inn.1) ?_))
   walk_at "go"
   refine ml atr ⟨⟨by rw[uY];exact wk,wk⟩,?_⟩
   rw[gU]
   refine ik rfl ?_
   have mrk:inG (D.int l.mr) [D.int 0,D.int 1]=true:=by
    have:l.mr=0∨l.mr=1:=by have:=inn.2.2;omega
    rcases this with h | h<;>(rw[h];rfl)
   rw[mrk]
   refine Co (λh=>by cases h) λ_=>iu (by omega) (jP n0 (oA (Ma _) (ml rx ?_)))
   walk_at "go"
   rw[show [YT l.nm,zaI l.nu]=kyL l.key from rfl,no]
   refine ik n1 ⟨(show 2<=1000 by decide),Co (λh=>by cases h) λ_=>⟨(show 2<=1000 by decide),by rw[tV];unfold kb;rw[Wm];exact ll,?_⟩⟩
   rw[yQ nk]
   exact hN2 _ _ ⟨e++[l],c',_,_,_,_,_,rfl,by rw[← ee];simp,rfl,by unfold kb;simp⟩
def cL:FSp:=λds μ Q=>kcA ds λpd ds=>kcA ds λsd ds=>kcA ds λrd ds=>kcI ds λj ds=>kcI ds λi ds=>kcN ds (∃ (p:Pn) (m:Int) (s:Sn) (x:Ss) (n:Nat),((pd=p.toD/\sd=s.toD/\rd=x.toD p.g)/\p.Ok m/\s∈p.ss/\x.nm=s.nm/\SsI p.g s.rl n x/\n<=1000/\Us s x/\(j=0∨i<=x.W / p.g))/\Q (.bl true) μ)
theorem jY:∀ ds μ Q,cL ds μ Q->ds.length=5:=λ_ _ _ h=>lcA h λ_ _ h=>lcA h λ_ _ h=>lcA h λ_ _ h=>lcI h λ_ _ h=>lcI h λ_ _ h=>by rw[(ecN h).1];rfl
def gv:STr:=aA (aP (ai 1) (de [5,6,7,8,9,10])) (aA (aP (ak L3.rIx (ai 2) (TC (.int 2))) (ax 11)) (aA (aP (kM (TB (ak rEq (ak L3.rIx (ai 10) (TC (.int 0))) (TC (.str "still")))) (ak L3.rIx (ai 10) (TC (.int 1))) (ak L3.rIx (ai 10) (ak jr (au dg (ah (ai 10) (av))) (TC (.int 1))))) (ax 12)) (aA (bW (TOr (TB (ak rLt (ak L3.rIx (ai 11) (TC (.int 0))) (ak L3.rIx (ai 11) (TC (.int 1))))) (TOr (TB (ak rGt (ak eC (ak L3.rIx (ai 11) (TC (.int 0))) (ak L3.rIx (ai 12) (TC (.int 1)))) (ak eC (ak L3.rIx (ai 12) (TC (.int 0))) (ak L3.rIx (ai 11) (TC (.int 1)))))) (TB (ak rNe (ak kG (ak L3.rIx (ai 0) (TC (.int 0))) (ak L3.rIx (ai 11) (TC (.int 1)))) (TC (.int 0)))))) (a6 (TC (.bl false))) (bo)) (aA (bW (TOr (TB (ak rNe (ak L3.rIx (ai 2) (TC (.int 0))) (ai 5))) (rL (TB (ij rLe rLt (TC (.int 0)) (ak L3.rIx (ai 2) (TC (.int 1))) (au qj (ah (ai 7) (ah (ak aR (ai 8) (TC (.int 1))) (av)))))))) (a6 (TC (.bl false))) (bo)) (aA (bW (TOr (mL (TB (ak rIs (ai 9) (TC .non))) (TB (ak iK (ak L3.rIx (ai 2) (TC (.int 5))) (TC .non)))) (mL (TB (ak iK (ai 9) (TC .non))) (TB (ak rNe (ak aR (ak L3.rIx (ai 2) (TC (.int 4))) (ak L3.rIx (ai 2) (TC (.int 5)))) (ai 9))))) (a6 (TC (.bl false))) (bo)) (a6 (Ce (ak rEq (ai 3) (TC (.int 0))) (ak rLe (ai 4) (ak lB (ak L3.rIx (ai 11) (TC (.int 0))) (ak L3.rIx (ai 11) (TC (.int 1))))))))))))
theorem kJ:∀ ds μ Q,cL ds μ Q->gv { nx:=λ_ μ'=>RT Q .non μ',rt:=RT Q } (ini 13 ds) μ:=by
 intro ds μ Q h
 replace h:=ecA h
 obtain ⟨pd,ds,rfl,h⟩:=h
 replace h:=ecA h
 obtain ⟨sd,ds,rfl,h⟩:=h
 replace h:=ecA h
 obtain ⟨rd,ds,rfl,h⟩:=h
 replace h:=ecI h
 obtain ⟨j,ds,rfl,h⟩:=h
 replace h:=ecI h
 obtain ⟨i,ds,rfl,h⟩:=h
 replace h:=ecN h
 obtain ⟨rfl,h⟩:=h
 walk_at "ini"
 unfold gv
 walk_at "go"
 obtain ⟨p,m,s,x,n,⟨⟨rfl,rfl,rfl⟩,K,hs,nm,I,hn,F,B⟩,k⟩:=h
 have S:=K.s s hs
 have g0:0 < p.g:=by have:=K.g.1;omega
 obtain ⟨a,b,eW,b0,ba,bg,aW,cr,md,dv⟩:=E9 g0 I.w0
 have cp:=cr _ _ (QN S.k I.w1)
 have pre:∀ F:DK,F (fr s.rl.r s.rl.s) μ->rIx s.rl.toD (.int 0) μ λx1 μ1=>okD 40 x1=true/\kIf (eqD x1 (.str "still")) (rIx s.rl.toD (.int 1) μ1 F) (iW dg [s.rl.toD] μ1 λx2 μ1=>jr x2 (.int 1) μ1 λy μ2=>rIx s.rl.toD y μ2 F):=λF hF=>by
  have st:=S.k.st
  unfold RN.toD
  cases hw:s.rl.wd with
  | gn=>
   obtain ⟨e1,e2⟩:=st hw
   rw[e1,e2] at hF
   refine (show okD 40 (.str "still")=true/\kIf (eqD (.str "still") (.str "still")) _ _ from ⟨by decide +kernel,?_⟩)
   rw[gU]
   exact jP rfl hF
  | step=>
   refine (show okD 40 (.str "step")=true/\kIf (eqD (.str "step") (.str "still")) _ _ from ⟨by decide +kernel,?_⟩)
   rw[gU]
   exact iu (by decide +kernel) hF
  | iB=>
   refine (show okD 40 (.str "swell")=true/\kIf (eqD (.str "swell") (.str "still")) _ _ from ⟨by decide +kernel,?_⟩)
   rw[gU]
   exact iu (by decide +kernel) hF
  | kH=>
   refine (show okD 40 (.str "heed")=true/\kIf (eqD (.str "heed") (.str "still")) _ _ from ⟨by decide +kernel,?_⟩)
   rw[gU]
   exact iu (by decide +kernel) hF
  | calm=>
   refine (show okD 40 (.str "calm")=true/\kIf (eqD (.str "calm") (.str "still")) _ _ from ⟨by decide +kernel,?_⟩)
   rw[gU]
   exact iu (by decide +kernel) hF
 walk_at "go"
 refine pre _ ?_
 rw[eW]
 walk_at "go"
 have gb:=K.g.2
 have W1:x.W<=60*p.g:=zei I.w1 (A2 S.k g0)
 have sb:S64 b:=by unfold S64;omega
 have sa:S64 a:=by unfold S64;omega
 obtain ⟨d,ed,d0,d1⟩:=F.du
 have nmk:WC s.nm=true:=S.n
 refine iu (by omega) ⟨.inl (.inl sa),.inl (.inr sb),iu (by omega) ⟨by omega,ik md ⟨⟨by rw[nm];exact nmk,nmk⟩,ik nm ?_⟩⟩⟩
 rw[ed]
 walk_at "go"
 have fin:kIf (decide (j=0)) (RT Q (D.bl true) μ) (jm b/\RT Q (D.bl (decide (i<=a.fdiv b))) μ):=kif (λ_=>⟨_,.refl _,k⟩) λh=>by
  refine ⟨⟨by omega,by unfold fB;omega⟩,?_⟩
  rw[decide_eq_true (by rw[dv];exact B.resolve_left h)]
  exact ⟨_,.refl _,k⟩
 refine jP d0 (ik d1 ?_)
 rcases F.mn with ⟨h1,h2⟩ | ⟨mk,l,h1,h2,e⟩
 ·rw[h1,h2]
  walk_at "go"
  exact fin
 ·rw[h1,h2]
  walk_at "go"
  exact ik e fin
def eQ:FSp:=λds μ Q=>kcO ds λb ds=>kcA ds λd ds=>kcI ds λj ds=>kcN ds (∃ (p:Pn) (m:Int),(d=p.toD/\p.Ok m/\Pot μ b/\0 < j/\j<=100)/\∀ (N:Nat) μ',1<=N->N<=101->dI b μ μ'->Q (.int N) μ')
theorem oV:∀ ds μ Q,eQ ds μ Q->ds.length=3:=λ_ _ _ h=>lcO h λ_ _ h=>lcA h λ_ _ h=>lcI h λ_ _ h=>by rw[(ecN h).1];rfl
def lj:STr:=aA (aP (ak aR (TC (.int 1)) (au L3.aB (ah (ai 0) (ah (ai 2) (av))))) (ax 3)) (aA (aP (au yn (ah (bO (dq (ak L3.rIx (ai 1) (TC (.int 2)))) (ax 0) (eG) (ak lB (ak L3.rIx (ak L3.rIx (ak L3.rIx (ai 0) (TC (.int 5))) (TUn Bh (TC (.int 1)))) (TC (.int 0))) (ak L3.rIx (ak L3.rIx (ak L3.rIx (ai 0) (TC (.int 5))) (TUn Bh (TC (.int 1)))) (TC (.int 1)))) 1 []) (av))) (ax 4)) (a6 (kM (TB (ak rLt (ai 4) (TC (.int 80)))) (ai 3) (ak aR (TC (.int 1)) (ak kG (ai 3) (TC (.int 8)))))))
theorem qV:∀ ds μ Q,eQ ds μ Q->lj { nx:=λ_ μ'=>RT Q .non μ',rt:=RT Q } (ini 5 ds) μ:=by
 intro ds μ Q h
 replace h:=ecO h
 obtain ⟨b,ds,rfl,h⟩:=h
 replace h:=ecA h
 obtain ⟨d,ds,rfl,h⟩:=h
 replace h:=ecI h
 obtain ⟨j,ds,rfl,h⟩:=h
 replace h:=ecN h
 obtain ⟨rfl,h⟩:=h
 walk_at "ini"
 unfold lj
 walk_at "go"
 obtain ⟨p,m,⟨rfl,K,P,j0,j1⟩,k⟩:=h
 have s1:=K.s1
 refine aZ P (by omega) (by omega) λt μ1 t0 t1 P1=>?_
 walk_at "go"
 refine bH p.ss Sn.toD (λs=>.int (s.rl.r.fdiv s.rl.s)) rfl (by omega) (λs hs μ' sb N nn=>?_) ?_
 ·have S:=K.s s hs
  have q0:=S.k.t.q0
  walk_at "go"
  rw[Dz S.k]
  walk_at "go"
  rw[Dz S.k]
  walk_at "go"
  refine ⟨⟨by omega,?_⟩,nn⟩
  have:=S.k.t.q1
  unfold fB
  omega
 refine ⟨p.ss.map λs=>s.rl.r.fdiv s.rl.s,by rw[Wz];rfl,?_⟩
 walk_at "go"
 refine kif (λ_=>?_) λ_=>?_
 ·obtain ⟨N,e⟩:∃ N:Nat,1+t=(N:Int):=⟨(1+t).toNat,by omega⟩
  rw[e]
  exact ⟨_,.refl _,k N μ1 (by omega) (by omega) P1⟩
 ·have e8:(1+t).fmod 8=(1+t) % 8:=Zf _ (by decide)
  obtain ⟨N,e⟩:∃ N:Nat,1+(1+t).fmod 8=(N:Int):=⟨(1+(1+t).fmod 8).toNat,by omega⟩
  refine ⟨by decide,?_⟩
  rw[e]
  exact ⟨_,.refl _,k N μ1 (by omega) (by omega) P1⟩
abbrev hX:FSp:=L3.hX
theorem we:∀ ds μ Q,hX ds μ Q->ds.length=1:=L3.we
def FY:STr:=aA (aP (au L3.pK (ah (ai 0) (av))) (ax 1)) (aA (aP (au L3.mJ (ah (ai 1) (av))) (ax 2)) (aA (aP (au L3.me (ah (ai 2) (av))) (ax 3)) (aA (iJ (gL (au eQ (ah (ai 1) (ah (ai 2) (ah (TC (.int 40)) (av)))))) (ax 4) (aA (aP (nD (av)) (ax 5)) (aA (iJ (dq (ak L3.rIx (ai 3) (TC (.int 0)))) (de [6,7,8]) (fE (ur (ai 5) (bO (dq (ak aR (ai 6) (ai 7))) (ax 0) (eG) (ak L3.rIx (ai 0) (TC (.int 0))) 1 [])))) (aA (aP (au L3.iR (ah (ai 2) (ah (ai 3) (av)))) (de [3,9])) (aA (bW (rL (TB (au cJ (ah (ai 2) (ah (ai 3) (av)))))) (a6 (TC (.bl false))) (bo)) (iJ (kZ (ah (ak L3.rIx (ai 2) (TC (.int 2))) (ah (ak L3.rIx (ai 3) (TC (.int 1))) (av)))) (de [10,11]) (aA (aP (au dg (ah (bO (dq (ai 9)) (ax 0) (mL (TB (ak rEq (ak L3.rIx (ai 0) (TC (.int 0))) (TC (.str "sent")))) (TB (ak rEq (ak L3.rIx (ai 0) (TC (.int 1))) (ak L3.rIx (ai 1) (TC (.int 0)))))) (ai 0) 1 [10]) (av))) (ax 12)) (bW (rL (TB (au cL (ah (ai 2) (ah (ai 10) (ah (ai 11) (ah (ai 12) (ah (ak aR (ai 12) (A4 (ai 5) (ak L3.rIx (ai 10) (TC (.int 0))))) (av))))))))) (a6 (TC (.bl false))) (bo))))))))) (a6 (TC (.bl true))))))
theorem Pf:∀ ds μ Q,hX ds μ Q->FY { nx:=λ_ μ'=>RT Q .non μ',rt:=RT Q } (ini 13 ds) μ:=by
 intro ds μ Q h
 replace h:=ecL h
 obtain ⟨_,ds,rfl,h⟩:=h
 replace h:=ecN h
 obtain ⟨rfl,h⟩:=h
 obtain ⟨⟨ns,rfl,hn⟩,k⟩:=h
 walk_at "ini"
 unfold FY
 walk_at "go"
 refine ⟨⟨ns,rfl⟩,λb μ1 hb P1 _=>?_⟩
 walk_at "go"
 refine ⟨P1,λp m μ2 K M P2=>?_⟩
 have s1:=K.s1
 have w1:=K.w1
 walk_at "go"
 refine ⟨p,⟨rfl,λx hx=>(K.s x hx).k,K.g,by omega,by omega⟩,?_⟩
 rw[show p.beg=p.run 0 from rfl]
 walk_at "go"
 refine ⟨p,m,⟨rfl,K,P2.pot,by omega,by omega⟩,λN μ3 N0 N1 P3=>?_⟩
 walk_at "go"
 refine ⟨by omega,?_⟩
 refine bT (λr ρ μ'=>∃ (i:Nat) (v4 v5 v6 v7 v8 v9 v10 v11 v12:Option D),i+r.length=N/\ρ=[some (.ls (ns.map .int)),some (.obj b),some p.toD,some ((p.run i).toD p.g),v4,v5,v6,v7,v8,v9,v10,v11,v12]) ?_ ?_ _ _ _ ⟨0,_,_,_,_,_,_,_,_,_,by rw[eu];simp,rfl⟩
 ·rintro ρ μ' ⟨i,v4,v5,v6,v7,v8,v9,v10,v11,v12,_,rfl⟩
  walk_at "go"
  exact ⟨_,.refl _,k _⟩
 ·rintro d r ρ μ' N2 ⟨i,v4,v5,v6,v7,v8,v9,v10,v11,v12,hr,rfl⟩ hN
  rw[WY] at hr
  have I:=p.eU K i (by omega)
  have S:=Di K (n:=i) (by omega)
  have R:=I.rd (by omega)
  have lw:=I.lw
  walk_at "go"
  intro c hc
  refine bT (λr ρ μ1=>∃ (dn rs:List Ws) (v6 v7 v8:Option D),r=rs.map Ws.toD/\dn++rs=(p.run i).ws/\ρ=[some (.ls (ns.map .int)),some (.obj b),some p.toD,some ((p.run i).toD p.g),some d,some (.obj c),v6,v7,v8,v9,v10,v11,v12]/\μ1=up μ' c (.lst ((dn.flatMap λw=>(w.cm++w.st).map Lt.nm).map .str))) ?_ ?_ _ _ _ ⟨[],(p.run i).ws,_,_,_,rfl,rfl,rfl,rfl⟩
  ·rintro ρ μ1 ⟨dn,rs,v6,v7,v8,er,es,rfl,rfl⟩
   cases rs with
   | cons _ _=>cases er
   | nil=>
   rw[W8] at es
   subst es
   walk_at "go"
   refine ⟨p,p.run i,⟨⟨rfl,rfl⟩,R⟩,?_⟩
   rw[show p.step (p.run i)=p.run (i+1) from rfl]
   walk_at "go"
   refine ⟨p,m,i+1,⟨rfl,rfl,K,by omega⟩,?_⟩
   walk_at "go"
   have In:=p.eU K (i+1) (by omega)
   have gk:∀ n∈(p.run i).names,WC n=true:=λn hn=>by
    obtain ⟨w,hw,hn⟩:=X8.mp hn
    obtain ⟨l,hl,rfl⟩:=Wq.mp hn
    exact R.sn _ (I.lt w hw l hl).1
   have ez:=PJ I (by omega)
   rw[show ((p.run i).ws.flatMap λw=>(w.cm++w.st).map Lt.nm)=(p.run i).names from rfl]
   rw[qN Sn.toD (Ss.toD p.g)]
   refine bT (λr' ρ μ1=>∃ (rs:List (Sn×Ss)) (v10 v11 v12:Option D),r'=rs.map (λy=>.tup [y.1.toD,y.2.toD p.g])/\(∀ y∈rs,y∈WA p.ss (p.run (i+1)).ss)/\ρ=[some (.ls (ns.map .int)),some (.obj b),some p.toD,some ((p.run (i+1)).toD p.g),some d,some (.obj c),v6,v7,v8,some (.ls (evD (p.evs (p.run i)))),v10,v11,v12]/\μ1=up μ' c (.lst ((p.run i).names.map .str))) ?_ ?_ _ _ _ ⟨WA p.ss (p.run (i+1)).ss,_,_,_,rfl,λ_ h=>h,rfl,rfl⟩
   ·rintro ρ μ1 ⟨rs,v10,v11,v12,er,_,rfl,rfl⟩
    exact hN _ _ ⟨i+1,_,_,_,_,_,_,_,_,_,by omega,rfl⟩
   ·rintro d2 r2 ρ μ1 N3 ⟨rs,v10,v11,v12,er,hs,rfl,rfl⟩ hN3
    cases rs with
    | nil=>cases er
    | cons y rs=>
    cases er
    obtain ⟨s,x'⟩:=y
    have hy:=hs _ WL
    obtain ⟨x,hx,ex⟩:=Dq I hy
    have hsm:=(WI hx).1
    have sk:=K.s s hsm
    have SI:=In.ss _ hy
    have xn:x.nm=s.nm:=I.znm hx
    have x'n:x'.nm=s.nm:=In.znm hy
    have F:=Dj K (i+1) (by omega) s x' hy
    have few:=RR p.g s x ((p.run i).und x.nm) (I.ss _ hx).l
    have Wx:x'.W=(x.bt p.g s ((p.run i).und x.nm)).1.W:=by rw[ex];rfl
    have sc:=Ij I hx
    have nc:=Fn (p.run i) s.nm
    have un:=Ob (p.run i) s.nm
    rw[xn] at few sc Wx
    walk_at "go"
    refine j6 (p.evs (p.run i)) Ev.toD (λe=>if e.wd=vS/\e.nm=s.nm then some e.toD else none) rfl (by omega) (λe he μ1 sb N m=>?_) ?_
    ·walk_at "go"
     refine ⟨⟨(NT R e he).1,by decide +kernel⟩,?_⟩
     by_cases h1:e.wd=vS
     ·refine jP h1 ⟨⟨R.sn _ (NT R e he).2.1,sk.n⟩,?_⟩
      by_cases h2:e.nm=s.nm
      ·rw[if_pos ⟨h1,h2⟩] at m
       exact jP h2 m
      ·rw[if_neg (λz=>h2 z.2)] at m
       exact iu h2 m
     ·rw[if_neg (λz=>h1 z.1)] at m
      exact iu h1 m
    rw[eF (λe:Ev=>e.wd=vS/\e.nm=s.nm) Ev.toD]
    have el:(((p.evs (p.run i)).filter λe=>decide (e.wd=vS/\e.nm=s.nm)).map Ev.toD).length=cW vS s.nm (p.evs (p.run i)):=by
     rw[Wm]
     unfold cW
     congr 2
     funext e
     rw[Bool.decide_and]
    walk_at "go"
    rw[el,nc]
    refine ⟨⟨Ow gk,sk.n⟩,p,m,s,x',i+1,⟨⟨rfl,rfl,rfl⟩,K,hsm,x'n,SI,by omega,F,?_⟩,?_⟩
    ·rw[sc,Wx]
     omega
    walk_at "go"
    exact hN3 _ _ ⟨rs,_,_,_,rfl,λy hy=>hs y (WU _ hy),rfl,rfl⟩
  ·rintro d2 r2 ρ μ1 N3 ⟨dn,rs,v6,v7,v8,er,es,rfl,rfl⟩ hN3
   cases rs with
   | nil=>cases er
   | cons w rs=>
   cases er
   have hw:w∈(p.run i).ws:=by rw[← es];simp
   have z:=S.z2 w hw
   have fl:=jH (f:=λw:Ws=>(w.cm++w.st).map Lt.nm) (k:=20000) (l:=dn) λw hw=>by
    have:=S.z2 w (by rw[← es];exact Xq _ hw)
    rw[Wm,Wv]
    omega
   have dl:=congrArg Xr es
   rw[Wv] at dl
   walk_at "go"
   refine ⟨by rw[Wm,Wm];omega,?_⟩
   rw[show ltD w.cm++ltD w.st=ltD (w.cm++w.st) from WQ.symm]
   refine bH (w.cm++w.st) Lt.toD (λl=>.str l.nm) rfl (by rw[Wv];omega) (λl hl μ1 sb N m=>?_) ?_
   ·walk_at "go"
    exact m
   walk_at "go"
   refine ⟨by rw[Wm,Wm,Wv];omega,?_⟩
   exact hN3 _ _ ⟨dn++[w],rs,_,_,_,rfl,by rw[← es];simp,rfl,by rw[Xw];simp[zaN]⟩
theorem nG (ns:List Int)(h:ns.length<=63)(μ:Mu):hX [.ls (ns.map .int)] μ (λd _=>d=.bl true):=L3.nG ns h μ
end Kk
namespace Kk
open PySem L2 L3
theorem Tp {α:Type}{us:List α}(h:us.length=1):∃ x0,us=[x0]:=match us,h with | [x0],_=>⟨x0,rfl⟩
theorem Sr {α:Type}{us:List α}(h:us.length=2):∃ x0 x1,us=[x0,x1]:=match us,h with | [x0,x1],_=>⟨x0,x1,rfl⟩
theorem UD {α:Type}{us:List α}(h:us.length=3):∃ x0 x1 x2,us=[x0,x1,x2]:=match us,h with | [x0,x1,x2],_=>⟨x0,x1,x2,rfl⟩
theorem SF {α:Type}{us:List α}(h:us.length=4):∃ x0 x1 x2 x3,us=[x0,x1,x2,x3]:=match us,h with | [x0,x1,x2,x3],_=>⟨x0,x1,x2,x3,rfl⟩
theorem Ts {α:Type}{us:List α}(h:us.length=5):∃ x0 x1 x2 x3 x4,us=[x0,x1,x2,x3,x4]:=match us,h with | [x0,x1,x2,x3,x4],_=>⟨x0,x1,x2,x3,x4,rfl⟩
def top (i:Nat):Stmt:=PySem.Challenge.pw_swellways_k36_whole_states_fit.main.body.getD i (.Pass ⟨0,0,0,0⟩)
abbrev oT:Stmt:=top 1
abbrev JS:Stmt:=top 2
abbrev HH:Stmt:=top 3
abbrev CF:Stmt:=top 4
abbrev Dw:Stmt:=top 5
abbrev Gh:Stmt:=top 6
abbrev qM:Stmt:=top 7
abbrev xD:Stmt:=top 8
abbrev zC:Stmt:=top 45
abbrev qC:Stmt:=top 46
abbrev uM:Stmt:=top 47
abbrev jM:Stmt:=top 48
abbrev oN:Stmt:=top 49
abbrev Df:Stmt:=top 50
abbrev Jd:Stmt:=top 51
abbrev qA:Stmt:=top 52
abbrev mP:Stmt:=top 54
abbrev rH:Stmt:=top 55
abbrev gN:Stmt:=top 56
abbrev gc:Stmt:=top 57
abbrev tW:Stmt:=top 58
abbrev jv:Stmt:=top 60
abbrev pF:Stmt:=top 61
abbrev j8:Stmt:=top 62
abbrev qQ:Stmt:=top 63
abbrev qu:Stmt:=top 64
abbrev zE:Stmt:=top 65
abbrev fz:Stmt:=top 66
abbrev rR:Stmt:=top 67
abbrev l8:Stmt:=top 68
abbrev oi:Stmt:=top 69
abbrev Hf:Stmt:=top 70
abbrev gS:Stmt:=top 71
abbrev oU:Stmt:=top 72
abbrev cP:Stmt:=top 73
abbrev cO:Stmt:=top 74
abbrev rG:Stmt:=top 76
abbrev qO:Stmt:=top 77
abbrev oQ:Stmt:=top 78
abbrev iM:Stmt:=top 79
abbrev lq:Stmt:=top 80
abbrev jk:Stmt:=top 81
abbrev oH:Stmt:=top 82
abbrev oS:Stmt:=top 83
abbrev gZ:Stmt:=top 84
abbrev jV:Stmt:=top 85
abbrev c7:Stmt:=top 86
abbrev gr:Stmt:=top 87
abbrev gY:Stmt:=top 88
abbrev DH:Stmt:=top 89
set_option genInjectivity false in
set_option genSizeOfSpec false in
structure Adr where
 oM:Addr
 xI:WV
 G6:Addr
 OU:WV
 Kd:Addr
 Pc:WV
 CA:Addr
 NG:WV
 CQ:Addr
 Nv:WV
 F0:Addr
 R6:WV
 sj:Addr
 A9:WV
 wQ:Addr
 IE:WV
 yr:Addr
 FI:WV
 qx:Addr
 zZ:WV
 t8:Addr
 EF:WV
 ka:Addr
 rg:WV
 oO:Addr
 yT:WV
 CP:Addr
 L4:WV
 Ip:Addr
 O1:WV
 qI:Addr
 BX:WV
 my:Addr
 vi:WV
 qD:Addr
 Bj:WV
 oF:Addr
 zA:WV
 jt:Addr
 qE:WV
 ua:Addr
 E6:WV
 jQ:Addr
 qG:WV
 Cn:Addr
 Lb:WV
 nQ:Addr
 xM:WV
 qv:Addr
 AB:WV
 rX:Addr
 AX:WV
 y6:Addr
 Gy:WV
 jn:Addr
 o5:WV
 xS:Addr
 FE:WV
 lS:Addr
 vR:WV
 nT:Addr
 xC:WV
 Jh:Addr
 Qi:WV
 oG:Addr
 xc:WV
 oR:Addr
 yU:WV
 jF:Addr
 p9:WV
 tU:Addr
 El:WV
 pT:Addr
 Au:WV
 ql:Addr
 Aw:WV
 oK:Addr
 yO:WV
 mH:Addr
 u5:WV
 lg:Addr
 tK:WV
 jl:Addr
 pE:WV
 nX:Addr
 wX:WV
 nS:Addr
 xY:WV
 kU:Addr
 tG:WV
 nZ:Addr
 yz:WV
 gj:Addr
 lF:WV
 gy:Addr
 lO:WV
 kT:Addr
 sT:WV
 JU:Addr
 NQ:WV
structure Txt (Pm:Params) (K:Wj) (mg:Str->Option Wo) (t:Adr):Prop where
 ze:mg "common_of" = some (.ref t.oM)
 yX:Fun K "common_of" "common_of" oT t.oM t.xI
 OE:mg "part" = some (.ref t.G6)
 Qj:Fun K "part" "part" JS t.G6 t.OU
 PX:mg "plus" = some (.ref t.Kd)
 Rk:Fun K "plus" "plus" HH t.Kd t.Pc
 Nn:mg "minus" = some (.ref t.CA)
 Ko:Fun K "minus" "minus" CF t.CA t.NG
 MG:mg "times" = some (.ref t.CQ)
 KJ:Fun K "times" "times" Dw t.CQ t.Nv
 OQ:mg "less" = some (.ref t.F0)
 Pk:Fun K "less" "less" Gh t.F0 t.R6
 AO:mg "floor_of" = some (.ref t.sj)
 Ah:Fun K "floor_of" "floor_of" qM t.sj t.A9
 Ie:mg "cut_by" = some (.ref t.wQ)
 Gv:Fun K "cut_by" "cut_by" xD t.wQ t.IE
 FA:mg "top_of" = some (.ref t.yr)
 GQ:Fun K "top_of" "top_of" zC t.yr t.FI
 B5:mg "begun_by" = some (.ref t.qx)
 zQ:Fun K "begun_by" "begun_by" qC t.qx t.zZ
 ES:mg "is_idle" = some (.ref t.t8)
 EU:Fun K "is_idle" "is_idle" uM t.t8 t.EF
 sx:mg "share_behind" = some (.ref t.ka)
 p8:Fun K "share_behind" "share_behind" jM t.ka t.rg
 yh:mg "factor_of" = some (.ref t.oO)
 xB:Fun K "factor_of" "factor_of" oN t.oO t.yT
 LM:mg "moved" = some (.ref t.CP)
 Nt:Fun K "moved" "moved" Df t.CP t.L4
 OT:mg "held" = some (.ref t.Ip)
 Pd:Fun K "held" "held" Jd t.Ip t.O1
 A3:mg "heard_by" = some (.ref t.qI)
 AL:Fun K "heard_by" "heard_by" qA t.qI t.BX
 vf:mg "put_behind" = some (.ref t.my)
 wj:Fun K "put_behind" "put_behind" mP t.my t.vi
 BW:mg "taken_in" = some (.ref t.qD)
 B0:Fun K "taken_in" "taken_in" rH t.qD t.Bj
 yu:mg "next_name" = some (.ref t.oF)
 ym:Fun K "next_name" "next_name" gN t.oF t.zA
 qX:mg "out_by_turns" = some (.ref t.jt)
 sE:Fun K "out_by_turns" "out_by_turns" gc t.jt t.qE
 Ff:mg "let_out" = some (.ref t.ua)
 Eg:Fun K "let_out" "let_out" tW t.ua t.E6
 rF:mg "begun_sender" = some (.ref t.jQ)
 qz:Fun K "begun_sender" "begun_sender" jv t.jQ t.qG
 Lv:mg "begun" = some (.ref t.Cn)
 Mt:Fun K "begun" "begun" pF t.Cn t.Lb
 yq:mg "under_way" = some (.ref t.nQ)
 xZ:Fun K "under_way" "under_way" j8 t.nQ t.xM
 BH:mg "new_ones" = some (.ref t.qv)
 A0:Fun K "new_ones" "new_ones" qQ t.qv t.AB
 zK:mg "sent_off" = some (.ref t.rX)
 zN:Fun K "sent_off" "sent_off" qu t.rX t.AX
 Ki:mg "beaten" = some (.ref t.y6)
 HN:Fun K "beaten" "beaten" zE t.y6 t.Gy
 pB:mg "sent_in_order" = some (.ref t.jn)
 pz:Fun K "sent_in_order" "sent_in_order" fz t.jn t.o5
 Fs:mg "passed" = some (.ref t.xS)
 G4:Fun K "passed" "passed" rR t.xS t.FE
 uN:mg "way_behind" = some (.ref t.lS)
 vD:Fun K "way_behind" "way_behind" l8 t.lS t.vR
 w4:mg "events_of" = some (.ref t.nT)
 yN:Fun K "events_of" "events_of" oi t.nT t.xC
 Ph:mg "aged" = some (.ref t.Jh)
 QL:Fun K "aged" "aged" Hf t.Jh t.Qi
 zG:mg "way_after" = some (.ref t.oG)
 zh:Fun K "way_after" "way_after" gS t.oG t.xc
 xX:mg "due_after" = some (.ref t.oR)
 wF:Fun K "due_after" "due_after" oU t.oR t.yU
 qR:mg "sender_after" = some (.ref t.jF)
 rC:Fun K "sender_after" "sender_after" cP t.jF t.p9
 DN:mg "stepped" = some (.ref t.tU)
 EN:Fun K "stepped" "stepped" cO t.tU t.El
 BD:mg "_law_pot" = some (.ref t.pT)
 BA:Fun K "_law_pot" "_law_pot" rG t.pT t.Au
 Ap:mg "_law_mix" = some (.ref t.ql)
 Ax:Fun K "_law_mix" "_law_mix" qO t.ql t.Aw
 xQ:mg "_law_take" = some (.ref t.oK)
 xH:Fun K "_law_take" "_law_take" oQ t.oK t.yO
 vz:mg "_law_names" = some (.ref t.mH)
 vJ:Fun K "_law_names" "_law_names" iM t.mH t.u5
 sX:mg "_law_lowest" = some (.ref t.lg)
 tL:Fun K "_law_lowest" "_law_lowest" lq t.lg t.tK
 o9:mg "_law_fraction" = some (.ref t.jl)
 oW:Fun K "_law_fraction" "_law_fraction" jk t.jl t.pE
 y1:mg "_law_rule" = some (.ref t.nX)
 zf:Fun K "_law_rule" "_law_rule" oH t.nX t.wX
 yZ:mg "_law_ways" = some (.ref t.nS)
 xW:Fun K "_law_ways" "_law_ways" oS t.nS t.xY
 sV:mg "_law_sender" = some (.ref t.kU)
 tm:Fun K "_law_sender" "_law_sender" gZ t.kU t.tG
 yp:mg "_law_plan" = some (.ref t.nZ)
 yI:Fun K "_law_plan" "_law_plan" jV t.nZ t.yz
 lA:mg "_law_letters_fit" = some (.ref t.gj)
 lE:Fun K "_law_letters_fit" "_law_letters_fit" c7 t.gj t.lF
 lQ:mg "_law_sender_fits" = some (.ref t.gy)
 ly:Fun K "_law_sender_fits" "_law_sender_fits" gr t.gy t.lO
 tM:mg "_law_rounds" = some (.ref t.kT)
 tu:Fun K "_law_rounds" "_law_rounds" gY t.kT t.sT
 TQ:mg "law" = some (.ref t.JU)
 C4:Fun K "law" "law" DH t.JU t.NQ
 IA:mg "abs" = none
 B8:mg "dict" = none
 yj:mg "enumerate" = none
 SO:mg "int" = none
 dA:mg "len" = none
 vt:mg "list" = none
 xp:mg "max" = none
 TF:mg "min" = none
 pM:mg "range" = none
 qJ:mg "sorted" = none
 Oq:mg "sum" = none
 bK:mg "tuple" = none
 ow:mg "zip" = none
 vX:GV K mg "AGAIN" (.int 6)
 Ou:GV K mg "AGE" (.int 2)
 Qp:GV K mg "BEAT" (.int 2)
 K5:GV K mg "BEGIN" (.int 3)
 xj:GV K mg "COMING" (.int 0)
 Iv:GV K mg "DUE" (.int 1)
 Gm:GV K mg "GOOD" (.int 8)
 FT:GV K mg "GRID" (.int 0)
 F9:GV K mg "HALF" (.tup [.int 1,.int 2])
 Cj:GV K mg "HOP" (.int 3)
 jJ:GV K mg "IS_MARKED" (.int 4)
 QC:GV K mg "LAST" (.int 2)
 rT:GV K mg "LEFT" (.int 5)
 pV:GV K mg "LOST" (.int 7)
 Pl:GV K mg "MANY" (.int 4)
 Hy:GV K mg "MARK" (.int 3)
 yd:GV K mg "MARKED" (.int 9)
 b6:GV K mg "NAME" (.int 0)
 Ae:GV K mg "NEXT" (.int 4)
 J5:GV K mg "NOUGHT" (.tup [.int 0,.int 1])
 j4:GV K mg "NUMBER" (.int 1)
 HA:GV K mg "ONE" (.tup [.int 1,.int 1])
 BI:GV K mg "PACE" (.int 1)
 IH:GV K mg "ROAD" (.int 1)
 Px:GV K mg "ROOM" (.int 2)
 I0:GV K mg "RULE" (.int 5)
 tT:GV K mg "SENDERS" (.int 2)
 KN:GV K mg "SHARE" (.int 3)
 Q5:GV K mg "SORT" (.int 4)
 qH:GV K mg "STANDING" (.int 1)
 o4:GV K mg "STATE_SENDERS" (.int 1)
 mf:GV K mg "STATE_WAYS" (.int 0)
 HD:GV K mg "WAIT" (.int 10)
 vh:GV K mg "WAYS" (.int 1)
 wA:GV K mg "WINDOW" (.int 2)
local macro_rules | `(tactic| walk_at "sc")=>`(tactic| exact UA rfl rfl rfl rfl (by decide +kernel))
local macro_rules | `(tactic| walk_at "b1")=>`(tactic| (rename_i hl;obtain ⟨x0,e⟩:=Tp hl;subst e;rfl))
local macro_rules | `(tactic| walk_at "b2")=>`(tactic| (rename_i hl;obtain ⟨x0,x1,e⟩:=Sr hl;subst e;rfl))
local macro_rules | `(tactic| walk_at "b3")=>`(tactic| (rename_i hl;obtain ⟨x0,x1,x2,e⟩:=UD hl;subst e;rfl))
local macro_rules | `(tactic| walk_at "b4")=>`(tactic| (rename_i hl;obtain ⟨x0,x1,x2,x3,e⟩:=SF hl;subst e;rfl))
local macro_rules | `(tactic| walk_at "b5")=>`(tactic| (rename_i hl;obtain ⟨x0,x1,x2,x3,x4,e⟩:=Ts hl;subst e;rfl))
section
variable {P:W7} {w:Xh} {K:Wj} {mg:Str->Option Wo} {base:Heap} {t:Adr}
theorem dE:aK ["one", "other", "divisor", "rest", "behind"] ["one", "other"] (aw oT):=by walk_at "sc"
theorem yC (T:Txt w.params K mg t):aU P w K mg base 1 "common_of" ["one", "other"] L3.fT:=aO T.ze T.yX dE L3.tw L3.uU (λ_ _ _ _ _ _ _ _=>by walk_at "b2") λ_ _ _ _ _ _ hr hu=>
 ao (aD 2 dE.nd (aX sF vK rfl T.IA rfl (ae (af 0) (aj)))) (ao (aD 3 dE.nd (aX sF vK rfl T.IA rfl (ae (af 1) (aj)))) (ao (rn Xe (kX (af 3) (le_int)) (ao (aD 4 dE.nd (f9 (af 2) (af 3))) (ao (aD 2 dE.nd (af 3)) (ay (aD 3 dE.nd (af 4)))))) (ay (aF (af 2)))))
theorem uP:aK ["top", "bottom", "divisor"] ["top", "bottom"] (aw JS):=by walk_at "sc"
theorem sD (T:Txt w.params K mg t):aU P w K mg base 2 "part" ["top", "bottom"] L3.gW:=aO T.OE T.Qj uP L3.IK L3.Nr (λ_ _ _ _ _ _ _ _=>by walk_at "b2") λ_ _ _ _ _ _ hr hu=>
 ao (aD 2 uP.nd (ar (yC T) hr rfl (ae (af 0) (ae (af 1) (aj))))) (ao (bQ (jW (af 1) (le_int)) (ay (aD 2 uP.nd (le_neg (af 2)))) (a8)) (ay (aF (aT (ae (hE (af 0) (af 2)) (ae (hE (af 1) (af 2)) (aj)))))))
theorem L9:aK ["one", "other"] ["one", "other"] (aw HH):=by walk_at "sc"
theorem IB (T:Txt w.params K mg t):aU P w K mg base 3 "plus" ["one", "other"] L3.kr:=aO T.PX T.Rk L9 L3.IU L3.ND (λ_ _ _ _ _ _ _ _=>by walk_at "b2") λ_ _ _ _ _ _ hr hu=>
 ay (aF (ar (sD T) hr rfl (ae (aI (le_mul (aq (af 0) (le_int)) (aq (af 1) (le_int))) (le_mul (aq (af 1) (le_int)) (aq (af 0) (le_int)))) (ae (le_mul (aq (af 0) (le_int)) (aq (af 1) (le_int))) (aj)))))
theorem Hg:aK ["one", "other"] ["one", "other"] (aw CF):=by walk_at "sc"
theorem vV (T:Txt w.params K mg t):aU P w K mg base 3 "minus" ["one", "other"] L3.iA:=aO T.Nn T.Ko Hg L3.Ec L3.FC (λ_ _ _ _ _ _ _ _=>by walk_at "b2") λ_ _ _ _ _ _ hr hu=>
 ay (aF (ar (sD T) hr rfl (ae (ff (le_mul (aq (af 0) (le_int)) (aq (af 1) (le_int))) (le_mul (aq (af 1) (le_int)) (aq (af 0) (le_int)))) (ae (le_mul (aq (af 0) (le_int)) (aq (af 1) (le_int))) (aj)))))
theorem GO:aK ["one", "other"] ["one", "other"] (aw Dw):=by walk_at "sc"
theorem wx (T:Txt w.params K mg t):aU P w K mg base 3 "times" ["one", "other"] L3.iG:=aO T.MG T.KJ GO L3.DP L3.F5 (λ_ _ _ _ _ _ _ _=>by walk_at "b2") λ_ _ _ _ _ _ hr hu=>
 ay (aF (ar (sD T) hr rfl (ae (le_mul (aq (af 0) (le_int)) (aq (af 1) (le_int))) (ae (le_mul (aq (af 0) (le_int)) (aq (af 1) (le_int))) (aj)))))
theorem Mr:aK ["one", "other"] ["one", "other"] (aw Gh):=by walk_at "sc"
theorem Kb (T:Txt w.params K mg t):aU P w K mg base 1 "less" ["one", "other"] L3.lZ:=aO T.OQ T.Pk Mr L3.HF L3.Lp (λ_ _ _ _ _ _ _ _=>by walk_at "b2") λ_ _ _ _ _ _ hr hu=>
 ay (aF (Up (le_mul (aq (af 0) (le_int)) (aq (af 1) (le_int))) (le_mul (aq (af 1) (le_int)) (aq (af 0) (le_int)))))
theorem xT:aK ["one"] ["one"] (aw qM):=by walk_at "sc"
theorem AW (T:Txt w.params K mg t):aU P w K mg base 1 "floor_of" ["one"] L3.gI:=aO T.AO T.Ah xT L3.va L3.xR (λ_ _ _ _ _ _ _ _=>by walk_at "b1") λ_ _ _ _ _ _ hr hu=>
 ay (aF (hE (aq (af 0) (le_int)) (aq (af 0) (le_int))))
theorem Ef:aK ["one", "grid"] ["one", "grid"] (aw xD):=by walk_at "sc"
theorem mR (T:Txt w.params K mg t):aU P w K mg base 3 "cut_by" ["one", "grid"] L3.fi:=aO T.Ie T.Gv Ef L3.Ak L3.Eh (λ_ _ _ _ _ _ _ _=>by walk_at "b2") λ_ _ _ _ _ _ hr hu=>
 ay (aF (ar (sD T) hr rfl (ae (hE (le_mul (aq (af 0) (le_int)) (af 1)) (aq (af 0) (le_int))) (ae (af 1) (aj)))))
theorem D3:aK ["rule"] ["rule"] (aw zC):=by walk_at "sc"
theorem wB (T:Txt w.params K mg t):aU P w K mg base 1 "top_of" ["rule"] L3.iD:=aO T.FA T.GQ D3 L3.Bl L3.ED (λ_ _ _ _ _ _ _ _=>by walk_at "b1") λ_ _ _ _ _ _ hr hu=>
 ay (aF (aq (af 0) (ff (aX bc bF rfl T.dA rfl (ae (af 0) (aj))) (le_int))))
theorem yY:aK ["rule", "grid"] ["rule", "grid"] (aw qC):=by walk_at "sc"
theorem zH (T:Txt w.params K mg t):aU P w K mg base 4 "begun_by" ["rule", "grid"] L3.gQ:=aO T.B5 T.zQ yY L3.uT L3.xU (λ_ _ _ _ _ _ _ _=>by walk_at "b2") λ_ _ _ _ _ _ hr hu=>
 ay (aF (aT (ae (ar (mR T) hr rfl (ae (aq (af 0) (le_int)) (ae (af 1) (aj)))) (ae (aH rfl T.J5) (aj)))))
theorem Am:aK ["rule", "heard"] ["rule", "heard"] (aw uM):=by walk_at "sc"
theorem EL (T:Txt w.params K mg t):aU P w K mg base 1 "is_idle" ["rule", "heard"] L3.jb:=aO T.ES T.EU Am L3.xG L3.Ao (λ_ _ _ _ _ _ _ _=>by walk_at "b2") λ_ _ _ _ _ _ hr hu=>
 ay (aF (NW (le_eq hu (aq (af 0) (le_int)) (le_str)) (GX (le_eq hu (aI (aI (aq (af 1) (le_int)) (aq (af 1) (le_int))) (aq (af 1) (le_int))) (le_int)))))
theorem fA:aK ["rule", "grid", "share", "heard", "bad", "nearer"] ["rule", "grid", "share", "heard"] (aw jM):=by walk_at "sc"
theorem sL (T:Txt w.params K mg t):aU P w K mg base 4 "share_behind" ["rule", "grid", "share", "heard"] L3.ef:=aO T.sx T.p8 fA L3.nv L3.pj (λ_ _ _ _ _ _ _ _=>by walk_at "b4") λ_ _ _ _ _ _ hr hu=>
 ao (bQ (oj hu (aq (af 0) (le_int)) (le_str)) (ay (aF (af 2))) (a8)) (ao (aD 4 fA.nd (aI (aq (af 3) (le_int)) (aq (af 3) (le_int)))) (ao (aD 5 fA.nd (ar (wx T) hr rfl (ae (aq (af 0) (le_int)) (ae (ar (vV T) hr rfl (ae (ar (sD T) hr rfl (ae (af 4) (ae (aI (aq (af 3) (le_int)) (af 4)) (aj)))) (ae (af 2) (aj)))) (aj))))) (ay (aF (ar (mR T) hr rfl (ae (ar (IB T) hr rfl (ae (af 2) (ae (af 5) (aj)))) (ae (af 1) (aj))))))))
theorem vy:aK ["rule", "share", "heard"] ["rule", "share", "heard"] (aw oN):=by walk_at "sc"
theorem wW (T:Txt w.params K mg t):aU P w K mg base 4 "factor_of" ["rule", "share", "heard"] L3.fR:=aO T.yh T.xB vy L3.tF L3.u4 (λ_ _ _ _ _ _ _ _=>by walk_at "b3") λ_ _ _ _ _ _ hr hu=>
 ao (bQ (lt_eq hu (aq (af 0) (le_int)) (le_str)) (ay (aF (gA (kX (aq (af 2) (le_int)) (le_int)) (aH rfl T.F9) (df)))) (a8)) (ao (bQ (lt_eq hu (aI (aq (af 2) (le_int)) (aq (af 2) (le_int))) (le_int)) (ay (aF (gA (lt_eq hu (aq (af 0) (le_int)) (le_str)) (aq (af 0) (le_int)) (df)))) (a8)) (ao (bQ (lt_eq hu (aq (af 0) (le_int)) (le_str)) (ay (aF (ar (vV T) hr rfl (ae (aH rfl T.HA) (ae (ar (wx T) hr rfl (ae (aH rfl T.F9) (ae (af 1) (aj)))) (aj)))))) (a8)) (ay (aF (aq (af 0) (le_int))))))
theorem Jk:aK ["rule", "window", "heard"] ["rule", "window", "heard"] (aw Df):=by walk_at "sc"
theorem Lu (T:Txt w.params K mg t):aU P w K mg base 4 "moved" ["rule", "window", "heard"] L3.mw:=aO T.LM T.Nt Jk L3.Ea L3.Jz (λ_ _ _ _ _ _ _ _=>by walk_at "b3") λ_ _ _ _ _ _ hr hu=>
 ao (bQ (LW.lt (gR (oj hu (aq (af 0) (le_int)) (le_str)) (h9 (jW (aq (af 2) (le_int)) (aq (af 0) (le_int)))))) (ay (aF (ar (IB T) hr rfl (ae (af 1) (ae (aq (af 0) (le_int)) (aj)))))) (a8)) (ao (bQ (kX (aq (af 2) (le_int)) (aq (af 0) (le_int))) (ay (aF (ar (vV T) hr rfl (ae (af 1) (ae (aq (af 0) (le_int)) (aj)))))) (a8)) (ay (aF (af 1))))
theorem Ly:aK ["rule", "grid", "window"] ["rule", "grid", "window"] (aw Jd):=by walk_at "sc"
theorem Ht (T:Txt w.params K mg t):aU P w K mg base 4 "held" ["rule", "grid", "window"] L3.lX:=aO T.OT T.Pd Ly L3.GY L3.Ky (λ_ _ _ _ _ _ _ _=>by walk_at "b3") λ_ _ _ _ _ _ hr hu=>
 ao (bQ (qe (ar (Kb T) hr rfl (ae (af 2) (ae (aH rfl T.HA) (aj))))) (ay (aF (aH rfl T.HA))) (a8)) (ao (bQ (qe (ar (Kb T) hr rfl (ae (ar (wB T) hr rfl (ae (af 0) (aj))) (ae (af 2) (aj))))) (ay (aF (ar (mR T) hr rfl (ae (ar (wB T) hr rfl (ae (af 0) (aj))) (ae (af 1) (aj)))))) (a8)) (ay (aF (ar (mR T) hr rfl (ae (af 2) (ae (af 1) (aj)))))))
theorem jB:aK ["rule", "grid", "window", "share", "heard", "nearer", "factor"] ["rule", "grid", "window", "share", "heard"] (aw qA):=by walk_at "sc"
theorem Bm (T:Txt w.params K mg t):aU P w K mg base 5 "heard_by" ["rule", "grid", "window", "share", "heard"] L3.gF:=aO T.A3 T.AL jB L3.uW L3.xF (λ_ _ _ _ _ _ _ _=>by walk_at "b5") λ_ _ _ _ _ _ hr hu=>
 ao (bQ (qe (ar (EL T) hr rfl (ae (af 0) (ae (af 4) (aj))))) (ay (aF (aT (ae (af 2) (ae (af 3) (aj)))))) (a8)) (ao (aD 5 jB.nd (ar (sL T) hr rfl (ae (af 0) (ae (af 1) (ae (af 3) (ae (af 4) (aj))))))) (ao (aD 6 jB.nd (ar (wW T) hr rfl (ae (af 0) (ae (af 5) (ae (af 4) (aj)))))) (ao (bQ (nW (af 6) (df)) (ay (aF (aT (ae (ar (Ht T) hr rfl (ae (af 0) (ae (af 1) (ae (ar (Lu T) hr rfl (ae (af 0) (ae (af 2) (ae (af 4) (aj))))) (aj))))) (ae (af 5) (aj)))))) (a8)) (ay (aF (aT (ae (ar (Ht T) hr rfl (ae (af 0) (ae (af 1) (ae (ar (wx T) hr rfl (ae (af 2) (ae (af 6) (aj)))) (aj))))) (ae (af 5) (aj)))))))))
theorem sQ:aK ["way", "letter", "ahead"] ["way", "letter", "ahead"] (aw mP):=by walk_at "sc"
theorem wg (T:Txt w.params K mg t):aU P w K mg base 1 "put_behind" ["way", "letter", "ahead"] L3.fj:=aO T.vf T.wj sQ L3.rS L3.sY (λ_ _ _ _ _ _ _ _=>by walk_at "b3") λ_ _ _ _ _ _ hr hu=>
 ao (bQ (LW.lt (gR (nW (aq (af 0) (aH rfl T.Hy)) (df)) (h9 (jW (af 2) (aq (af 0) (aH rfl T.Hy)))))) (ay (aF (af 1))) (a8)) (ay (aF (aI (oB (af 1) (qf) (i6 (aH rfl T.jJ))) (aT (ae (le_int) (aj))))))
theorem gJ:aK ["way", "standing", "letters", "stands", "lost", "letter"] ["way", "standing", "letters"] (aw rH):=by walk_at "sc"
theorem Af (T:Txt w.params K mg t):aU P w K mg base 2 "taken_in" ["way", "standing", "letters"] L3.gG:=aO T.BW T.B0 gJ L3.uQ L3.xE (λ_ _ _ _ _ _ _ _=>by walk_at "b3") λ_ _ _ _ _ _ hr hu=>
 ao (aD 3 gJ.nd (aY i7 tX rfl T.vt rfl (ae (af 1) (aj)))) (ao (aD 4 gJ.nd (jR (aj))) (ao (eA Xe rfl (bD (af 2)) (fI 5 gJ.nd) (ay (bQ (TV (aX bc bF rfl T.dA rfl (ae (af 3) (aj))) (aq (af 0) (aH rfl T.Px))) (ay (eS (le_app (af 4) (af 5)))) (ay (eS (le_app (af 3) (ar (wg T) hr rfl (ae (af 0) (ae (af 5) (ae (aX bc bF rfl T.dA rfl (ae (af 3) (aj))) (aj))))))))))) (ay (aF (aT (ae (aY aQ bj rfl T.bK rfl (ae (af 3) (aj))) (ae (aY aQ bj rfl T.bK rfl (ae (af 4) (aj))) (aj))))))))
theorem iX:aK ["names", "owners", "last", "there", "behind"] ["names", "owners", "last"] (aw gN):=by walk_at "sc"
theorem wJ (T:Txt w.params K mg t):aU P w K mg base 1 "next_name" ["names", "owners", "last"] L3.fM:=aO T.yu T.ym iX L3.sZ L3.vP (λ_ _ _ _ _ _ _ _=>by walk_at "b3") λ_ _ _ _ _ _ hr hu=>
 ao (gw (fsc:=aw gN) 3 iX.nd ["names", "owners", "last", "there", "behind"] ["name", "owners"] 1 [1] rfl rfl (bD (af 0)) (λcl C s₀ H₀ ex=>⟨bf 0 (show (["name", "owners"]:List Str).Nodup from by decide +kernel),fq (Qm hu (af 0) (af 1)),af 0⟩) rfl rfl (by decide +kernel)) (ao (gw (fsc:=aw gN) 4 iX.nd ["names", "owners", "last", "there", "behind"] ["name", "last"] 1 [2] rfl rfl (bD (af 3)) (λcl C s₀ H₀ ex=>⟨bf 0 (show (["name", "last"]:List Str).Nodup from by decide +kernel),fq (RW (af 0) (af 1)),af 0⟩) rfl rfl (by decide +kernel)) (ay (aF (gA (kX (aX bc bF rfl T.dA rfl (ae (af 4) (aj))) (le_int)) (aq (af 4) (le_int)) (aq (af 3) (le_int))))))
theorem b9:aK ["way", "names", "standing", "last", "stands", "out", "name", "owners"] ["way", "names", "standing", "last"] (aw gc):=by walk_at "sc"
theorem qt (T:Txt w.params K mg t):aU P w K mg base 2 "out_by_turns" ["way", "names", "standing", "last"] L3.eg:=aO T.qX T.sE b9 L3.nN L3.o6 (λ_ _ _ _ _ _ _ _=>by walk_at "b4") λ_ _ _ _ _ _ hr hu=>
 ao (aD 4 b9.nd (aY i7 tX rfl T.vt rfl (ae (af 2) (aj)))) (ao (aD 5 b9.nd (jR (aj))) (ao (aD 6 b9.nd (af 3)) (ao (rn Xe (LW.lt (lK (kX (aX bc bF rfl T.dA rfl (ae (af 4) (aj))) (le_int)) (iU (jW (aX bc bF rfl T.dA rfl (ae (af 5) (aj))) (aq (af 0) (aH rfl T.BI)))))) (ao (nq (fsc:=aw gc) 7 b9.nd ["way", "names", "standing", "last", "stands", "out", "name", "owners"] ["letter"] 1 [] rfl rfl (af 4) (λcl C s₀ H₀ ex=>⟨bf 0 (show (["letter"]:List Str).Nodup from by decide +kernel),bJ,aq (af 0) (aH rfl T.b6)⟩) rfl rfl (by decide +kernel)) (ao (aD 6 b9.nd (ar (wJ T) hr rfl (ae (af 1) (ae (af 7) (ae (af 6) (aj)))))) (ay (eS (le_app (af 5) (Qb (af 4) (G5 hu (af 7) (af 6))))))))) (ay (aF (aT (ae (aY aQ bj rfl T.bK rfl (ae (af 5) (aj))) (ae (aY aQ bj rfl T.bK rfl (ae (af 4) (aj))) (ae (af 6) (aj))))))))))
theorem Aq:aK ["way", "names", "standing", "last"] ["way", "names", "standing", "last"] (aw tW):=by walk_at "sc"
theorem E3 (T:Txt w.params K mg t):aU P w K mg base 3 "let_out" ["way", "names", "standing", "last"] L3.i9:=aO T.Ff T.Eg Aq L3.xy L3.Bo (λ_ _ _ _ _ _ _ _=>by walk_at "b4") λ_ _ _ _ _ _ hr hu=>
 ao (bQ (lt_eq hu (aq (af 0) (aH rfl T.Q5)) (le_str)) (ay (aF (ar (qt T) hr rfl (ae (af 0) (ae (af 1) (ae (af 2) (ae (af 3) (aj)))))))) (a8)) (ay (aF (aT (ae (aY aQ bj rfl T.bK rfl (ae (oB (af 2) (qf) (i6 (aq (af 0) (aH rfl T.BI)))) (aj))) (ae (aY aQ bj rfl T.bK rfl (ae (oB (af 2) (i6 (aq (af 0) (aH rfl T.BI))) (qf)) (aj))) (ae (le_str) (aj)))))))
theorem jh:aK ["grid", "sender", "first"] ["grid", "sender"] (aw jv):=by walk_at "sc"
theorem qL (T:Txt w.params K mg t):aU P w K mg base 5 "begun_sender" ["grid", "sender"] L3.ei:=aO T.rF T.qz jh L3.mX L3.oY (λ_ _ _ _ _ _ _ _=>by walk_at "b2") λ_ _ _ _ _ _ hr hu=>
 ao (aD 2 jh.nd (ar (zH T) hr rfl (ae (aq (af 1) (aH rfl T.I0)) (ae (af 0) (aj))))) (ay (aF (aT (ae (aq (af 1) (aH rfl T.b6)) (ae (aq (af 1) (aH rfl T.K5)) (ae (aq (af 2) (le_int)) (ae (aq (af 2) (le_int)) (ae (le_int) (ae (aq (af 1) (aH rfl T.Pl)) (ae (aT (aj)) (ae (aT (aj)) (ae (le_int) (ae (le_int) (ae (le_int) (aj)))))))))))))))
theorem xr:aK ["plan", "ways"] ["plan"] (aw pF):=by walk_at "sc"
theorem KR (T:Txt w.params K mg t):aU P w K mg base 6 "begun" ["plan"] L3.me:=aO T.Lv T.Mt xr L3.Fd L3.HL (λ_ _ _ _ _ _ _ _=>by walk_at "b1") λ_ _ _ _ _ _ hr hu=>
 ao (aD 1 xr.nd (aY aQ bj rfl T.bK rfl (ae (bE (fsc:=aw pF) ["plan", "ways"] ["way"] 1 [] rfl rfl (bD (aq (af 0) (aH rfl T.vh))) (λcl C s₀ H₀ ex=>⟨bf 0 (show (["way"]:List Str).Nodup from by decide +kernel),bJ,aT (ae (aT (aj)) (ae (aT (aj)) (ae (le_str) (aj))))⟩) rfl rfl (by decide +kernel)) (aj)))) (ay (aF (aT (ae (af 1) (ae (aY aQ bj rfl T.bK rfl (ae (bE (fsc:=aw pF) ["plan", "ways"] ["sender", "plan"] 1 [0] rfl rfl (bD (aq (af 0) (aH rfl T.tT))) (λcl C s₀ H₀ ex=>⟨bf 0 (show (["sender", "plan"]:List Str).Nodup from by decide +kernel),bJ,ar (qL T) hr rfl (ae (aq (af 1) (aH rfl T.FT)) (ae (af 0) (aj)))⟩) rfl rfl (by decide +kernel)) (aj))) (aj))))))
theorem fW:aK ["state", "name", "count", "way"] ["state", "name"] (aw j8):=by walk_at "sc"
theorem ya (T:Txt w.params K mg t):aU P w K mg base 1 "under_way" ["state", "name"] L3.fP:=aO T.yq T.xZ fW L3.sS L3.vn (λ_ _ _ _ _ _ _ _=>by walk_at "b2") λ_ _ _ _ _ _ hr hu=>
 ao (aD 2 fW.nd (le_int)) (ao (eA Xe rfl (bD (aq (af 0) (aH rfl T.mf))) (fI 3 fW.nd) (ay (E1 2 fW.nd (aX bc bF rfl T.dA rfl (ae (bE (fsc:=aw j8) ["state", "name", "count", "way"] ["letter", "name"] 1 [1] rfl rfl (bD (aI (aq (af 3) (aH rfl T.xj)) (aq (af 3) (aH rfl T.qH)))) (λcl C s₀ H₀ ex=>⟨bf 0 (show (["letter", "name"]:List Str).Nodup from by decide +kernel),fq (lt_eq hu (aq (af 0) (aH rfl T.b6)) (af 1)),af 0⟩) rfl rfl (by decide +kernel)) (aj)))))) (ay (aF (af 2))))
theorem xP:aK ["kept", "places"] ["kept", "places"] (aw qQ):=by walk_at "sc"
theorem zU (T:Txt w.params K mg t):aU P w K mg base 1 "new_ones" ["kept", "places"] L3.gK:=aO T.BH T.A0 xP L3.uX L3.yE (λ_ _ _ _ _ _ _ _=>by walk_at "b2") λ_ _ _ _ _ _ hr hu=>
 ay (aF (gA (nW (aq (af 0) (aH rfl T.rT)) (df)) (af 1) (aX (Ei rfl) Hj rfl T.TF rfl (ae (af 1) (ae (aq (af 0) (aH rfl T.rT)) (aj))))))
theorem eE:aK ["kept", "places", "old", "count", "first", "left", "filled"] ["kept", "places"] (aw qu):=by walk_at "sc"
theorem Ac (T:Txt w.params K mg t):aU P w K mg base 2 "sent_off" ["kept", "places"] L3.gP:=aO T.zK T.zN eE L3.u6 L3.xt (λ_ _ _ _ _ _ _ _=>by walk_at "b2") λ_ _ _ _ _ _ hr hu=>
 ao (aD 2 eE.nd (oB (aq (af 0) (aH rfl T.vX)) (qf) (i6 (af 1)))) (ao (aD 3 eE.nd (ar (zU T) hr rfl (ae (af 0) (ae (ff (af 1) (aX bc bF rfl T.dA rfl (ae (af 2) (aj)))) (aj))))) (ao (aD 4 eE.nd (aq (af 0) (aH rfl T.Ae))) (ao (aD 5 eE.nd (gA (nW (aq (af 0) (aH rfl T.rT)) (df)) (df) (ff (aq (af 0) (aH rfl T.rT)) (af 3)))) (ao (aD 6 eE.nd (aI (aI (oB (af 0) (qf) (i6 (aH rfl T.Ae))) (aT (ae (aI (af 4) (af 3)) (ae (af 5) (ae (oB (aq (af 0) (aH rfl T.vX)) (i6 (aX bc bF rfl T.dA rfl (ae (af 2) (aj)))) (qf)) (aj)))))) (oB (af 0) (i6 (aH rfl T.pV)) (qf)))) (ay (aF (aT (ae (af 6) (ae (aI (af 2) (Mk rfl rfl T.bK rfl T.pM (af 4) (aI (af 4) (af 3)))) (aj))))))))))
theorem iz:aK ["grid", "sender", "kept", "state", "heard", "told", "again", "ready"] ["grid", "sender", "kept", "state"] (aw zE):=by walk_at "sc"
theorem G3 (T:Txt w.params K mg t):aU P w K mg base 6 "beaten" ["grid", "sender", "kept", "state"] L3.kf:=aO T.Ki T.HN iz L3.AF L3.Fi (λ_ _ _ _ _ _ _ _=>by walk_at "b4") λ_ _ _ _ _ _ hr hu=>
 ao (bQ (oj hu (aq (af 2) (aH rfl T.Iv)) (le_int)) (ay (aF (aT (ae (af 2) (ae (aT (aj)) (aj)))))) (a8)) (ao (aD 4 iz.nd (aT (ae (aq (af 2) (aH rfl T.Gm)) (ae (aq (af 2) (aH rfl T.yd)) (ae (aX bc bF rfl T.dA rfl (ae (aq (af 2) (aH rfl T.pV)) (aj))) (ae (aq (af 2) (aH rfl T.HD)) (aj))))))) (ao (aD 5 iz.nd (ar (Bm T) hr rfl (ae (aq (af 1) (aH rfl T.I0)) (ae (af 0) (ae (aq (af 2) (aH rfl T.wA)) (ae (aq (af 2) (aH rfl T.KN)) (ae (af 4) (aj)))))))) (ao (aD 6 iz.nd (aY aQ bj rfl T.bK rfl (ae (yt rfl T.qJ rfl (ae (aI (aq (af 2) (aH rfl T.vX)) (aq (af 2) (aH rfl T.pV))) (aj))) (aj)))) (ao (aD 7 iz.nd (aT (ae (aq (af 2) (aH rfl T.b6)) (ae (aq (af 2) (aH rfl T.Iv)) (ae (aq (af 5) (le_int)) (ae (aq (af 5) (le_int)) (ae (aq (af 2) (aH rfl T.Ae)) (ae (aq (af 2) (aH rfl T.rT)) (ae (af 6) (ae (aT (aj)) (ae (le_int) (ae (le_int) (ae (le_int) (aj)))))))))))))) (ay (aF (ar (Ac T) hr rfl (ae (af 7) (ae (aX (nH rfl) rj rfl T.xp rfl (ae (le_int) (ae (ff (ar (AW T) hr rfl (ae (aq (af 5) (le_int)) (aj))) (ar (ya T) hr rfl (ae (af 3) (ae (aq (af 2) (aH rfl T.b6)) (aj))))) (aj)))) (aj))))))))))
theorem cN:aK ["senders", "numbers", "sent", "turn", "sender", "own"] ["senders", "numbers"] (aw fz):=by walk_at "sc"
theorem pA (T:Txt w.params K mg t):aU P w K mg base 1 "sent_in_order" ["senders", "numbers"] L3.dH:=aO T.pB T.pz cN L3.lW L3.m8 (λ_ _ _ _ _ _ _ _=>by walk_at "b2") λ_ _ _ _ _ _ hr hu=>
 ao (aD 2 cN.nd (jR (aj))) (ao (eA Xe rfl (nL rfl T.pM (DG rfl rfl T.xp (bE (fsc:=aw fz) ["senders", "numbers", "sent", "turn", "sender", "own"] ["own"] 1 [] rfl rfl (bD (af 1)) (λcl C s₀ H₀ ex=>⟨bf 0 (show (["own"]:List Str).Nodup from by decide +kernel),bJ,aX bc bF rfl T.dA rfl (ae (af 0) (aj))⟩) rfl rfl (by decide +kernel)) (le_int))) (fI 3 cN.nd) (ay (eA Xe rfl (gO rfl T.ow (ae (af 0) (ae (af 1) (aj)))) (g9 rfl (a7 4 cN.nd (a7 5 cN.nd (fo)))) (ay (bQ (jW (af 3) (aX bc bF rfl T.dA rfl (ae (af 5) (aj)))) (ay (eS (le_app (af 2) (aT (ae (aq (aq (af 4) (aH rfl T.IH)) (le_int)) (ae (aT (ae (aq (af 4) (aH rfl T.b6)) (ae (aq (af 5) (af 3)) (ae (le_int) (ae (le_int) (ae (le_int) (aj))))))) (aj))))))) (a8)))))) (ay (aF (AK (af 2)))))
theorem kz:aK ["way", "names", "kept", "sent", "came", "held", "told"] ["way", "names", "kept", "sent"] (aw rR):=by walk_at "sc"
theorem FW (T:Txt w.params K mg t):aU P w K mg base 4 "passed" ["way", "names", "kept", "sent"] L3.kh:=aO T.Fs T.G4 kz L3.A8 L3.D4 (λ_ _ _ _ _ _ _ _=>by walk_at "b4") λ_ _ _ _ _ _ hr hu=>
 ao (aD 4 kz.nd (aI (aq (af 2) (aH rfl T.xj)) (aY aQ bj rfl T.bK rfl (ae (bE (fsc:=aw rR) ["way", "names", "kept", "sent", "came", "held", "told"] ["first", "letter", "way"] 2 [0] rfl rfl (bD (af 3)) (λcl C s₀ H₀ ex=>⟨jc rfl (bN 0 (show (["first", "letter", "way"]:List Str).Nodup from by decide +kernel) (bN 1 (show (["first", "letter", "way"]:List Str).Nodup from by decide +kernel) (gx))),fq (lt_eq hu (af 0) (aq (af 2) (aH rfl T.b6))),af 1⟩) rfl rfl (by decide +kernel)) (aj))))) (ao (aD 5 kz.nd (ar (Af T) hr rfl (ae (af 0) (ae (aq (af 2) (aH rfl T.qH)) (ae (af 4) (aj)))))) (ao (aD 6 kz.nd (ar (E3 T) hr rfl (ae (af 0) (ae (af 1) (ae (aq (af 5) (le_int)) (ae (aq (af 2) (aH rfl T.QC)) (aj))))))) (ay (aF (aT (ae (af 4) (ae (aq (af 5) (le_int)) (ae (aq (af 6) (le_int)) (ae (aq (af 6) (le_int)) (ae (aq (af 6) (le_int)) (aj)))))))))))
theorem kR:aK ["roads", "letter", "road"] ["roads", "letter"] (aw l8):=by walk_at "sc"
theorem iO (T:Txt w.params K mg t):aU P w K mg base 1 "way_behind" ["roads", "letter"] L3.da:=aO T.uN T.vD kR L3.r8 L3.sR (λ_ _ _ _ _ _ _ _=>by walk_at "b2") λ_ _ _ _ _ _ hr hu=>
 ao (aD 2 kR.nd (cI hu (af 0) (aq (af 1) (aH rfl T.b6)))) (ay (aF (gA (jW (aI (aq (af 1) (aH rfl T.Cj)) (le_int)) (aX bc bF rfl T.dA rfl (ae (af 2) (aj)))) (aq (af 2) (aI (aq (af 1) (aH rfl T.Cj)) (le_int))) (df))))
theorem cU:aK ["way", "roads", "went", "events", "place", "letter", "word"] ["way", "roads", "went"] (aw oi):=by walk_at "sc"
theorem yG (T:Txt w.params K mg t):aU P w K mg base 2 "events_of" ["way", "roads", "went"] L3.fY:=aO T.w4 T.yN cU L3.tE L3.vF (λ_ _ _ _ _ _ _ _=>by walk_at "b3") λ_ _ _ _ _ _ hr hu=>
 ao (aD 3 cU.nd (jR (aj))) (ao (eA Xe rfl (Me rfl T.yj (ae (aq (af 2) (le_int)) (aj))) (g9 rfl (a7 4 cU.nd (a7 5 cU.nd (fo)))) (ao (aD 6 cU.nd (gA (jW (af 4) (ff (aX bc bF rfl T.dA rfl (ae (aq (af 2) (le_int)) (aj))) (aX bc bF rfl T.dA rfl (ae (aq (af 2) (le_int)) (aj))))) (le_str) (le_str))) (ay (eS (le_app (af 3) (aT (ae (af 6) (ae (aq (af 5) (aH rfl T.b6)) (ae (aq (af 5) (aH rfl T.j4)) (ae (aq (af 0) (aH rfl T.b6)) (aj))))))))))) (ao (eA Xe rfl (bD (aq (af 2) (le_int))) (fI 5 cU.nd) (ao (aD 6 cU.nd (gA (nW (ar (iO T) hr rfl (ae (af 1) (ae (af 5) (aj)))) (df)) (le_str) (le_str))) (ay (eS (le_app (af 3) (aT (ae (af 6) (ae (aq (af 5) (aH rfl T.b6)) (ae (aq (af 5) (aH rfl T.j4)) (ae (aq (af 0) (aH rfl T.b6)) (aj))))))))))) (ay (aF (AK (af 3))))))
theorem Kr:aK ["letter", "hops"] ["letter", "hops"] (aw Hf):=by walk_at "sc"
theorem Jj (T:Txt w.params K mg t):aU P w K mg base 1 "aged" ["letter", "hops"] L3.mI:=aO T.Ph T.QL Kr L3.HV L3.LC (λ_ _ _ _ _ _ _ _=>by walk_at "b2") λ_ _ _ _ _ _ hr hu=>
 ay (aF (aT (ae (aq (af 0) (aH rfl T.b6)) (ae (aq (af 0) (aH rfl T.j4)) (ae (aI (aq (af 0) (aH rfl T.Ou)) (le_int)) (ae (aI (aq (af 0) (aH rfl T.Cj)) (af 1)) (ae (aq (af 0) (aH rfl T.jJ)) (aj))))))))
theorem mG:aK ["way", "roads", "went", "out", "coming"] ["way", "roads", "went", "out"] (aw gS):=by walk_at "sc"
theorem yW (T:Txt w.params K mg t):aU P w K mg base 2 "way_after" ["way", "roads", "went", "out"] L3.fN:=aO T.zG T.zh mG L3.tq L3.vE (λ_ _ _ _ _ _ _ _=>by walk_at "b4") λ_ _ _ _ _ _ hr hu=>
 ao (nq (fsc:=aw gS) 4 mG.nd ["way", "roads", "went", "out", "coming"] ["letter", "roads", "way"] 1 [1,0] rfl rfl (af 3) (λcl C s₀ H₀ ex=>⟨bf 0 (show (["letter", "roads", "way"]:List Str).Nodup from by decide +kernel),fq (lt_eq hu (ar (iO T) hr rfl (ae (af 1) (ae (af 0) (aj)))) (aq (af 2) (aH rfl T.b6))),ar (Jj T) hr rfl (ae (af 0) (ae (le_int) (aj)))⟩) rfl rfl (by decide +kernel)) (ay (aF (aT (ae (aY aQ bj rfl T.bK rfl (ae (af 4) (aj))) (ae (aY aQ bj rfl T.bK rfl (ae (bE (fsc:=aw gS) ["way", "roads", "went", "out", "coming"] ["letter"] 1 [] rfl rfl (bD (aq (af 2) (le_int))) (λcl C s₀ H₀ ex=>⟨bf 0 (show (["letter"]:List Str).Nodup from by decide +kernel),bJ,ar (Jj T) hr rfl (ae (af 0) (ae (le_int) (aj)))⟩) rfl rfl (by decide +kernel)) (aj))) (ae (aq (af 2) (le_int)) (aj)))))))
theorem wc:aK ["sender", "due"] ["sender", "due"] (aw oU):=by walk_at "sc"
theorem w6 (T:Txt w.params K mg t):aU P w K mg base 1 "due_after" ["sender", "due"] L3.fJ:=aO T.xX T.wF wc L3.sN L3.ve (λ_ _ _ _ _ _ _ _=>by walk_at "b2") λ_ _ _ _ _ _ hr hu=>
 ao (bQ (nW (af 1) (df)) (ay (aF (df))) (a8)) (ay (aF (gA (lt_eq hu (af 1) (le_int)) (ff (aq (af 0) (aH rfl T.Qp)) (le_int)) (ff (af 1) (le_int)))))
theorem bR:aK ["sender", "kept", "lost", "taken", "numbers", "own", "marked", "wait", "heard", "start"] ["sender", "kept", "lost", "taken"] (aw cP):=by walk_at "sc"
theorem rf (T:Txt w.params K mg t):aU P w K mg base 2 "sender_after" ["sender", "kept", "lost", "taken"] L3.d9:=aO T.qR T.rC bR L3.nB L3.pC (λ_ _ _ _ _ _ _ _=>by walk_at "b4") λ_ _ _ _ _ _ hr hu=>
 ao (nq (fsc:=aw cP) 4 bR.nd ["sender", "kept", "lost", "taken", "numbers", "own", "marked", "wait", "heard", "start"] ["letter", "sender"] 1 [0] rfl rfl (af 2) (λcl C s₀ H₀ ex=>⟨bf 0 (show (["letter", "sender"]:List Str).Nodup from by decide +kernel),fq (lt_eq hu (aq (af 0) (aH rfl T.b6)) (aq (af 1) (aH rfl T.b6))),aq (af 0) (aH rfl T.j4)⟩) rfl rfl (by decide +kernel)) (ao (gw (fsc:=aw cP) 5 bR.nd ["sender", "kept", "lost", "taken", "numbers", "own", "marked", "wait", "heard", "start"] ["letter", "sender"] 1 [0] rfl rfl (bD (af 3)) (λcl C s₀ H₀ ex=>⟨bf 0 (show (["letter", "sender"]:List Str).Nodup from by decide +kernel),fq (lt_eq hu (aq (af 0) (aH rfl T.b6)) (aq (af 1) (aH rfl T.b6))),af 0⟩) rfl rfl (by decide +kernel)) (ao (aD 6 bR.nd (aX (tZ rfl) xV rfl T.Oq rfl (ae (bE (fsc:=aw cP) ["sender", "kept", "lost", "taken", "numbers", "own", "marked", "wait", "heard", "start"] ["letter"] 1 [] rfl rfl (bD (af 5)) (λcl C s₀ H₀ ex=>⟨bf 0 (show (["letter"]:List Str).Nodup from by decide +kernel),bJ,aq (af 0) (aH rfl T.jJ)⟩) rfl rfl (by decide +kernel)) (aj)))) (ao (aD 7 bR.nd (DG rfl rfl T.xp (bE (fsc:=aw cP) ["sender", "kept", "lost", "taken", "numbers", "own", "marked", "wait", "heard", "start"] ["letter"] 1 [] rfl rfl (bD (af 5)) (λcl C s₀ H₀ ex=>⟨bf 0 (show (["letter"]:List Str).Nodup from by decide +kernel),bJ,ff (aq (af 0) (aH rfl T.Ou)) (aq (af 0) (aH rfl T.Cj))⟩) rfl rfl (by decide +kernel)) (le_int))) (ao (aD 8 bR.nd (aT (ae (ff (aI (aq (af 1) (aH rfl T.Gm)) (aX bc bF rfl T.dA rfl (ae (af 5) (aj)))) (af 6)) (ae (aI (aq (af 1) (aH rfl T.yd)) (af 6)) (ae (aX (nH rfl) rj rfl T.xp rfl (ae (aq (af 1) (aH rfl T.HD)) (ae (af 7) (aj)))) (aj)))))) (ao (aD 9 bR.nd (aT (ae (aq (af 1) (aH rfl T.b6)) (ae (ar (w6 T) hr rfl (ae (af 0) (ae (aq (af 1) (aH rfl T.Iv)) (aj)))) (aj))))) (ay (aF (aI (aI (aI (af 9) (oB (af 1) (i6 (aH rfl T.wA)) (i6 (aH rfl T.pV)))) (aT (ae (aY aQ bj rfl T.bK rfl (ae (yt rfl T.qJ rfl (ae (aI (aq (af 1) (aH rfl T.pV)) (aY aQ bj rfl T.bK rfl (ae (af 4) (aj)))) (aj))) (aj))) (aj)))) (af 8)))))))))
theorem bA:aK ["plan", "state", "senders", "names", "roads", "beats", "sent", "went", "events", "lost", "out", "way", "told", "taken", "ways", "after"] ["plan", "state"] (aw cO):=by walk_at "sc"
theorem E2 (T:Txt w.params K mg t):aU P w K mg base 7 "stepped" ["plan", "state"] L3.iR:=aO T.DN T.EN bA L3.zc L3.AY (λ_ _ _ _ _ _ _ _=>by walk_at "b2") λ_ _ _ _ _ _ hr hu=>
 ao (aD 2 bA.nd (aq (af 0) (aH rfl T.tT))) (ao (aD 3 bA.nd (aY aQ bj rfl T.bK rfl (ae (bE (fsc:=aw cO) ["plan", "state", "senders", "names", "roads", "beats", "sent", "went", "events", "lost", "out", "way", "told", "taken", "ways", "after"] ["sender"] 1 [] rfl rfl (bD (af 2)) (λcl C s₀ H₀ ex=>⟨bf 0 (show (["sender"]:List Str).Nodup from by decide +kernel),bJ,aq (af 0) (aH rfl T.b6)⟩) rfl rfl (by decide +kernel)) (aj)))) (ao (aD 4 bA.nd (aY (lN rfl) rN rfl T.B8 rfl (ae (bE (fsc:=aw cO) ["plan", "state", "senders", "names", "roads", "beats", "sent", "went", "events", "lost", "out", "way", "told", "taken", "ways", "after"] ["sender"] 1 [] rfl rfl (bD (af 2)) (λcl C s₀ H₀ ex=>⟨bf 0 (show (["sender"]:List Str).Nodup from by decide +kernel),bJ,aT (ae (aq (af 0) (aH rfl T.b6)) (ae (aq (af 0) (aH rfl T.IH)) (aj)))⟩) rfl rfl (by decide +kernel)) (aj)))) (ao (gw (fsc:=aw cO) 5 bA.nd ["plan", "state", "senders", "names", "roads", "beats", "sent", "went", "events", "lost", "out", "way", "told", "taken", "ways", "after"] ["sender", "kept", "state", "plan"] 2 [1,0] rfl rfl (gO rfl T.ow (ae (af 2) (ae (aq (af 1) (aH rfl T.o4)) (aj)))) (λcl C s₀ H₀ ex=>⟨jc rfl (bN 0 (show (["sender", "kept", "state", "plan"]:List Str).Nodup from by decide +kernel) (bN 1 (show (["sender", "kept", "state", "plan"]:List Str).Nodup from by decide +kernel) (gx))),bJ,ar (G3 T) hr rfl (ae (aq (af 3) (aH rfl T.FT)) (ae (af 0) (ae (af 1) (ae (af 2) (aj)))))⟩) rfl rfl (by decide +kernel)) (ao (aD 6 bA.nd (ar (pA T) hr rfl (ae (af 2) (ae (bE (fsc:=aw cO) ["plan", "state", "senders", "names", "roads", "beats", "sent", "went", "events", "lost", "out", "way", "told", "taken", "ways", "after"] ["kept", "numbers"] 2 [] rfl rfl (bD (af 5)) (λcl C s₀ H₀ ex=>⟨jc rfl (bN 0 (show (["kept", "numbers"]:List Str).Nodup from by decide +kernel) (bN 1 (show (["kept", "numbers"]:List Str).Nodup from by decide +kernel) (gx))),bJ,af 1⟩) rfl rfl (by decide +kernel)) (aj))))) (ao (gw (fsc:=aw cO) 7 bA.nd ["plan", "state", "senders", "names", "roads", "beats", "sent", "went", "events", "lost", "out", "way", "told", "taken", "ways", "after"] ["way", "kept", "names", "sent"] 2 [3,6] rfl rfl (gO rfl T.ow (ae (aq (af 0) (aH rfl T.vh)) (ae (aq (af 1) (aH rfl T.mf)) (aj)))) (λcl C s₀ H₀ ex=>⟨jc rfl (bN 0 (show (["way", "kept", "names", "sent"]:List Str).Nodup from by decide +kernel) (bN 1 (show (["way", "kept", "names", "sent"]:List Str).Nodup from by decide +kernel) (gx))),bJ,ar (FW T) hr rfl (ae (af 0) (ae (af 2) (ae (af 1) (ae (af 3) (aj)))))⟩) rfl rfl (by decide +kernel)) (ao (Ga (fsc:=aw cO) 8 bA.nd ["plan", "state", "senders", "names", "roads", "beats", "sent", "went", "events", "lost", "out", "way", "told", "taken", "ways", "after"] ["first", "letter"] 2 [] rfl rfl (bD (af 6)) (λcl C s₀ H₀ ex=>⟨jc rfl (bN 0 (show (["first", "letter"]:List Str).Nodup from by decide +kernel) (bN 1 (show (["first", "letter"]:List Str).Nodup from by decide +kernel) (gx))),bJ,aT (ae (le_str) (ae (aq (af 1) (aH rfl T.b6)) (ae (aq (af 1) (aH rfl T.j4)) (ae (af 0) (aj)))))⟩) rfl rfl (by decide +kernel)) (ao (aD 9 bA.nd (jR (aj))) (ao (aD 10 bA.nd (jR (aj))) (ao (eA Xe rfl (gO rfl T.ow (ae (aq (af 0) (aH rfl T.vh)) (ae (af 7) (aj)))) (g9 rfl (a7 11 bA.nd (a7 12 bA.nd (fo)))) (ao (eS (pJ (af 8) (ar (yG T) hr rfl (ae (af 11) (ae (af 4) (ae (af 12) (aj))))))) (ao (eS (pJ (af 9) (aq (af 12) (le_int)))) (ay (eS (pJ (af 10) (aq (af 12) (le_int)))))))) (ao (aD 13 bA.nd (Ee (fsc:=aw cO) ["plan", "state", "senders", "names", "roads", "beats", "sent", "went", "events", "lost", "out", "way", "told", "taken", "ways", "after"] ["letter", "roads"] 1 [4] rfl rfl (af 10) (λcl C s₀ H₀ ex=>⟨bf 0 (show (["letter", "roads"]:List Str).Nodup from by decide +kernel),fq (nW (ar (iO T) hr rfl (ae (af 1) (ae (af 0) (aj)))) (df)),af 0⟩) rfl rfl (by decide +kernel))) (ao (gw (fsc:=aw cO) 14 bA.nd ["plan", "state", "senders", "names", "roads", "beats", "sent", "went", "events", "lost", "out", "way", "told", "taken", "ways", "after"] ["way", "told", "roads", "out"] 2 [4,10] rfl rfl (gO rfl T.ow (ae (aq (af 0) (aH rfl T.vh)) (ae (af 7) (aj)))) (λcl C s₀ H₀ ex=>⟨jc rfl (bN 0 (show (["way", "told", "roads", "out"]:List Str).Nodup from by decide +kernel) (bN 1 (show (["way", "told", "roads", "out"]:List Str).Nodup from by decide +kernel) (gx))),bJ,ar (yW T) hr rfl (ae (af 0) (ae (af 2) (ae (af 1) (ae (af 3) (aj)))))⟩) rfl rfl (by decide +kernel)) (ao (gw (fsc:=aw cO) 15 bA.nd ["plan", "state", "senders", "names", "roads", "beats", "sent", "went", "events", "lost", "out", "way", "told", "taken", "ways", "after"] ["sender", "beat", "lost", "taken"] 2 [9,13] rfl rfl (gO rfl T.ow (ae (af 2) (ae (af 5) (aj)))) (λcl C s₀ H₀ ex=>⟨jc rfl (bN 0 (show (["sender", "beat", "lost", "taken"]:List Str).Nodup from by decide +kernel) (bN 1 (show (["sender", "beat", "lost", "taken"]:List Str).Nodup from by decide +kernel) (gx))),bJ,ar (rf T) hr rfl (ae (af 0) (ae (aq (af 1) (le_int)) (ae (af 2) (ae (af 3) (aj)))))⟩) rfl rfl (by decide +kernel)) (ay (aF (aT (ae (aT (ae (aY aQ bj rfl T.bK rfl (ae (af 14) (aj))) (ae (aY aQ bj rfl T.bK rfl (ae (af 15) (aj))) (aj)))) (ae (AK (af 8)) (aj))))))))))))))))))
theorem w8:aK ["_law_script"] ["_law_script"] (aw rG):=by walk_at "sc"
theorem BV (T:Txt w.params K mg t):aU P w K mg base 1 "_law_pot" ["_law_script"] L3.pK:=aO T.BD T.BA w8 L3.Hw L3.NH (λ_ _ _ _ _ _ _ _=>by walk_at "b1") λ_ _ _ _ _ _ hr hu=>
 ay (aF (Nk (kE (JK rfl rfl T.vt rfl (ae (af 0) (aj))) (kE (le_int) (kE (le_int) (kE (le_int) (kE (le_int) (kE (le_int) (Mi)))))))))
theorem j7:aK ["_law_number", "_law_turn", "_law_one", "_law_two"] ["_law_number", "_law_turn"] (aw qO):=by walk_at "sc"
theorem qk (T:Txt w.params K mg t):aU P w K mg base 1 "_law_mix" ["_law_number", "_law_turn"] L3.ja:=aO T.Ap T.Ax j7 L3.J6 L3.Mj (λ_ _ _ _ _ _ _ _=>by walk_at "b2") λ_ _ _ _ _ _ hr hu=>
 ao (aD 2 j7.nd (f9 (le_mul (aI (aI (f9 (af 0) (le_int)) (le_mul (le_int) (af 1))) (le_int)) (le_int)) (le_int))) (ao (aD 3 j7.nd (f9 (le_mul (af 2) (af 2)) (le_int))) (ay (aF (f9 (le_mul (aI (af 3) (af 1)) (le_int)) (le_int)))))
theorem iP:aK ["_law_pot_here", "_law_many", "_law_cell", "_law_digit"] ["_law_pot_here", "_law_many"] (aw oQ):=by walk_at "sc"
theorem aC (T:Txt w.params K mg t):aU P w K mg base 2 "_law_take" ["_law_pot_here", "_law_many"] iZ:=aO T.xQ T.xH iP sU vH (λ_ _ _ _ _ _ _ _=>by walk_at "b2") λ_ _ _ _ _ _ hr hu=>
 ao (lr hu (af 0) (le_str) (le_int)) (ao (bQ (LW.lt (lK (LW.lt (gR (lt_eq hu (cI hu (af 0) (le_str)) (le_int)) (h9 (lt_eq hu (cI hu (af 0) (le_str)) (le_int))))) (iU (jW (cI hu (af 0) (le_str)) (aX bc bF rfl T.dA rfl (ae (cI hu (af 0) (le_str)) (aj))))))) (ao (aD 2 iP.nd (aX sF vK rfl T.IA rfl (ae (aq (cI hu (af 0) (le_str)) (cI hu (af 0) (le_str))) (aj)))) (ao (lr hu (af 0) (le_str) (le_int)) (ao (mM hu (af 0) (le_str) (le_mul (af 2) (aY EE NI rfl T.SO rfl (ae (Tg (af 2) (le_pow (le_int) (le_int))) (aj))))) (ao (mM hu (af 0) (le_str) (le_int)) (ay (mM hu (af 0) (le_str) (ar (qk T) hr rfl (ae (aI (cI hu (af 0) (le_str)) (af 2)) (ae (cI hu (af 0) (le_str)) (aj)))))))))) (a8)) (ao (bQ (LW.lt (lK (kX (cI hu (af 0) (le_str)) (le_int)) (iU (jW (cI hu (af 0) (le_str)) (le_int))))) (ao (lr hu (af 0) (le_str) (le_int)) (ao (aD 3 iP.nd (f9 (cI hu (af 0) (le_str)) (af 1))) (ao (mM hu (af 0) (le_str) (hE (cI hu (af 0) (le_str)) (af 1))) (ay (aF (af 3)))))) (a8)) (ao (mM hu (af 0) (le_str) (ar (qk T) hr rfl (ae (cI hu (af 0) (le_str)) (ae (cI hu (af 0) (le_str)) (aj))))) (ay (aF (f9 (hE (cI hu (af 0) (le_str)) (le_int)) (af 1)))))))
theorem fk:aK ["_law_pot_here", "_law_many", "_law_words", "_law_first", "_law_step"] ["_law_pot_here", "_law_many"] (aw iM):=by walk_at "sc"
theorem lV (T:Txt w.params K mg t):aU P w K mg base 3 "_law_names" ["_law_pot_here", "_law_many"] L3.ir:=aO T.vz T.vJ fk L3.Cc L3.EI (λ_ _ _ _ _ _ _ _=>by walk_at "b2") λ_ _ _ _ _ _ hr hu=>
 ao (aD 2 fk.nd (dJ (ae (le_str) (ae (le_str) (ae (le_str) (ae (le_str) (ae (le_str) (ae (le_str) (ae (le_str) (ae (le_str) (ae (le_str) (ae (le_str) (ae (le_str) (ae (le_str) (ae (le_str) (ae (le_str) (ae (le_str) (ae (le_str) (aj))))))))))))))))))) (ao (zL (aT (ae (ar (aC T) hr rfl (ae (af 0) (ae (le_int) (aj)))) (ae (aI (le_int) (ar (aC T) hr rfl (ae (af 0) (ae (le_int) (aj))))) (aj)))) (g9 rfl (a7 3 fk.nd (a7 4 fk.nd (fo))))) (ay (aF (bE (fsc:=aw iM) ["_law_pot_here", "_law_many", "_law_words", "_law_first", "_law_step"] ["_law_k", "_law_words", "_law_first", "_law_step"] 1 [2,3,4] rfl rfl (nL rfl T.pM (af 1)) (λcl C s₀ H₀ ex=>⟨bf 0 (show (["_law_k", "_law_words", "_law_first", "_law_step"]:List Str).Nodup from by decide +kernel),bJ,aq (aI (af 1) (dJ (ae (le_str) (aj)))) (f9 (aI (af 2) (le_mul (af 3) (af 0))) (le_int))⟩) rfl rfl (by decide +kernel)))))
theorem gf:aK ["_law_top", "_law_bottom", "_law_one", "_law_other"] ["_law_top", "_law_bottom"] (aw lq):=by walk_at "sc"
theorem dO (T:Txt w.params K mg t):aU P w K mg base 1 "_law_lowest" ["_law_top", "_law_bottom"] L3.b8:=aO T.sX T.tL gf L3.Ar L3.DU (λ_ _ _ _ _ _ _ _=>by walk_at "b2") λ_ _ _ _ _ _ hr hu=>
 ao (vO 2 3 rfl gf.nd (ae (af 0) (ae (af 1) (aj)))) (ao (rn Xe (kX (af 3) (le_int)) (ay (vO 2 3 rfl gf.nd (ae (af 3) (ae (f9 (af 2) (af 3)) (aj)))))) (ay (aF (aT (ae (hE (af 0) (af 2)) (ae (hE (af 1) (af 2)) (aj)))))))
theorem ix:aK ["_law_pot_here", "_law_low", "_law_most", "_law_bottom"] ["_law_pot_here", "_law_low", "_law_most"] (aw jk):=by walk_at "sc"
theorem jo (T:Txt w.params K mg t):aU P w K mg base 3 "_law_fraction" ["_law_pot_here", "_law_low", "_law_most"] L3.cR:=aO T.o9 T.oW ix L3.tH L3.vo (λ_ _ _ _ _ _ _ _=>by walk_at "b3") λ_ _ _ _ _ _ hr hu=>
 ao (aD 3 ix.nd (aq (dJ (ae (le_int) (ae (le_int) (ae (le_int) (ae (le_int) (ae (le_int) (ae (le_int) (aj)))))))) (ar (aC T) hr rfl (ae (af 0) (ae (le_int) (aj)))))) (ay (aF (ar (dO T) hr rfl (ae (aI (le_mul (af 1) (af 3)) (ar (aC T) hr rfl (ae (af 0) (ae (aI (le_mul (ff (af 2) (af 1)) (af 3)) (le_int)) (aj))))) (ae (af 3) (aj))))))
theorem cc:aK ["_law_pot_here", "_law_most", "_law_word", "_law_w", "_law_top", "_law_parts", "_law_up", "_law_down", "_law_low"] ["_law_pot_here", "_law_most"] (aw oH):=by walk_at "sc"
theorem yy (T:Txt w.params K mg t):aU P w K mg base 4 "_law_rule" ["_law_pot_here", "_law_most"] iN:=aO T.y1 T.zf cc sO vZ (λ_ _ _ _ _ _ _ _=>by walk_at "b2") λ_ _ _ _ _ _ hr hu=>
 ao (aD 2 cc.nd (aq (dJ (ae (le_str) (ae (le_str) (ae (le_str) (ae (le_str) (ae (le_str) (aj))))))) (ar (aC T) hr rfl (ae (af 0) (ae (le_int) (aj)))))) (ao (vO 3 4 rfl cc.nd (ae (ar (jo T) hr rfl (ae (af 0) (ae (le_int) (ae (af 1) (aj))))) (ae (ar (jo T) hr rfl (ae (af 0) (ae (le_int) (ae (af 1) (aj))))) (aj)))) (ao (bQ (kX (le_mul (aq (af 3) (le_int)) (aq (af 4) (le_int))) (le_mul (aq (af 4) (le_int)) (aq (af 3) (le_int)))) (ay (vO 3 4 rfl cc.nd (ae (af 4) (ae (af 3) (aj))))) (a8)) (ao (aD 5 cc.nd (aI (le_int) (ar (aC T) hr rfl (ae (af 0) (ae (le_int) (aj)))))) (ao (aD 6 cc.nd (ar (dO T) hr rfl (ae (aI (le_int) (ar (aC T) hr rfl (ae (af 0) (ae (le_mul (le_int) (af 5)) (aj))))) (ae (af 5) (aj))))) (ao (aD 7 cc.nd (ar (dO T) hr rfl (ae (aI (le_int) (ar (aC T) hr rfl (ae (af 0) (ae (af 5) (aj))))) (ae (aI (af 5) (le_int)) (aj))))) (ao (bQ (lt_eq hu (af 2) (le_str)) (ay (aF (aT (ae (af 2) (ae (af 3) (aj)))))) (a8)) (ao (bQ (lt_eq hu (af 2) (le_str)) (ay (aF (aT (ae (af 2) (ae (af 3) (ae (af 6) (ae (af 7) (ae (af 4) (aj))))))))) (a8)) (ao (bQ (lt_eq hu (af 2) (le_str)) (ay (aF (aT (ae (af 2) (ae (af 3) (ae (ar (dO T) hr rfl (ae (aI (aq (af 6) (le_int)) (aq (af 6) (le_int))) (ae (aq (af 6) (le_int)) (aj)))) (ae (af 7) (ae (af 4) (aj))))))))) (a8)) (ao (bQ (lt_eq hu (af 2) (le_str)) (ay (aF (aT (ae (af 2) (ae (af 3) (ae (af 6) (ae (ar (dO T) hr rfl (ae (aI (le_int) (ar (aC T) hr rfl (ae (af 0) (ae (af 5) (aj))))) (ae (af 5) (aj)))) (ae (af 4) (aj))))))))) (a8)) (ao (aD 8 cc.nd (ar (aC T) hr rfl (ae (af 0) (ae (le_int) (aj))))) (ay (aF (aT (ae (af 2) (ae (af 3) (ae (af 6) (ae (af 8) (ae (aI (af 8) (ar (aC T) hr rfl (ae (af 0) (ae (le_int) (aj))))) (ae (af 4) (aj))))))))))))))))))))
theorem dG:aK ["_law_pot_here", "_law_names_here", "_law_rows", "_law_name", "_law_pace", "_law_room", "_law_mark"] ["_law_pot_here", "_law_names_here"] (aw oS):=by walk_at "sc"
theorem y4 (T:Txt w.params K mg t):aU P w K mg base 3 "_law_ways" ["_law_pot_here", "_law_names_here"] L3.mq:=aO T.yZ T.xW dG L3.D2 L3.Iy (λ_ _ _ _ _ _ _ _=>by walk_at "b2") λ_ _ _ _ _ _ hr hu=>
 ao (aD 2 dG.nd (jR (aj))) (ao (eA Xe rfl (bD (af 1)) (fI 3 dG.nd) (ao (aD 4 dG.nd (aq (dJ (ae (le_int) (ae (le_int) (ae (le_int) (ae (le_int) (ae (aI (le_int) (ar (aC T) hr rfl (ae (af 0) (ae (le_int) (aj))))) (aj))))))) (ar (aC T) hr rfl (ae (af 0) (ae (le_int) (aj)))))) (ao (aD 5 dG.nd (aq (dJ (ae (aI (le_int) (ar (aC T) hr rfl (ae (af 0) (ae (le_int) (aj))))) (ae (aI (le_int) (ar (aC T) hr rfl (ae (af 0) (ae (le_int) (aj))))) (ae (aI (le_int) (ar (aC T) hr rfl (ae (af 0) (ae (le_int) (aj))))) (aj))))) (ar (aC T) hr rfl (ae (af 0) (ae (le_int) (aj)))))) (ao (aD 6 dG.nd (aq (dJ (ae (df) (ae (ar (aC T) hr rfl (ae (af 0) (ae (aI (af 5) (le_int)) (aj)))) (ae (ar (aC T) hr rfl (ae (af 0) (ae (le_int) (aj)))) (aj))))) (ar (aC T) hr rfl (ae (af 0) (ae (le_int) (aj)))))) (ay (eS (le_app (af 2) (aT (ae (af 3) (ae (af 4) (ae (af 5) (ae (af 6) (ae (aq (dJ (ae (le_str) (ae (le_str) (aj)))) (ar (aC T) hr rfl (ae (af 0) (ae (le_int) (aj))))) (aj)))))))))))))) (ay (aF (aY aQ bj rfl T.bK rfl (ae (af 2) (aj))))))
theorem dr:aK ["_law_pot_here", "_law_name", "_law_ways_here", "_law_most", "_law_road", "_law_beat", "_law_many"] ["_law_pot_here", "_law_name", "_law_ways_here", "_law_most"] (aw gZ):=by walk_at "sc"
theorem tI (T:Txt w.params K mg t):aU P w K mg base 5 "_law_sender" ["_law_pot_here", "_law_name", "_law_ways_here", "_law_most"] gq:=aO T.sV T.tm dr pk sy (λ_ _ _ _ _ _ _ _=>by walk_at "b4") λ_ _ _ _ _ _ hr hu=>
 ao (aD 4 dr.nd (aY aQ bj rfl T.bK rfl (ae (bE (fsc:=aw gZ) ["_law_pot_here", "_law_name", "_law_ways_here", "_law_most", "_law_road", "_law_beat", "_law_many"] ["_law_way", "_law_pot_here"] 1 [0] rfl rfl (bD (af 2)) (λcl C s₀ H₀ ex=>⟨bf 0 (show (["_law_way", "_law_pot_here"]:List Str).Nodup from by decide +kernel),fq (lt_eq hu (ar (aC T) hr rfl (ae (af 1) (ae (le_int) (aj)))) (le_int)),aq (af 0) (le_int)⟩) rfl rfl (by decide +kernel)) (aj)))) (ao (bQ (lt_eq hu (aX bc bF rfl T.dA rfl (ae (af 4) (aj))) (le_int)) (ay (aD 4 dr.nd (aT (ae (aq (aq (af 2) (ar (aC T) hr rfl (ae (af 0) (ae (aX bc bF rfl T.dA rfl (ae (af 2) (aj))) (aj))))) (le_int)) (aj))))) (a8)) (ao (aD 5 dr.nd (aq (dJ (ae (le_int) (ae (le_int) (ae (le_int) (ae (le_int) (ae (aI (le_int) (ar (aC T) hr rfl (ae (af 0) (ae (le_int) (aj))))) (aj))))))) (ar (aC T) hr rfl (ae (af 0) (ae (le_int) (aj)))))) (ao (aD 6 dr.nd (aq (dJ (ae (df) (ae (df) (ae (ar (aC T) hr rfl (ae (af 0) (ae (le_int) (aj)))) (ae (ar (aC T) hr rfl (ae (af 0) (ae (le_int) (aj)))) (aj)))))) (ar (aC T) hr rfl (ae (af 0) (ae (le_int) (aj)))))) (ay (aF (aT (ae (af 1) (ae (af 4) (ae (af 5) (ae (aq (dJ (ae (le_int) (ae (le_int) (ae (ar (aC T) hr rfl (ae (af 0) (ae (le_int) (aj)))) (ae (ar (aC T) hr rfl (ae (af 0) (ae (le_int) (aj)))) (aj)))))) (ar (aC T) hr rfl (ae (af 0) (ae (le_int) (aj))))) (ae (af 6) (ae (ar (yy T) hr rfl (ae (af 0) (ae (af 3) (aj)))) (aj)))))))))))))
theorem eR:aK ["_law_pot_here", "_law_grid", "_law_ways_here", "_law_most", "_law_names_here"] ["_law_pot_here"] (aw jV):=by walk_at "sc"
theorem yD (T:Txt w.params K mg t):aU P w K mg base 6 "_law_plan" ["_law_pot_here"] L3.mJ:=aO T.yp T.yI eR L3.EH L3.Fz (λ_ _ _ _ _ _ _ _=>by walk_at "b1") λ_ _ _ _ _ _ hr hu=>
 ao (aD 1 eR.nd (aq (dJ (ae (le_int) (ae (le_int) (ae (le_int) (ae (aI (le_int) (ar (aC T) hr rfl (ae (af 0) (ae (le_int) (aj))))) (aj)))))) (ar (aC T) hr rfl (ae (af 0) (ae (le_int) (aj)))))) (ao (aD 2 eR.nd (ar (y4 T) hr rfl (ae (af 0) (ae (ar (lV T) hr rfl (ae (af 0) (ae (aq (dJ (ae (le_int) (ae (le_int) (ae (le_int) (ae (le_int) (ae (le_int) (ae (le_int) (aj)))))))) (ar (aC T) hr rfl (ae (af 0) (ae (le_int) (aj))))) (aj)))) (aj))))) (ao (aD 3 eR.nd (aq (dJ (ae (le_int) (ae (le_int) (ae (le_int) (ae (le_int) (ae (le_int) (aj))))))) (ar (aC T) hr rfl (ae (af 0) (ae (le_int) (aj)))))) (ao (aD 4 eR.nd (ar (lV T) hr rfl (ae (af 0) (ae (aq (dJ (ae (le_int) (ae (le_int) (ae (le_int) (ae (le_int) (ae (le_int) (ae (le_int) (ae (le_int) (ae (le_int) (aj)))))))))) (ar (aC T) hr rfl (ae (af 0) (ae (le_int) (aj))))) (aj))))) (ay (aF (aT (ae (af 1) (ae (af 2) (ae (aY aQ bj rfl T.bK rfl (ae (bE (fsc:=aw jV) ["_law_pot_here", "_law_grid", "_law_ways_here", "_law_most", "_law_names_here"] ["_law_name", "_law_pot_here", "_law_ways_here", "_law_most"] 1 [0,2,3] rfl rfl (bD (Gs rfl T.qJ rfl (ae (af 4) (aj)))) (λcl C s₀ H₀ ex=>⟨bf 0 (show (["_law_name", "_law_pot_here", "_law_ways_here", "_law_most"]:List Str).Nodup from by decide +kernel),bJ,ar (tI T) hr rfl (ae (af 1) (ae (af 0) (ae (af 2) (ae (af 3) (aj)))))⟩) rfl rfl (by decide +kernel)) (aj))) (aj))))))))))
theorem aL:aK ["_law_plan_here", "_law_state", "_law_rows", "_law_roads", "_law_seen", "_law_way", "_law_coming", "_law_standing", "_law_last", "_law_name", "_law_number", "_law_age", "_law_hop", "_law_marked"] ["_law_plan_here", "_law_state"] (aw c7):=by walk_at "sc"
theorem lP (T:Txt w.params K mg t):aU P w K mg base 1 "_law_letters_fit" ["_law_plan_here", "_law_state"] cJ:=aO T.lA T.lE aL jT kP (λ_ _ _ _ _ _ _ _=>by walk_at "b2") λ_ _ _ _ _ _ hr hu=>
 ao (aD 2 aL.nd (DF (aY (lN rfl) rN rfl T.B8 rfl (ae (bE (fsc:=aw c7) ["_law_plan_here", "_law_state", "_law_rows", "_law_roads", "_law_seen", "_law_way", "_law_coming", "_law_standing", "_law_last", "_law_name", "_law_number", "_law_age", "_law_hop", "_law_marked"] ["_law_row"] 1 [] rfl rfl (bD (aq (af 1) (le_int))) (λcl C s₀ H₀ ex=>⟨bf 0 (show (["_law_row"]:List Str).Nodup from by decide +kernel),bJ,aT (ae (aq (af 0) (le_int)) (ae (af 0) (aj)))⟩) rfl rfl (by decide +kernel)) (aj))))) (ao (aD 3 aL.nd (DF (aY (lN rfl) rN rfl T.B8 rfl (ae (bE (fsc:=aw c7) ["_law_plan_here", "_law_state", "_law_rows", "_law_roads", "_law_seen", "_law_way", "_law_coming", "_law_standing", "_law_last", "_law_name", "_law_number", "_law_age", "_law_hop", "_law_marked"] ["_law_sender_here"] 1 [] rfl rfl (bD (aq (af 0) (le_int))) (λcl C s₀ H₀ ex=>⟨bf 0 (show (["_law_sender_here"]:List Str).Nodup from by decide +kernel),bJ,aT (ae (aq (af 0) (le_int)) (ae (aq (af 0) (le_int)) (aj)))⟩) rfl rfl (by decide +kernel)) (aj))))) (ao (aD 4 aL.nd (Mm)) (ao (eA Xe rfl (gO rfl T.ow (ae (aq (af 0) (le_int)) (ae (aq (af 1) (le_int)) (aj)))) (OV rfl (wY (fI 5 aL.nd) (wY (g9 rfl (a7 6 aL.nd (a7 7 aL.nd (a7 8 aL.nd (fo))))) (NC)))) (ao (bQ (LW.lt (gR (kX (aX bc bF rfl T.dA rfl (ae (af 7) (aj))) (aq (af 5) (le_int))) (gR (LW.lt (lK (lt_eq hu (aq (af 5) (le_int)) (le_str)) (iU (oj hu (af 8) (le_str))))) (h9 (uj hu (af 8) (aI (aY (BE rfl) EB rfl T.vt rfl (ae (af 3) (aj))) (dJ (ae (le_str) (aj))))))))) (ay (aF (iF))) (a8)) (ay (eA Xe rfl (bD (aI (af 6) (af 7))) (g9 rfl (a7 9 aL.nd (a7 10 aL.nd (a7 11 aL.nd (a7 12 aL.nd (a7 13 aL.nd (fo))))))) (ao (bQ (LW.lt (gR (ng (lt_chain uL uH (cZ _) (cZ _) (le_int) (af 12) (aX bc bF rfl T.dA rfl (ae (iI hu (af 3) (af 9)) (aj))))) (gR (oj hu (aq (iI hu (af 3) (af 9)) (af 12)) (aq (af 5) (le_int))) (gR (uj hu (af 13) (aT (ae (le_int) (ae (le_int) (aj))))) (h9 (Uv (af 11) (ff (af 12) (le_int)))))))) (ay (aF (iF))) (a8)) (ao (bQ (LW.lt (gR (ng (lt_chain uL uH (cZ _) (cZ _) (le_int) (af 10) (aq (iI hu (af 2) (af 9)) (le_int)))) (h9 (Dd hu (ae (af 9) (ae (af 10) (aj))) (af 4))))) (ay (aF (iF))) (a8)) (ay (zk hu (af 4) (ae (af 9) (ae (af 10) (aj))) (iF))))))))) (ao (eA Xe rfl (Po (af 2)) (fI 9 aL.nd) (ay (eA Xe rfl (bD (aI (aq (iI hu (af 2) (af 9)) (le_int)) (aq (iI hu (af 2) (af 9)) (le_int)))) (fI 10 aL.nd) (ao (bQ (LW.lt (gR (ng (lt_chain uL uH (cZ _) (cZ _) (le_int) (af 10) (aq (iI hu (af 2) (af 9)) (le_int)))) (h9 (Dd hu (ae (af 9) (ae (af 10) (aj))) (af 4))))) (ay (aF (iF))) (a8)) (ay (zk hu (af 4) (ae (af 9) (ae (af 10) (aj))) (iF))))))) (ay (aF (iF)))))))
theorem a9:aK ["_law_plan_here", "_law_sender_here", "_law_row", "_law_sent", "_law_going", "_law_name", "_law_road", "_law_beat", "_law_begin", "_law_many", "_law_rule_here", "_law_window", "_law_greatest"] ["_law_plan_here", "_law_sender_here", "_law_row", "_law_sent", "_law_going"] (aw gr):=by walk_at "sc"
theorem lu (T:Txt w.params K mg t):aU P w K mg base 1 "_law_sender_fits" ["_law_plan_here", "_law_sender_here", "_law_row", "_law_sent", "_law_going"] cL:=aO T.lQ T.ly a9 jY kJ (λ_ _ _ _ _ _ _ _=>by walk_at "b5") λ_ _ _ _ _ _ hr hu=>
 ao (zL (af 1) (g9 rfl (a7 5 a9.nd (a7 6 a9.nd (a7 7 a9.nd (a7 8 a9.nd (a7 9 a9.nd (a7 10 a9.nd (fo))))))))) (ao (aD 11 a9.nd (aq (af 2) (le_int))) (ao (aD 12 a9.nd (gA (lt_eq hu (aq (af 10) (le_int)) (le_str)) (aq (af 10) (le_int)) (aq (af 10) (ff (aX bc bF rfl T.dA rfl (ae (af 10) (aj))) (le_int))))) (ao (bQ (LW.lt (gR (jW (aq (af 11) (le_int)) (aq (af 11) (le_int))) (gR (kX (le_mul (aq (af 11) (le_int)) (aq (af 12) (le_int))) (le_mul (aq (af 12) (le_int)) (aq (af 11) (le_int)))) (h9 (oj hu (f9 (aq (af 0) (le_int)) (aq (af 11) (le_int))) (le_int)))))) (ay (aF (iF))) (a8)) (ao (bQ (LW.lt (gR (oj hu (aq (af 2) (le_int)) (af 5)) (h9 (ng (lt_chain uL uH (cZ _) (cZ _) (le_int) (aq (af 2) (le_int)) (aX (nH rfl) rj rfl T.xp rfl (ae (af 7) (ae (aI (af 8) (le_int)) (aj))))))))) (ay (aF (iF))) (a8)) (ao (bQ (LW.lt (gR (LW.lt (lK (nW (af 9) (df)) (iU (xm (aq (af 2) (le_int)) (df))))) (h9 (LW.lt (lK (xm (af 9) (df)) (iU (oj hu (aI (aq (af 2) (le_int)) (aq (af 2) (le_int))) (af 9)))))))) (ay (aF (iF))) (a8)) (ay (aF (NW (le_eq hu (af 3) (le_int)) (GX (Um (af 4) (hE (aq (af 11) (le_int)) (aq (af 11) (le_int)))))))))))))
theorem gh:aK ["_law_pot_here", "_law_plan_here", "_law_most", "_law_many", "_law_wide"] ["_law_pot_here", "_law_plan_here", "_law_most"] (aw gY):=by walk_at "sc"
theorem tf (T:Txt w.params K mg t):aU P w K mg base 3 "_law_rounds" ["_law_pot_here", "_law_plan_here", "_law_most"] eQ:=aO T.tM T.tu gh oV qV (λ_ _ _ _ _ _ _ _=>by walk_at "b3") λ_ _ _ _ _ _ hr hu=>
 ao (aD 3 gh.nd (aI (le_int) (ar (aC T) hr rfl (ae (af 0) (ae (af 2) (aj)))))) (ao (aD 4 gh.nd (aX (tZ rfl) xV rfl T.Oq rfl (ae (bE (fsc:=aw gY) ["_law_pot_here", "_law_plan_here", "_law_most", "_law_many", "_law_wide"] ["_law_sender_here"] 1 [] rfl rfl (bD (aq (af 1) (le_int))) (λcl C s₀ H₀ ex=>⟨bf 0 (show (["_law_sender_here"]:List Str).Nodup from by decide +kernel),bJ,hE (aq (aq (aq (af 0) (le_int)) (le_neg (le_int))) (le_int)) (aq (aq (aq (af 0) (le_int)) (le_neg (le_int))) (le_int))⟩) rfl rfl (by decide +kernel)) (aj)))) (ay (aF (gA (jW (af 4) (le_int)) (af 3) (aI (le_int) (f9 (af 3) (le_int)))))))
theorem eJ:aK ["_law_script", "_law_pot_here", "_law_plan_here", "_law_state", "_law_k", "_law_going", "_law_coming", "_law_standing", "_law_last", "_law_events", "_law_sender_here", "_law_row", "_law_sent"] ["_law_script"] (aw DH):=by walk_at "sc"
theorem C4 (T:Txt w.params K mg t):lC P w K mg base CX0 8 t.JU t.NQ ["_law_script"] (lift K hX):=by
 refine NR (T:=FY) T.C4 eJ we (λcdv A outer s H E hr=>?_) Pf
 have hu:=hr.units
 exact ao (aD 1 eJ.nd (ar (BV T) hr rfl (ae (af 0) (aj)))) (ao (aD 2 eJ.nd (ar (yD T) hr rfl (ae (af 1) (aj)))) (ao (aD 3 eJ.nd (ar (KR T) hr rfl (ae (af 2) (aj)))) (ao (eA Xe rfl (nL rfl T.pM (ar (tf T) hr rfl (ae (af 1) (ae (af 2) (ae (le_int) (aj)))))) (fI 4 eJ.nd) (ao (aD 5 eJ.nd (jR (aj))) (ao (eA Xe rfl (bD (aq (af 3) (le_int))) (g9 rfl (a7 6 eJ.nd (a7 7 eJ.nd (a7 8 eJ.nd (fo))))) (ay (eS (pJ (af 5) (bE (fsc:=aw DH) ["_law_script", "_law_pot_here", "_law_plan_here", "_law_state", "_law_k", "_law_going", "_law_coming", "_law_standing", "_law_last", "_law_events", "_law_sender_here", "_law_row", "_law_sent"] ["_law_letter"] 1 [] rfl rfl (bD (aI (af 6) (af 7))) (λcl C s₀ H₀ ex=>⟨bf 0 (show (["_law_letter"]:List Str).Nodup from by decide +kernel),bJ,aq (af 0) (le_int)⟩) rfl rfl (by decide +kernel)))))) (ao (zL (ar (E2 T) hr rfl (ae (af 2) (ae (af 3) (aj)))) (g9 rfl (a7 3 eJ.nd (a7 9 eJ.nd (fo))))) (ao (bQ (ng (qe (ar (lP T) hr rfl (ae (af 2) (ae (af 3) (aj)))))) (ay (aF (iF))) (a8)) (ay (eA Xe rfl (gO rfl T.ow (ae (aq (af 2) (le_int)) (ae (aq (af 3) (le_int)) (aj)))) (g9 rfl (a7 10 eJ.nd (a7 11 eJ.nd (fo)))) (ao (aD 12 eJ.nd (aX bc bF rfl T.dA rfl (ae (bE (fsc:=aw DH) ["_law_script", "_law_pot_here", "_law_plan_here", "_law_state", "_law_k", "_law_going", "_law_coming", "_law_standing", "_law_last", "_law_events", "_law_sender_here", "_law_row", "_law_sent"] ["_law_event", "_law_sender_here"] 1 [10] rfl rfl (bD (af 9)) (λcl C s₀ H₀ ex=>⟨bf 0 (show (["_law_event", "_law_sender_here"]:List Str).Nodup from by decide +kernel),fq (LW.lt (lK (lt_eq hu (aq (af 0) (le_int)) (le_str)) (iU (lt_eq hu (aq (af 0) (le_int)) (aq (af 1) (le_int)))))),af 0⟩) rfl rfl (by decide +kernel)) (aj)))) (ay (bQ (ng (qe (ar (lu T) hr rfl (ae (af 2) (ae (af 10) (ae (af 11) (ae (af 12) (ae (aI (af 12) (le_count hu (af 5) (aq (af 10) (le_int)))) (aj))))))))) (ay (aF (iF))) (a8))))))))))) (ay (aF (iF))))))
end
theorem all_mk {l:zbC}{w:Xh}{K:Wj}{mg:Str->Option Wo}{fa:Addr}{t:Adr}(hfa:mg "law" = some (.ref fa))(T:Txt w.params K mg t):∃ fd:WV,(∀ (s:Wu) (v:Wo),zcU s fd ⟨[v],[]⟩ [("_law_script", v)])/\∀ base:Heap,K.In base->base.Ns X5 mg->lC l.prog w K mg base CX0 8 fa fd ["_law_script"] (lift K hX):=by
 have e:=hfa.symm.trans T.TQ
 injection e with e
 injection e with e
 subst e
 obtain ⟨oc,od,kV,dc,pm,an,cd,ct,sl,ed,_,_⟩:=T.C4.ex
 exact ⟨_,λs v=>.of_eq (by rw[ed];rfl),λbase _ _=>C4 T⟩
end Kk
namespace PySem.W.Fast
def tw768251462878723483:=0
def tw5602759091370897536:=0
def tw5717806777222746304:=0
def tw3585011286766520704:=0
def tw14538107676688491296:=0
def tw3976042738677331233:=0
def tw13530070635183227393:=0
def tw12693497809033184769:=0
def tw11435745482850157409:=0
def tw3199737987199762434:=0
def tw5282336589044914210:=0
def tw17531342927202122594:=0
def tw825320443781016739:=0
def tw13272003477696504003:=0
def tw7995107092543479107:=0
def tw2591037192550611555:=0
def tw5830685543359329636:=0
def tw10984235701701159396:=0
def tw11810441067996342084:=0
def tw6768407005500959781:=0
def tw15694153861084072293:=0
def tw13917975464615206629:=0
def tw15621480858624917606:=0
def tw7806871073282130438:=0
def tw16292531613409405926:=0
def tw3567534410811157543:=0
def tw11000931550646008967:=0
def tw12870904683364753799:=0
def tw15238491536411416263:=0
def tw2386769500498388136:=0
def tw11226000934463991976:=0
def tw5066149733659616904:=0
def tw11840033709894032168:=0
def tw11799259205497509768:=0
def tw7671871372560488360:=0
def tw16211491884352643113:=0
def tw7847169698955587145:=0
def tw11331081115770111689:=0
def tw7578036477077370314:=0
def tw6257975103759756970:=0
def tw4981759125482565610:=0
def tw8001750015423407435:=0
def tw8566392148385898315:=0
def tw15117225288303485004:=0
def tw13936832177591498060:=0
def tw14180151759245536716:=0
def tw12166352201757712908:=0
def tw12287541172387688044:=0
def tw5353427340673919916:=0
def tw1360279868807094285:=0
def tw17344617445870583053:=0
def tw6776845855048984141:=0
def tw7702653910043259565:=0
def tw5436571814212828398:=0
def tw4101772861478967758:=0
def tw16053851749054921326:=0
def tw5980093388521849582:=0
def tw10614201685759110287:=0
def tw11044972382777102735:=0
def tw3827222337089994191:=0
def tw4772485633626693583:=0
def tw3781102001470513168:=0
def tw12921010809156134960:=0
def tw17812474428516412912:=0
def tw7548766414439409136:=0
def tw18163128519788967760:=0
def tw14234241914202396528:=0
def tw17580188419839161232:=0
def tw4113939227397730321:=0
def tw14187474426603882513:=0
def tw3050027343857971313:=0
def tw15577184192664135825:=0
def tw5979668934474526961:=0
def tw12456561816012000529:=0
def tw14388588624808189297:=0
def tw14487454674779849649:=0
def tw9870632938033506354:=0
def tw4167769925627296850:=0
def tw15376927188941189266:=0
def tw17436762050342790450:=0
def tw10595454475829086610:=0
def tw4155069597661165234:=0
def tw6866872059523519250:=0
def tw5101226861819287346:=0
def tw9502019584078972786:=0
def tw8102570089537543058:=0
def tw3749416298689083411:=0
def tw983595291417464435:=0
def tw14643008240034004627:=0
def tw9257914654157590163:=0
def tw8273934223109465364:=0
def tw3838430698317989620:=0
def tw13601055273112916756:=0
def tw5320997925910453044:=0
def tw297068487559274356:=0
def tw10379793128296943572:=0
def tw17923632465908383830:=0
def tw2339869447472467254:=0
def tw8734934169014465174:=0
def tw13712896510493588535:=0
def tw13510777842779409591:=0
def tw661651421234148599:=0
def tw2160054761122757975:=0
def tw8313059306359919543:=0
def tw76343415228468472:=0
def tw2317565138502106872:=0
def tw1836694034706563896:=0
def tw6925309716440511320:=0
def tw17517595371922909016:=0
def tw1051416543955299353:=0
def tw1868036485985932377:=0
def tw17992865000877106809:=0
def tw9650706411369469242:=0
def tw1352622561623870810:=0
def tw9493737799118649818:=0
def tw16261799942908929690:=0
def tw5289931127584049978:=0
def tw10537153567249273627:=0
def tw15650974619802434427:=0
def tw10544702464378555644:=0
def tw1129862089808059772:=0
def tw3597687366979489180:=0
def tw11519121166406330812:=0
def tw8992976369344910429:=0
def tw14973055898744137981:=0
def tw2203316705026650557:=0
def tw11167643090047057341:=0
def tw8342974265037071869:=0
def tw14536329260787106397:=0
def tw17947381347829882461:=0
def tw14030698819371707005:=0
def tw12594468521169177341:=0
def tw1105464831695952669:=0
def tw1006338613642431550:=0
def tw6503297195255446494:=0
def tw12766924058571176926:=0
def tw9863053116724939807:=0
def tw12250758297480292671:=0
def tw8703844875559381631:=0
def tw17375301810107239295:=0
end PySem.W.Fast
open PySem PySem.W PyProof.Rows L2 L3
set_option maxRecDepth 100000 in
set_option maxHeartbeats 0 in
theorem PySem.Challenge.cw_swellways_k36_whole_states_fit_holds : PySem.Challenge.rw_swellways_k36_whole_states_fit.Holds := by
 w_on;o_law;k_head;(case hw=>w_witness2)
 k_fill
 refine L3.SD (l:=PySem.Challenge.rw_swellways_k36_whole_states_fit) (k:=8) (sp:=Kk.hX) (x := "_law_script") rfl rfl ⟨rfl,by decide,by decide⟩ (λw h Y=>PySem.W.kIn_of Y) Kk.nG ?F
 case F=>
  intro w mg fa h KX G hmg
  refine' Kk.all_mk (t:=⟨_,_,_,_,_,_,_,_,_,_,_,_,_,_,_,_,_,_,_,_,_,_,_,_,_,_,_,_,_,_,_,_,_,_,_,_,_,_,_,_,_,_,_,_,_,_,_,_,_,_,_,_,_,_,_,_,_,_,_,_,_,_,_,_,_,_,_,_,_,_,_,_,_,_,_,_,_,_,_,_,_,_,_,_,_,_,_,_,_,_,_,_,_,_,_,_,_,_,_,_⟩) hmg ⟨XH KX G ?_,aV ?_ ?_ ?_,XH KX G ?_,aV ?_ ?_ ?_,XH KX G ?_,aV ?_ ?_ ?_,XH KX G ?_,aV ?_ ?_ ?_,XH KX G ?_,aV ?_ ?_ ?_,XH KX G ?_,aV ?_ ?_ ?_,XH KX G ?_,aV ?_ ?_ ?_,XH KX G ?_,aV ?_ ?_ ?_,XH KX G ?_,aV ?_ ?_ ?_,XH KX G ?_,aV ?_ ?_ ?_,XH KX G ?_,aV ?_ ?_ ?_,XH KX G ?_,aV ?_ ?_ ?_,XH KX G ?_,aV ?_ ?_ ?_,XH KX G ?_,aV ?_ ?_ ?_,XH KX G ?_,aV ?_ ?_ ?_,XH KX G ?_,aV ?_ ?_ ?_,XH KX G ?_,aV ?_ ?_ ?_,XH KX G ?_,aV ?_ ?_ ?_,XH KX G ?_,aV ?_ ?_ ?_,XH KX G ?_,aV ?_ ?_ ?_,XH KX G ?_,aV ?_ ?_ ?_,XH KX G ?_,aV ?_ ?_ ?_,XH KX G ?_,aV ?_ ?_ ?_,XH KX G ?_,aV ?_ ?_ ?_,XH KX G ?_,aV ?_ ?_ ?_,XH KX G ?_,aV ?_ ?_ ?_,XH KX G ?_,aV ?_ ?_ ?_,XH KX G ?_,aV ?_ ?_ ?_,XH KX G ?_,aV ?_ ?_ ?_,XH KX G ?_,aV ?_ ?_ ?_,XH KX G ?_,aV ?_ ?_ ?_,XH KX G ?_,aV ?_ ?_ ?_,XH KX G ?_,aV ?_ ?_ ?_,XH KX G ?_,aV ?_ ?_ ?_,XH KX G ?_,aV ?_ ?_ ?_,XH KX G ?_,aV ?_ ?_ ?_,XH KX G ?_,aV ?_ ?_ ?_,XH KX G ?_,aV ?_ ?_ ?_,XH KX G ?_,aV ?_ ?_ ?_,XH KX G ?_,aV ?_ ?_ ?_,XH KX G ?_,aV ?_ ?_ ?_,XH KX G ?_,aV ?_ ?_ ?_,XH KX G ?_,aV ?_ ?_ ?_,XH KX G ?_,aV ?_ ?_ ?_,XH KX G ?_,aV ?_ ?_ ?_,XH KX G ?_,aV ?_ ?_ ?_,XH KX G ?_,aV ?_ ?_ ?_,XH KX G ?_,aV ?_ ?_ ?_,XH KX G ?_,aV ?_ ?_ ?_,XH KX G ?_,aV ?_ ?_ ?_,Yn KX G ?_,Yn KX G ?_,Yn KX G ?_,Yn KX G ?_,Yn KX G ?_,Yn KX G ?_,Yn KX G ?_,Yn KX G ?_,Yn KX G ?_,Yn KX G ?_,Yn KX G ?_,Yn KX G ?_,Yn KX G ?_,bw KX G ?_,bw KX G ?_,bw KX G ?_,bw KX G ?_,bw KX G ?_,bw KX G ?_,bw KX G ?_,bw KX G ?_,AA (its:=#[.int 1 _,.int 2 _]) (xs:=[V.int 1,V.int 2]) KX G ?_ ?_ ?_ ?_ ?_ (show 2<=sizeLine by decide) (.cons ⟨_,rfl⟩ (.cons ⟨_,rfl⟩ (.nil))) (λ_=>.cons (.int _) (.cons (.int _) (.nil))),bw KX G ?_,bw KX G ?_,bw KX G ?_,bw KX G ?_,bw KX G ?_,bw KX G ?_,bw KX G ?_,bw KX G ?_,bw KX G ?_,bw KX G ?_,AA (its:=#[.int 0 _,.int 1 _]) (xs:=[V.int 0,V.int 1]) KX G ?_ ?_ ?_ ?_ ?_ (show 2<=sizeLine by decide) (.cons ⟨_,rfl⟩ (.cons ⟨_,rfl⟩ (.nil))) (λ_=>.cons (.int _) (.cons (.int _) (.nil))),bw KX G ?_,AA (its:=#[.int 1 _,.int 1 _]) (xs:=[V.int 1,V.int 1]) KX G ?_ ?_ ?_ ?_ ?_ (show 2<=sizeLine by decide) (.cons ⟨_,rfl⟩ (.cons ⟨_,rfl⟩ (.nil))) (λ_=>.cons (.int _) (.cons (.int _) (.nil))),bw KX G ?_,bw KX G ?_,bw KX G ?_,bw KX G ?_,bw KX G ?_,bw KX G ?_,bw KX G ?_,bw KX G ?_,bw KX G ?_,bw KX G ?_,bw KX G ?_,bw KX G ?_,bw KX G ?_⟩
  all_goals try first | k_is | rfl
