import PyProof.Rows.All
import Wide.All
import OpenK.AllK
import Wide.FinOn
import Lean
import PyProof.EqAt
import PyProof.EqKinds
import PyProof.TupleCall
import PyProof.P3Eq
import PyProof.NeKinds
import PyProof.NeData
import PyProof.ZipIter
import PyProof.EnumMake
import PyProof.EnumFor
import OpenK.KTop
import PyProof.IsRules
import PyProof.AttrMissHeap
import PyProof.DictUpdate
import KE.KDictOf
import PyProof.Rows.SortStr
import PyProof.FString5
import PyProof.StrOps
import PyProof.ListRange
import PyProof.TupleOfGen
import PyProof.Rows.SumAny
import PyProof.Rows.CallKwBuiltin
import PyProof.StrLoop
import PyProof.StrWalks
import PyProof.StrOps2
import PyProof.SliceStr2
import PyProof.StrBlockI
import PyProof.StrLaws
import PyProof.StrBlock
import PyProof.StrBlockL
import PyProof.StrCalls2
import KE.KStrOpen
import KE.KDictList
import PyProof.DictValues
import PyProof.DictTruth
import PyProof.DictIter
import PyProof.DictWalks
import Wide.Seal
import PySem.Challenge.RW_swellways_k45_again_known
set_option Elab.async false
set_option linter.all false
set_option maxRecDepth 100000
set_option maxHeartbeats 4000000
def zzO (s:String):Lean.MacroM (Lean.TSyntax `tactic):=do
 let i:=fun (x:String)=>Lean.mkIdent x.toName
 let h:=i "h"
 let d:=i "ds"
 let e:=i "zze"
 if s.startsWith "&" then
  let b←`(by rw [($(i "L3.ecN") $h).1];rfl)
  let b←(s.toList.drop 1).foldrM (fun c (b:Lean.Term)=>`($(i ("L3.lc"++c.toString)) $h fun _ _ $h=>$b)) b
  `(tactic| exact fun _ _ _ $h=>$b)
 else if s.startsWith "^" then
  let w:=(String.ofList (s.toList.drop 1)).splitOn " "
  let a:=w.headD ""
  let g:=a.endsWith "!"
  let u:=i (if g then String.ofList a.toList.dropLast else a)
  let mut r:Array (Lean.TSyntax `tactic):=#[←`(tactic| intro $d:ident $(i "μ"):ident $(i "Q"):ident $h:ident)]
  for p in w.drop 1 do
   let c:=p.toList.headD 'A'
   let x:=i (String.ofList (p.toList.drop 1))
   r:=r.push (←`(tactic| replace $h:ident:=$(i ("L3.ec"++c.toString)) $h))
   r:=r.push (←`(tactic| obtain ⟨$x:ident,$d:ident,$e:ident,$h:ident⟩:=$h))
   r:=r.push (←`(tactic| subst $e:ident))
  r:=r.push (←`(tactic| replace $h:ident:=$(i "L3.ecN") $h))
  r:=r.push (←`(tactic| obtain ⟨$e:ident,$h:ident⟩:=$h))
  r:=r.push (←`(tactic| subst $e:ident))
  if a.length>0 then
   r:=r.push (←`(tactic| walk_at "ini"))
   r:=r.push (←`(tactic| unfold $u:ident))
  if g then r:=r.push (←`(tactic| walk_at "go"))
  `(tactic| ($[$r];*))
 else Lean.Macro.throwUnsupported
local macro_rules | `(tactic| walk_at $s:str)=>zzO s.getString
def zzP (c:Char):Nat:=c.toNat-33-(if c.toNat>34 then 1 else 0)-(if c.toNat>92 then 2 else 0)
def zzN:List Char->List Nat
 | []=>[]
 | [c]=>[zzP c]
 | c::d::r=>if zzP c<62 then zzP c::zzN (d::r) else ((zzP c-62)*91+zzP d+62)::zzN r
def zzM:Array String:=("au ai af/2 le_int %69 4 rfl ar/4 aa/2 5 %6C 2 %I9 %$I 3 %$7 %b*cf %b$9 %d^S %27 %cye3 aw/2 %I0 1 ] 6 %b$0 %b$- %/C aH/2 %I- 7 %!_ 0 %!! 8 9 aZ/1 %$c( ah/1 %## %/9 %b>j% [ %$L bC/1 10 %d3j$ %%# %i~( %7dH %$6 %c4C %b#h! 'kept %I' %b*dG %/- %cyfq av/1 %W- dj/2 %b%* aj/2 ae/1 aL/1 %GO %IC 11 'sender aC/2 %b>j< %e&& %6- %bK- %clh( %b$' %d^% cZ %Sh* %*b$ %fah+ bM %bK9 %G7 %%* %:M %j5h% %j-j. 'way ak/3 %b>j= %eAj? %bo- %b#h' %b$C hu %&! %e&, %dE! TSl/3 %I+ %:_ %dQI 12 %f8h) %c^bp %b49 %#* %b4- %Q) le_str %#b< %c]S %B- %K! %>! %b]f1 %c*- %eBb> %$, %$cK %#W le_mul/2 %4h* %dnS %:h, 'roads bA.nd %b]jC %b]f0 %/' %]! %6' %2eH %1dS %bo9 %$bK %(b4 l5/2 iO/2 %d:% bf %ggbD gF/3 %:cm %d/d, %d8b$ %bwbx %(* cK br.nd %_- %_0 %b>jV %9: %ck! %/; %cnc) %cyj& ij/1 %e&6 %$O %2O %-M 'out aN/6 %W' %bO# l3/2 jf/2 %fobp %b4; %grjW %b$+ 'names 'name h9 %b4C %dmd7 %*4 %*by %B0 %>K %LL %bK0 %c*0 %b6G %60 %B; %b]jX %I; %B' %dPf< %h&f< %b'cm %A! %cm: 'sent 13 %Qb! %fob{ %?? %dw% %btQ %b4' nQ/2 %h-bp %j(j) %fo( %c>- %j:j; 'state %by0 T.kP %c>+ %:c- %j`h% %jbh# aO/2 %$b? %bFc( %c*' %bi! %/0 %_C %9M ONo %$b, %bn, kM/3 %j@M %IE %IP 14 15 %b>jD 'left TC/1 %h/> aM gK/1 %h/fB 17 %#b# %b1bS %cR) %*? %dd# %%Q gI/3 %c49 %b40 %fMgi bG/1 %bCb< %b:fp %:d6 %W; dU/1 'plan ax/1 %b;fp T.mM %(( %j>cY aq/2 %jkfp %by9 cQ.nd bJ.nd %b$E %f,fd %_' %b+bF %b7, %Gcq %jme3 %b6Z %/+ %$bE dq/3 dI %b&bm %bA, %c+! %clbY %c*+ %bA6 %f7, %b*g* %b>i} tM/1 bz 'lost %$bF %jnjo 'used %g2h) dr.nd %d3h! %bab1 %byC %*) %c4- %btbB %#Q %VbO %b4+ %b$; aP/6 %b#fe 'owners 'last %:gf bX.nd %b4A %h-b{ %c>9 %b%bP %b9R 'ways dY.nd %d1S T.rP 'numbers c9/3 %by- T.eT %bff! lK/2 %g{h+ dm.nd μ %2cw %G@ %b8fw %b7& %dAb, %bKC %b]jp %2L %cB, eM %eB7 %bif4 %>] %_; wN/2 %2fC %IA %!bm .int/1 %f?b^ %g&b_ %!cN %B9 %cmC %bHb' %6A %f7& rW %9C %jqf6 %f;7 %bo0 dZ/1 TB/1 'cells 'turn %bMeD %jrc| %!fA jo/1 16 X7 %3% %btcQ %jscR %d]d: %#% lX/1 %jtbD %c`% %W+ %Qd( %bBfN %dbb% %cVgS %VbQ %c:ds %W0 fM/2 %d3h' %cQcX %bDbC wO/2 pj/1 %Mb= %d4bd %W9 T.uS %gnbx %jB( %e]0 %b{d7 %djbu %4fV T.o8 %V* %bN- %bvbC %dwS ig.nd %cb% cG.nd 'own %jvdv kY %?e~ T.Dr %c]R %Sdx cF %k%d. %d:S %gsb: %b)X %d/f^ %fg) %k&S %b$P %b=gd %dTf: %k'X jG.nd %)jU λE,ρ,μ ρ vV/2 rLt rEq ir hE %B+ TOr/2 lg/1 %bo+ eG/2 cY 'taken %g+h( dG/1 yW/2 'spent %b^b^ %$c| %f@U %KU gS/6 gW pI/3 vP/1 wQ/1 T.JM i6/1 T.je gf.nd T.mY eW/1 LW.lt/1 T.Cb mR/14 %Md2 fo.nd T.iB T.pZ T.kE T.mw T.u5 T.FV T.AK j4/1 l9 %jijj qE/1 jQ.nd cD/3 iM/1 'went %enR %jZcY T.fe %geh, cS/1 vE/2 'beat cO.nd iN.nd dF/1 '_law_number %j!j# 'letter .non Ho TUn/2 EZ 'still 'heed gw jV 'calm lH g9 ma ji rGe false 'turns ' %jfe3 %5dS rJ iQ/1 DL/2 jC/3 %jYc$ kU xl yR bS fX true %b*jg .bl/1 da 'moor 'b 'zzzzzzzz 'a 'ab fH zA C7 T.Oo wa.nd le_neg/1 le_eq/3 fh.nd pO/1 JL/1 T.GN zK/2 rA/1 Jc/1 yT/1 jc.nd FO/1 T.IY iR uO OA/2 gc iC.nd 'there 'behind %b`; T.IT oV T.uH T.HL T.bh T.zV T.JT T.yJ yN/4 T.yB um/3 DA/5 'senders T.Iu 'told %:jc eR/1 lt_eq/3 T.HW %d!eh T.Pd gs 'coming Je/1 %bwC rQ/1 wY T.JP %d3fh %jSjT d9.nd dz 'again jN 'firsts gj/1 uI/1 %b#jl pR/1 eX.nd '_law_one aB/3 %j'M %j*j+ %Ch# bQ/6 bZ/3 dW %b'c( T.bN %e`bS bH %j3gX bF/3 %7c{ E.nx/2 E.bk/2 E.ct/2 λE,_,μ E.rt/2 fJ GK/2 'swell iG dQ fv lS eQ K1/1 RO fI Pw/2 AQ/2 dN gB dM MY/3 #+ yV gk Ka/2 gh gm gi fL gx iD Ja/1 'in fG jZ dA jO vf/6 fA fz dO c8 L3.lU L3.iV eO Ay A2/3 eF CQ/2 vY/2 2147483647 7919 48271 2147483629 2147483587 GL/2 jB IK La 18 LZ/3 60 fV 41 E8/3 21 eI gu 'fen JW/4 'q 'sun 'zz cE 'line D8 Kf dR ES/1 jv 20 yZ/1 OG/2 T.Hk Tz/2 pQ/1 Eg/1 rG/1 yf/1 Lm/1 T.Qm vR/1 Ri/3 Rm/2 fY 'standing 'stands zG/1 Ry/2 JY/3 T.Ph rB/1 iX.nd Ai/1 T.Nb T.Qb xQ.nd qu/1 FF/3 jJ 'count E3/1 Kc T.TV A3/1 K9/7 A9/1 T.LK BQ/1 Bv/1 y6/1 eZ ri 'came 'held Cg/1 Fw/1 kn.nd LQ/3 T.xF lT.nd T.Qq uw/1 xV T.Ou xn/1 IF/1 oE/1 Kx/1 GA/14 xP/1 mL/12 xI/1 qH/1 mW/1 NV/1 FD/1 vz/1 NY JR/4 tG/1 NU/3 E2/3 nP.nd Nw/1 Jh/5 PM MC Gy/2 le_pow/2 Lk/3 JH Rh/5 fT '_law_numbers L3.rIx aA/2 T hr aD/1 aT .str/1 #n @fsc ao/1 λcl,C,s₀,H₀,ex < > %j,d6 #d aG %dfj/ aU %j0j1 %j2( bj/2 %h$j4 aV %c/j6 bD %j7j8 %j9( T.de gL gM bI/12 jn/2 fg/1 fc/5 %jAeJ rGt mJ %fQc_ %jEgb %jFc8 %jGbe 'beats %jHjI %jJcO %jKfc 'events %jLjM %jNdT %jOc. %jPf( %jQf: %jRdq 'after aW/1 nY le_app/2 rIs %crC fP/14 gG/2 %h$j] %j^( %j_h. %:h. %ja9 eU .tup/1 %cyjd %jeM nj/3 iL/3 %jh( T.qD 'first j3/4 %g%9 .inr/1 OF/1 rNe %2h& %2dQ %bRgB uC/3 rY/2 %ju( %Mf# %jwf) %jxdu %jyeu 'marked %jzj{ 'wait %j|j} 'heard %j~k! 'start %k#k$ %c>0 'number".splitOn " ").toArray
def zzC:Array String:=("f-h0f.d} f-h1f.d} f-h2f.d} h3h4fqd} 5fr>bV5frKc?b*f/bg8,d~@8d?28b~cfYc!e! 5h5c@bVZbh.,cffsft@b~b6b&$c#b'@$c#.@! e#Nd@e$b+e%$b+b,b7bE e#cgd@e$b+e%$b+b,b7bE e#$d@dA$b+b,b7bE Gb>f0d@e$b+e% Gc#bFb, e#$c#d@.b,bW Ge&b?TbX& Gh6b>f1chfub>f1cAdAe$b7b-, Ze'chfve!b6e(cB&cBb-d?5f2$cC1f31fwbiNe)Y!bjf4b8e*1fx]bGbW ZbYchfydBbgb.b-,dC-:^dDbYLb.&b.b-,dBbYchh7bZ^dDbYchfvb8f3$dCc$1f2$dC-:KDcDcC Zf5e'chfybhb.cEcCb8fxK$bZ!dDbgb.cEcib8f3K$bZ!cD. Ze+fz]$dCc$!GdCc$dDe+fz1f{bXbjb8e*1f{bXbWb6b8e*]bW Ze+h8>cjb&]c%b65h9c@cke,5h:>dEbicFZcGcH^b&1f|c@1h;e-biDbGb6b&1f|c@1f2]c&DbG Zf5cGcC^bh@cCG.cDLbH.c'bkOdF 5f}Kc?blcIcJ@_+dGb]f~Tc%bZb@YbIb@87h<>dE1dHckDdIc%bmbiD 2cKb'clb]h=g!b'.cLc$c!2cK8clb]h>b'.cL-bJ'dBbgTcj,bK',e) 5f}]cIblf428e.b*f/e/bgTcj,bhTbGb,e0Yb/bFcmbJA5h?K/Ac&cFb@bIh@YhAe1cHdIbGbmcjc&! ZbYcic(g#b8hBc@]c%b6dI$bH@c'b,e2$bH@c)b,cn!Hg$! b&1e*cobW$g%Ce3c$! 5hCbn6+>bVb&cpbncEdJbA&b^bnbkdKdKe4! e5b,b/OdKdKHg$e6e7b&Kbmb_bZb/7hDcpbXe8:D 2,b~cJbFc!hEhF-Tb_Le)cB&dLbF.cLc$!e! dBcGdM^.7hGK$dM! 2bHc*;c'.b~5hH>cg.Tbjc?2cid?2cqcGdM^^b?dM8_+2cAe9c'bkONY8dE$bHc*;c)Tbjcn!e9c)e:cne.b&c&N@hIYLY8! Ze'b.&,b&]c+Db6c,dNEdNF1dHdNcMdNPcI5hJbn6+>bAb-bAcEe,g&1g'Nb.6;b.6cMcFc,dJbA&dOe;bAbkdN+c&dKe4BAb8hK/A1e<b^cg7hLdO!7hMckdJD! blbVdPg(g)cK.b/TbXcN,c!g*f6>bWcr'+:dGbh8TbGb@@O$dQbK'&,c+bo',f78e4DcDdR@ e(b.,7dSb_8g+bYb'b.,.c-C:cI5hN>bA&e,5hOc@dObAb-cFb&bie;bo;,bo;&bo;b-! 2f8b'dAb~dBbhLb7cE&Tbjb.Lb7cE&^ blc?dPhPdJ!cr'+:2cqbhYb?TdJ!TbAbEc(hQc(dTe.b@8Oc&dOe;dU!cJb.b-_+2cqcG7f9KbG^c(f:c(c.e.b@8Oc&dOe;dU!GdR8 b&dUcoNbZ&NcC.$ci! e08dL7f9KbXb.,7g,>dFcme=bJ'dIcjbmb_b.cEb/7g,>b^e6!bAbk! ZcG.^G^cDcqbY.,b?bZ&b?.& e0@dLbFe%e8bJ'2cK8dLbFdAcLCbJ+5g-b_bIb/cicNcF2g)cKbIb/b?bZcCcN,_Ac,cgLb76ETbGcHNb76FcH1e<bn6P/cMBEc,cp1hR>bnbEBFGcALIFbH.c)b-c)e:Obm1g'Nb7e:7dSbiDDcs 2bZb~e5@b/bFcNc?5g.b_@b/OdUcoe6cIe>]bnbEe?hSe@,c@bjc-e=bJ+5hT]b_bIf;.c-:cFe>cocp!e?hUe-Kc%c-0;bJA2hVf<cHf;OHcOcpbn&bXc-bJEblBFblBPdPf6co/cMcrb(bL:b*eAf=cs7hW/b(bi/bL!b*eAf=IFbKbL&eAf=ctbKbLb-e0ctclcG7f9KbX^cL'bJcPe>co/cMe?hXe-Kc%c-'PbJcue>]bGe?hY>cp]c%c-FcPbJcvb&c+bm/cue2/cvD$dRcs! blbVcJb'c!2b?cB&f8.e)d?b@@cAbH8c'&OcjbH8c)L&&cnb8dSbj e5c*;b/b?b'b7bke8:e7e5c*Ab/b?b'b7bke8:bVGcAe9c'bkOb^$dMKbje9c)6Ecn 5g.b_b,b/OdU$cie6e7blbVcJbFc!b@@O1g/e@,bW1g/e@&bWe@b-!dIbjbmb_b,b/7hZbXcND b8g01h]>D b8g0$dQ7h^>bW,! 5h_>bV2h`c!dPg(.d?b*ha8@Y5hbe-bVdGeBhc@8b&$hd8@NYbEcD^ d~b+cAcwb'6heb+b+6hf..6b(6hg6hhb~Gcwb+@@6hi GhjMdVeCdVeDdVcxdVdWdVf>:1hkbXe4$hl! c,f?!cr0':ZbgT$bMeC!,d~eET$bMeCcIcfdQbMeCYc!dDe/b]f~8b>hm6P6hneBhog1YbMf>g2bMf>Ycyg3g1dXcxc#8.dXdW&Gcw8.cDcwc#7g41g4ck$eE!NeE6+!e:. dXeDLeE&Ze/bgbMcx,bhbMdW6hpd~bMcx.b~dXcxc#bMcx.dXdWLbMdW&e!b6hq 2cBczcgTc%&BAeFf?1c{>UF!1c{>UhrDczU'BEc,bAcz1dH]DBFb*hsPb($^NcsbEZe/bYcBfsft&,bgczU0!,5c{>UhtBP2cAcsb+e1c#b?LctbI&bI&_b(dGbYct,cf7e<b^Nb?cse1&Bb(b6b6b&c+K/F/A/E/Pc+Hfuc&D/b(bG e(&cze,eFc+dEdFc+Nb+b-bI&U-DczU-cFhu 2&_9b*f/e'cKb'clbgcw.b',cLc$c|!cfL.&_9G. 5hv>e72bHc|Hg5Hg6Hg7Hg8HhwHg9!c'L&c};bVeFf@dFf@$&U-U0U;eG-U'UEeG+dFfAcMfA0U'eG-U+eG;UEDc}Ec?e(8c|1c{fB-!c?5c{fBFcIb*hx+;A$eH!$eHb^!$eHb^DcJbHc|Hg8Hg9Hg6Hg5HhyHhzHh{Hg7!c'Y_E5h|K/E]ck$cqbhY6;bkb-!crFPb(:b*b@bIIFb*b@cHctb@e1Ib(5e<$&1g-$dRIcMBbLblBcPcJ@_E5dH$fCbIdLb,ObWcLE:BcueFHh}Hg#!b+c}-!7h~$b>f0Icub-Bcvb@IcPO/E/bLNIbLc}F!$^/cv!c,N&c}'e2/cPe2bGBeI5i!$dRcHBPc,/PNct7i#$fCbIb/bZcN!Bc~Zf5i$e+g:1fD/eIboc~bE/c~!b]i%7fD/eIcgbKc~&bE^Gcyg3g!b6b8g:1fD/eINLbKc~&&c}i&D/c~! `dYc/g;g<(g=bpCb`0dYc/g;g<(g=bp9d!fEeJbq<%c0dYbr=<`dY<dZ0dYb0Q= `g>)i'Vc1bBc2eKdZ-g>g?=eLc3bC=*c33=# eM?d]bsbabsb1*eNR eMad]bsbabsb1*eNR eMeNb9eNR Qi(d]bsbabsb1 Qc3b1b1 eMc3d]3b1c1 Qd^abNCeO cQ)ePcRb1bObPSi)# Qi*g@bDd#i+g@bDcSbsbsbs% bBeQd#Q=btc0gA?eReReSgA)fFcRb1d_fGd$gBc4'd%eRb0#bQJbRePd$gCd`d&c1 bBbud#eTbqcT%SgDb2dabu?cTcTd'd(bud#b1b2dabud#bRfGcRSfHd_fFcRSgDbOJcUb1 eUgEeQd#gFc2cTb1bRgCd)*d^RdabqcTb1bRfGd)*d^RcU3 bBfI)gGd`*SfHdbSfHdafI)gGd$gHV#bQ#bRePd$gHV#c1btbRePd`c1 bBfI)i,VcVeVbQd*#bteSgI)i-dcd*eWgI)i.VddcV#bBcWdeb2cQ)gJdcd_i/eXcVJd&eL)gJdcd_fFd`c5Jd& eUgEcW4gKb2gFc2=4gKQ3cU?bv3eYfJb!R eZfKdfgLgM(fLbp9b`'fKd+d,=e]+fKe^gNbN0#4i0c6b0c7c6<)i1Vdd*bN0Je_0bPcX'J dggO0gPMc8dhdigQgRb:c9dhbw9bxbCb;c9dhdji2e`3d-dggO'gPMc8dhdigQgRb:c9dibw-bx<b;c9didji3bC3d-eTbqbN'eOby'%eR c0dkdfgLgM(fLbp-b`+dkfMgSdk<b#fEeJfNeabqbN'eOebc2bN+#4fOb#fPcYi4Adkecc8i5dii6c.c9dhd.bwd/b0edbbb<d0dk)i7d)dlc5#c6c7i8b0i9bDb$Adee_+bPcX'#c5# bBbu4i:bSbRi;dcbQd*#eLdmbv=c:d14fObPdmbv=d14fOc:bPbS# `i<)i=cZbcgTc;eVdnb3bci>c]%c]b9%bci?*dodob9dp eei@c<gUfQdqb:b=bz4efb;b=bdb!dodobSbTeVbO*c<gUfQdqb:b)d2eg4gVb;b)d2bd)iAcZbcgWc;bTJ `fR%b#ehd,4fSeifRd3iB-fRc^ejiCMc_c9iDb=d.c9bw9bx?c`SfTc`SfUd4c9ekbb3d-db= eTcWelb23c/iE(iF(iGbp9c=fV# `drbv4emc:d13eZdr)iHena3eoJc0dr4caeSdrd(cWelb2b2ael<d0drcSepeYcab!?b0<dd*bv4emd1eo#c:#epdsd5c:Qb%c5d%=iId6gX(fWb0?b0<# bBeQeqfXd'b%bQ*b%Jbtc0erb%bUfYbUgY*c^(bUd5#bUgZb`+er)iJcZbcgTc;bUg]bUiKeWerdmg^(g_b{?eqemeqd5JWAerb%c]b3bUfXesesbUcabUfVc5*dob9dpbRiLc4A*c/fZ(f](dtb{b9a)iMcZcbR)iNc40c]b3J# `etd+g`(fWgad6dtd7iOMgbducOeDb)eub:eubz3b;eubdbNCbT%eietd3ehf^c;c1ev'etdv+etewe^c2<bN+#c6=b!d8by'Sgcb9b%c>'b3cb<*b9dp#cUf_= c0f`?eqfTc<iPecc8XcOiQiRgdb:d9b=ccCbx<cdd9b=ced9b=gegfgge`dwb33b<b`+f`)iSVbUfUeWf`)iTdcesbUgheVcVesc>;%c>;%c>;R `iUfae`d:b3eTc2exey%eo#dwexey%b2 eZd;d+iV(iWezev'd;dv+d;ewd0d;d(c2b0ac^(ezc^(ezbSbSc6<b%c5cbb3cbe{*bbgid,cTe]+d;d0d;d(cW)fbd)d&b2bSbSc6<b%c5cbb3cbe{*bbdbf_< cQbbc=dxd%4gjb9?4ey3c=fJ# b#fPcYgk'iXecbefcc.gld.beb=bwe=d/<d4beb=ek)fbd)c;#dwb3)gmfdb<e_'bPc<gkecbefcc.gld.bzcTed)gmfdb<#ez bBcW3b2Qb2cUd(bueKa4iY%aeK b#fPcYe|'d<e}b)gnd/=d4b)ekbbd:b34dxb<dge|+d<e}b)eg<d4b)ekbbd:b3d-d0d<c/iZ(i](i^eje|e}bzc7ed4fJb<b`Ad<gad6dtd7e|e}bzc7eda4gj4eyb<%WEd<b!aexfYbN+#ded%e~gYde*c/fZ(f](dt(bcgZdlJWFd<b%dnb3d_i_VbcfXJQcS?b$Fbv3dsg]dsd5b!dmg^(g_b{exd5cX'JJd= `bf4gVeZbfc<b|f!b)bz=b;b)bdbbb<b`'bfdfgo(gp(gqejb|f!b)bz=b;b)bdb!bbc=gcbTd!feb|+dyf#c_d2cce=f$bQbcff#cdf#c_d2cef#c_d2f%i`cZf&gWc;bObQbTd0bf)iad`*d7b|f!Xduccbxc7cdXduceXdufg3b<d!feb|Adyb=Xc8cOcc0;f$c=efbcfS#cdb=Xc8cOceb=Xc8cOf%ibeXbOd*bTb#iccYb|Edyd9ccbxdecdd9ced9fgb!bSdnb3bcdxc;bTWFbffMb`Pbfd+f^c=efdl#evb(bfdvbLbfewb#fhfid=)idc4b(cVb4bLd!fhfib$FbybL%grfif'bybL%WcPbfiecYb|gsd.bebw'd/f'd4bedjcW)fbd)c;#b2d-dgb|cudyf(bec.cc'Pf$c=efdl#cdf(bec.cef(bec.f%ifeXbOd*bTdgb|cvdyb)fjf)ccFcPf$bQd&cdb)fjf)ceb)fjf)f%igVdn%bQd*bTcQb!cXcubPcXcvJ*f_d=# `fkd+d,bCeifkc0fkac`e{fabD3c`b3c6=cSbv<eYdxb%cV#bv<d1?e{%c:QcX-# eegtc<guMXgvdTb:f*eg4emb;f*bdabCe~cab<#`gtc<guMXgvdTb:f*eg4d5b;f*bdabCe~cab<dbcSepeYcab!b9elbObQ#epdsfYc: eefldfgo(gp(gqejgwMc_gxdqXb:Xbz4ffb;Xbdb!bbc=cabT#`fld+d,4fSeiflc6=b!)gycZf&fTbObP)gycZf&fUc1f&gh#e_-bPc<gwMc_gxdqXb:Xbz4ffb;Xbd)ihVbTJ bRgzd$iiVJ bRgzcRd8)ijVc1R `f+)ikVb`0f+ilb#ehg`(fW3e]'f+b#imbD<=b0`f+)ineX#e^iobD=<cQipbD<=d%b0RcUb2 `iqbrbacSbrbC%baba%3eK%d'brba==% Qirdzisd6fLbpC#dz%dz%dz%dzitiu d{?b5%eUeabqb5%ebc2b5%`d|brb53d{c3b53d{?b5d'=btb#ivb!dpev0d|dv'd|ewbBbqc^b{b5eOc0d|brb5c^b{b5#dZ0d|d8b5b0dafNeagN<iw%%ebixbDb0b5g{bDb5b0iyd{c3<3d{d'br<3cUbrc3)g|d$g|c40*b5bP?b5R%3 eSb}?%f,VeWb}d8fm*b%dd*R*b!?ba%c7dp#d>WAb}c`f,enabN0#RWEb}d8fm*b9b9d>*d>#d>WFb}b%c]f,eneoJd!izPb((b}*b2d%d=ReUeabuc`g?%%ebbqd>%WPb}d>Wb(b}cSd=bab$Ac3a?f'c7%c7%e^buf'%dZb(b}c/fZ(f](dtb{b9?ad=b$ARbteLb%bOb4Fdlb4Eb4P*b!bSc5Jb4b(d& eeg}%b#fEeJeQd7i{Mi|fnb:g~fnbw9bxbCb;g~fndjbqbr3bC%d-fm#dZ9g}?3d'3".splitOn " ").toArray
def zzG:Nat->Nat->List String->List String
 | 0,_,a=>a
 | f+1,i,a=>let s:=zzM[i]!
  if s.startsWith "%" then (zzN (s.toList.drop 1)).foldr (zzG f) a else s::a
def zzA (t:String):Lean.MacroM Lean.Term:=do
 if t=="_" then `(_) else if t=="#d" then `(by decide +kernel) else if t=="#e" then `(by decide) else if t=="#+" then `(fun m n=>m+n) else
 let c:=t.toList.headD ' '
 let d:=String.ofList (t.toList.drop 1)
 if c=='\'' then return Lean.Syntax.mkStrLit d else if c.isDigit then return Lean.Syntax.mkNumLit t else if c=='-' then `(-$(Lean.Syntax.mkNumLit d)) else if c=='.' then return ⟨Lean.Syntax.node .none ``Lean.Parser.Term.dotIdent #[Lean.mkAtom ".",Lean.mkIdent d.toName]⟩ else return Lean.mkIdent t.toName
def zzE (st:List (Option Lean.Term))(t:String):Lean.MacroM (List (Option Lean.Term)):=do
 let b:=st.takeWhile (·.isSome)
 let x:=(b.filterMap id).toArray
 let y:=st.drop (b.length+1)
 let h:=x.getD 0 ⟨.missing⟩
 let d:=String.ofList (t.toList.drop 1)
 if t=="]"||t==">" then return none::st else if t=="[" then return some (←`([$x,*]))::y else if t=="<" then return some (←`(⟨$x,*⟩))::y else if t=="#n" then return some (←`(show (($h) : List PySem.Str).Nodup from by decide +kernel))::st.drop 1 else if t.startsWith "@" then return some ⟨←`(Lean.Parser.Term.namedArgument|($(Lean.mkIdent d.toName):ident:=$h))⟩::st.drop 1 else if t.startsWith "λ" then
  let v:=((d.splitOn ",").map fun v=>Lean.mkIdent v.toName).toArray
  return some (←`(fun $v*=>$h))::st.drop 1
 else match t.splitOn "/" with
  | [n,k]=>return some ⟨Lean.Syntax.mkApp (←zzA n) (x.extract 0 k.toNat!)⟩::st.drop k.toNat!
  | _=>return some (←zzA t)::st
def zzT (s:String):Lean.MacroM (Lean.TSyntax `tactic):=do
 if s.startsWith "~" then
  let l:=(zzN (zzC[(String.ofList (s.toList.drop 1)).toNat!]!).toList).foldr (zzG 99) []
  match ←l.reverse.foldlM zzE [] with
  | [some t]=>`(tactic| exact $t)
  | _=>Lean.Macro.throwUnsupported
 else Lean.Macro.throwUnsupported
local macro_rules | `(tactic| walk_at $s:str)=>zzT s.getString
def zzS (t:String):Lean.MacroM (Lean.TSyntax `tactic):=do
 let a←(t.splitOn " ").toArray.mapM fun s=>if s.startsWith "↓" then `(Lean.Parser.Tactic.simpLemma| ↓ $(Lean.mkIdent (s.drop 1).toString.toName):term) else `(Lean.Parser.Tactic.simpLemma| $(Lean.mkIdent s.toName):term)
 `(tactic| try simp only [$a,*])
local macro_rules (kind:=Lean.Parser.Command.declaration) | s=>do
 let k:=s[1].getKind
 let d:=k==``Lean.Parser.Command.definition||k==``Lean.Parser.Command.abbrev
 if (d||k==``Lean.Parser.Command.theorem)&&s[0].getArgs.all (·.getNumArgs==0)&&s[1][0].getPos?.isSome then
  let m←`(command| noncomputable def x:=1)
  let s:=s.setArg 1 (s[1].setArg 0 (Lean.mkAtom s[1][0].getAtomVal))
  return if d then s.setArg 0 (m.raw[0].rewriteBottomUp fun x=>x.setInfo .none) else s
 else Lean.Macro.throwUnsupported
local macro_rules | `(tactic| lia)=>`(tactic| lia -abstractProof)
open PySem.Str renaming ofString → OF
open PySem.W renaming Frag → Xa, mg_of → Yq, mg_none_of → Yz, kia_one → ZR, kia_tup → ZV, fnOf → zah, keepIn → zaO, methodObj → zbE, cellsFrom_some → zcb, OpenLaw → zcr, codeIn → zcK, pyHash_slot → zdg, kitx_tuple → zdC, kitx_none → zdZ, kitx_bool → zd0, kitx_list → zd1, plainGet → zep, kitx_int → zeu, kitx_str → zew, instObj → zeP, kitAny → zff, WalkO → zfl, mg_of → zfm, nsIn → zfv
open PySem renaming wpAny_bind → Xb, Value → Xe, Shared → Xg, wpAny_pure → Xj, starEach → Xt, wpAny → Xy, FuncData → XB, model → XF, Expr → XJ, Program → XO, World → X0, foldedSetIterable → X6, Around → X8, wpAny_field → Yb, wpAny_newObj_type → Ye, wpAny_setField_rec → Yf, wpAny_callSpecial?_slot → Yj, wpAny_seqItems → Ym, eval → Yr, wpAny_mono → Yt, mem_of_lookup → Yw, behindInMarks → YA, bootBuiltins → YC, backTo → YI, mainGlobals → YJ, wpAny_call_entry → YK, assignEach → YO, IsPair → YT, compareOp → Y8, wpAny_truthy_bool → Y9, swapsWith → Zq, wpAny_passesOwn → Zr, IsZip → Zu, sysModules → Zw, wpAny_rule → Zy, plainId_quiet → ZA, binaryOp → ZC, Paired → ZI, wpAny_holding → ZX, wpAny_pyIter_list → Z2, codeAny → Z3, keywordEach → Z6, wpAny_updateSeq_pair → zaa, wpAny_letGo → zab, wpAny_tryCatch → zad, Keyword → zag, swapsWithSole → zaq, swappedStores → zar, attributeBase → zat, intItems → zav, argBest → zaz, wpAny_updateSeq → zaA, pyNext → zaB, wpAny_Call_Name_kw → zaC, sliceBounds → zaG, bindName → zaM, wpAny_bindName → zaN, assignInOrder → za2, wpAny_standAt → za3, Builtin → za4, NameKind → za7, wpAny_execs_nil → zbd, letOwnedTupleGo → zbe, wpAny_loadPart' → zbk, getItem → zbl, rawInt → zbr, backToKw → zbs, call_meets → zbw, atKey → zbx, tupleKind_room_in1 → zby, eqIsQuiet_byValue → zbL, intBits_le_64 → zbN, wpAny_attempt → zbP, wpAny_onRaise → zbQ, noFill_tuple_add → zbX, wpAny_pyNext_list_item → zca, concat_meets → zcc, callerA → zcf, wpAny_Assign_Subscript → zch, IsEnum → zcn, codeAny_builtin → zcu, wpAny_isTrue_Compare1 → zcz, wpAny_pyNext_list_end → zcA, call → zcB, wpAny_loadName_local → zcH, assign → zcI, sizeLine_eq → zcJ, subscripted → zcL, field → zcN, numAt → zcP, tupleKind → zc4, seqIndex? → zc5, valueAt → zc6, seqItems? → zc7, wpAny_loadName_cell → zc8, seq_tuple_add → zdj, wpAny_getItem_heap → zdA, wpAny_setItem_heap → zdB, wpAny_pyIter_tuple → zdE, getattributeRaised → zdG, holding → zdM, BindsTo → zdP, codeAny_mono → zdQ, wpAny_sequenceKey → zdR, slot_list_getitem → zdS, Reads → zdX, ReadsAll → zdY, wpAny_pyIter_enum → zef, wpAny_pyHash_int → zej, wpAny_pyHash_str → zek, DictEntry → zel, wpAny_execs_cons → zem, PassesOwn → zeo, Result → zeq, wpAny_Dict_empty → zet, wpAny_pyIter_zip → zeA, beq_builtin_none → zeF, CmpOp → zeI, wpAny_of_eq → zeK, intItems_at → zeM, wpAny_mkInt → zeO, builtinsNs → zeZ, wpAny_Name → ze0, Operator → ze1, bindL → ze3, bindC → ze4, typeLookup → ze5, Params → ze7, call → ze8, compEnvC → zfa, compPost → zfb
open List renaming length_map → Xc, mem_map → Xh, map_map → Xk, mem_cons_self → Xl, map_cons → Xm, length_append → Xo, mem_cons_of_mem → Xp, mem_cons → Xr, map_congr_left → Xu, zip → Xv, getElem?_eq_getElem → Xx, size_toArray → Xz, length_cons → XC, map_append → XE, of_mem_zip → XH, mem_append_right → XM, getElem?_eq_some_iff → XR, sum_cons → XT, append_nil → XU, not_mem_nil → XW, range → XX, mem_filter → XZ, find?_cons → X1, zipWith → X3, mem_singleton → X9, nodup_cons → Yc, filterMap_append → Yh, mem_append → Yi, getElem?_map → Yp, mem_range → Ys, mem_of_find?_eq_some → Yv, length_zipWith → Yy, nil_append → YE, foldl_cons → YH, getElem_mem → YM, replicate → YQ, filterMap_cons → YV, flatMap_append → YW, drop_eq_getElem_cons → YX, filterMap_eq_map → YY, length_filter_le → YZ, lookup_cons → Y0, zip_map_right → Y1, find?_eq_none → Y2, length_filterMap_le → Y4, mem_append_left → Y5, length → Y6, filter_map → Zc, getElem_of_mem → Zd, filter_cons → Zg, map_zipWith → Zi, getElem?_append_left → Zn, length_nil → Zs, getElem?_set_ne → Zt, flatMap_cons → Zv, length_take → ZD, drop_length → ZE, mem_flatMap → ZH, mem_filterMap → ZL, take_of_length_le → ZM, filter_filter → ZN, zipWith_map_right → ZO, filter_eq_nil_iff → ZP, forIn_cons → ZS, any_cons → ZY, getElem?_append_right → Z7, mem_of_getElem? → Z8, map_nil → zai, all_eq_true → zaj, flatMap_map → zak, getElem?_eq_none_iff → zam, map_take → zax, getElem?_cons_zero → zaH, getElem?_cons_succ → zaI, findIdx?_eq_some_iff_getElem → zaJ, getElem?_set_self → zaL, length_replicate → zaU, length_drop → zaY, any_eq_true → zaZ, find?_some → zbi, filterMap_map → zbv, take_sublist → zbH, nodup_append → zbI, append_assoc → zbJ, pairwise_map → zbK, set_comm → zbM, map_drop → zbS, filterMap_cons_none → zbT, filterMap_cons_some → zbU, getElem?_replicate → zbW, cons_append → zb0, filter_cons_of_neg → zb7, map_flatMap → zb8, getElem_zip → zb9, range_succ_eq_map → zci, drop_of_length_le → zcj, find?_cons_of_pos → zcp, find?_cons_of_neg → zcq, foldr_cons → zcx, range_succ → zcy, getElem?_zipWith → zcC, filterMap_filter → zcG, nodup_nil → zcO, mem_iff_getElem → zcS, mem_of_mem_take → zc2, getElem?_range → zdb, length_pos_iff → zdd, map_eq_nil_iff → zdf, filter_flatMap → zdh, filter_eq_self → zdi, pairwise_cons → zdJ, map → zd4, length_range → zee, filter_congr → zeh, zipIdx_cons → zez, zipWith_map → zeE, append → zeN, zipIdx_nil → zeS, forIn_nil → zfc, set → zfH
open PySem.Heap renaming get?_push_of_some → Xd, lt_size → Xs, get?_push_size → Xw, get?_update_other → Yl, size_push → zac, SameBut → zaf, get?_update_self → zaW, ExtBut → zeJ
open Iff renaming rfl → Xf
open False renaming elim → Xi
open PySem.PyData renaming strOk → Xn, depthAll → X2, eqv → YS, eqvAll → zau, canLayAll0 → zdV, depth → zdW, canLay0 → ze9
open Nat renaming le_refl → Xq, lt_of_lt_of_le → XG, ne_of_lt → XI, le_trans → Yd, zero_le → Yu, lt_irrefl → Zx, ne_of_gt → ZK, mul_succ → ZQ, mul_le_mul_left → zap, le_of_lt → zaK, le_of_dvd → za6, succ_lt_succ_iff → za8, min_le_left → zbf, succ_le_succ → zbY, reduceLeDiff → zb1, zero_lt_succ → zb2, sub_self → zck, zero_lt_one → zcs, le_succ → zcM, lt_add_one → zcR, reduceSub → zdn, reduceAdd → zdo, add_sub_cancel → zdL, lt_trans → zdU, reduceLT → zd5, min_eq_right → zeB, lt_of_not_le → zeG, min_eq_left → zeT, not_lt_zero → zeX, add_assoc → zfr, le_total → zfw, add_comm → zfy, zero_sub → zfz, zero_min → zfA
open Ne renaming symm → XA
open Int renaming mul_le_mul_of_nonneg_right → XD, gcd → Ya, eq_ofNat_of_zero_le → Yk, mul_comm → YF, mul_ediv_mul_of_pos_left → YG, mul_pos → YN, le_ediv_iff_mul_le → YU, le_refl → Y7, toNat → Za, ediv_eq_of_eq_mul_right → Ze, dvd_gcd_mul_iff_dvd_mul → Zf, eq_of_mul_eq_mul_right → Zm, mul_fdiv_cancel_left → Zz, gcd_pos_of_ne_zero_right → ZT, ediv_le_of_le_mul → ZZ, toNat_natCast → Z4, mul_lt_mul_of_pos_right → Z5, le_of_mul_le_mul_right → zae, mul_neg_of_pos_of_neg → zan, natCast_nonneg → zaD, lt_trichotomy → zaS, mul_nonneg → zaT, mul_le_mul_of_nonneg_left → zbc, lt_of_mul_lt_mul_right → zbA, gcd_ediv_gcd_ediv_gcd → zbD, gcd_comm → zcl, reduceToNat → zct, ediv_mul_le → zcw, natAbs_dvd_natAbs → zcE, one_mul → zcV, sub_mul → zcW, add_mul → zcX, toNat_of_nonneg → zde, reducePow → zdp, reduceNeg → zdq, reduceSub → zdr, reduceAdd → zds, reduceMul → zdt, natAbs_natCast → zdF, reduceEq → zd6, le_of_lt → zd7, gcd_dvd_right → zd8, mul_left_comm → zd9, gcd_dvd_left → zeC, neg_mul_neg → zeU, natCast_mul → zeW, natCast_add → zeY, natAbs_mul → zfe, mul_assoc → zfn
open PySem.Value renaming ref → XQ, none → Zb, isStrOf → ZW, int → zbo, bool → zbp, str → zbV, type → zdw, isInt → zfB
open PySem.Builtin.SmallTypes renaming nextOf → XS, ownedTupleIsFree → X4, ownedTupleHandOut → Yx
open Bool renaming and_eq_true → XY, and_eq_true_iff → YL, false_eq_true → Zk, false_ne_true → ZJ, beq_eq_decide_eq → zaV, not_true → za5, and_true → zbR, eq_iff_iff → zcv, not_false → zcQ, and_false → zcT, false_or → zdl, and_self → zdu, true_and → zdv, false_and → ze2, or_false → zfk, and_comm → zfq, true_or → zfu
open Option.some renaming inj → X5, injEq → zei
open PySem.PassesOwn renaming never → X7
open PyProof.Rows renaming slot_tuple_getitem → Yg, callWith_type1 → Yo, assignInOrder_cons → Zj, IntsAre → zay, kindOf → zaX, envOfC → zbt, seqObj → zbz, AllBare → zbF, assignInOrder_nil → zbG, intBits_le → zbZ, subscriptTail_builtinR → zcd, entry_tuple_getitem → zc9, subscriptTail → zdk, args_tuple_getitem → zdz, unpackItems_tuple → zdN, callWith_builtin1 → zer, IsTup → zeH, Subscript_ → ze6, sortedHeap → zfh
open PySem.Builtin.Tuple renaming tupleExact → Yn, tupleItemsOf → Z9, tupleHashOf → zbB, tupleIsExact → zfd
open PySem.Builtin.List renaming listTooLong → YB
open ForInStep renaming yield → YD
open True renaming intro → YR
open PySem.NameKind renaming free → Y3, cell → zdm
open PySem.F renaming plain_max_loop → Zh, slot_tuple_iterator_next → Zl, plainAttrs_list → ZF, slot_enumerate_next → Z0, args_tuple_add_2 → zas, slot_list_getattribute → zaw, entry_tuple_add → zaF, slot_tuple_add → zaP, args_tuple_iterator_next_1 → zbg, slot_zip_next → zbh, entry_tuple_iterator_next → zbm, slot_dict_getitem → zbC, args_enumerate_next_1 → zb5, entry_max_loop → zb6, entry_enumerate_next → zco, args_list_extend_2 → zcU, called_tuple → zcZ, args_object_init_2 → zc0, entry_list_extend → zdc, slot_list_extend → zdI, args_zip_next_1 → zd2, plain_list_iadd → zec, plain_tuple_new → zed, entry_zip_next → zey
open PySem.Builtin.Slice renaming slicePlaces → Zo, sliceAdjust → zal, sliceApplied → zbu, slicePartIndex → zeQ, sliceFields → zfj
open Classical renaming propDecidable → ZG
open List.cons renaming injEq → ZU, inj → zfs
open Sum renaming inr → Z1, inl → zc3
open Array renaming length_toList → zao, mem_iff_getElem → zcD, toArray_toList → zcY, append_assoc → zdx, forIn_toList → zdK, size_append → zea, toList → zft
open PySem.Builtin.Range renaming rangeSize → zaE, small → zfI
open Or renaming inl → zaQ, inr → zaR
open PySem.AutoSeq1 renaming sub_tuple_tuple → za0, sub_tuple_list → zba, sub_list_tuple → zbb, sub_list_list → zbj, idx_int → zcm
open PySem.Paired renaming length → za1, snoc → zfG
open PySem.Around renaming under_plainId → za9, in1_units → zb4
open PySem.Builtin.Builtins renaming bindParams → zbn
open PySem.Calls renaming Name_function_global → zbq, spliced_cons → zdy, spliced_nil → zdO
open Option renaming isSome_iff_exists → zbO, map_eq_some_iff → zcg, map_map → zc1, isSome_map → zdT, getD_none → zes, getD_some → zex, map_some → zeV, map → zfi, none → zfF
open PySem.Builtin.Dict renaming updateFrom → zb3, addKeywords → zfo, selfAndRest → zfp, pairItems → zfx
open PySem.Obj renaming mapSeq → zce, data_mapFields → zdD
open List.Perm renaming append_left → zcF
open PySem.Heap.SameBut renaming update → zda
open PySem.SeqAt.Reads renaming unique → zdH
open Prod renaming fst → zd3
open Function renaming comp_def → zeb
open List.Pairwise renaming map → zeg, nil → zfM
open PySem.Flow renaming next → zen
open PySem.SeqAt renaming eqAt_reads → zeD, EqAt → zfg
open PySem.Shared renaming heap → zeL
open PySem.Heap.DictOf renaming new → zeR
open Sum.inr renaming inj → zfC
open PySem.CmpOp renaming NotIn → zfD
open PySem.IsRange renaming new → zfE
open PySem.Heap.IsSliceOf renaming new → zfJ
open PySem.W.WShape renaming has → zfK
open PySem.Walks renaming list → zfL
namespace L2
open PySem PySem.Spec PyProof.Rows
abbrev Key:=Sum Int Str
def tQ:Key->Xe->Bool
 | .inl k,v=>zfB k v
 | .inr x,v=>ZW x v
def Wl (w:X0):Key->Int
 | .inl k=>hashInt k
 | .inr x=>hashStr w x
theorem bY:∀ {k:Key} {v:Xe},tQ k v=true->(∃ i t,k=zc3 i/\v=zbo i t)∨(∃ x t,k=Z1 x/\v=zbV x t)
 | .inl i,v,h=>by
  obtain ⟨t,e⟩:=Value.isInt_shape (k:=i) (v:=v) h
  exact .inl ⟨i,t,rfl,e⟩
 | .inr x,v,h=>by
  obtain ⟨t,e⟩:=Value.isStrOf_shape (x:=x) (v:=v) h
  exact .inr ⟨x,t,rfl,e⟩
theorem Fg (i:Int)(t:Tok):tQ (.inl i) (.int i t)=true:=by simp[tQ,zfB]
theorem EW (x:Str)(t:Tok):tQ (.inr x) (.str x t)=true:=by simp[tQ,ZW]
theorem SR (a b:Int):decide ((zc3 a:Key)=zc3 b)=(a == b):=by
 by_cases e:a=b
 ·subst e;simp
 ·have h:¬ (zc3 a:Key)=zc3 b:=λq=>e (Sum.inl.inj q)
  rw[decide_eq_false h]
  exact (beq_eq_false_iff_ne.mpr e).symm
theorem Q3 (a b:Str):decide ((Z1 a:Key)=Z1 b)=decide (a=b):=by
 by_cases e:a=b
 ·subst e;simp
 ·have h:¬ (Z1 a:Key)=Z1 b:=λq=>e (zfC q)
  rw[decide_eq_false h,decide_eq_false e]
theorem PZ (a:Int)(b:Str):decide ((zc3 a:Key)=Z1 b)=false:=decide_eq_false (λq=>nomatch q)
theorem Pr (a:Str)(b:Int):decide ((Z1 a:Key)=zc3 b)=false:=decide_eq_false (λq=>nomatch q)
def cc (prog:XO)(w:X0):PySem.KeyKind prog w Key where
 is:=tQ
 hash:=Wl w
 inj:=λv a b ha hb=>by
  rcases bY ha with ⟨i,t,rfl,rfl⟩ | ⟨x,t,rfl,rfl⟩
  ·rcases bY hb with ⟨j,u,rfl,e⟩ | ⟨y,u,rfl,e⟩
   ·injection e with e1 _;rw[e1]
   ·exact nomatch e
  ·rcases bY hb with ⟨j,u,rfl,e⟩ | ⟨y,u,rfl,e⟩
   ·exact nomatch e
   ·injection e with e1 _;rw[e1]
 byValue:=λk v h=>by
  rcases bY h with ⟨i,t,rfl,rfl⟩ | ⟨x,t,rfl,rfl⟩ <;> rfl
 pyHash:=λhv h=>by
  rcases bY hv with ⟨i,t,rfl,rfl⟩ | ⟨x,t,rfl,rfl⟩
  ·exact zej h
  ·exact zek h
 eqBool:=λhu hv h=>by
  rcases bY hu with ⟨i,t,rfl,rfl⟩ | ⟨x,t,rfl,rfl⟩
  ·rcases bY hv with ⟨j,u,rfl,rfl⟩ | ⟨y,u,rfl,rfl⟩
   ·rw[SR] at h;exact wpAny_eqBool_int h
   ·rw[PZ] at h;exact SeqAt.EqAt.int_str i t y u _ _ _ _ h
  ·rcases bY hv with ⟨j,u,rfl,rfl⟩ | ⟨y,u,rfl,rfl⟩
   ·rw[Pr] at h;exact SeqAt.EqAt.str_int x t j u _ _ _ _ h
   ·rw[Q3] at h;exact wpAny_eqBool_str h
 «strs»:=λk x t v h=>by
  rcases bY h with ⟨i,u,rfl,e⟩ | ⟨y,u,rfl,e⟩
  ·exact nomatch e
  ·injection e with e1 _
   subst e1
   cases v<;>rfl
theorem yy (prog:XO)(w:X0)(i:Int)(t:Tok):(cc prog w).is (.inl i) (.int i t)=true:=Fg i t
theorem xT (prog:XO)(w:X0)(x:Str)(t:Tok):(cc prog w).is (.inr x) (.str x t)=true:=EW x t
inductive V where
 | non | bl (b:Bool) | int (i:Int) | str (x:Str) | byt (b:Array UInt8) | flt (b:UInt64) | ref (a:Addr) | ty (n:String)
 deriving DecidableEq
def RelV:V->Xe->Prop
 | .non,u=>u=Zb
 | .bl b,u=>u=zbp b
 | .int i,u=>∃ t,u=zbo i t
 | .str x,u=>∃ t,u=zbV x t
 | .byt b,u=>∃ t,u=Value.bytes b t
 | .flt b,u=>∃ t,u=Value.float b t
 | .ref a,u=>u=XQ a
 | .ty n,u=>u=zdw n
abbrev Vals:List V->List Xe->Prop:=ZI RelV
theorem Vals.length {xs:List V}{us:List Xe}(r:Vals xs us):xs.length=us.length:=za1 r
theorem Vals.get:∀ {xs:List V} {us:List Xe} {i:Nat} {x:V},Vals xs us->xs[i]? = some x->∃ u,us[i]? = some u/\RelV x u
 | _,_,_,_,.nil,e=>by simp at e
 | _,_,0,_,.cons r _,e=>by simp at e;subst e;exact ⟨_,rfl,r⟩
 | _,_,i+1,x,.cons _ t,e=>by
  obtain ⟨u,h1,h2⟩:=Vals.get (i:=i) (x:=x) t (by simpa using e)
  exact ⟨u,by simpa using h1,h2⟩
theorem Vals.set {x:V}{u:Xe}(r:RelV x u):∀ {xs:List V} {us:List Xe} (i:Nat),Vals xs us->Vals (xs.set i x) (us.set i u)
 | _,_,_,.nil=>.nil
 | _,_,0,.cons _ t=>.cons r t
 | _,_,i+1,.cons q t=>.cons q (Vals.set r i t)
theorem Vals.append:∀ {xs ys:List V} {us ws:List Xe},Vals xs us->Vals ys ws->Vals (xs++ys) (us++ws)
 | _,_,_,_,.nil,s=>s
 | _,_,_,_,.cons r t,s=>.cons r (Vals.append t s)
theorem Vals.take:∀ {xs:List V} {us:List Xe} (n:Nat),Vals xs us->Vals (xs.take n) (us.take n)
 | _,_,0,_=>.nil
 | _,_,_+1,.nil=>.nil
 | _,_,n+1,.cons r t=>.cons r (Vals.take n t)
theorem Vals.drop:∀ {xs:List V} {us:List Xe} (n:Nat),Vals xs us->Vals (xs.drop n) (us.drop n)
 | _,_,0,r=>r
 | _,_,_+1,.nil=>.nil
 | _,_,n+1,.cons _ t=>Vals.drop n t
def nW:Option V->Option Xe->Prop
 | some v,some u=>RelV v u
 | none,none=>True
 | _,_=>False
def KV {κ:Type}:List (κ×V)->List (κ×Xe)->Prop:=ZI λ(p:κ×V) (q:κ×Xe)=>p.1=q.1/\RelV p.2 q.2
def kV:Key->V
 | .inl i=>.int i
 | .inr x=>.str x
inductive HO where
  | lst (xs:List V)
  | tup (xs:List V)
  | dK (kvs:List (Key×V)) | dT (kvs:List (List Key×V)) | dD (kvs:List (PyData×Addr×V))
  | set (S:Int->Bool) (n:Nat)
  | ins (C dx:Addr) (fs:List (Str×V))
  | own (x:Addr)
  | xd (fs:List (Str×V))
  | met (f x:Addr)
  | rng (lo hi:Int)
  | frz (o:Obj) (u:HO)
  | tbl (ps:Array Xe)
  | ext (φ:Heap->Prop)
abbrev Hp:=Addr->Option HO
def upd (H:Hp)(a:Addr)(o:HO):Hp:=λb=>if b=a then some o else H b
theorem aK {H:Hp}{a:Addr}{o:HO}:upd H a o a=some o:=by unfold upd;rw[if_pos rfl]
theorem aJ {H:Hp}{a b:Addr}{o:HO}(h:b≠a):upd H a o b=H b:=by unfold upd;rw[if_neg h]
theorem Cu {H:Hp}{a:Addr}{o u:HO}:upd (upd H a o) a u=upd H a u:=by
 funext b;unfold upd;split<;>rfl
theorem Vt {H:Hp}{a b:Addr}{o u:HO}(h:H a=some o)(h':H b=some u)(d:o≠u):a≠b:=by
 intro e;subst e;rw[h] at h';exact d (X5 h')
theorem bo {H:Hp}{a b:Addr}{o:HO}(h:H a=some o)(h':H b=none):a≠b:=by
 intro e;subst e;rw[h] at h';cases h'
mutual
def haP (w:X0):PyData->Int
 | .none=>reduceHash 0xFCA86420
 | .int i=>hashInt i
 | .str x=>hashStr w x
 | .tuple xs=>reduceHash (zbB (JU w xs))
 | _=>0
def JU (w:X0):List PyData->List Int
 | []=>[]
 | x::r=>haP w x::JU w r
end
def wu (h:Heap)(a:Addr)(items:Array Xe):Prop:=∃ n,h.get? a=some { cls:=.type "tuple", data:=.seq items n }
theorem wu.tup {h:Heap}{a:Addr}{items:Array Xe}(p:wu h a items):zeH h a items:=by obtain ⟨n,e⟩:=p;exact ⟨_,e,rfl,n,rfl⟩
theorem wu.new (h:Heap)(items:Array Xe):wu (h.push { cls:=.type "tuple", data:=.seq items }) h.objs.size items:=⟨_,Xw _ rfl⟩
section
variable (P:XO) (w:X0)
def dh (H:Hp)(h:Heap)(a:Addr):HO->Prop
 | .lst xs=>xs.length<=sizeLine/\∃ (its:List Xe) (n:Nat),Vals xs its/\h.get? a=some { cls:=.type "list", data:=.seq its.toArray n }
 | .tup xs=>xs.length<=sizeLine/\∃ its:List Xe,Vals xs its/\wu h a its.toArray
 | .dK kvs=>kvs.length<=sizeLine/\(a == Zw)=false/\∃ vs,KV kvs vs/\h.DictOf (cc P w) a vs
 | .dT kvs=>kvs.length<=sizeLine/\(a == Zw)=false/\∃ xs:List (List Key×Addr×Xe),
   ZI (λ(p:List Key×V) (q:List Key×Addr×Xe)=>p.1=q.1/\H q.2.1=some (.tup (p.1.map kV))/\RelV p.2 q.2.2) kvs xs/\
   ∃ o es ep,h.get? a=some o/\o.ExactDict/\o.data=.dict es ep/\es.toList=xs.map (entryOfKey (zc4 (cc P w)))/\(xs.map (·.1)).Nodup
 | .dD kvs=>kvs.length<=sizeLine/\(a == Zw)=false/\∃ xs:List (PyData×Addr×Xe),ZI (λp q=>p.1=q.1/\p.2.1=q.2.1/\RelV p.2.2 q.2.2) kvs xs/\
   ∃ o es ep,h.get? a=some o/\o.ExactDict/\o.data=.dict es ep/\es.toList=xs.map (λx=>(⟨haP w x.1,.ref x.2.1,x.2.2⟩:zel))/\(xs.map (·.1)).Nodup
 | .set S n=>h.SetOf (intKind P w) a S n
 | .ins C dx fs=>H dx=some (.own a)/\fs.length<=1000/\dx≠a/\h.get? a=some (zeP C dx)/\
   ∃ mA,h.Ns1 dx mA/\(∀ f,nW (fs.lookup f) (mA f))/\PySem.Within mA (fs.map (·.1))
 | .own _=>∃ o,h.get? a=some o
 | .xd fs=>∃ mA,h.Ns1 a mA/\∀ f,nW (fs.lookup f) (mA f)
 | .rng lo hi=>∃ t u v,h.get? a=some { cls:=.type "range", data:=.fields #[.int lo t,.int hi u,.int 1 v] }
 | .frz o u=>h.get? a=some o/\dh H h a u
 | .tbl ps=>h.get? a=some { cls:=.none,data:=.fields ps }
 | .met f x=>h.get? a=some (zbE (.ref f) (.ref x))
 | .ext φ=>φ h/\(∃ o,h.get? a=some o)/\∀ h1 h2:Heap,φ h1->(∀ o,h1.get? a=some o->h2.get? a=some o)->φ h2
def HOk (H:Hp)(h:Heap):Prop:=∀ a o,H a=some o->dh P w H h a o
end
section
variable {P:XO} {w:X0} {H H':Hp} {h h':Heap} {a:Addr} {o:HO}
theorem dh.lt (x:dh P w H h a o):a < h.objs.size:=by
 cases o with
 | lst xs=>obtain ⟨_,_,_,_,e⟩:=x;exact Xs e
 | tup xs=>obtain ⟨_,_,_,p⟩:=x;exact p.tup.lt
 | dK kvs=>obtain ⟨_,_,_,_,o,_,_,e,_⟩:=x;exact Xs e
 | dT kvs=>obtain ⟨_,_,_,_,o,_,_,e,_⟩:=x;exact Xs e
 | dD kvs=>obtain ⟨_,_,_,_,o,_,_,e,_⟩:=x;exact Xs e
 | set S n=>obtain ⟨o,_,_,_,e,_⟩:=x;exact Xs e
 | ins C dx fs=>obtain ⟨_,_,_,e,_⟩:=x;exact Xs e
 | own y=>obtain ⟨_,e⟩:=x;exact Xs e
 | xd fs=>obtain ⟨_,⟨_,_,_,e,_⟩,_⟩:=x;exact Xs e
 | rng lo hi=>obtain ⟨_,_,_,e⟩:=x;exact Xs e
 | frz ob u=>obtain ⟨e,_⟩:=x;exact Xs e
 | tbl ps=>exact Xs (show h.get? a=some _ from x)
 | met f y=>exact Xs (show h.get? a=some _ from x)
 | ext φ=>obtain ⟨_,⟨_,e⟩,_⟩:=x;exact Xs e
theorem ZI.Oc {α β:Type}{F G:α->β->Prop}:∀ {l₁:List α} {l₂:List β},ZI F l₁ l₂->(∀ a b,F a b->G a b)->ZI G l₁ l₂
 | _,_,.nil,_=>.nil
 | _,_,.cons r t,f=>.cons (f _ _ r) (ZI.Oc t f)
theorem dh.nX (x:dh P w H h a o)(k:∀ b u,(b=a∨H b=some (.own a))->h.get? b=some u->h'.get? b=some u)
  (ho:∀ b,H b=some (.own a)->H' b=some (.own a)) (ht:∀ b xs,H b=some (.tup xs)->H' b=some (.tup xs)):dh P w H' h' a o:=by
 induction o with
 | lst xs=>obtain ⟨z,its,n,r,e⟩:=x;exact ⟨z,its,n,r,k _ _ (.inl rfl) e⟩
 | tup xs=>obtain ⟨z,its,r,m,e⟩:=x;exact ⟨z,its,r,m,k _ _ (.inl rfl) e⟩
 | dK kvs=>obtain ⟨z,y,vs,r,ob,es,ep,e,c⟩:=x;exact ⟨z,y,vs,r,ob,es,ep,k _ _ (.inl rfl) e,c⟩
 | dT kvs=>
  obtain ⟨z,y,xs,r,ob,es,ep,e,c⟩:=x
  exact ⟨z,y,xs,ZI.Oc r λp q z=>⟨z.1,ht _ _ z.2.1,z.2.2⟩,ob,es,ep,k _ _ (.inl rfl) e,c⟩
 | dD kvs=>obtain ⟨z,y,xs,r,ob,es,ep,e,c⟩:=x;exact ⟨z,y,xs,r,ob,es,ep,k _ _ (.inl rfl) e,c⟩
 | set S n=>obtain ⟨ob,es,ep,t,e,c⟩:=x;exact ⟨ob,es,ep,t,k _ _ (.inl rfl) e,c⟩
 | ins C dx fs=>
  obtain ⟨d,z,ne,e,mA,⟨od,es,ep,e2,c⟩,r⟩:=x
  exact ⟨ho _ d,z,ne,k _ _ (.inl rfl) e,mA,⟨od,es,ep,k _ _ (.inr d) e2,c⟩,r⟩
 | own y=>obtain ⟨ob,e⟩:=x;exact ⟨ob,k _ _ (.inl rfl) e⟩
 | xd fs=>obtain ⟨mA,⟨od,es,ep,e,c⟩,r⟩:=x;exact ⟨mA,⟨od,es,ep,k _ _ (.inl rfl) e,c⟩,r⟩
 | rng lo hi=>obtain ⟨t,u,v,e⟩:=x;exact ⟨t,u,v,k _ _ (.inl rfl) e⟩
 | frz ob u ih=>obtain ⟨e,q⟩:=x;exact ⟨k _ _ (.inl rfl) e,ih q⟩
 | tbl ps=>
  have e:h.get? a=some { cls:=.none,data:=.fields ps }:=x
  show h'.get? a=some { cls:=.none,data:=.fields ps }
  exact k a _ (.inl rfl) e
 | met f y=>
  have e:h.get? a=some (zbE (.ref f) (.ref y)):=x
  show h'.get? a=some (zbE (.ref f) (.ref y))
  exact k a _ (.inl rfl) e
 | ext φ=>obtain ⟨p,⟨o,e⟩,st⟩:=x;exact ⟨st _ _ p λo q=>k _ _ (.inl rfl) q,⟨o,k _ _ (.inl rfl) e⟩,st⟩
theorem HOk.lt (x:HOk P w H h)(e:H a=some o):a < h.objs.size:=(x a o e).lt
theorem HOk.fresh (x:HOk P w H h)(e:h.objs.size<=a):H a=none:=by
 cases q:H a with
 | none=>rfl
 | some u=>exact absurd (XG (x.lt q) e) (Zx _)
theorem HOk.kept (x:HOk P w H h)(k:∀ b u,h.get? b=some u->h'.get? b=some u):HOk P w H h':=λa o e=>
 (x a o e).nX (λb u _ q=>k b u q) (λ_ q=>q) λ_ _ q=>q
theorem HOk.laid (x:HOk P w H h)(k:∀ b u,h.get? b=some u->h'.get? b=some u)(hp:h.objs.size<=a)(new:dh P w (upd H a o) h' a o):HOk P w (upd H a o) h':=λb u e=>by
 have hn:=x.fresh hp
 by_cases hb:b=a
 ·subst hb;rw[aK] at e;cases e;exact new
 ·rw[aJ hb] at e
  exact (x b u e).nX (λc v _ q=>k c v q) (λc q=>by rw[aJ (bo q hn)];exact q) λc xs q=>by rw[aJ (bo q hn)];exact q
end
def Rd (H:Hp)(a:Addr)(u:HO):Prop:=H a=some u∨∃ o,H a=some (.frz o u)
theorem Rd.ok {P:XO}{w:X0}{H:Hp}{h:Heap}{a:Addr}{u:HO}(r:Rd H a u)(x:HOk P w H h):dh P w H h a u:=by
 rcases r with r | ⟨o,r⟩
 ·exact x a u r
 ·obtain ⟨_,q⟩:=x a _ r
  exact q
def Mut:Option HO->Prop
 | some (.lst _)=>True
 | some (.dK _)=>True
 | some (.dT _)=>True
 | some (.dD _)=>True
 | some (.set _ _)=>True
 | some (.ins _ _ _)=>True
 | some (.ext _)=>True
 | _=>False
section
variable {P:XO} {w:X0} {H:Hp} {h h':Heap} {x e:Addr} {o':HO}
theorem HOk.write (ok:HOk P w H h)(mu:Mut (H x))(he:e=x∨H e=some (.own x))(k:∀ b u,b≠e->h.get? b=some u->h'.get? b=some u)(heo:∃ u,h'.get? e=some u)
  (new:dh P w (upd H x o') h' x o'):HOk P w (upd H x o') h':=λb u q=>by
 have Va:∀ c y,H c=some (.own y)->c≠x:=λc y r z=>by subst z;rw[r] at mu;exact mu
 have WN:∀ c xs,H c=some (.tup xs)->c≠x:=λc xs r z=>by subst z;rw[r] at mu;exact mu
 by_cases hb:b=x
 ·subst hb;rw[aK] at q;cases q;exact new
 ·rw[aJ hb] at q
  by_cases hbe:b=e
  ·have q':H b=some (.own x):=by
    rcases he with z | z
    ·exact absurd (hbe.trans z) hb
    ·rw[hbe];exact z
   rw[q] at q';cases q'
   obtain ⟨v,hv⟩:=heo
   exact ⟨v,by rw[hbe];exact hv⟩
  ·refine (ok b u q).nX (λc v hc r=>k c v ?_ r) (λc r=>by rw[aJ (Va c b r)];exact r) λc xs r=>by rw[aJ (WN c xs r)];exact r
   rcases hc with rfl | hc
   ·exact hbe
   ·rintro rfl
    rcases he with z | z
    ·exact Va c b hc z
    ·rw[hc] at z;cases z;exact hb rfl
end
structure Un (fs ex:List Addr) (H H':Hp) (h h':Heap):Prop where
 keep:∀ b o,h.get? b=some o->H b=none->b ∉ fs->b ∉ ex->h'.get? b=some o
 slot:∀ b o,h.get? b=some o->H b=none->b∈fs->b ∉ ex->∃ sl,h'.get? b=some { o with slots:=sl }
 free:∀ b o,h.get? b=some o->H b=none->b ∉ ex->H' b=none
 there:∀ b o,h.get? b=some o->b ∉ ex->∃ o',h'.get? b=some o'
 oD:∀ b xs,H b=some (.tup xs)->H' b=some (.tup xs)
 mq:∀ b o u,H b=some (.frz o u)->H' b=some (.frz o u)
 oA:∀ b ps,H b=some (.tbl ps)->∃ more,H' b=some (.tbl (ps++more))
section
variable {fs fs' ex ex':List Addr} {H H1 H2:Hp} {h h1 h2 h':Heap} {a x e:Addr} {o:HO}
theorem Un.any (u:Un fs ex H H1 h h1){b:Addr}{ob:Obj}(q:h.get? b=some ob)(n:H b=none)(hx:b ∉ ex):∃ sl,h1.get? b=some { ob with slots:=sl }:=by
 by_cases hb:b∈fs
 ·exact u.slot b ob q n hb hx
 ·exact ⟨ob.slots,u.keep b ob q n hb hx⟩
theorem Un.trans (a:Un fs ex H H1 h h1)(b:Un fs ex H1 H2 h1 h2):Un fs ex H H2 h h2 where
 keep:=λc ob q n hc hx=>b.keep c ob (a.keep c ob q n hc hx) (a.free c ob q n hx) hc hx
 slot:=λc ob q n hc hx=>by
  obtain ⟨sl,e1⟩:=a.slot c ob q n hc hx
  obtain ⟨sl',e2⟩:=b.slot c _ e1 (a.free c ob q n hx) hc hx
  exact ⟨sl',e2⟩
 free:=λc ob q n hx=>by
  obtain ⟨o',e1⟩:=a.there c ob q hx
  exact b.free c o' e1 (a.free c ob q n hx) hx
 there:=λc ob q hx=>by
  obtain ⟨o',e1⟩:=a.there c ob q hx
  exact b.there c o' e1 hx
 oD:=λc xs q=>b.oD c xs (a.oD c xs q)
 mq:=λc ob xs q=>b.mq c ob xs (a.mq c ob xs q)
 oA:=λc ps q=>by
  obtain ⟨m1,e1⟩:=a.oA c ps q
  obtain ⟨m2,e2⟩:=b.oA c _ e1
  exact ⟨m1++m2,by rw[e2,zdx]⟩
theorem Un.kept (k:∀ b u,h.get? b=some u->h'.get? b=some u):Un fs ex H H h h':=
 ⟨λb ob q _ _ _=>k b ob q,λb ob q _ _ _=>⟨ob.slots,k b ob q⟩,λ_ _ _ n _=>n,λb ob q _=>⟨ob,k b ob q⟩,λ_ _ q=>q,λ_ _ _ q=>q,λ_ ps q=>⟨#[],by rw[q];simp⟩⟩
theorem Un.refl:Un fs ex H H h h:=Un.kept λ_ _ q=>q
theorem Un.laid (k:∀ b u,h.get? b=some u->h'.get? b=some u)(hp:h.objs.size<=a)(hn:H a=none):Un fs ex H (upd H a o) h h' where
 keep:=λb u q _ _ _=>k b u q
 slot:=λb u q _ _ _=>⟨u.slots,k b u q⟩
 free:=λb u q n _=>by rw[aJ (XI (XG (Xs q) hp))];exact n
 there:=λb u q _=>⟨u,k b u q⟩
 oD:=λb xs q=>by rw[aJ (bo q hn)];exact q
 mq:=λb u xs q=>by rw[aJ (bo q hn)];exact q
 oA:=λb ps q=>⟨#[],by rw[aJ (bo q hn),q];simp⟩
theorem Un.write (mu:Mut (H x))(he:e=x∨H e=some (.own x))(k:∀ b u,b≠e->h.get? b=some u->h'.get? b=some u)(heo:∃ u,h'.get? e=some u):Un fs ex H (upd H x o) h h':=by
 have hx:∀ b,H b=none->b≠x:=λb n z=>by subst z;rw[n] at mu;exact mu
 have hb:∀ b,H b=none->b≠e:=λb n z=>by
  subst z
  rcases he with r | r
  ·exact hx b n r
  ·rw[n] at r;cases r
 have hm:∀ b u,H b=some u->¬ Mut (some u)->b≠x:=λb u q nm z=>by subst z;rw[q] at mu;exact nm mu
 refine ⟨λb u q n _ _=>k b u (hb b n) q,λb u q n _ _=>⟨u.slots,k b u (hb b n) q⟩,λb u q n _=>by rw[aJ (hx b n)];exact n,λb u q _=>?_,
  λb xs q=>by rw[aJ (hm b _ q λz=>z)];exact q,λb u xs q=>by rw[aJ (hm b _ q λz=>z)];exact q,λb ps q=>⟨#[],by rw[aJ (hm b _ q λz=>z),q];simp⟩⟩
 by_cases hbe:b=e
 ·subst hbe;exact heo
 ·exact ⟨u,k b u hbe q⟩
theorem Un.mono (u:Un fs ex H H1 h h1)(hs:∀ b∈fs,b∈fs')(hx:∀ b∈ex,b∈ex'):Un fs' ex' H H1 h h1:=
 ⟨λb ob q n hb he=>u.keep b ob q n (λz=>hb (hs b z)) λz=>he (hx b z),λ_ _ q n _ he=>u.any q n λz=>he (hx _ z),λb ob q n he=>u.free b ob q n λz=>he (hx b z),λb ob q he=>u.there b ob q λz=>he (hx b z),u.oD,u.mq,u.oA⟩
end
def trk (h:Heap)(H:Hp):List Addr:=(XX h.objs.size).filter λa=>(H a).isSome
def vD (h:Heap)(H:Hp):Heap:=PySem.W.hideAll h (trk h H)
theorem Fn (h:Heap)(H:Hp):(vD h H).objs.size=h.objs.size:=PySem.W.hideAll_size _ _
theorem G6 {h:Heap}{H:Hp}{b:Addr}{o:Obj}(e:h.get? b=some o)(n:H b=none):(vD h H).get? b=some o:=
 PySem.W.hideAll_get _ e λhm=>by
  have q:(H b).isSome=true:=(XZ.mp hm).2
  rw[n] at q;simp at q
theorem Mt {h:Heap}{H:Hp}{b:Addr}{o:Obj}(e:(vD h H).get? b=some o):h.get? b=some o/\H b=none:=by
 have e':h.get? b=some o:=PySem.W.of_hideAll (trk h H) e
 refine ⟨e',?_⟩
 cases q:H b with
 | none=>rfl
 | some x=>
  have hm:b∈trk h H:=XZ.mpr ⟨Ys.mpr (Xs e'),by simp[q]⟩
  have z:(vD h H).get? b=none:=PySem.W.hideAll_none (trk h H) hm
  rw[z] at e;cases e
def Lj (g h:Heap)(L:Addr):List (Addr×Obj):=(XX h.objs.size).filterMap λa=>if a=L∨(g.get? a).isSome=true then none else (h.get? a).map λo=>(a,o)
def rest (g h:Heap)(L d:Addr):List (Addr×Obj):=(Lj g h L).filter λp=>decide (p.1≠d)
structure Mod (K:Xa) (mg:Str->Option Xe) (base:Heap):Prop where
 kin:K.In base
 glob:base.Ns YJ mg
 blt:∃ mb,base.Ns zeZ mb/\∀ x:Str,x ≠ "__name__" -> mb x=YC x
 nolimit:base.NoLimit
structure Cx where
 prog:XO
 w:X0
 K:Xa
 mg:Str->Option Xe
 base:Heap
 A:X8
 N:List Str
 s₀:Xg
 H₀:Hp
 env:Env
 outer:List Env
 stack:List Env
 ex:List Addr
 fn:Str->Bool
 calm:Bool
 pn:List (Addr×Obj)
 xe:Xe->Xg->Prop
def frs (l:List Env):List Addr:=l.filterMap (·.frame)
abbrev Cx.fs (X:Cx):List Addr:=frs X.outer
def Vis (sc:Scope)(x:Str):Prop:=sc.names.lookup x=some .local∨sc.names.lookup x=some .cell∨sc.names.lookup x=some .free
def Loc (sc:Scope)(x:Str):Prop:=sc.names.lookup x=some .local∨sc.names.lookup x=some .cell
def Look (env:Env)(h:Heap)(m:Str->Option Xe)(x:Str)(u:Xe):Prop:=
 (env.kindOf x=some .local/\m x=some u)∨((env.kindOf x=some .cell∨env.kindOf x=some .free)/\∃ c,env.cells.lookup x=some c/\h.IsCell c (some u))
structure Cx.Ok (X:Cx):Prop where
 mod:Mod X.K X.mg X.base
 kind:X.env.scope.kind=.function
 glob:X.env.globals=YJ
 blt:X.env.builtins=zeZ
 above:X.s₀.heap.objs.size<=X.env.locals
 inj:∀ x y c,X.env.cells.lookup x=some c->X.env.cells.lookup y=some c->x=y
 has:∀ x,(X.env.kindOf x=some .cell∨X.env.kindOf x=some .free)->∃ c,X.env.cells.lookup x=some c
 cab:∀ x c,X.fn x=true->X.env.cells.lookup x=some c->X.s₀.heap.objs.size<=c
 hd:X.calm=true->X.A.handled=none
 frames:X.A.frames=some X.stack
 stk:X.stack=X.outer∨(X.stack=X.env::X.outer/\X.env.frame=some X.env.locals)
 exf:∀ b∈X.ex,b≠X.env.locals/\∀ x c,X.env.cells.lookup x=some c->c≠b
 bs:∀ b o,X.base.get? b=some o->X.s₀.heap.get? b=some o/\X.H₀ b=none
 bsz:X.base.objs.size<=X.s₀.heap.objs.size
 Jf:∀ b o,X.base.get? b=some o->b ∉ X.ex
 Hw:∀ b∈X.ex,b ∉ X.fs
 oj:X.s₀.heap.FunFrames X.base X.outer
 frf:∀ b∈X.fs,X.H₀ b=none
structure Inv (X:Cx) (pins:List (Addr×Obj)) (σ:List (Option V)) (H:Hp) (s:Xg):Prop where
 ok:X.Ok
 os:s.os=X.s₀.os
 bare:zbF s.gens
 base:Un X.fs X.ex X.H₀ H X.s₀.heap s.heap
 loc:∃ m,s.heap.Ns X.env.locals m/\∀ (i:Nat) (x:Str) (v:V),X.N[i]? = some x->σ[i]? = some (some v)->Vis X.env.scope x->∃ u,RelV v u/\Look X.env s.heap m x u
 cell:∀ x c,X.env.cells.lookup x=some c->∃ v,s.heap.IsCell c v
 free:H X.env.locals=none
 jw:∀ x c,X.env.cells.lookup x=some c->H c=none
 pin:∀ p∈X.pn++pins,s.heap.get? p.1=some p.2/\H p.1=none/\p.1≠X.env.locals/\p.1 ∉ X.fs/\∀ v,p.2.data≠.cell v
 hok:HOk X.prog X.w H s.heap
 len:σ.length=X.N.length
section
variable {X:Cx} {pins:List (Addr×Obj)} {σ:List (Option V)} {H H':Hp} {s:Xg} {h':Heap}
theorem Cx.Ok.WX (ok:X.Ok){b:Addr}{o:Obj}(e:X.base.get? b=some o):b ∉ X.fs:=λhb=>by
 have:=(ok.oj.mem hb).1
 rw[e] at this;cases this
theorem Inv.bs (I:Inv X pins σ H s):∀ b o,X.base.get? b=some o->s.heap.get? b=some o/\H b=none:=λb o e=>
 ⟨I.base.keep b o (I.ok.bs b o e).1 (I.ok.bs b o e).2 (I.ok.WX e) (I.ok.Jf b o e),I.base.free b o (I.ok.bs b o e).1 (I.ok.bs b o e).2 (I.ok.Jf b o e)⟩
theorem Inv.bk (I:Inv X pins σ H s):∀ b o,X.base.get? b=some o->s.heap.get? b=some o:=λb o e=>(I.bs b o e).1
theorem Inv.mod (I:Inv X pins σ H s):Mod X.K X.mg X.base:=I.ok.mod
theorem Inv.kIn (I:Inv X pins σ H s):X.K.In s.heap:=I.ok.mod.kin.keeps I.bk
theorem Inv.nolimit (I:Inv X pins σ H s):s.heap.NoLimit:=I.ok.mod.nolimit.keeps I.bk
theorem Inv.fr (I:Inv X pins σ H s):∃ m,Fr X.base X.env.locals s.heap m:=
 let ⟨m,hn,_⟩:=I.loc
 ⟨m,hn,I.bk,Yd I.ok.bsz I.ok.above⟩
theorem Inv.lt (I:Inv X pins σ H s):X.env.locals < s.heap.objs.size:=let ⟨_,hn,_⟩:=I.loc;hn.lt
theorem Inv.sz (I:Inv X pins σ H s):X.s₀.heap.objs.size<=s.heap.objs.size:=Yd I.ok.above (zaK I.lt)
theorem Inv.VE (I:Inv X pins σ H s){a:Addr}(h:s.heap.objs.size<=a):a ∉ X.fs:=λhb=>by
 obtain ⟨_,o,ho,_⟩:=I.ok.oj.mem hb
 exact absurd (XG (Xs ho) (Yd I.sz h)) (Zx _)
theorem Inv.cne (I:Inv X pins σ H s):∀ x c,X.env.cells.lookup x=some c->c≠X.env.locals:=λx c e z=>by
 obtain ⟨v,o,ho,hd⟩:=I.cell x c e
 obtain ⟨m,⟨o',es,ep,ho',hd',_⟩,_⟩:=I.loc
 rw[z,ho'] at ho;cases ho;rw[hd'] at hd;cases hd
theorem Inv.oj (I:Inv X pins σ H s):s.heap.FunFrames X.base X.outer:=by
 have all:∀ (l:List Env),(∀ b∈frs l,b∈X.fs)->X.s₀.heap.FunFrames X.base l->s.heap.FunFrames X.base l:=by
  intro l
  induction l with
  | nil=>intro _ _;trivial
  | cons env r ih=>
   intro hs hl
   obtain ⟨hk,⟨L,o,hf,hn,ho,hd⟩,hr⟩:=hl
   have hL:L∈X.fs:=hs L (by unfold frs;rw[YV,hf];exact Xl)
   obtain ⟨sl,e⟩:=I.base.slot L o ho (I.ok.frf L hL) hL λz=>I.ok.Hw L z hL
   exact ⟨hk,⟨L,_,hf,hn,e,hd⟩,ih (λb hb=>hs b (by unfold frs;rw[YV,hf];exact Xp _ hb)) hr⟩
 exact all X.outer (λ_ hb=>hb) I.ok.oj
theorem Inv.stack (I:Inv X pins σ H s):s.heap.FunFrames X.base X.stack:=by
 rcases I.ok.stk with e | ⟨e,hf⟩
 ·rw[e];exact I.oj
 ·rw[e]
  obtain ⟨m,hn,_⟩:=I.loc
  refine .cons (by rw[I.ok.kind];decide) hf hn ?_ I.oj
  exact Heap.get?_none_of_le (Yd I.ok.bsz I.ok.above)
theorem Inv.zY (I:Inv X pins σ H s):∀ b∈frs X.stack,b∈X.env.locals::X.fs:=λb hb=>by
 rcases I.ok.stk with e | ⟨e,hf⟩
 ·rw[e] at hb;exact Xp _ hb
 ·rw[e] at hb
  unfold frs at hb
  rw[YV,hf] at hb
  exact hb
theorem Inv.Cy (I:Inv X pins σ H s):∀ b∈frs X.stack,H b=none:=λb hb=>by
 rcases Xr.mp (I.zY b hb) with e | hb
 ·rw[e];exact I.free
 ·obtain ⟨_,o,ho,_⟩:=I.ok.oj.mem hb
  exact I.base.free b o ho (I.ok.frf b hb) λz=>I.ok.Hw b z hb
theorem Inv.step {g':Array GenState}{t':Nat}{d':Drawn}{ch:List Addr}(I:Inv X pins σ H s)
  (hch:∀ b∈ch,(b∈X.ex∨X.s₀.heap.objs.size<=b)/\b≠X.env.locals/\(∀ x c,X.env.cells.lookup x=some c->c≠b)/\∀ p∈X.pn++pins,p.1≠b)
  (keep:∀ b o,b≠X.env.locals->b ∉ X.fs->b ∉ ch->s.heap.get? b=some o->H b=none->h'.get? b=some o)
  (slot:∀ b o,b≠X.env.locals->b∈X.fs->b ∉ ch->s.heap.get? b=some o->H b=none->∃ sl,h'.get? b=some { o with slots:=sl }) (free:∀ b o,b ∉ ch->s.heap.get? b=some o->H b=none->H' b=none)
  (there:∀ b o,b ∉ ch->s.heap.get? b=some o->∃ o',h'.get? b=some o')
  (oD:∀ b xs,H b=some (.tup xs)->H' b=some (.tup xs)) (mq:∀ b o u,H b=some (.frz o u)->H' b=some (.frz o u)) (oA:∀ b ps,H b=some (.tbl ps)->∃ more,H' b=some (.tbl (ps++more)))
  (ns:∀ m,s.heap.Ns X.env.locals m->h'.Ns X.env.locals m) (hok:HOk X.prog X.w H' h') (hg:zbF g') :
  Inv X pins σ H' { s with heap:=h',gens:=g',drawn:=d',toks:=t' }:=by
 have neL:∀ b o,X.s₀.heap.get? b=some o->b≠X.env.locals:=λb o e=>XI (XG (Xs e) I.ok.above)
 have neC:∀ b o,X.s₀.heap.get? b=some o->b ∉ X.ex->b ∉ ch:=λb o e hx hb=>by
  rcases (hch b hb).1 with z | z
  ·exact hx z
  ·exact absurd (XG (Xs e) z) (Zx _)
 have cellK:∀ x c,X.env.cells.lookup x=some c->∀ v,s.heap.IsCell c v->h'.IsCell c v:=λx c e v ⟨o,ho,hd⟩=>by
  have nch:c ∉ ch:=λz=>(hch c z).2.2.1 x c e rfl
  by_cases hc:c∈X.fs
  ·obtain ⟨sl,q⟩:=slot c o (I.cne x c e) hc nch ho (I.jw x c e)
   exact ⟨_,q,hd⟩
  ·exact ⟨o,keep c o (I.cne x c e) hc nch ho (I.jw x c e),hd⟩
 refine ⟨I.ok,I.os,hg,⟨λb o e n hb hx=>?_,λb o e n hb hx=>?_,λb o e n hx=>?_,λb o e hx=>?_,λb xs e=>oD b xs (I.base.oD b xs e),λb o xs e=>mq b o xs (I.base.mq b o xs e),λb ps e=>?_⟩,?_,λx c e=>?_,?_,λx c e=>?_,λp hp=>?_,hok,I.len⟩
 ·exact keep b o (neL b o e) hb (neC b o e hx) (I.base.keep b o e n hb hx) (I.base.free b o e n hx)
 ·obtain ⟨sl,e1⟩:=I.base.slot b o e n hb hx
  obtain ⟨sl',e2⟩:=slot b _ (neL b o e) hb (neC b o e hx) e1 (I.base.free b o e n hx)
  exact ⟨sl',e2⟩
 ·obtain ⟨o',e1⟩:=I.base.there b o e hx
  exact free b o' (neC b o e hx) e1 (I.base.free b o e n hx)
 ·obtain ⟨o',e1⟩:=I.base.there b o e hx
  exact there b o' (neC b o e hx) e1
 ·obtain ⟨m1,e1⟩:=I.base.oA b ps e
  obtain ⟨m2,e2⟩:=oA b _ e1
  exact ⟨m1++m2,by rw[e2,zdx]⟩
 ·obtain ⟨m,hn,hl⟩:=I.loc
  refine ⟨m,ns m hn,λi x v e1 e2 e3=>?_⟩
  obtain ⟨u,r,l⟩:=hl i x v e1 e2 e3
  refine ⟨u,r,?_⟩
  rcases l with l | ⟨k,c,e,z⟩
  ·exact .inl l
  ·exact .inr ⟨k,c,e,cellK x c e _ z⟩
 ·obtain ⟨v,z⟩:=I.cell x c e
  exact ⟨v,cellK x c e v z⟩
 ·obtain ⟨m,⟨o,_,_,ho,_⟩,_⟩:=I.loc
  exact free _ o (λz=>(hch _ z).2.1 rfl) ho I.free
 ·obtain ⟨v,o,ho,hd⟩:=I.cell x c e
  exact free c o (λz=>(hch c z).2.2.1 x c e rfl) ho (I.jw x c e)
 ·obtain ⟨e,n,ne,nf,d⟩:=I.pin p hp
  have nch:p.1 ∉ ch:=λz=>(hch p.1 z).2.2.2 p hp rfl
  exact ⟨keep p.1 p.2 ne nf nch e n,free p.1 p.2 nch e n,ne,nf,d⟩
theorem Inv.un {t':Nat}(I:Inv X pins σ H s)(u:Un X.fs [] H H' s.heap h')(hok:HOk X.prog X.w H' h'):Inv X pins σ H' { s with heap:=h',toks:=t' }:=by
 obtain ⟨m,⟨o,es,ep,ho,r⟩,_⟩:=id I.loc
 obtain ⟨sl,hL⟩:=u.any ho I.free (by simp)
 exact I.step (g':=s.gens) (d':=s.drawn) (ch:=[]) (λ_ z=>nomatch z) (λb o _ hb _ e n=>u.keep b o e n hb (by simp)) (λb o _ hb _ e n=>u.slot b o e n hb (by simp)) (λb o _ e n=>u.free b o e n (by simp)) (λb o _ e=>u.there b o e (by simp)) u.oD u.mq u.oA (λm' hm=>by
  obtain ⟨o',es',ep',ho',r'⟩:=hm
  rw[ho] at ho';cases ho'
  exact ⟨_,es',ep',hL,r'⟩) hok I.bare
theorem Inv.call {g':Array GenState}{t':Nat}{d':Drawn}{ch:List Addr}(I:Inv X pins σ H s)(u:Un (frs X.stack) ch H H' s.heap h')(hok:HOk X.prog X.w H' h')(hg:zbF g')
  (hch:∀ b∈ch,(b∈X.ex∨X.s₀.heap.objs.size<=b)/\b≠X.env.locals/\(∀ x c,X.env.cells.lookup x=some c->c≠b)/\∀ p∈X.pn++pins,p.1≠b) :
  Inv X pins σ H' { s with heap:=h',gens:=g',drawn:=d',toks:=t' }:=by
 obtain ⟨m,⟨o,es,ep,ho,r⟩,_⟩:=id I.loc
 obtain ⟨sl,hL⟩:=u.any ho I.free λz=>(hch _ z).2.1 rfl
 exact I.step (ch:=ch) hch (λb o hL hb hc e n=>u.keep b o e n (λz=>(Xr.mp (I.zY b z)).elim hL hb) hc) (λb o _ _ hc e n=>u.any e n hc) (λb o hc e n=>u.free b o e n hc) (λb o hc e=>u.there b o e hc) u.oD u.mq u.oA (λm' hm=>by
  obtain ⟨o',es',ep',ho',r'⟩:=hm
  rw[ho] at ho';cases ho'
  exact ⟨_,es',ep',hL,r'⟩) hok hg
theorem Inv.turned {t':Nat}{it:Addr}(I:Inv X pins σ H s)(k:∀ b o,b≠it->s.heap.get? b=some o->h'.get? b=some o)(hn:H it=none)(hL:it≠X.env.locals)
  (h1:it∈X.ex∨X.s₀.heap.objs.size<=it) (h2:∀ x c,X.env.cells.lookup x=some c->c≠it) (h3:∀ p∈X.pn++pins,p.1≠it):Inv X pins σ H { s with heap:=h',toks:=t' }:=by
 have nit:∀ b u,H b=some u->b≠it:=λb u e z=>by rw[z,hn] at e;cases e
 refine I.step (g':=s.gens) (d':=s.drawn) (ch:=[it]) (λb hb=>?_) (λb o _ _ hc e _=>k b o (λz=>hc (by simp[z])) e) (λb o _ _ hc e _=>⟨o.slots,k b o (λz=>hc (by simp[z])) e⟩) (λ_ _ _ _ n=>n)
  (λb o hc e=>⟨o,k b o (λz=>hc (by simp[z])) e⟩) (λ_ _ e=>e) (λ_ _ _ e=>e) (λb ps e=>⟨#[],by rw[e];simp⟩) (λm hm=>?_) (λb u e=>?_) I.bare
 ·have e:b=it:=by simpa using hb
  subst e
  exact ⟨h1,hL,h2,h3⟩
 ·obtain ⟨o,es,ep,ho,r⟩:=hm
  exact ⟨o,es,ep,k _ o (XA hL) ho,r⟩
 ·refine (I.hok b u e).nX (λc v hc q=>k c v ?_ q) (λ_ q=>q) λ_ _ q=>q
  rcases hc with z | z
  ·rw[z];exact nit b u e
  ·exact nit c _ z
theorem Inv.tok (I:Inv X pins σ H s)(t:Nat):Inv X pins σ H { s with toks:=t }:=I.un (h':=s.heap) (t':=t) Un.refl I.hok
theorem Inv.kept {t':Nat}(I:Inv X pins σ H s)(k:∀ b u,s.heap.get? b=some u->h'.get? b=some u):Inv X pins σ H { s with heap:=h',toks:=t' }:=I.un (Un.kept k) (I.hok.kept k)
theorem Inv.laid {a:Addr}{o:HO}{t':Nat}(I:Inv X pins σ H s)(k:∀ b u,s.heap.get? b=some u->h'.get? b=some u)(hp:s.heap.objs.size<=a)(new:dh X.prog X.w (upd H a o) h' a o) :
  Inv X pins σ (upd H a o) { s with heap:=h',toks:=t' }:=I.un (Un.laid k hp (I.hok.fresh hp)) (I.hok.laid k hp new)
theorem Inv.write {x e:Addr}{o:HO}{t':Nat}(I:Inv X pins σ H s)(mu:Mut (H x))(he:e=x∨H e=some (.own x))(k:∀ b u,b≠e->s.heap.get? b=some u->h'.get? b=some u)(heo:∃ u,h'.get? e=some u)
  (new:dh X.prog X.w (upd H x o) h' x o):Inv X pins σ (upd H x o) { s with heap:=h',toks:=t' }:=I.un (Un.write mu he k heo) (I.hok.write mu he k heo new)
theorem Inv.weak {σ':List (Option V)}(I:Inv X pins σ H s)(hl:σ'.length=σ.length)(w:∀ (i:Nat) v,σ'[i]? = some (some v)->σ[i]? = some (some v)):Inv X pins σ' H s:=
 ⟨I.ok,I.os,I.bare,I.base,let ⟨m,hn,hl'⟩:=I.loc;⟨m,hn,λi x v e1 e2 e3=>hl' i x v e1 (w i v e2) e3⟩,I.cell,I.free,I.jw,I.pin,I.hok,hl.trans I.len⟩
theorem Inv.DU {pins':List (Addr×Obj)}(I:Inv X pins σ H s)(h:∀ p∈pins',s.heap.get? p.1=some p.2/\H p.1=none/\p.1≠X.env.locals/\p.1 ∉ X.fs/\∀ v,p.2.data≠.cell v):Inv X pins' σ H s:=
 ⟨I.ok,I.os,I.bare,I.base,I.loc,I.cell,I.free,I.jw,λp hp=>(Yi.mp hp).elim (λz=>I.pin p (Y5 _ z)) (h p),I.hok,I.len⟩
theorem yl {N:List Str}(hN:N.Nodup){i j:Nat}{x:Str}(a:N[i]? = some x)(b:N[j]? = some x):i=j:=by
 obtain ⟨h1,e1⟩:=XR.mp a
 obtain ⟨h2,e2⟩:=XR.mp b
 exact (List.getElem_inj hN).mp (e1.trans e2.symm)
theorem Fp {M:Model}{A:X8}{E:Xe->Xg->Prop}{i:Nat}{x:Str}{v:V}{u:Xe}{Q:Unit->Xg->Prop}(I:Inv X pins σ H s)(hN:X.N.Nodup)(hi:X.N[i]? = some x)(hx:Loc X.env.scope x)(r:RelV v u)
  (h:∀ s',Inv X pins (σ.set i (some v)) H s'->(∃ a,zaf a s.heap s'.heap/\(a=X.env.locals∨X.env.cells.lookup x=some a))->Q () s') (hf:X.fn x=true∨X.env.scope.names.lookup x=some .local:=by first | exact .inl rfl | exact .inr rfl | assumption):Xy M A (storeName X.env x u) Q E s:=by
 obtain ⟨m,hn,hl⟩:=id I.loc
 have VC:(X.env.scope.kind == .class || (X.env.scope.kind == .module&&X.env.locals != X.env.globals))=false:=by rw[I.ok.kind];rfl
 have hiσ:i < σ.length:=by rw[I.len];exact (XR.mp hi).1
 have cne:=I.cne
 have tracked:∀ {a:Addr} {h':Heap},(∃ o,s.heap.get? a=some o/\H a=none)->zaf a s.heap h'->HOk X.prog X.w H h':=λ{a h'} ha hs b ob e=>by
  obtain ⟨_,_,hfree⟩:=ha
  refine (I.hok b ob e).nX (λc w' hc q=>(hs.2 c ?_).trans q) (λ_ q=>q) λ_ _ q=>q
  rintro rfl
  rcases hc with rfl | hc
  ·rw[hfree] at e;cases e
  ·rw[hfree] at hc;cases hc
 rcases hx with hk | hk
 ·refine wpAny_storeName_local hk hn (λh' hn' hs=>?_) VC
  obtain ⟨oL,_,_,hoL,_⟩:=id hn
  refine h _ ⟨I.ok,I.os,I.bare,⟨λb o e n hb hx=>?_,λb o e n hb hx=>?_,I.base.free,λb o e hx=>?_,I.base.oD,I.base.mq,I.base.oA⟩,⟨_,hn',λj y v' e1 e2 e3=>?_⟩,λy c e=>?_,I.free,I.jw,λp hp=>?_,tracked ⟨oL,hoL,I.free⟩ hs,by simpa using I.len⟩ ⟨_,hs,.inl rfl⟩
  ·exact (hs.2 b (XI (XG (Xs e) I.ok.above))).trans (I.base.keep b o e n hb hx)
  ·obtain ⟨sl,e1⟩:=I.base.slot b o e n hb hx
   exact ⟨sl,(hs.2 b (XI (XG (Xs e) I.ok.above))).trans e1⟩
  ·obtain ⟨o',e1⟩:=I.base.there b o e hx
   exact ⟨o',(hs.2 b (XI (XG (Xs e) I.ok.above))).trans e1⟩
  ·by_cases hj:j=i
   ·subst hj
    rw[hi] at e1;cases e1
    rw[zaL hiσ] at e2
    cases e2
    exact ⟨u,r,.inl ⟨hk,by simp⟩⟩
   ·rw[Zt (XA hj)] at e2
    obtain ⟨u',r',q⟩:=hl j y v' e1 e2 e3
    refine ⟨u',r',?_⟩
    rcases q with ⟨k,e⟩ | ⟨k,c,e,z⟩
    ·refine .inl ⟨k,?_⟩
     have:y≠x:=λe=>hj (yl hN e1 (e ▸ hi))
     simp[this,e]
    ·exact .inr ⟨k,c,e,z.sameBut hs (cne y c e)⟩
  ·obtain ⟨w',z⟩:=I.cell y c e
   exact ⟨w',z.sameBut hs (cne y c e)⟩
  ·obtain ⟨e,n,ne,nf,d⟩:=I.pin p hp
   exact ⟨(hs.2 p.1 ne).trans e,n,ne,nf,d⟩
 ·have hfn:X.fn x=true:=by
   rcases hf with z | z
   ·exact z
   ·rw[z] at hk;cases hk
  obtain ⟨c,hc⟩:=I.ok.has x (.inl hk)
  obtain ⟨w',z⟩:=I.cell x c hc
  refine wpAny_storeName_cell I.ok.kind hk hc z (λh' hc' hs=>?_)
  obtain ⟨oc,hoc,hocd⟩:=id z
  refine h { s with heap:=h' } ⟨I.ok,I.os,I.bare,⟨λb o e n hb hx=>?_,λb o e n hb hx=>?_,I.base.free,λb o e hx=>?_,I.base.oD,I.base.mq,I.base.oA⟩,⟨m,hn.sameBut hs (XA (cne x c hc)),λj y v' e1 e2 e3=>?_⟩,λy c' e=>?_,I.free,I.jw,λp hp=>?_,tracked ⟨oc,hoc,I.jw x c hc⟩ hs,by simpa using I.len⟩ ⟨c,hs,.inr hc⟩
  ·exact (hs.2 b (XI (XG (Xs e) (I.ok.cab x c hfn hc)))).trans (I.base.keep b o e n hb hx)
  ·obtain ⟨sl,e1⟩:=I.base.slot b o e n hb hx
   exact ⟨sl,(hs.2 b (XI (XG (Xs e) (I.ok.cab x c hfn hc)))).trans e1⟩
  ·obtain ⟨o',e1⟩:=I.base.there b o e hx
   exact ⟨o',(hs.2 b (XI (XG (Xs e) (I.ok.cab x c hfn hc)))).trans e1⟩
  ·by_cases hj:j=i
   ·subst hj
    rw[hi] at e1;cases e1
    rw[zaL hiσ] at e2
    cases e2
    exact ⟨u,r,.inr ⟨.inl hk,c,hc,hc'⟩⟩
   ·rw[Zt (XA hj)] at e2
    obtain ⟨u',r',q⟩:=hl j y v' e1 e2 e3
    refine ⟨u',r',?_⟩
    rcases q with q | ⟨k,c',e,z'⟩
    ·exact .inl q
    ·refine .inr ⟨k,c',e,z'.sameBut hs ?_⟩
     rintro rfl
     exact hj (yl hN e1 (I.ok.inj _ _ _ e hc ▸ hi))
  ·by_cases hcc:c'=c
   ·subst hcc;exact ⟨_,hc'⟩
   ·obtain ⟨w2,z2⟩:=I.cell y c' e
    exact ⟨w2,z2.sameBut hs hcc⟩
  ·obtain ⟨e,n,ne,nf,d⟩:=I.pin p hp
   refine ⟨(hs.2 p.1 ?_).trans e,n,ne,nf,d⟩
   intro q
   rw[q,hoc] at e
   have q':oc=p.2:=X5 e
   exact d w' (by rw[← q'];exact hocd)
theorem eS {M:Model}{A:X8}{E:Xe->Xg->Prop}{i:Nat}{x:Str}{v:V}{u:Xe}{Q:Unit->Xg->Prop}(I:Inv X pins σ H s)(hN:X.N.Nodup)(hi:X.N[i]? = some x)(hx:Loc X.env.scope x)(r:RelV v u)
  (h:∀ s',Inv X pins (σ.set i (some v)) H s'->Q () s') (hf:X.fn x=true∨X.env.scope.names.lookup x=some .local:=by first | exact .inl rfl | exact .inr rfl | assumption):Xy M A (storeName X.env x u) Q E s:=
 Fp I hN hi hx r (λs' I' _=>h s' I') hf
theorem Inv.Oz {s':Xg}{ch:List Addr}(I:Inv X pins σ H s)(ho:s'.os=s.os)(u:Un (frs X.stack) ch H H' s.heap s'.heap)(hok:HOk X.prog X.w H' s'.heap)(hg:zbF s'.gens)
  (hch:∀ b∈ch,(b∈X.ex∨X.s₀.heap.objs.size<=b)/\b≠X.env.locals/\(∀ x c,X.env.cells.lookup x=some c->c≠b)/\∀ p∈X.pn++pins,p.1≠b):Inv X pins σ H' s':=by
 obtain ⟨h',g',d',t',o'⟩:=s'
 have e:o'=s.os:=ho
 subst e
 exact I.call (g':=g') (t':=t') (d':=d') u hok hg hch
end
abbrev XK:=Xe->Option Addr->Hp->Prop
abbrev St:=List (Option V)
abbrev VK:=V->Hp->Prop
abbrev TE:=St->Hp->VK->Prop
abbrev TT:=St->Hp->(Bool->Hp->Prop)->Prop
abbrev TA:=St->Hp->(List V->Hp->Prop)->Prop
structure Ends where
 nx:St->Hp->Prop
 rt:VK
 bk:St->Hp->Prop:=λ_ _=>False
 ct:St->Hp->Prop:=λ_ _=>False
abbrev TS:=Ends->St->Hp->Prop
def EP (X:Cx)(pins:List (Addr×Obj))(σ:St)(Q:VK)(u:Xe)(s':Xg):Prop:=∃ v H',Inv X pins σ H' s'/\RelV v u/\Q v H'
def TP (X:Cx)(pins:List (Addr×Obj))(σ:St)(Q:Bool->Hp->Prop)(b:Bool)(s':Xg):Prop:=∃ H',Inv X pins σ H' s'/\Q b H'
def AP (X:Cx)(pins:List (Addr×Obj))(σ:St)(Q:List V->Hp->Prop)(us:List Xe)(s':Xg):Prop:=∃ vs H',Inv X pins σ H' s'/\Vals vs us/\Q vs H'
def SP (X:Cx)(pins:List (Addr×Obj))(D:Ends)(f:Flow)(s':Xg):Prop:=
 match f with
 | .next=>∃ σ' H',Inv X pins σ' H' s'/\D.nx σ' H'
 | .brk=>∃ σ' H',Inv X pins σ' H' s'/\D.bk σ' H'
 | .cont=>∃ σ' H',Inv X pins σ' H' s'/\D.ct σ' H'
 | .ret u=>∃ v σ' H',Inv X pins σ' H' s'/\RelV v u/\D.rt v H'
def PE (X:Cx)(e:XJ)(t:TE):Prop:=
 ∀ (pins:List (Addr×Obj)) (s:Xg) (σ:St) (H:Hp) (Q:VK),Inv X pins σ H s->t σ H Q->Xy (XF X.prog X.w) X.A (Yr e X.env) (EP X pins σ Q) X.xe s
def PT (X:Cx)(e:XJ)(t:TT):Prop:=
 ∀ (pins:List (Addr×Obj)) (s:Xg) (σ:St) (H:Hp) (Q:Bool->Hp->Prop),Inv X pins σ H s->t σ H Q->Xy (XF X.prog X.w) X.A (isTrue e X.env (Yr e X.env)) (TP X pins σ Q) X.xe s
def PW (X:Cx)(e:XJ)(t:TT):Prop:=
 ∀ (whole:Sem Xe) (pins:List (Addr×Obj)) (s:Xg) (σ:St) (H:Hp) (Q:Bool->Hp->Prop),Inv X pins σ H s->t σ H Q->Xy (XF X.prog X.w) X.A (isTrue e X.env whole) (TP X pins σ Q) X.xe s
theorem PW.pt {X:Cx}{e:XJ}{t:TT}(h:PW X e t):PT X e t:=h _
def PA (X:Cx)(es:List XJ)(t:TA):Prop:=
 ∀ (pos:Pos) (pins:List (Addr×Obj)) (s:Xg) (σ:St) (H:Hp) (Q:List V->Hp->Prop),Inv X pins σ H s->t σ H Q->Xy (XF X.prog X.w) X.A (spliced (YI pos (Xt es X.env))) (AP X pins σ Q) X.xe s
def PS (X:Cx)(st:Stmt)(t:TS):Prop:=
 ∀ (pins:List (Addr×Obj)) (s:Xg) (σ:St) (H:Hp) (D:Ends),Inv X pins σ H s->t D σ H->Xy (XF X.prog X.w) X.A (exec st X.env) (SP X pins D) X.xe s
def PSs (X:Cx)(st:List Stmt)(t:TS):Prop:=
 ∀ (pins:List (Addr×Obj)) (s:Xg) (σ:St) (H:Hp) (D:Ends),Inv X pins σ H s->t D σ H->Xy (XF X.prog X.w) X.A (execs st X.env) (SP X pins D) X.xe s
theorem thn {α:Type}{t:Sem α}{Q Q':α->Xg->Prop}{M:Model}{A:X8}{E:Xe->Xg->Prop}{s:Xg}(h:Xy M A t Q E s)(hQ:∀ a s,Q a s->Q' a s):Xy M A t Q' E s:=Yt h hQ λ_ _ x=>x
section
variable {X:Cx}
def Us (i:Nat):TE:=λσ H Q=>∃ v,σ[i]? = some (some v)/\Q v H
def tC (v:V):TE:=λ_ H Q=>Q v H
theorem J1 {i:Nat}{x:Str}{pos:Pos}(hN:X.N[i]? = some x)(hv:Vis X.env.scope x)(hd:(x == ("__debug__" : Str))=false:=by decide)(hcd:(x == ("__classdict__" : Str))=false:=by decide):PE X (.Name x pos) (Us i):=by
 intro pins s σ H Q I h
 obtain ⟨v,e,h⟩:=h
 obtain ⟨m,hn,hl⟩:=I.loc
 obtain ⟨u,r,l⟩:=hl i x v hN e hv
 have fin:EP X pins σ Q u s:=⟨v,H,I,r,h⟩
 rcases l with ⟨hk,hm⟩ | ⟨hk,c,hc,hcell⟩
 ·exact ze0 (zcH I.ok.kind hk hn hm fin) hd
 ·rcases hk with hk | hk
  ·exact ze0 (zc8 I.ok.kind hk hc hcell fin) hd
  ·exact ze0 (wpAny_loadName_free I.ok.kind hk hc hcell fin hcd) hd
theorem Rt {i j pos}:PE X (.Constant (.int i) j pos) (tC (.int i)):=λ_ _ _ H _ I h=>wpAny_Constant_int ⟨.int i,H,I.tok _,⟨_,rfl⟩,h⟩
theorem Tw {b j pos}:PE X (.Constant (.bool b) j pos) (tC (.bl b)):=λ_ _ _ H _ I h=>Constant_bool ⟨.bl b,H,I,rfl,h⟩
theorem Rr {j pos}:PE X (.Constant .none j pos) (tC .non):=λ_ _ _ H _ I h=>Constant_none ⟨.non,H,I,rfl,h⟩
theorem Gu {x j pos}:PE X (.Constant (.str x) j pos) (tC (.str x)):=λ_ _ _ H _ I h=>Calls.Constant_str ⟨.str x,H,I.tok _,⟨_,rfl⟩,h⟩
def Gl (X:Cx)(x:Str):Prop:=X.env.kindOf x=some .globalImplicit
theorem CU {E:Xe->Xg->Prop}{pins:List (Addr×Obj)}{s:Xg}{σ:St}{H:Hp}{x:Str}{u:Xe}{pos:Pos}{Q:Xe->Xg->Prop}(I:Inv X pins σ H s)(hg:Gl X x)(hm:X.mg x=some u)(h:Q u s)
  (hd:(x == ("__debug__" : Str))=false:=by decide):Xy (XF X.prog X.w) X.A (Yr (.Name x pos) X.env) Q E s:=
 zbq I.ok.kind hg (Calls.loadGlobal_global (by rw[I.ok.glob];exact I.mod.glob.keeps I.bk) hm h) hd
theorem iA {E:Xe->Xg->Prop}{pins:List (Addr×Obj)}{s:Xg}{σ:St}{H:Hp}{x:Str}{u:Xe}{pos:Pos}{Q:Xe->Xg->Prop}(I:Inv X pins σ H s)(hg:Gl X x)(hm:X.mg x=none)(hv:YC x=some u)(h:Q u s)
  (hn:x ≠ "__name__" := by decide) (hd:(x == ("__debug__" : Str))=false:=by decide):Xy (XF X.prog X.w) X.A (Yr (.Name x pos) X.env) Q E s:=by
 obtain ⟨mb,h1,h2⟩:=I.mod.blt
 exact zbq I.ok.kind hg (Calls.loadGlobal_builtin (by rw[I.ok.glob];exact I.mod.glob.keeps I.bk) hm (by rw[I.ok.blt];exact h1.keeps I.bk) ((h2 x hn).trans hv) h) hd
theorem Mv {x:Str}{v:V}{u:Xe}{pos:Pos}(hg:Gl X x)(hm:X.mg x=some u)(r:RelV v u)(hd:(x == ("__debug__" : Str))=false:=by decide):PE X (.Name x pos) (tC v):=
 λ_ _ _ H _ I h=>CU I hg hm ⟨v,H,I,r,h⟩ hd
theorem CO {x:Str}{v:V}{u:Xe}{pos:Pos}(hg:Gl X x)(hm:X.mg x=none)(hv:YC x=some u)(r:RelV v u)(hn:x ≠ "__name__" := by decide)(hd:(x == ("__debug__" : Str))=false:=by decide):PE X (.Name x pos) (tC v):=
 λ_ _ _ H _ I h=>iA I hg hm hv ⟨v,H,I,r,h⟩ hn hd
variable {a b:XJ} {ta tb:TE} {pos:Pos}
def PC (X:Cx)(op:zeI)(a b:XJ)(t:TE):Prop:=
 ∀ (pins:List (Addr×Obj)) (s:Xg) (σ:St) (H:Hp) (Q:VK),Inv X pins σ H s->t σ H Q->
  Xy (XF X.prog X.w) X.A (Yr a X.env) (λv s₁=>Xy (XF X.prog X.w) X.A (Yr b X.env) (λu s₂=>Xy (XF X.prog X.w) X.A (Y8 op v u) (EP X pins σ Q) X.xe s₂) X.xe s₁) X.xe s
theorem HZ (b:XJ){op:zeI}(h:op≠.In)(h2:op≠.NotIn):YA op b=false:=by
 have e1:(op == CmpOp.In)=false:=by cases op<;>first | rfl | exact absurd rfl h
 have e2:(op == zfD)=false:=by cases op<;>first | rfl | exact absurd rfl h2
 cases b<;>simp[YA,e1,e2]
def tB (t:TE):TT:=λσ H Q=>t σ H λx H1=>∃ c,x=.bl c/\Q c H1
theorem Gz {op:zeI}{t:TE}(h:PC X op a b t)(h1:YA op b=false:=by first | exact HZ _ (by decide) (by decide) | rfl):PT X (.Compare a [op] [b] pos) (tB t):=by
 intro pins s σ H Q I hw
 refine zcz (thn (h pins s σ H _ I hw) λv s1 h1=>thn h1 λu s2 h2=>thn h2 λc s3 ⟨x,H1,I1,r1,q1⟩=>?_) h1
 obtain ⟨d,rfl,q⟩:=q1
 cases r1
 exact Y9 ⟨H1,I1,q⟩
theorem Rc {e:XJ}{t:TE}(h:PE X e t)(he:∀ whole,isTrue e X.env whole=(do let v ← whole;standAt e.pos;zdM [v] (truthy v)):=by intro _;rfl):PT X e (tB t):=by
 intro pins s σ H Q I hw
 refine isTrue_plain (thn (h pins s σ H _ I hw) λv s1 ⟨x,H1,I1,r1,q1⟩=>?_) (he _)
 obtain ⟨d,rfl,q⟩:=q1
 cases r1
 exact Y9 ⟨H1,I1,q⟩
variable {tA tB':TT} {rest:List XJ}
def VY (t u:TT):TT:=λσ H Q=>t σ H λc H1=>if c=true then u σ H1 Q else Q false H1
def tOr (t u:TT):TT:=λσ H Q=>t σ H λc H1=>if c=true then Q true H1 else u σ H1 Q
def Wv (t:TT):TT:=λσ H Q=>t σ H λc H1=>Q (!c) H1
theorem pw_and1 (ha:PT X a tA):PW X (.BoolOp .And [a] pos) tA:=by
 intro wh pins s σ H Q I h
 refine isTrue_and (thn (ha pins s σ H Q I h) λc s1 e=>?_)
 cases c with
 | true=>exact isTrue_and_nil e
 | false=>exact e
theorem pw_or1 (ha:PT X a tA):PW X (.BoolOp .Or [a] pos) tA:=by
 intro wh pins s σ H Q I h
 refine isTrue_or (thn (ha pins s σ H Q I h) λc s1 e=>?_)
 cases c with
 | false=>exact isTrue_or_nil e
 | true=>exact e
theorem pw_and (ha:PT X a tA)(hb:PW X (.BoolOp .And (b::rest) pos) tB'):PW X (.BoolOp .And (a::b::rest) pos) (VY tA tB'):=by
 intro wh pins s σ H Q I h
 refine isTrue_and (thn (ha pins s σ H _ I h) λc s1 ⟨H1,I1,q1⟩=>?_)
 cases c with
 | true=>exact hb wh pins s1 σ H1 Q I1 q1
 | false=>exact ⟨H1,I1,q1⟩
theorem pw_or (ha:PT X a tA)(hb:PW X (.BoolOp .Or (b::rest) pos) tB'):PW X (.BoolOp .Or (a::b::rest) pos) (tOr tA tB'):=by
 intro wh pins s σ H Q I h
 refine isTrue_or (thn (ha pins s σ H _ I h) λc s1 ⟨H1,I1,q1⟩=>?_)
 cases c with
 | true=>exact ⟨H1,I1,q1⟩
 | false=>exact hb wh pins s1 σ H1 Q I1 q1
theorem Qt (ha:PT X a tA):PT X (.UnaryOp .Not a pos) (Wv tA):=by
 intro pins s σ H Q I h
 exact isTrue_not (ha pins s σ H (λc H1=>Q (!c) H1) I h)
def SV (ta tb:TE):TE:=λσ H Q=>ta σ H λx H1=>∃ c,x=.bl c/\if c=true then tb σ H1 Q else Q (.bl false) H1
def WI (ta tb:TE):TE:=λσ H Q=>ta σ H λx H1=>∃ c,x=.bl c/\if c=true then Q (.bl true) H1 else tb σ H1 Q
theorem Py {op}{t:TE}(h:PE X a t):PE X (.BoolOp op [a] pos) t:=λpins s σ H Q I hw=>BoolOp_one (h pins s σ H Q I hw)
theorem SU (ha:PE X a ta)(hb:PE X (.BoolOp .And (b::rest) pos) tb):PE X (.BoolOp .And (a::b::rest) pos) (SV ta tb):=by
 intro pins s σ H Q I h
 refine BoolOp_and (thn (ha pins s σ H _ I h) λv s1 ⟨x,H1,I1,r1,q1⟩=>?_)
 obtain ⟨c,rfl,q1⟩:=q1
 cases r1
 refine Y9 ?_
 cases c with
 | true=>exact hb pins s1 σ H1 Q I1 q1
 | false=>exact ⟨.bl false,H1,I1,rfl,q1⟩
theorem Ug (ha:PE X a ta)(hb:PE X (.BoolOp .Or (b::rest) pos) tb):PE X (.BoolOp .Or (a::b::rest) pos) (WI ta tb):=by
 intro pins s σ H Q I h
 refine BoolOp_or (thn (ha pins s σ H _ I h) λv s1 ⟨x,H1,I1,r1,q1⟩=>?_)
 obtain ⟨c,rfl,q1⟩:=q1
 cases r1
 refine Y9 ?_
 cases c with
 | false=>exact hb pins s1 σ H1 Q I1 q1
 | true=>exact ⟨.bl true,H1,I1,rfl,q1⟩
def tIf (t:TT)(ta tb:TE):TE:=λσ H Q=>t σ H λc H1=>if c=true then ta σ H1 Q else tb σ H1 Q
theorem Km {c:XJ}(hc:PT X c tA)(ha:PE X a ta)(hb:PE X b tb):PE X (.IfExp c a b pos) (tIf tA ta tb):=by
 intro pins s σ H Q I h
 refine wpAny_IfExp (thn (hc pins s σ H _ I h) λd s1 ⟨H1,I1,q1⟩=>?_)
 cases d with
 | true=>exact ha pins s1 σ H1 Q I1 q1
 | false=>exact hb pins s1 σ H1 Q I1 q1
end
def SqL (K:Xa)(H:Hp)(a:Addr)(xs:List V):Prop:=
 Rd H a (.lst xs)∨
  ∃ (o:Obj) (its:Array Xe) (n:Nat),K.lookup a=some o/\o.cls=.type "list" /\ o.dict=none/\o.data=.seq its n/\its.size<=sizeLine/\Vals xs its.toList
def SqT (K:Xa)(H:Hp)(a:Addr)(xs:List V):Prop:=
 Rd H a (.tup xs)∨
  ∃ (o:Obj) (its:Array Xe) (n:Nat),K.lookup a=some o/\o.cls=.type "tuple" /\ o.dict=none/\o.data=.seq its n/\its.size<=sizeLine/\Vals xs its.toList
def WK:Xe->Option V
 | .none=>some .non
 | .bool b=>some (.bl b)
 | .int i _=>some (.int i)
 | .str x _=>some (.str x)
 | .bytes b _=>some (.byt b)
 | .float b _=>some (.flt b)
 | .ref a=>some (.ref a)
 | .type n=>some (.ty n)
 | _=>none
theorem RelV.abs {x:V}{u:Xe}(r:RelV x u):WK u=some x:=by
 cases x with
 | non=>cases r;rfl
 | bl _=>cases r;rfl
 | int _=>obtain ⟨t,rfl⟩:=r;rfl
 | str _=>obtain ⟨t,rfl⟩:=r;rfl
 | byt _=>obtain ⟨t,rfl⟩:=r;rfl
 | flt _=>obtain ⟨t,rfl⟩:=r;rfl
 | ref _=>cases r;rfl
 | ty _=>cases r;rfl
theorem RelV.inj {x y:V}{u:Xe}(r:RelV x u)(q:RelV y u):x=y:=X5 (r.abs.symm.trans q.abs)
theorem Vals.inj:∀ {xs ys:List V} {us:List Xe},Vals xs us->Vals ys us->xs=ys
 | _,_,_,.nil,.nil=>rfl
 | _,_,_,.cons r t,.cons r' t'=>by rw[r.inj r',Vals.inj t t']
section
variable {X:Cx} {pins:List (Addr×Obj)} {σ:St} {H:Hp} {s:Xg} {a:Addr} {xs ys:List V}
theorem SqL.of {K:Xa}(h:H a=some (.lst xs)):SqL K H a xs:=.inl (.inl h)
theorem SqT.of {K:Xa}(h:H a=some (.tup xs)):SqT K H a xs:=.inl (.inl h)
theorem Inv.list (I:Inv X pins σ H s)(h:SqL X.K H a xs):∃ its:List Xe,Vals xs its/\PlainL s.heap a its.toArray/\xs.length<=sizeLine:=by
 rcases h with h | ⟨o,its,n,hk,hc,hd,hs,hz,r⟩
 ·obtain ⟨z,its,n,r,e⟩:=h.ok I.hok
  exact ⟨its,r,⟨_,n,e,rfl,rfl,rfl⟩,z⟩
 ·refine ⟨its.toList,r,⟨o,n,I.kIn a o hk,hc,hd,by simpa using hs⟩,?_⟩
  have e:=r.length
  simp only[zao] at e
  lia
theorem Inv.tuple (I:Inv X pins σ H s)(h:SqT X.K H a xs):∃ its:List Xe,Vals xs its/\zeH s.heap a its.toArray/\xs.length<=sizeLine:=by
 rcases h with h | ⟨o,its,n,hk,hc,hdn,hs,hz,r⟩
 ·obtain ⟨z,its,r,p⟩:=h.ok I.hok
  exact ⟨its,r,p.tup,z⟩
 ·refine ⟨its.toList,r,⟨o,I.kIn a o hk,hc,n,by simpa using hs⟩,?_⟩
  have e:=r.length
  simp only[zao] at e
  lia
theorem Inv.zf (I:Inv X pins σ H s)(h:SqL X.K H a xs)(h':SqL X.K H a ys):xs=ys:=by
 obtain ⟨its,r,⟨o,n,e,_,_,d⟩,_⟩:=I.list h
 obtain ⟨its',r',⟨o',n',e',_,_,d'⟩,_⟩:=I.list h'
 rw[e] at e';cases e'
 rw[d] at d'
 injection d' with d1 _
 have:its=its':=by simpa using congrArg zft d1
 subst this
 exact r.inj r'
theorem Inv.ud (I:Inv X pins σ H s)(h:SqT X.K H a xs)(h':SqT X.K H a ys):xs=ys:=by
 obtain ⟨its,r,⟨o,e,_,n,d⟩,_⟩:=I.tuple h
 obtain ⟨its',r',⟨o',e',_,n',d'⟩,_⟩:=I.tuple h'
 rw[e] at e';cases e'
 rw[d] at d'
 injection d' with d1 _
 have:its=its':=by simpa using congrArg zft d1
 subst this
 exact r.inj r'
end
abbrev Cx.oG (X:Cx)(E:Xe->Xg->Prop):Cx:={ X with xe:=E }
abbrev Cx.nox (X:Cx):Cx:=X.oG λ_ _=>False
theorem Cx.Ok.oG {X:Cx}(ok:X.Ok)(E:Xe->Xg->Prop):(X.oG E).Ok:=
 ⟨ok.mod,ok.kind,ok.glob,ok.blt,ok.above,ok.inj,ok.has,ok.cab,ok.hd,ok.frames,ok.stk,ok.exf,ok.bs,ok.bsz,ok.Jf,ok.Hw,ok.oj,ok.frf⟩
theorem Cx.Ok.gJ {X:Cx}{E:Xe->Xg->Prop}(ok:(X.oG E).Ok):X.Ok:=
 ⟨ok.mod,ok.kind,ok.glob,ok.blt,ok.above,ok.inj,ok.has,ok.cab,ok.hd,ok.frames,ok.stk,ok.exf,ok.bs,ok.bsz,ok.Jf,ok.Hw,ok.oj,ok.frf⟩
section
variable {X:Cx} {pins:List (Addr×Obj)} {σ:St} {H:Hp} {s:Xg} {E:Xe->Xg->Prop}
theorem Inv.oG (I:Inv X pins σ H s)(E:Xe->Xg->Prop):Inv (X.oG E) pins σ H s:=⟨I.ok.oG E,I.os,I.bare,I.base,I.loc,I.cell,I.free,I.jw,I.pin,I.hok,I.len⟩
theorem Inv.gJ (I:Inv (X.oG E) pins σ H s):Inv X pins σ H s:=⟨I.ok.gJ,I.os,I.bare,I.base,I.loc,I.cell,I.free,I.jw,I.pin,I.hok,I.len⟩
theorem SP.gJ {D:Ends}{f:Flow}{s':Xg}(h:SP (X.oG E) pins D f s'):SP X pins D f s':=by
 cases f with
 | next=>obtain ⟨σ',H',I,q⟩:=h;exact ⟨σ',H',I.gJ,q⟩
 | brk=>obtain ⟨σ',H',I,q⟩:=h;exact ⟨σ',H',I.gJ,q⟩
 | cont=>obtain ⟨σ',H',I,q⟩:=h;exact ⟨σ',H',I.gJ,q⟩
 | ret u=>obtain ⟨v,σ',H',I,r,q⟩:=h;exact ⟨v,σ',H',I.gJ,r,q⟩
theorem PE.nox {e:XJ}{t:TE}(h:PE X.nox e t):PE X e t:=λpins s σ H Q I hw=>
 Yt (h pins s σ H Q (I.oG _) hw) (λ_ _ ⟨v,H',I',r,q⟩=>⟨v,H',I'.gJ,r,q⟩) λ_ _ z=>Xi z
theorem PT.nox {e:XJ}{t:TT}(h:PT X.nox e t):PT X e t:=λpins s σ H Q I hw=>
 Yt (h pins s σ H Q (I.oG _) hw) (λ_ _ ⟨H',I',q⟩=>⟨H',I'.gJ,q⟩) λ_ _ z=>Xi z
theorem PSs.nox {st:List Stmt}{t:TS}(h:PSs X.nox st t):PSs X st t:=λpins s σ H D I hw=>
 Yt (h pins s σ H D (I.oG _) hw) (λ_ _ q=>q.gJ) λ_ _ z=>Xi z
end
section
variable {X:Cx} {st:Stmt} {rest:List Stmt} {t u:TS} {e:XJ} {te:TE} {pos:Pos}
def UN:TS:=λD σ H=>D.nx σ H
def Wx (t u:TS):TS:=λD σ H=>t { D with nx:=u D } σ H
theorem NL:PSs X [] UN:=λ_ _ σ H _ I h=>zbd ⟨σ,H,I,h⟩
theorem Jv (h1:PS X st t)(h2:PSs X rest u):PSs X (st::rest) (Wx t u):=by
 intro pins s σ H D I h
 refine zem (thn (h1 pins s σ H { D with nx:=u D } I h) λf s1 q=>?_)
 cases f with
 | next=>
  obtain ⟨σ',H',I',q⟩:=q
  exact h2 pins s1 σ' H' D I' q
 | ret v=>exact q
 | brk=>exact q
 | cont=>exact q
theorem Mw (h1:PS X st t):PSs X [st] t:=by
 intro pins s σ H D I h
 refine zem (thn (h1 pins s σ H D I h) λf s1 q=>?_)
 cases f with
 | next=>exact zbd q
 | ret v=>exact q
 | brk=>exact q
 | cont=>exact q
theorem Inv.quiet {pins:List (Addr×Obj)}{σ:St}{H:Hp}{s:Xg}(I:Inv X pins σ H s):interactive X.env=false:=by simp[interactive,I.ok.kind]
def S6 (te:TE):TS:=λD σ H=>te σ H λ_ H1=>D.nx σ H1
theorem L5 (he:PE X e te)(hs:Zq e none pos.line X.env=pure false:=by rfl):PS X (.Expr e pos) (S6 te):=by
 intro pins s σ H D I h
 exact wpAny_Expr_any (thn (he pins s σ H _ I h) λv s1 ⟨x,H1,I1,r1,q1⟩=>⟨σ,H1,I1,q1⟩) I.quiet hs
def W3 (te:TE):TS:=λD σ H=>te σ H D.rt
theorem Qn (he:PE X e te):PS X (.Return (some e) pos) (W3 te):=by
 intro pins s σ H D I h
 exact wpAny_Return_some (thn (he pins s σ H _ I h) λv s1 ⟨x,H1,I1,r1,q1⟩=>⟨x,σ,H1,I1,r1,q1⟩)
def Wj (c:TT)(t u:TS):TS:=λD σ H=>c σ H λb H1=>if b=true then t D σ H1 else u D σ H1
theorem S7 {c:XJ}{a b:List Stmt}{tc:TT}(hc:PT X c tc)(ha:PSs X a t)(hb:PSs X b u):PS X (.If c a b pos) (Wj tc t u):=by
 intro pins s σ H D I h
 refine wpAny_If (thn (hc pins s σ H _ I h) λd s1 ⟨H1,I1,q1⟩=>?_)
 cases d with
 | true=>exact ha pins s1 σ H1 D I1 q1
 | false=>exact hb pins s1 σ H1 D I1 q1
end
abbrev TG:=V->St->Hp->(St->Hp->Prop)->Prop
abbrev TGs:=List V->St->Hp->(St->Hp->Prop)->Prop
def PG (X:Cx)(target:XJ)(t:TG):Prop:=
 ∀ (pins:List (Addr×Obj)) (s:Xg) (σ:St) (H:Hp) (v:V) (u:Xe) (Q:St->Hp->Prop),Inv X pins σ H s->RelV v u->t v σ H Q->
  Xy (XF X.prog X.w) X.A (zcI target X.env u) (λ_ s'=>∃ σ' H',Inv X pins σ' H' s'/\Q σ' H') X.xe s
def PGs (X:Cx)(ts:List XJ)(t:TGs):Prop:=
 ∀ (pins:List (Addr×Obj)) (s:Xg) (σ:St) (H:Hp) (vs:List V) (us:List Xe) (Q:St->Hp->Prop),Inv X pins σ H s->Vals vs us->t vs σ H Q->
  Xy (XF X.prog X.w) X.A (za2 ((YO ts X.env).map (·.2)) us) (λ_ s'=>∃ σ' H',Inv X pins σ' H' s'/\Q σ' H') X.xe s
abbrev TIp:=V->V->Hp->VK->Prop
def PIp (X:Cx)(op:ze1)(t:TIp):Prop:=
 ∀ (pins:List (Addr×Obj)) (s:Xg) (σ:St) (H:Hp) (x y:V) (v u:Xe) (Q:VK),Inv X pins σ H s->RelV x v->RelV y u->t x y H Q->
  Xy (XF X.prog X.w) X.A (inplaceOp op v u) (EP X pins σ Q) X.xe s
section
variable {X:Cx} {pos:Pos}
def lO (i:Nat):TG:=λv σ H Q=>Q (σ.set i (some v)) H
theorem iU {i:Nat}{x:Str}(hN:X.N.Nodup)(hi:X.N[i]? = some x)(hx:Loc X.env.scope x)(hf:X.fn x=true∨X.env.scope.names.lookup x=some .local:=by first | exact .inl rfl | exact .inr rfl | assumption):PG X (.Name x pos) (lO i):=by
 intro pins s σ H v u Q I r h
 exact wpAny_assign_Name (eS I hN hi hx r (λs' I'=>⟨_,H,I',h⟩) hf)
def VD:TGs:=λvs σ H Q=>vs=[]/\Q σ H
def UU (t:TG)(u:TGs):TGs:=λvs σ H Q=>∃ v r,vs=v::r/\t v σ H λσ' H'=>u r σ' H' Q
theorem CH:PGs X [] VD:=by
 intro pins s σ H vs us Q I r h
 obtain ⟨e,h⟩:=h
 subst e
 cases r
 exact zbG ⟨σ,H,I,h⟩
theorem zD {e:XJ}{es:List XJ}{t:TG}{u:TGs}(h1:PG X e t)(h2:PGs X es u)
  (hs:(YO (e::es) X.env).map (·.2)=zcI e X.env::(YO es X.env).map (·.2):=by rfl):PGs X (e::es) (UU t u):=by
 intro pins s σ H vs us Q I r h
 obtain ⟨v,vr,e1,h⟩:=h
 subst e1
 cases r with
 | cons r rr=>
  rw[hs]
  refine Zj (thn (h1 pins s σ H _ _ _ I r h) λ_ s1 ⟨σ1,H1,I1,q1⟩=>?_)
  exact h2 pins s1 σ1 H1 _ _ Q I1 rr q1
def VO (K:Xa)(n:Nat)(t:TGs):TG:=λv σ H Q=>∃ a xs,v=.ref a/\SqT K H a xs/\xs.length=n/\t xs σ H Q
theorem HF {es:List XJ}{k:Nat}{t:TGs}{n:Nat}(hc:X.calm=true)(h:PGs X es t)
  (hn:(YO es X.env).length=n:=by rfl) (hst:(YO es X.env).findIdx? (·.1)=none:=by rfl):PG X (.Tuple es k pos) (VO X.K n t):=by
 intro pins s σ H v u Q I r hw
 obtain ⟨a,xs,e1,hq,hl,hw⟩:=hw
 subst e1
 cases r
 obtain ⟨its,rv,ht,hz⟩:=I.tuple hq
 refine assign_Tuple_tuple (I.ok.hd hc) ht (by simp[hn,← hl,rv.length]) hst λh' hx=>?_
 have I1:Inv X pins σ H { s with heap:=h' }:=I.kept (t':=s.toks) λb o e=>hx b o (XI (Xs e)) e
 exact h pins _ σ H xs _ Q I1 (by simpa using rv) hw
def J7 (te:TE)(g:TG):TS:=λD σ H=>te σ H λx H1=>g x σ H1 D.nx
theorem P5 {tg e:XJ}{te:TE}{g:TG}(he:PE X e te)(hg:PG X tg g)(hs:zaq [tg] e pos.line X.env=pure false:=by rfl)(hw:zar [tg] e X.env=pure none:=by rfl)
  (h1:(YO [tg] X.env).map (·.2)=[zcI tg X.env]:=by rfl):PS X (.Assign [tg] e pos) (J7 te g):=by
 intro pins s σ H D I h
 refine wpAny_Assign_stores (thn (he pins s σ H _ I h) λv s1 ⟨x,H1,I1,r1,q1⟩=>?_) hs hw
 rw[h1]
 exact thn (hg pins s1 σ H1 x v _ I1 r1 q1) λ_ s2 q=>q
theorem Qf {i:Nat}{x:Str}{e:XJ}{te:TE}{pos':Pos}(hN:X.N.Nodup)(hi:X.N[i]? = some x)(hx:Loc X.env.scope x)(he:PE X e te)(hs:Zq e (some (.Name x pos')) pos.line X.env=pure false:=by rfl)(hf:X.fn x=true∨X.env.scope.names.lookup x=some .local:=by first | exact .inl rfl | exact .inr rfl | assumption) :
  PS X (.Assign [.Name x pos'] e pos) (J7 te (lO i)):=by
 intro pins s σ H D I h
 refine wpAny_Assign_Name (thn (he pins s σ H _ I h) λv s1 ⟨y,H1,I1,r1,q1⟩=>?_) hs
 exact eS I1 hN hi hx r1 (λs2 I2=>⟨_,H1,I2,q1⟩) hf
def VR (i j:Nat)(ta:TA):TS:=λD σ H=>ta σ H λvs H1=>∃ v w,vs=[v,w]/\D.nx ((σ.set i (some v)).set j (some w)) H1
theorem Sr {i j:Nat}{x y:Str}{a b:XJ}{ta:TA}{px py pt:Pos}{kt k2 pt2}(hc:X.calm=true)(hN:X.N.Nodup)(hi:X.N[i]? = some x)(hj:X.N[j]? = some y)(hij:i≠j)
  (hx:X.env.scope.names.lookup x=some .local) (hy:X.env.scope.names.lookup y=some .local) (ha:PA X [a,b] ta)
  (hw:zar [.Tuple [.Name x px,.Name y py] kt pt] (.Tuple [a,b] k2 pt2) X.env=pure (some [x,y]))
  (hs:zaq [.Tuple [.Name x px,.Name y py] kt pt] (.Tuple [a,b] k2 pt2) pos.line X.env=pure false:=by rfl) :
  PS X (.Assign [.Tuple [.Name x px,.Name y py] kt pt] (.Tuple [a,b] k2 pt2) pos) (VR i j ta):=by
 intro pins s σ H D I h
 rw[exec_Assign_arm]
 refine Xb (za3 ?_)
 rw[hs]
 refine Xb (Xj ?_)
 rw[if_neg (by decide)]
 refine Xb (Tuple_ (thn (ha _ pins s σ H _ I h) λus s1 ⟨vs,H1,I1,r1,q1⟩=>?_))
 obtain ⟨v,w,e1,q1⟩:=q1
 subst e1
 obtain ⟨u1,u2,rfl,rv,rw'⟩:∃ u1 u2,us=[u1,u2]/\RelV v u1/\RelV w u2:=by
  cases r1 with
  | cons p q=>
   cases q with
   | cons p' q'=>
    cases q'
    exact ⟨_,_,rfl,p,p'⟩
 refine Ye ?_ (by show 2<=sizeLine;decide)
 have I2:Inv X pins σ H1 { s1 with heap:=s1.heap.push { cls:=.type "tuple", data:=.seq [u1,u2].toArray } }:=I1.kept (t':=s1.toks) λb o e=>Xd _ e
 rw[hw]
 refine Xb (Xj ?_)
 show Xy (XF X.prog X.w) X.A (do rule "assign.swapped-stores";let items ← unpackItems (.ref s1.heap.objs.size) 2 none;za2 [λv=>zaM X.env y v,λv=>zaM X.env x v] items.reverse;pure zen) _ _ _
 refine Xb (Zy (Xb (zdN (items:=#[u1,u2]) (I.ok.hd hc) (IsTup.new s1.heap _) λh' hx'=>?_)))
 have I3:=I2.kept (h':=h') (t':=s1.toks) λb o e=>hx' b o (XI (Xs e)) e
 show Xy _ _ (za2 [λv=>zaM X.env y v,λv=>zaM X.env x v] [u2,u1] >>= λ_=>pure zen) _ _ _
 refine Xb (Zj (zaN (eS I3 hN hj (.inl hy) rw' (λs2 I4=>?_) (.inr hy))))
 refine Zj (zaN (eS I4 hN hi (.inl hx) rv (λs3 I5=>zbG (Xj ?_)) (.inr hx)))
 rw[zbM _ _ (XA hij)] at I5
 exact ⟨_,H1,I5,q1⟩
def UC (i:Nat)(te:TE)(ti:TIp):TS:=λD σ H=>∃ x,σ[i]? = some (some x)/\te σ H λy H1=>ti x y H1 λz H2=>D.nx (σ.set i (some z)) H2
theorem RK {i:Nat}{x:Str}{e:XJ}{te:TE}{op:ze1}{ti:TIp}{pos':Pos}(hN:X.N.Nodup)(hi:X.N[i]? = some x)(hx:Loc X.env.scope x)(he:PE X e te)(ho:PIp X op ti)(hf:X.fn x=true∨X.env.scope.names.lookup x=some .local:=by first | exact .inl rfl | exact .inr rfl | assumption) :
  PS X (.AugAssign (.Name x pos') op e pos) (UC i te ti):=by
 intro pins s σ H D I h
 obtain ⟨v,e1,h⟩:=h
 obtain ⟨m,hn,hl⟩:=I.loc
 have vis:Vis X.env.scope x:=by rcases hx with k | k;exact .inl k;exact .inr (.inl k)
 obtain ⟨u,r,l⟩:=hl i x v hi e1 vis
 refine wpAny_AugAssign_Name ?_
 have go:Xy (XF X.prog X.w) X.A (Yr e X.env) (λw s₂=>Xy (XF X.prog X.w) X.A (inplaceOp op u w) (λr s₃=>Xy (XF X.prog X.w) X.A (storeName X.env x r) (λ_=>SP X pins D .next) X.xe s₃) X.xe s₂) X.xe s:=by
  refine thn (he pins s σ H _ I h) λw s1 ⟨y,H1,I1,r1,q1⟩=>?_
  refine thn (ho pins s1 σ H1 v y u w _ I1 r r1 q1) λz s2 ⟨zv,H2,I2,r2,q2⟩=>?_
  exact eS I2 hN hi hx r2 (λs3 I3=>⟨_,H2,I3,q2⟩) hf
 rcases l with ⟨hk,hm⟩ | ⟨hk,c,hc,hcell⟩
 ·exact zcH I.ok.kind hk hn hm go
 ·rcases hk with hk | hk
  ·exact zc8 I.ok.kind hk hc hcell go
  ·rcases hx with k | k
   ·have:X.env.scope.names.lookup x=some .free:=hk
    rw[k] at this;cases this
   ·have:X.env.scope.names.lookup x=some .free:=hk
    rw[k] at this;cases this
def ipI (f:Int->Int->Int):TIp:=λx y H Q=>∃ i j,x=.int i/\y=.int j/\Q (.int (f i j)) H
theorem Q8:PIp X .Add (ipI λi j=>i+j):=by
 intro pins s σ H x y v u Q I r1 r2 h
 obtain ⟨i,j,e1,e2,q⟩:=h
 subst e1;subst e2
 obtain ⟨t,rfl⟩:=r1
 obtain ⟨t',rfl⟩:=r2
 exact iadd_int ⟨.int _,H,I.tok _,⟨_,rfl⟩,q⟩
end
section
variable {X:Cx} {pos:Pos}
def PD (c:TT)(tb:TS):TS:=λD σ H=>∃ W:Nat->St->Hp->Prop,(∃ m,W m σ H)/\∀ m σ H,W m σ H->
 c σ H λb H1=>if b=true then ∃ N:St->Hp->Prop,(∀ σ' H',N σ' H'->∃ m',m' < m/\W m' σ' H')/\tb { D with nx:=N,ct:=N,bk:=D.nx } σ H1 else D.nx σ H1
theorem Hh {c:XJ}{body:List Stmt}{tc:TT}{tb:TS}(hp:zeo (XF X.prog X.w) X.A X.env X.xe)(hc:PT X c tc)(hb:PSs X body tb):PS X (.While c body [] pos) (PD tc tb):=by
 intro pins s σ H D I h
 obtain ⟨W,⟨m0,w0⟩,turn⟩:=h
 refine wpAny_While (codeAny_whileLoop (λn s'=>∃ σ' H',Inv X pins σ' H' s'/\W n σ' H') ?_ m0 ⟨σ,H,I,w0⟩)
 rintro n s1 ⟨σ1,H1,I1,w1⟩
 refine Zr hp (thn (hc pins s1 σ1 H1 _ I1 (turn n σ1 H1 w1)) λb s2 ⟨H2,I2,q2⟩=>?_)
 cases b with
 | true=>
  obtain ⟨N,hN,q2⟩:=q2
  rw[if_pos rfl]
  refine Zr hp (thn (hb pins s2 σ1 H2 _ I2 q2) λf s3 q3=>?_)
  cases f with
  | next=>
   obtain ⟨σ3,H3,I3,n3⟩:=q3
   obtain ⟨m',hm,w3⟩:=hN σ3 H3 n3
   exact ⟨m',hm,σ3,H3,I3,w3⟩
  | cont=>
   obtain ⟨σ3,H3,I3,n3⟩:=q3
   obtain ⟨m',hm,w3⟩:=hN σ3 H3 n3
   exact ⟨m',hm,σ3,H3,I3,w3⟩
  | brk=>exact q3
  | ret v=>exact q3
 | false=>
  rw[if_neg ZJ]
  exact zbd ⟨σ1,H2,I2,q2⟩
end
structure It where
 go:Nat->Hp->Prop
 yld:Nat->Hp->V->Hp->Prop
 stop:Nat->Hp->Prop
def pU (X:Cx)(pins:List (Addr×Obj))(H:Hp)(b:Addr):Prop:=
 H b=none/\b≠X.env.locals/\b ∉ X.fs/\(b∈X.ex∨X.s₀.heap.objs.size<=b)/\(∀ x c,X.env.cells.lookup x=some c->c≠b)/\∀ p∈X.pn++pins,p.1≠b
theorem Inv.EA {X:Cx}{pins:List (Addr×Obj)}{σ:St}{H H':Hp}{s:Xg}{b:Addr}(I:Inv X pins σ H s)(hb:s.heap.objs.size<=b)(hn:H' b=none):pU X pins H' b:=by
 refine ⟨hn,ZK (XG I.lt hb),I.VE hb,.inr (Yd I.sz hb),λx c e z=>?_,λp hp z=>?_⟩
 ·obtain ⟨v,q⟩:=I.cell x c e
  exact absurd (XG q.lt (by rw[z];exact hb)) (Zx _)
 ·exact absurd (XG (Xs (I.pin p hp).1) (by rw[z];exact hb)) (Zx _)
structure Turn (P:XO) (w:X0) (K:Xa) (tg:XJ) (J:It) (fp:List Addr) (it:Addr) (tn:Nat->Heap->Prop):Prop where
 mem:it∈fp
 obj:∀ i h,tn i h->∀ b∈fp,∃ o,h.get? b=some o/\∀ v,o.data≠.cell v
 keep:∀ i h h',tn i h->(∀ b∈fp,∀ o,h.get? b=some o->h'.get? b=some o)->tn i h'
 item:∀ (X:Cx),X.prog=P->X.w=w->X.K=K->X.calm=true->∀ (i:Nat) (pins:List (Addr×Obj)) (s:Xg) (σ:St) (H:Hp) (E:Xe->Xg->Prop),Inv X pins σ H s->(∀ b∈fp,pU X pins H b)->tn i s.heap->J.go i H->
  Xy (XF P w) X.A (zaB (.ref it)) (λr s1=>∃ u,r=some u/\
   Xy (XF P w) X.A (zbe tg (.ref it) u) (λ_ s2=>∃ x H',Inv X pins σ H' s2/\RelV x u/\J.yld i H x H'/\tn (i+1) s2.heap/\∀ b∈fp,H' b=none) E s1) E s
 done:∀ (X:Cx),X.prog=P->X.w=w->X.K=K->X.calm=true->∀ (i:Nat) (pins:List (Addr×Obj)) (s:Xg) (σ:St) (H:Hp) (E:Xe->Xg->Prop),Inv X pins σ H s->(∀ b∈fp,pU X pins H b)->tn i s.heap->J.stop i H->
  Xy (XF P w) X.A (zaB (.ref it)) (λr s1=>r=none/\Inv X pins σ H s1) E s
 self:∀ (A:X8) (i:Nat) (s:Xg) (Q:Xe->Xg->Prop) (E:Xe->Xg->Prop),tn i s.heap->Q (.ref it) s->Xy (XF P w) A (pyIter (.ref it)) Q E s
abbrev TI:=St->Hp->(It->Hp->Prop)->Prop
def PIE (X:Cx)(pins:List (Addr×Obj))(σ:St)(tg:XJ)(R:It->Hp->Prop)(itv:Xe)(s2:Xg):Prop:=
 ∃ (it:Addr) (fp:List Addr) (tn:Nat->Heap->Prop) (J:It) (H':Hp),itv=.ref it/\Inv X pins σ H' s2/\Turn X.prog X.w X.K tg J fp it tn/\tn 0 s2.heap/\(∀ b∈fp,pU X pins H' b)/\R J H'
def PI (X:Cx)(tg iter:XJ)(wi:TI):Prop:=
 ∀ (pins:List (Addr×Obj)) (s:Xg) (σ:St) (H:Hp) (R:It->Hp->Prop),Inv X pins σ H s->wi σ H R->
  Xy (XF X.prog X.w) X.A (Yr iter X.env) (λv s1=>Xy (XF X.prog X.w) X.A (pyIter v) (PIE X pins σ tg R) X.xe s1) X.xe s
theorem FN {M:Model}{A:X8}{E:Xe->Xg->Prop}{s:Xg}{tg:XJ}{it:Addr}{u:Xe}{o:Obj}{n:String}{vs:Array Xe}{Q:Unit->Xg->Prop}(ho:s.heap.get? it=some o)(hc:o.cls=.type n)(hd:o.data=.fields vs)
  (hn:["enumerate", "zip", "dict_itemiterator", "dict_reverseitemiterator", "odict_iterator", "itertools.zip_longest", "itertools.pairwise"].contains n=false) (hQ:Q () s):Xy M A (zbe tg (.ref it) u) Q E s:=by
 unfold zbe
 cases tg<;>first
  | exact Xj hQ
  | (cases u<;>first
    | exact Xj hQ
    | (refine Xb (wpAny_load ho ?_)
       rw[hc,hd]
       show Xy M A (if (["enumerate", "zip", "dict_itemiterator", "dict_reverseitemiterator", "odict_iterator", "itertools.zip_longest", "itertools.pairwise"].contains n&&vs[0]? == some (zbr _))=true then _ else _) Q E s
       rw[if_neg (by intro h;rw[hn,ze2] at h;cases h)]
       exact Xj hQ))
def Itl (K:Xa)(a:Addr):It:=
 ⟨λi H=>∃ xs x,SqL K H a xs/\xs[i]? = some x,λi H x H'=>H'=H/\∀ xs,SqL K H a xs->xs[i]? = some x,λi H=>∃ xs,SqL K H a xs/\xs.length<=i⟩
def Itt (K:Xa)(a:Addr):It:=
 ⟨λi H=>∃ xs x,SqT K H a xs/\xs[i]? = some x,λi H x H'=>H'=H/\∀ xs,SqT K H a xs->xs[i]? = some x,λi H=>∃ xs,SqT K H a xs/\xs.length<=i⟩
def Itr (lo:Int)(n:Nat):It:=⟨λi _=>i < n,λi H x H'=>H'=H/\x=.int (lo+i),λi _=>n<=i⟩
theorem uE {P:XO}{w:X0}{K:Xa}{tg:XJ}(a it:Addr):Turn P w K tg (Itl K a) [it] it (λi h=>h.IsListIter it a i) where
 mem:=by simp
 obj:=λi h st b hb=>by
  have e:b=it:=by simpa using hb
  subst e
  obtain ⟨o,e,c,d⟩:=st
  exact ⟨o,e,λv z=>by rw[d] at z;cases z⟩
 keep:=λi h h' st k=>st.at λo e=>k it (by simp) o e
 item:=by
  intro X hP hw hK hc i pins s σ H E I hf st hg
  subst hP hw hK
  obtain ⟨xs,x,hq,hx⟩:=hg
  obtain ⟨its,rv,p,hz⟩:=I.list hq
  obtain ⟨u,hu,ru⟩:=rv.get hx
  obtain ⟨f0,f1,f2,f3,f4,f5⟩:=hf it (by simp)
  refine zca st p.isList (x:=u) (by simpa using hu) λh' st' sb=>?_
  have I1:Inv X pins σ H { s with heap:=h' }:=I.turned (t':=s.toks) (λb o hb e=>(sb.2 b hb).trans e) f0 f1 f3 f4 f5
  obtain ⟨o,e,c,d⟩:=id st'
  exact ⟨u,rfl,FN (s:={ s with heap:=h' }) e c d (by decide) ⟨x,H,I1,ru,⟨rfl,λys hy=>by rw[I.zf hy hq];exact hx⟩,st',λb hb=>(hf b hb).1⟩⟩
 done:=by
  intro X hP hw hK hc i pins s σ H E I hf st hg
  subst hP hw hK
  obtain ⟨xs,hq,hx⟩:=hg
  obtain ⟨its,rv,p,hz⟩:=I.list hq
  obtain ⟨f0,f1,f2,f3,f4,f5⟩:=hf it (by simp)
  have hl:=rv.length
  exact zcA (I.ok.hd hc) st p.isList (by simp;lia) λh' eb=>⟨rfl,I.turned (t':=s.toks) (λb o hb e=>eb b o hb e) f0 f1 f3 f4 f5⟩
 self:=λ_ _ _ _ _ st h=>wpAny_pyIter_listiter st h
theorem AG {P:XO}{w:X0}{K:Xa}{tg:XJ}(a it:Addr):Turn P w K tg (Itt K a) [it] it (λi h=>h.IsTupleIter it a i) where
 mem:=by simp
 obj:=λi h st b hb=>by
  have e:b=it:=by simpa using hb
  subst e
  obtain ⟨o,e,c,d⟩:=st
  exact ⟨o,e,λv z=>by rw[d] at z;cases z⟩
 keep:=λi h h' st k=>st.at λo e=>k it (by simp) o e
 item:=by
  intro X hP hw hK hc i pins s σ H E I hf st hg
  subst hP hw hK
  obtain ⟨xs,x,hq,hx⟩:=hg
  obtain ⟨its,rv,p,hz⟩:=I.tuple hq
  obtain ⟨u,hu,ru⟩:=rv.get hx
  obtain ⟨f0,f1,f2,f3,f4,f5⟩:=hf it (by simp)
  refine wpAny_pyNext_tuple_item st (show s.heap.IsTuple a its.toArray from p) (x:=u) (by simpa using hu) λh' st' sb=>?_
  have I1:Inv X pins σ H { s with heap:=h' }:=I.turned (t':=s.toks) (λb o hb e=>(sb.2 b hb).trans e) f0 f1 f3 f4 f5
  obtain ⟨o,e,c,d⟩:=id st'
  exact ⟨u,rfl,FN (s:={ s with heap:=h' }) e c d (by decide) ⟨x,H,I1,ru,⟨rfl,λys hy=>by rw[I.ud hy hq];exact hx⟩,st',λb hb=>(hf b hb).1⟩⟩
 done:=by
  intro X hP hw hK hc i pins s σ H E I hf st hg
  subst hP hw hK
  obtain ⟨xs,hq,hx⟩:=hg
  obtain ⟨its,rv,p,hz⟩:=I.tuple hq
  obtain ⟨f0,f1,f2,f3,f4,f5⟩:=hf it (by simp)
  have hl:=rv.length
  exact wpAny_pyNext_tuple_end (I.ok.hd hc) st (show s.heap.IsTuple a its.toArray from p) (by simp;lia) λh' eb=>⟨rfl,I.turned (t':=s.toks) (λb o hb e=>eb b o hb e) f0 f1 f3 f4 f5⟩
 self:=λ_ _ _ _ _ st h=>wpAny_pyIter_tupleiter st h
theorem A6 {P:XO}{w:X0}{K:Xa}{tg:XJ}(it:Addr)(lo:Int)(n:Nat):Turn P w K tg (Itr lo n) [it] it (λi h=>IsRangeIter h it (lo+(i:Nat)*1) ((n:Int) - (i:Nat)) 1) where
 mem:=by simp
 obj:=λi h st b hb=>by
  have e:b=it:=by simpa using hb
  subst e
  exact ⟨_,st,λv z=>by
   have z':Data.fields _=Data.cell v:=z
   cases z'⟩
 keep:=λi h h' st k=>k it (by simp) _ st
 item:=by
  intro X hP hw hK hc i pins s σ H E I hf st hg
  subst hP hw hK
  obtain ⟨f0,f1,f2,f3,f4,f5⟩:=hf it (by simp)
  have W:=Walks.range (prog:=X.prog) (w:=X.w) (I.ok.hd hc) it lo 1 n
  refine W.item i s _ _ hg st λv h' tk hv st' kk=>?_
  obtain ⟨t,rfl⟩:=hv
  have I1:Inv X pins σ H { s with heap:=h',toks:=tk }:=I.turned (λb o hb e=>kk b o (by simpa using hb) e) f0 f1 f3 f4 f5
  refine ⟨_,rfl,FN (s:={ s with heap:=h',toks:=tk }) (n := "range_iterator") st' rfl rfl (by decide) ⟨.int (lo+i),H,I1,⟨t,?_⟩,⟨rfl,rfl⟩,st',λb hb=>(hf b hb).1⟩⟩
  rw[Int.mul_one]
 done:=by
  intro X hP hw hK hc i pins s σ H E I hf st hg
  subst hP hw hK
  obtain ⟨f0,f1,f2,f3,f4,f5⟩:=hf it (by simp)
  exact wpAny_pyNext_range_end (I.ok.hd hc) st (by have:n<=i:=hg;lia) λh' eb=>⟨rfl,I.turned (t':=s.toks) (λb o hb e=>eb b o hb e) f0 f1 f3 f4 f5⟩
 self:=λ_ _ _ _ _ st h=>wpAny_pyIter_rangeiter st h
section
variable {X:Cx} {tg:XJ}
def OY (K:Xa)(tl:TE):TI:=λσ H R=>tl σ H λx H1=>∃ a,x=.ref a/\(∃ xs,SqL K H1 a xs)/\R (Itl K a) H1
theorem Dz {l:XJ}{tl:TE}(hl:PE X l tl):PI X tg l (OY X.K tl):=by
 intro pins s σ H R I h
 refine thn (hl pins s σ H _ I h) λv s1 ⟨x,H1,I1,r1,q1⟩=>?_
 obtain ⟨a,e,⟨xs,hq⟩,q⟩:=q1
 subst e
 cases r1
 obtain ⟨its,rv,p,hz⟩:=I1.list hq
 refine Z2 p.isList ?_
 refine ⟨s1.heap.objs.size,[s1.heap.objs.size],_,_,H1,rfl,I1.kept (t':=s1.toks) λb o e=>Xd _ e,uE a _,⟨_,Xw _ rfl,rfl,rfl⟩,λb hb=>?_,q⟩
 have e:b=s1.heap.objs.size:=by simpa using hb
 subst e
 exact I1.EA (Xq _) (I1.hok.fresh (Xq _))
theorem Ko {pins:List (Addr×Obj)}{σ:St}{H:Hp}{s:Xg}{R:It->Hp->Prop}{E:Xe->Xg->Prop}{lo hi:Int}{t u v:Tok}{tk:Nat}(I:Inv X pins σ H s)(h1:-(2 ^ 62)<=lo)(h2:lo < 2 ^ 62)(h3:-(2 ^ 62)<=hi)(h4:hi < 2 ^ 62)
  (q:R (Itr lo (hi - lo).toNat) H):Xy (XF X.prog X.w) X.A (pyIter (.ref s.heap.objs.size)) (PIE X pins σ tg R) E { s with heap:=s.heap.push { cls:=.type "range", data:=.fields #[.int lo t,.int hi u,.int 1 v] },toks:=tk }:=by
 refine wpAny_pyIter_range (zfE ..) (small_one h1 h2 h3 h4) ?_
 have I1:Inv X pins σ H { s with heap:=s.heap.push { cls:=.type "range", data:=.fields #[.int lo t,.int hi u,.int 1 v] },toks:=tk }:=I.kept λb o e=>Xd _ e
 refine ⟨(s.heap.push { cls:=.type "range", data:=.fields #[.int lo t,.int hi u,.int 1 v] }).objs.size,[(s.heap.push { cls:=.type "range", data:=.fields #[.int lo t,.int hi u,.int 1 v] }).objs.size],_,_,H,rfl,
  I1.kept (t':=tk) λb o e=>Xd _ e,A6 _ lo (hi - lo).toNat,?_,λb hb=>?_,q⟩
 ·have e1:lo+((0:Nat):Int)*1=lo:=by simp
  have e2:(((hi - lo).toNat:Nat):Int) - ((0:Nat):Int)=zaE lo hi 1:=by rw[rangeSize_one];split<;>lia
  show IsRangeIter _ _ (lo+((0:Nat):Int)*1) ((((hi - lo).toNat:Nat):Int) - ((0:Nat):Int)) 1
  rw[e1,e2]
  exact Xw _ rfl
 ·have e:b=(s.heap.push { cls:=.type "range", data:=.fields #[.int lo t,.int hi u,.int 1 v] }).objs.size:=by simpa using hb
  subst e
  exact I1.EA (Xq _) (I1.hok.fresh (Xq _))
def Tg (ta:TA):TI:=λσ H R=>ta σ H λvs H1=>∃ j:Int,vs=[.int j]/\-(2 ^ 62)<=j/\j < 2 ^ 62/\R (Itr 0 j.toNat) H1
theorem Ee {a:XJ}{ta:TA}{p pos:Pos}(hg:Gl X "range")(hm:X.mg "range" = none)(ha:PA X [a] ta)(hs:Xt [a] X.env=[(false,Yr a X.env)]:=by rfl):PI X tg (.Call (.Name "range" p) [a] [] pos) (Tg ta):=by
 intro pins s σ H R I h
 refine Call_ (iA I hg hm boot_range (Yo (thn (ha pos pins s σ H _ I h) λus s1 ⟨vs,H1,I1,r1,q1⟩=>?_) hs rfl))
 obtain ⟨j,e,q1,q2,q⟩:=q1
 subst e
 cases r1 with
 | cons r rr=>
  cases rr
  obtain ⟨t,rfl⟩:=r
  exact call_range_1 (Ko I1 (by lia) (by lia) q1 q2 (by simpa using q))
def VN (wi:TI)(g:TG)(tb:TS):TS:=λD σ H=>wi σ H λJ H1=>∃ W:Nat->Nat->St->Hp->Prop,(∃ m,W 0 m σ H1)/\∀ i m σ H,W i m σ H->
 (J.stop i H/\D.nx σ H)∨(J.go i H/\∃ N:St->Hp->Prop,(∀ σ' H',N σ' H'->∃ m',m' < m/\W (i+1) m' σ' H')/\∀ x H',J.yld i H x H'->g x σ H' λσ2 H2=>tb { D with nx:=N,ct:=N,bk:=D.nx } σ2 H2)
def qf (fp:List Addr)(h:Heap):List (Addr×Obj):=fp.filterMap λb=>(h.get? b).map λo=>(b,o)
theorem fZ {fp:List Addr}{h:Heap}{b:Addr}{o:Obj}(hb:b∈fp)(e:h.get? b=some o):(b,o)∈qf fp h:=ZL.mpr ⟨b,hb,by rw[e];rfl⟩
theorem EK {fp:List Addr}{h:Heap}{p:Addr×Obj}(hp:p∈qf fp h):p.1∈fp/\h.get? p.1=some p.2:=by
 obtain ⟨b,hb,e⟩:=ZL.mp hp
 cases q:h.get? b with
 | none=>rw[q] at e;cases e
 | some o=>
  rw[q] at e
  have e':(b,o)=p:=X5 e
  subst e'
  exact ⟨hb,q⟩
theorem Inv.pinned {pins:List (Addr×Obj)}{σ:St}{H:Hp}{s:Xg}{fp:List Addr}(I:Inv X pins σ H s)(hf:∀ b∈fp,pU X pins H b)(ho:∀ b∈fp,∃ o,s.heap.get? b=some o/\∀ v,o.data≠.cell v):Inv X (pins++qf fp s.heap) σ H s:=
 I.DU λp hp=>(Yi.mp hp).elim (λz=>I.pin p (XM _ z)) λz=>by
  obtain ⟨hb,e⟩:=EK z
  obtain ⟨f0,f1,f2,_⟩:=hf p.1 hb
  obtain ⟨o,e',d⟩:=ho p.1 hb
  rw[e] at e';cases e'
  exact ⟨e,f0,f1,f2,d⟩
theorem Inv.jg {pins pl:List (Addr×Obj)}{σ:St}{H:Hp}{s:Xg}(I:Inv X (pins++pl) σ H s):Inv X pins σ H s:=I.DU λp hp=>I.pin p (XM _ (Y5 _ hp))
theorem PL {iter:XJ}{body:List Stmt}{wi:TI}{g:TG}{tb:TS}{pos:Pos}(hp:zeo (XF X.prog X.w) X.A X.env X.xe)(hc:X.calm=true)(hi:PI X tg iter wi)(hg:PG X tg g)(hb:PSs X body tb)
  (hs:∀ x,X6 iter X.env x=pure x:=by intro _;rfl):PS X (.For tg iter body [] pos) (VN wi g tb):=by
 intro pins s σ H D I h
 refine wpAny_For (thn (hi pins s σ H _ I h) λv s1 h1=>thn h1 λitv s2 h2=>?_) hs
 obtain ⟨it,fp,tn,J,H2,e,I2,T,st2,f2,W,⟨m0,w0⟩,turn⟩:=h2
 subst e
 -- what stays true of the iterator's objects through the loop
 have BI:∀ {H':Hp},(∀ b∈fp,H' b=none)->∀ b∈fp,pU X pins H' b:=λhn b hb=>⟨hn b hb,(f2 b hb).2⟩
 refine codeAny_forLoop_any (λn s'=>∃ i σ' H',Inv X pins σ' H' s'/\tn i s'.heap/\(∀ b∈fp,H' b=none)/\W i n σ' H') ?_ m0 ⟨0,σ,H2,I2,st2,λb hb=>(f2 b hb).1,w0⟩
 rintro n s3 ⟨i,σ3,H3,I3,st3,fr3,w3⟩
 rcases turn i n σ3 H3 w3 with ⟨stop,qn⟩ | ⟨go,N,hN,step⟩
 ·refine Zr hp (thn (T.done X rfl rfl rfl hc i pins s3 σ3 H3 X.xe I3 (BI fr3) st3 stop) λr s4 ⟨hr,I4⟩=>?_)
  subst hr
  exact zbd ⟨σ3,H3,I4,qn⟩
 ·refine Zr hp (thn (T.item X rfl rfl rfl hc i pins s3 σ3 H3 X.xe I3 (BI fr3) st3 go) λr s4 ⟨u,hr,h4⟩=>?_)
  subst hr
  refine Zr hp (thn h4 λ_ s5 ⟨x,H5,I5,r5,y5,st5,fr5⟩=>?_)
  have I5':=I5.pinned (BI fr5) (T.obj _ _ st5)
  refine Zr hp (thn (hg _ s5 σ3 H5 x u _ I5' r5 (step x H5 y5)) λ_ s6 ⟨σ6,H6,I6,q6⟩=>?_)
  refine Zr hp (thn (hb _ s6 σ6 H6 _ I6 q6) λf s7 q7=>?_)
  have again:∀ {σ7:St} {H7:Hp},Inv X (pins++qf fp s5.heap) σ7 H7 s7->N σ7 H7->∃ m,m < n/\∃ i σ' H',Inv X pins σ' H' s7/\tn i s7.heap/\(∀ b∈fp,H' b=none)/\W i m σ' H':=λ{σ7 H7} I7 n7=>by
   obtain ⟨m',hm,w7⟩:=hN σ7 H7 n7
   refine ⟨m',hm,i+1,σ7,H7,I7.jg,T.keep _ _ _ st5 λb hb o e=>(I7.pin (b,o) (XM _ (XM _ (fZ hb e)))).1,λb hb=>?_,w7⟩
   obtain ⟨o,e,d⟩:=T.obj _ _ st5 b hb
   exact (I7.pin (b,o) (XM _ (XM _ (fZ hb e)))).2.1
  cases f with
  | next=>obtain ⟨σ7,H7,I7,n7⟩:=q7;exact again I7 n7
  | cont=>obtain ⟨σ7,H7,I7,n7⟩:=q7;exact again I7 n7
  | brk=>obtain ⟨σ7,H7,I7,q7⟩:=q7;exact ⟨σ7,H7,I7.jg,q7⟩
  | ret v=>obtain ⟨x7,σ7,H7,I7,r7,q7⟩:=q7;exact ⟨x7,σ7,H7,I7.jg,r7,q7⟩
end
abbrev R2:=V->V->Hp->VK->Prop
def OpR (X:Cx)(f:Xe->Xe->Sem Xe)(r:R2):Prop:=
 ∀ (pins:List (Addr×Obj)) (s:Xg) (σ:St) (H:Hp) (x y:V) (v u:Xe) (Q:VK),Inv X pins σ H s->RelV x v->RelV y u->r x y H Q->
  Xy (XF X.prog X.w) X.A (f v u) (EP X pins σ Q) X.xe s
def UnR (X:Cx)(f:Xe->Sem Xe)(r:V->Hp->VK->Prop):Prop:=
 ∀ (pins:List (Addr×Obj)) (s:Xg) (σ:St) (H:Hp) (x:V) (v:Xe) (Q:VK),Inv X pins σ H s->RelV x v->r x H Q->
  Xy (XF X.prog X.w) X.A (f v) (EP X pins σ Q) X.xe s
def bV (X:Cx)(f:Xe)(r:List V->Hp->VK->Prop):Prop:=
 ∀ (pins:List (Addr×Obj)) (s:Xg) (σ:St) (H:Hp) (xs:List V) (us:List Xe) (Q:VK),Inv X pins σ H s->Vals xs us->r xs H Q->
  Xy (XF X.prog X.w) X.A (zcB f us) (EP X pins σ Q) X.xe s
def tOp (r:R2)(ta tb:TE):TE:=λσ H Q=>ta σ H λx H1=>tb σ H1 λy H2=>r x y H2 Q
def tUn (r:V->Hp->VK->Prop)(ta:TE):TE:=λσ H Q=>ta σ H λx H1=>r x H1 Q
def rI (C:Int->Int->Prop)(g:Int->Int->V):R2:=λx y H Q=>∃ i j,x=.int i/\y=.int j/\C i j/\Q (g i j) H
def rI0 (g:Int->Int->V):R2:=λx y H Q=>∃ i j,x=.int i/\y=.int j/\Q (g i j) H
def rU (g:Int->V):V->Hp->VK->Prop:=λx H Q=>∃ i,x=.int i/\Q (g i) H
section
variable {X:Cx} {a b c:XJ} {ta tb tc:TE} {pos:Pos}
theorem Rv (ha:PE X a ta)(hb:PE X b tb){pins:List (Addr×Obj)}{s:Xg}{σ:St}{H:Hp}{R:V->V->Hp->Prop}(I:Inv X pins σ H s)
  (h:ta σ H λx H1=>tb σ H1 λy H2=>R x y H2) {Q:Xe->Xg->Prop} {f:Xe->Xe->Sem Xe}
  (hf:∀ v u s2 x y H2,Inv X pins σ H2 s2->RelV x v->RelV y u->R x y H2->Xy (XF X.prog X.w) X.A (f v u) Q X.xe s2) :
  Xy (XF X.prog X.w) X.A (Yr a X.env) (λv s₁=>Xy (XF X.prog X.w) X.A (Yr b X.env) (λu s₂=>Xy (XF X.prog X.w) X.A (f v u) Q X.xe s₂) X.xe s₁) X.xe s:=by
 refine thn (ha pins s σ H _ I h) λv s1 ⟨x,H1,I1,r1,q1⟩=>?_
 refine thn (hb pins s1 σ H1 _ I1 q1) λu s2 ⟨y,H2,I2,r2,q2⟩=>?_
 exact hf v u s2 x y H2 I2 r1 r2 q2
theorem Pe {op:ze1}{r:R2}(ho:OpR X (ZC op) r)(ha:PE X a ta)(hb:PE X b tb):PE X (.BinOp a op b pos) (tOp r ta tb):=by
 intro pins s σ H Q I h
 exact wpAny_BinOp (Rv ha hb I h λv u s2 x y H2 I2 rx ry q=>ho pins s2 σ H2 x y v u Q I2 rx ry q)
theorem T8 {op:UnaryOp}{r:V->Hp->VK->Prop}(ho:UnR X (unaryOp op) r)(ha:PE X a ta):PE X (.UnaryOp op a pos) (tUn r ta):=by
 intro pins s σ H Q I h
 exact UnaryOp_ (thn (ha pins s σ H _ I h) λv s1 ⟨x,H1,I1,r1,q1⟩=>ho pins s1 σ H1 x v Q I1 r1 q1)
theorem opI {f:Xe->Xe->Sem Xe}{C:Int->Int->Prop}{g:Int->Int->Int}
  (rule:∀ (i j:Int) (t u:Tok) (s:Xg) (Q:Xe->Xg->Prop) (E:Xe->Xg->Prop),C i j->Q (.int (g i j) s.toks) { s with toks:=s.toks+1 }->Xy (XF X.prog X.w) X.A (f (.int i t) (.int j u)) Q E s) :
  OpR X f (rI C λi j=>.int (g i j)):=by
 intro pins s σ H x y v u Q I rx ry h
 obtain ⟨i,j,rfl,rfl,hc,q⟩:=h
 obtain ⟨t,rfl⟩:=rx
 obtain ⟨t',rfl⟩:=ry
 exact rule i j t t' s _ _ hc ⟨.int (g i j),H,I.tok _,⟨_,rfl⟩,q⟩
theorem SW {f:Xe->Xe->Sem Xe}{g:Int->Int->Int}
  (rule:∀ (i j:Int) (t u:Tok) (s:Xg) (Q:Xe->Xg->Prop) (E:Xe->Xg->Prop),Q (.int (g i j) s.toks) { s with toks:=s.toks+1 }->Xy (XF X.prog X.w) X.A (f (.int i t) (.int j u)) Q E s) :
  OpR X f (rI0 λi j=>.int (g i j)):=by
 intro pins s σ H x y v u Q I rx ry h
 obtain ⟨i,j,rfl,rfl,q⟩:=h
 obtain ⟨t,rfl⟩:=rx
 obtain ⟨t',rfl⟩:=ry
 exact rule i j t t' s _ _ ⟨.int (g i j),H,I.tok _,⟨_,rfl⟩,q⟩
theorem SK {f:Xe->Xe->Sem Xe}{g:Int->Int->Bool}
  (rule:∀ (i j:Int) (t u:Tok) (s:Xg) (Q:Xe->Xg->Prop) (E:Xe->Xg->Prop),Q (.bool (g i j)) s->Xy (XF X.prog X.w) X.A (f (.int i t) (.int j u)) Q E s) :
  OpR X f (rI0 λi j=>.bl (g i j)):=by
 intro pins s σ H x y v u Q I rx ry h
 obtain ⟨i,j,rfl,rfl,q⟩:=h
 obtain ⟨t,rfl⟩:=rx
 obtain ⟨t',rfl⟩:=ry
 exact rule i j t t' s _ _ ⟨.bl (g i j),H,I,rfl,q⟩
def Wo (i j:Int):Prop:=0<=j/\j<=1000000/\i.natAbs < 2 ^ 64
def UA (i j:Int):Prop:=(-(2 ^ 64) < i/\i < 2 ^ 64)∨(-(2 ^ 64) < j/\j < 2 ^ 64)
theorem UA.ok {i j:Int}(h:UA i j):IntMulOk i j:=by
 rcases h with ⟨h1,h2⟩ | ⟨h1,h2⟩
 ·exact .of_left (zbN h1 h2)
 ·exact .of_right (zbN h1 h2)
theorem Su:OpR X (ZC .Add) (rI0 λi j=>.int (i+j)):=SW λ_ _ _ _ _ _ _ q=>add_int q
theorem QW:OpR X (ZC .Sub) (rI0 λi j=>.int (i - j)):=SW λ_ _ _ _ _ _ _ q=>sub_int q
theorem LC:OpR X (ZC .Mod) (rI (λ_ j=>j≠0) λi j=>.int (i.fmod j)):=opI λ_ _ _ _ _ _ _ hc q=>mod_int' hc q
theorem QU:OpR X (ZC .Pow) (rI Wo λi j=>.int (i ^ j.toNat)):=opI λ_ _ _ _ _ _ _ hc q=>pow_int_small hc.1 hc.2.1 hc.2.2 q
theorem unI {f:Xe->Sem Xe}{g:Int->Int}
  (rule:∀ (i:Int) (t:Tok) (s:Xg) (Q:Xe->Xg->Prop) (E:Xe->Xg->Prop),Q (.int (g i) s.toks) { s with toks:=s.toks+1 }->Xy (XF X.prog X.w) X.A (f (.int i t)) Q E s) :
  UnR X f (rU λi=>.int (g i)):=by
 intro pins s σ H x v Q I rx h
 obtain ⟨i,rfl,q⟩:=h
 obtain ⟨t,rfl⟩:=rx
 exact rule i t s _ _ ⟨.int (g i),H,I.tok _,⟨_,rfl⟩,q⟩
theorem QG:UnR X (unaryOp .USub) (rU λi=>.int (-i)):=unI λ_ _ _ _ _ q=>neg_int q
end
def TU:V->V->Bool
 | .non,.non=>true | .non,.int _=>true | .int _,.non=>true | .non,.bl _=>true | .bl _,.non=>true | .non,.str _=>true | .str _,.non=>true
 | .int _,.int _=>true | .bl _,.bl _=>true | .str _,.str _=>true | .byt _,.byt _=>true
 | .int _,.str _=>true | .str _,.int _=>true | .bl _,.str _=>true | .str _,.bl _=>true
 | _,_=>false
def rEq:R2:=λx y H Q=>TU x y=true/\Q (.bl (decide (x=y))) H
def rNe:R2:=λx y H Q=>TU x y=true/\Q (.bl (!decide (x=y))) H
section
variable {X:Cx} {a b c:XJ} {ta tb tc:TE} {pos:Pos}
theorem J2 {pins:List (Addr×Obj)}{σ:St}{H:Hp}{s:Xg}{Q:VK}{k k':Bool}(I:Inv X pins σ H s)(q:Q (.bl k) H)(e:k=k'):EP X pins σ Q (.bool k') s:=by
 subst e
 exact ⟨.bl k,H,I,rfl,q⟩
theorem Ow:OpR X (Y8 .Lt) (rI0 λi j=>.bl (decide (i < j))):=SK λ_ _ _ _ _ _ _ q=>lt_int q
theorem UP:OpR X (Y8 .Gt) (rI0 λi j=>.bl (decide (j < i))):=SK λ_ _ _ _ _ _ _ q=>gt_int q
theorem Vj:OpR X (Y8 .GtE) (rI0 λi j=>.bl (decide (j<=i))):=SK λ_ _ _ _ _ _ _ q=>ge_int q
theorem IB:OpR X (Y8 .Is) (λx y H Q=>y=.non/\Q (.bl (decide (x=.non))) H):=by
 intro pins s σ H x y v u Q I rx ry h
 obtain ⟨rfl,q⟩:=h
 cases ry
 refine is_none_gen (J2 I q ?_)
 cases x<;>first
  | (cases rx;rfl)
  | (obtain ⟨t,rfl⟩:=rx;rfl)
theorem NO:OpR X (Y8 .IsNot) (λx y H Q=>y=.non/\Q (.bl (!decide (x=.non))) H):=by
 intro pins s σ H x y v u Q I rx ry h
 obtain ⟨rfl,q⟩:=h
 cases ry
 refine isnot_none_gen (J2 I q ?_)
 cases x<;>first
  | (cases rx;rfl)
  | (obtain ⟨t,rfl⟩:=rx;rfl)
theorem fU (b:XJ){op:zeI}(h:op≠.In:=by decide)(h2:op≠.NotIn:=by decide):YA op b=false:=by
 have e1:(op == CmpOp.In)=false:=by cases op<;>first | rfl | exact absurd rfl h
 have e2:(op == zfD)=false:=by cases op<;>first | rfl | exact absurd rfl h2
 cases b<;>simp[YA,e1,e2]
theorem NS {op:zeI}{r:R2}(ho:OpR X (Y8 op) r)(ha:PE X a ta)(hb:PE X b tb)(hm:YA op b=false):PE X (.Compare a [op] [b] pos) (tOp r ta tb):=by
 intro pins s σ H Q I h
 exact wpAny_Compare1 (Rv ha hb I h λv u s2 x y H2 I2 rx ry q=>ho pins s2 σ H2 x y v u Q I2 rx ry q) hm
def OQ (t:TE):TT:=λσ H Q=>t σ H λx H'=>∃ k,x=.bl k/\Q k H'
theorem MF {op:zeI}{r:R2}(ho:OpR X (Y8 op) r)(ha:PE X a ta)(hb:PE X b tb)(hm:YA op b=false):PT X (.Compare a [op] [b] pos) (OQ (tOp r ta tb)):=by
 intro pins s σ H Q I h
 refine zcz (thn (ha pins s σ H _ I h) λv s1 ⟨x,H1,I1,r1,q1⟩=>thn (hb pins s1 σ H1 _ I1 q1) λu s2 ⟨y,H2,I2,r2,q2⟩=>
  thn (ho pins s2 σ H2 x y v u _ I2 r1 r2 q2) λc s3 ⟨z,H3,I3,r3,k,e,q3⟩=>?_) hm
 subst e
 cases r3
 exact Y9 ⟨H3,I3,q3⟩
theorem qS:(sizeLine:Nat) < 2 ^ 63:=by rw[zcJ];decide
theorem zW:OpR X (ZC .Add) (λx y H Q=>∃ i j,x=.str i/\y=.str j/\i.length+j.length<=sizeLine/\Q (.str (i++j)) H):=by
 intro pins s σ H x y v u Q I rx ry h
 obtain ⟨i,j,rfl,rfl,hz,q⟩:=h
 obtain ⟨t,rfl⟩:=rx
 obtain ⟨t',rfl⟩:=ry
 exact add_str (λt' tk=>⟨.str (i++j),H,I.tok _,⟨_,rfl⟩,q⟩) hz
theorem vals1 {x:V}{us:List Xe}(r:Vals [x] us):∃ u,us=[u]/\RelV x u:=by
 cases r with
 | cons r1 r2=>cases r2;exact ⟨_,rfl,r1⟩
theorem vals2 {x y:V}{us:List Xe}(r:Vals [x,y] us):∃ u w',us=[u,w']/\RelV x u/\RelV y w':=by
 cases r with
 | cons r1 r2=>
  cases r2 with
  | cons r3 r4=>cases r4;exact ⟨_,_,rfl,r1,r3⟩
theorem zA:bV X (.builtin "abs") (λxs H Q=>∃ i,xs=[.int i]/\Q (.int (if i < 0 then -i else i)) H):=by
 intro pins s σ H xs us Q I r h
 obtain ⟨i,rfl,q⟩:=h
 obtain ⟨u,rfl,t,rfl⟩:=vals1 r
 exact call_abs_int λu tk=>⟨.int (if i < 0 then -i else i),H,I.tok _,⟨_,rfl⟩,q⟩
theorem j4 (hc:X.calm=true):bV X (.builtin "max") (λxs H Q=>∃ i j,xs=[.int i,.int j]/\Q (.int (if j > i then j else i)) H):=by
 intro pins s σ H xs us Q I r h
 obtain ⟨i,j,rfl,q⟩:=h
 obtain ⟨u,w',rfl,⟨t,rfl⟩,⟨t',rfl⟩⟩:=vals2 r
 refine max_two_ints (I.ok.hd hc) λh' tk k=>⟨_,H,I.kept k,?_,q⟩
 by_cases hj:j > i
 ·rw[if_pos hj,if_pos hj];exact ⟨_,rfl⟩
 ·rw[if_neg hj,if_neg hj];exact ⟨_,rfl⟩
theorem E3 (hc:X.calm=true):bV X (.builtin "min") (λxs H Q=>∃ i j,xs=[.int i,.int j]/\Q (.int (if j < i then j else i)) H):=by
 intro pins s σ H xs us Q I r h
 obtain ⟨i,j,rfl,q⟩:=h
 obtain ⟨u,w',rfl,⟨t,rfl⟩,⟨t',rfl⟩⟩:=vals2 r
 refine min_two_ints (I.ok.hd hc) λh' tk k=>⟨_,H,I.kept k,?_,q⟩
 by_cases hj:j < i
 ·rw[if_pos hj,if_pos hj];exact ⟨_,rfl⟩
 ·rw[if_neg hj,if_neg hj];exact ⟨_,rfl⟩
theorem EH:bV X (.type "int") (λxs H Q=>(∃ i,xs=[.int i]/\Q (.int i) H)∨∃ k,xs=[.bl k]/\Q (.int (if k then 1 else 0)) H):=by
 intro pins s σ H xs us Q I r h
 rcases h with ⟨i,rfl,q⟩ | ⟨k,rfl,q⟩
 ·obtain ⟨u,rfl,t,rfl⟩:=vals1 r
  exact call_int_int ⟨.int i,H,I,⟨_,rfl⟩,q⟩
 ·obtain ⟨u,rfl,r1⟩:=vals1 r
  cases r1
  exact call_int_bool ⟨.int (if k then 1 else 0),H,I.tok _,⟨_,rfl⟩,q⟩
end
structure W9 (h:Heap) (x dx C:Addr) (mA:Str->Option Xe):Prop where
 obj:h.get? x=some (zeP C dx)
 ns:h.Ns1 dx mA
 ne:dx≠x
section
variable {prog:XO} {w:X0} {A:X8} {E:Xe->Xg->Prop} {s:Xg} {K:Xa} {x dx C f:Addr} {mA:Str->Option Xe} {name:Str} {v:Xe}
end
theorem nW.some_of {v:V}{o:Option Xe}(r:nW (some v) o):∃ u,o=some u/\RelV v u:=by
 cases o with
 | none=>exact (show False from r).elim
 | some u=>exact ⟨u,rfl,r⟩
section
variable {P:XO} {w:X0} {H H':Hp} {h h':Heap} {a C dx:Addr} {fs fs':List (Str×V)}
end
structure Cls (K:Xa) (C:Addr):Prop where
 pg:zep K C Str.empty=true
 hd:PySem.W.hasDictIn K C=true
 po:PySem.W.plainOver K C=true
 sa:PySem.W.findIn K (.ref C) "__setattr__" = some (some (.builtin "object.__setattr__"))
theorem Cls.get {K:Xa}{C:Addr}(c:Cls K C)(f:Str):zep K C f=true:=c.pg
section
variable {X:Cx} {pins:List (Addr×Obj)} {σ:St} {H:Hp} {s:Xg} {a C dx:Addr} {fs:List (Str×V)} {f:Str} {v:V} {A:X8} {E:Xe->Xg->Prop}
end
section
variable {X:Cx} {o e value:XJ} {f:Str} {pos pos' tpos:Pos} {ta tv:TE}
def gM:V->V->Hp->VK->Prop:=λx y H Q=>∃ i j,x=.int i/\y=.int j/\Q (.int (i - j)) H
end
section
variable {X:Cx} {pins:List (Addr×Obj)} {σ:St} {H:Hp} {s:Xg} {A:X8} {E:Xe->Xg->Prop} {Q:Xe->Xg->Prop} {c:Xe} {b:Bool}
end
structure eV (k:Nat) (A:X8):Prop where
 hd:A.handled=none
 dp:A.depth+3*k+5 < recursionLimit
 un:A.units+16*k+200 < cLine
theorem eV.mono {j k:Nat}{A:X8}(r:eV k A)(h:j<=k):eV j A:=⟨r.hd,by have:=r.dp;lia,by have:=r.un;lia⟩
theorem eV.deeper {k:Nat}{A:X8}(r:eV (k+1) A)(env:Env):eV k (A.deeper env):=
 ⟨r.hd,by have:=r.dp;show A.depth+1+3*k+5 < _;lia,by have:=r.un;show A.units+3+16*k+200 < _;lia⟩
theorem eV.in1 {k:Nat}{A:X8}(r:eV (k+1) A):eV k A.in1:=
 ⟨r.hd,by have:=r.dp;show A.depth+3*k+5 < _;lia,by have:=r.un;show A.units+1+16*k+200 < _;lia⟩
theorem eV.depth {k:Nat}{A:X8}(r:eV k A):A.depth < recursionLimit:=by have:=r.dp;lia
theorem eV.units {k:Nat}{A:X8}(r:eV k A):A.units+64 < cLine:=by have:=r.un;lia
def Ts:TA:=λ_ H Q=>Q [] H
def OC (ta:TE)(tr:TA):TA:=λσ H Q=>ta σ H λx H1=>tr σ H1 λxs H2=>Q (x::xs) H2
section
variable {X:Cx} {e:XJ} {es:List XJ} {te:TE} {t:TA} {pos:Pos}
theorem iT:PA X [] Ts:=λ_ _ _ _ H Q I h=>zdO ⟨[],H,I,.nil,h⟩
theorem eA (ha:PE X e te)(hr:PA X es t)(hs:Xt (e::es) X.env=(false,Yr e X.env)::Xt es X.env:=by rfl):PA X (e::es) (OC te t):=by
 intro pos pins s σ H Q I h
 rw[hs]
 show Xy _ _ (spliced ((false,Yr e X.env)::YI pos (Xt es X.env))) _ _ s
 refine zdy (thn (ha pins s σ H _ I h) λu s1 ⟨x,H1,I1,r1,q1⟩=>?_)
 exact thn (hr pos pins s1 σ H1 _ I1 q1) λus s2 ⟨xs,H2,I2,r2,q2⟩=>⟨x::xs,H2,I2,.cons r1 r2,q2⟩
def WY (t:TA):TE:=λσ H Q=>t σ H λxs H1=>xs.length<=sizeLine/\∀ p,H1 p=none->Q (.ref p) (upd H1 p (.tup xs))
def Wu (t:TA):TE:=λσ H Q=>t σ H λxs H1=>xs.length<=sizeLine/\∀ p,H1 p=none->Q (.ref p) (upd H1 p (.lst xs))
theorem Qs {x1}(h:PA X es t):PE X (.Tuple es x1 pos) (WY t):=by
 intro pins s σ H Q I hq
 refine wpAny_Tuple_spliced (thn (h pos pins s σ H _ I hq) λus s1 ⟨xs,H1,I1,r,z,q⟩=>⟨by rw[← r.length];exact z,?_⟩)
 have hf:H1 s1.heap.objs.size=none:=I1.hok.fresh (Xq _)
 refine ⟨.ref s1.heap.objs.size,upd H1 s1.heap.objs.size (.tup xs),I1.laid (t':=s1.toks) (λb u e=>Xd _ e) (Xq _) ?_,rfl,q _ hf⟩
 exact ⟨z,us,r,⟨_,Xw _ rfl⟩⟩
theorem JQ (h:PA X es t):PE X (.List es pos) (Wu t):=by
 intro pins s σ H Q I hq
 refine wpAny_List_spliced (thn (h pos pins s σ H _ I hq) λus s1 ⟨xs,H1,I1,r,z,q⟩=>⟨by rw[← r.length];exact z,?_⟩)
 have hf:H1 s1.heap.objs.size=none:=I1.hok.fresh (Xq _)
 refine ⟨.ref s1.heap.objs.size,upd H1 s1.heap.objs.size (.lst xs),I1.laid (t':=s1.toks) (λb u e=>Xd _ e) (Xq _) ?_,rfl,q _ hf⟩
 exact ⟨z,us,0,r,Xw _ rfl⟩
end
abbrev Sp:=List V->Hp->VK->XK->Prop
abbrev CXT:=List Env->Hp->Xg->XK->Xe->Xg->Prop
structure AF (P:XO) (w:X0) (K:Xa) (mg:Str->Option Xe) (base:Heap) (A:X8) (outer:List Env) (s:Xg) (H:Hp):Prop where
 frames:A.frames=some outer
 mod:Mod K mg base
 bs:∀ b o,base.get? b=some o->s.heap.get? b=some o/\H b=none
 bsz:base.objs.size<=s.heap.objs.size
 oj:s.heap.FunFrames base outer
 frf:∀ b∈frs outer,H b=none
 hok:HOk P w H s.heap
 bare:zbF s.gens
def CE (outer:List Env)(P:XO)(w:X0)(H:Hp)(s:Xg)(Q:VK)(u:Xe)(s':Xg):Prop:=
 ∃ v H',s'.os=s.os/\zbF s'.gens/\Un (frs outer) [] H H' s.heap s'.heap/\HOk P w H' s'.heap/\RelV v u/\Q v H'
def CR (CX:CXT)(outer:List Env)(P:XO)(w:X0)(H:Hp)(s:Xg)(Q:VK)(E:XK)(r:zeq)(s':Xg):Prop:=
 match r with
 | .ok (.ret u)=>CE outer P w H s Q u s'
 | .ok _=>False
 | .error e=>CX outer H s E e s'
structure i4 (P:XO) (w:X0) (K:Xa) (mg:Str->Option Xe) (base:Heap) (CX:CXT) (k:Nat) (f:Addr) (fd:XB) (ps:List Str) (sp:Sp):Prop where
 len:∀ vs H Q E,sp vs H Q E->vs.length=ps.length
 run:∀ (A:X8) (outer:List Env) (s:Xg) (H:Hp) (args:Args) (us:List Xe) (vs:List V) (Q:VK) (E:XK),eV k A->AF P w K mg base A outer s H->zdP s fd args (ps.zip us)->Vals vs us->sp vs H Q E->
  Z3 (XF P w) A (.call (.ref f) args) (CR CX outer P w H s Q E) s
theorem i4.mono {P:XO}{w:X0}{K:Xa}{mg:Str->Option Xe}{base:Heap}{CX:CXT}{j k:Nat}{f:Addr}{fd:XB}{ps:List Str}{sp:Sp}(F:i4 P w K mg base CX j f fd ps sp)(h:j<=k) :
  i4 P w K mg base CX k f fd ps sp:=⟨F.len,λA outer s H args us vs Q E hr=>F.run A outer s H args us vs Q E (hr.mono h)⟩
theorem AF.in1 {P:XO}{w:X0}{K:Xa}{mg:Str->Option Xe}{base:Heap}{A:X8}{outer:List Env}{s:Xg}{H:Hp}(e:AF P w K mg base A outer s H) :
  AF P w K mg base A.in1 outer s H:=⟨e.frames,e.mod,e.bs,e.bsz,e.oj,e.frf,e.hok,e.bare⟩
section
variable {X:Cx} {pins:List (Addr×Obj)} {σ:St} {H:Hp} {s s':Xg}
theorem Inv.Vx (I:Inv X pins σ H s):AF X.prog X.w X.K X.mg X.base X.A X.stack s H:=
 ⟨I.ok.frames,I.ok.mod,I.bs,Yd I.ok.bsz I.sz,I.stack,I.Cy,I.hok,I.bare⟩
theorem Inv.after {Q:VK}{u:Xe}(I:Inv X pins σ H s)(h:CE X.stack X.prog X.w H s Q u s'):EP X pins σ Q u s':=by
 obtain ⟨v,H',os,bare,un,hok,r,q⟩:=h
 obtain ⟨hh,g,d,t,os'⟩:=s'
 obtain rfl:os'=s.os:=os
 exact ⟨v,H',I.call (h':=hh) (g':=g) (d':=d) (t':=t) (ch:=[]) un hok bare (λb z=>absurd z (by simp)),r,q⟩
end
def U3 (sp:Sp)(dvs:List V)(E:XK)(t:TA):TE:=λσ H Q=>t σ H λvs H1=>sp (vs++dvs) H1 Q E
def Binds (K:Xa)(fd:XB)(ps:List Str)(ds:List Xe):Prop:=
 ∀ (s:Xg) (us:List Xe),K.In s.heap->(us++ds).length=ps.length->zdP s fd ⟨us,[]⟩ (ps.zip (us++ds))
theorem Binds.all {K:Xa}{fd:XB}{ps:List Str}(h:∀ us:List Xe,us.length=ps.length->bindArgs fd ⟨us,[]⟩=pure (ps.zip us)):Binds K fd ps []:=λs us _ hl=>by
 rw[XU] at hl ⊢
 exact .of_eq (h us hl)
def Passes (CX:CXT)(X:Cx)(E:XK):Prop:=∀ (pins:List (Addr×Obj)) (σ:St) (H:Hp) (s:Xg) (e:Xe) (s':Xg),Inv X pins σ H s->CX X.stack H s E e s'->X.xe e s'
section
variable {X:Cx} {CX:CXT} {k:Nat} {f C:Addr} {fd:XB} {ps:List Str} {sp:Sp} {dvs:List V} {ds:List Xe} {E:XK} {x m:Str} {p pos apos:Pos} {e o:XJ} {es:List XJ} {ta:TE} {t:TA}
theorem Pk {pins:List (Addr×Obj)}{σ:St}{H:Hp}{s:Xg}{Q:VK}{us:List Xe}{vs:List V}(F:i4 X.prog X.w X.K X.mg X.base CX k f fd ps sp)(hr:eV k X.A)(hb:Binds X.K fd ps ds)(hd:Vals dvs ds)(hx:Passes CX X E)
  (I:Inv X pins σ H s) (r:Vals vs us) (h:sp (vs++dvs) H Q E):Xy (XF X.prog X.w) X.A (zcB (.ref f) us) (EP X pins σ Q) X.xe s:=by
 have r2:Vals (vs++dvs) (us++ds):=r.append hd
 have hl:(us++ds).length=ps.length:=by rw[← r2.length];exact F.len _ _ _ _ h
 refine wpAny_call (zdQ (F.run X.A X.stack s H ⟨us,[]⟩ (us++ds) (vs++dvs) Q E hr I.Vx (hb s us I.kIn hl) r2 h) λr s' hq=>?_)
 cases r with
 | error e=>exact hx pins σ H s e s' I hq
 | ok fl=>
  cases fl with
  | ret u=>exact I.after hq
  | next=>exact Xi hq
  | brk=>exact Xi hq
  | cont=>exact Xi hq
theorem Ny (F:i4 X.prog X.w X.K X.mg X.base CX k f fd ps sp)(hr:eV k X.A)(hg:Gl X x)(hm:X.mg x=some (.ref f))(hk:zaO X.K (.ref f)=true)(hb:Binds X.K fd ps ds)(hd:Vals dvs ds)(hx:Passes CX X E)
  (ha:PA X (e::es) t) (hdb:(x == ("__debug__" : Str))=false:=by decide) (he:Xt (e::es) X.env=(false,Yr e X.env)::Xt es X.env:=by rfl) (hpl:(YI pos (Xt es X.env)).any (·.1)=false:=by rfl) :
  PE X (.Call (.Name x p) (e::es) [] pos) (U3 sp dvs E t):=by
 intro pins s σ H Q I h
 refine zaC (CU I hg hm ?_ hdb)
 refine PySem.W.callWith_K (h₀:=X.base) I.ok.mod.kin hk (thn (ha pos pins s σ H _ I h) λus s1 ⟨vs,H1,I1,r,q⟩=>⟨I1.kIn,?_⟩) he hpl
 exact Pk F hr hb hd hx I1 r q
end
def PK (X:Cx)(kws:List zag)(t:TA):Prop:=
 ∀ (pos:Pos) (pins:List (Addr×Obj)) (s:Xg) (σ:St) (H:Hp) (Q:List V->Hp->Prop),Inv X pins σ H s->t σ H Q->Xy (XF X.prog X.w) X.A (evalAll ((zbs pos (Z6 kws X.env)).map (·.2))) (AP X pins σ Q) X.xe s
section
variable {X:Cx} {CX:CXT} {k:Nat} {f C:Addr} {fd:XB} {ps ks:List Str} {sp:Sp} {E:XK} {x m:Str} {p pos apos kpos:Pos} {e o:XJ} {es:List XJ} {kws:List zag} {te ta:TE} {t tk:TA} {nm:Option Str}
theorem SQ:PK X [] Ts:=λ_ _ _ _ H Q I h=>wpAny_evalAll_nil ⟨[],H,I,.nil,h⟩
theorem Ma (ha:PE X e te)(hr:PK X kws t):PK X (⟨nm,e,kpos⟩::kws) (OC te t):=by
 intro pos pins s σ H Q I h
 show Xy _ _ (evalAll ((do let v ← Yr e X.env;standAt pos;pure v)::(zbs pos (Z6 kws X.env)).map (·.2))) _ _ s
 refine wpAny_evalAll_cons (Xb (thn (ha pins s σ H _ I h) λu s1 ⟨x,H1,I1,r1,q1⟩=>Xb (za3 (Xj ?_))))
 exact thn (hr pos pins s1 σ H1 _ I1 q1) λus s2 ⟨xs,H2,I2,r2,q2⟩=>⟨x::xs,H2,I2,.cons r1 r2,q2⟩
variable {g:List Xe->List Xe->List Xe} {gV:List V->List V->List V}
end
structure aF (N P:List Str) (sc:Scope):Prop where
 kind:sc.kind=.function
 co:sc.isCoroutine=false
 gen:sc.isGenerator=false
 nd:N.Nodup
 pre:N.take P.length=P
 par:∀ x∈P,sc.names.lookup x=some .local∨sc.names.lookup x=some .cell
 RZ:∀ y∈sc.names,y.2≠.free
theorem tZ {zaX:Str->Option za7}{x:Str}:∀ {binds:List (Str×Xe)} {m:Str->Option Xe},(∀ v,(x,v) ∉ binds)->ze3 zaX binds m x=m x
 | [],_,_=>rfl
 | (n,v)::r,m,h=>by
  unfold ze3
  rw[tZ λw hw=>h w (Xp _ hw)]
  split
  ·have:x≠n:=by rintro rfl;exact h v Xl
   simp[this]
  ·rfl
theorem t8 {zaX:Str->Option za7}{x:Str}:∀ {binds:List (Str×Xe)} {m:Str->Option Xe},(∀ v,(x,v) ∉ binds)->ze4 zaX binds m x=m x
 | [],_,_=>rfl
 | (n,v)::r,m,h=>by
  unfold ze4
  rw[t8 λw hw=>h w (Xp _ hw)]
  split
  ·rfl
  ·have:x≠n:=by rintro rfl;exact h v Xl
   simp[this]
theorem uR {zaX:Str->Option za7}{x:Str}{v:Xe}:∀ {P:List Str} {vs:List Xe} {i:Nat} {m:Str->Option Xe},P.Nodup->P[i]? = some x->vs[i]? = some v->zaX x=some .local->
  ze3 zaX (P.zip vs) m x=some v
 | [],_,_,_,_,h,_,_=>by simp at h
 | _::_,[],_,_,_,_,h,_=>by simp at h
 | p::P,w::vs,0,m,nd,h1,h2,hk=>by
  simp at h1 h2;subst h1;subst h2
  show ze3 zaX ((p,w)::P.zip vs) m p=_
  unfold ze3
  rw[tZ λv hv=>(Yc.mp nd).1 (XH hv).1,if_pos hk]
  simp
 | p::P,w::vs,i+1,m,nd,h1,h2,hk=>by
  show ze3 zaX ((p,w)::P.zip vs) m x=_
  unfold ze3
  exact uR (i:=i) (Yc.mp nd).2 (by simpa using h1) (by simpa using h2) hk
theorem uk {zaX:Str->Option za7}{x:Str}{v:Xe}:∀ {P:List Str} {vs:List Xe} {i:Nat} {m:Str->Option Xe},P.Nodup->P[i]? = some x->vs[i]? = some v->zaX x≠some .local->
  ze4 zaX (P.zip vs) m x=some v
 | [],_,_,_,_,h,_,_=>by simp at h
 | _::_,[],_,_,_,_,h,_=>by simp at h
 | p::P,w::vs,0,m,nd,h1,h2,hk=>by
  simp at h1 h2;subst h1;subst h2
  show ze4 zaX ((p,w)::P.zip vs) m p=_
  unfold ze4
  rw[t8 λv hv=>(Yc.mp nd).1 (XH hv).1,if_neg hk]
  simp
 | p::P,w::vs,i+1,m,nd,h1,h2,hk=>by
  show ze4 zaX ((p,w)::P.zip vs) m x=_
  unfold ze4
  exact uk (i:=i) (Yc.mp nd).2 (by simpa using h1) (by simpa using h2) hk
def start (N:List Str)(vs:List V):St:=vs.map some++YQ (N.length - vs.length) none
def w8 (CX:CXT)(P:XO)(w:X0)(K:Xa)(mg:Str->Option Xe)(base:Heap)(N:List Str)(qual:Str)(scope:Scope)(f:Addr)(cd:Xe)(A:X8)(outer:List Env)(s:Xg)(H:Hp)(E:XK):Cx where
 prog:=P
 w:=w
 K:=K
 mg:=mg
 base:=base
 A:=A.deeper (zbt qual scope s.heap.objs.size f cd)
 N:=N
 s₀:=s
 H₀:=H
 env:=zbt qual scope s.heap.objs.size f cd
 outer:=outer
 stack:=zbt qual scope s.heap.objs.size f cd::outer
 ex:=[]
 calm:=true
 fn:=λ_=>true
 pn:=[]
 xe:=λe s'=>Xy (XF P w) (A.deeper (zbt qual scope s.heap.objs.size f cd)) (leaving (zbt qual scope s.heap.objs.size f cd) e) (λ_ s''=>CX outer H s E e s'') (λe' s''=>CX outer H s E e' s'') s'
theorem yz {sc:Scope}{n:Nat}{x:Str}(h:sc.names.lookup x=some .cell):∃ c,(cellsFrom n sc.names []).lookup x=some c:=by
 have q:=zcb sc.names n [] (.inl h)
 exact zbO.mp q
theorem Fz {CX:CXT}{P:XO}{w:X0}{K:Xa}{mg:Str->Option Xe}{base:Heap}{N ps:List Str}{qual:Str}{scope:Scope}{f:Addr}{cd:Xe}{A:X8}{outer:List Env}{s s1:Xg}{H:Hp}{E:XK}{us:List Xe}{vs:List V}
  (S:aF N ps scope) (hd:A.handled=none) (e0:AF P w K mg base A outer s H) (hl:vs.length=ps.length) (r:Vals vs us)
  (x:InCallC s s.heap.objs.size (ze3 (zbt qual scope s.heap.objs.size f cd).kindOf (ps.zip us) λ_=>none) (cellsFrom (s.heap.objs.size+1) scope.names []) (ze4 (zbt qual scope s.heap.objs.size f cd).kindOf (ps.zip us) λ_=>none) s1) :
  Inv (w8 CX P w K mg base N qual scope f cd A outer s H E) [] (start N vs) H s1:=by
 have hpl:ps.length<=N.length:=by have:=congrArg Y6 S.pre;rw[ZD] at this;lia
 obtain ⟨h1,tk,rfl,hk⟩:=x.done
 have noA:∀ b:Addr,b ∉ (w8 CX P w K mg base N qual scope f cd A outer s H E).ex:=λb z=>absurd (show b∈([]:List Addr) from z) (by simp)
 refine ⟨⟨e0.mod,S.kind,rfl,rfl,Xq _,λy z c h1 h2=>?_,λy hy=>?_,λy c _ h=>?_,λ_=>hd,Around.frames_deeper e0.frames,.inr ⟨rfl,rfl⟩,λb z=>absurd z (noA b),e0.bs,e0.bsz,λb _ _=>noA b,λb z=>absurd z (noA b),e0.oj,e0.frf⟩,
  rfl,e0.bare,Un.kept hk,⟨_,x.toInCall.ns,λi y v h1 h2 h3=>?_⟩,λy c h=>⟨_,x.cell y c h⟩,e0.hok.fresh (Xq _),λy c h=>?_,λp hp=>absurd (show p∈([]:List (Addr×Obj)) from hp) (by simp),e0.hok.kept hk,?_⟩
 ·exact name_of_addr x.apart (Yw h1) (Yw h2)
 ·have hy:scope.names.lookup y=some .cell∨scope.names.lookup y=some .free:=hy
  rcases hy with hy | hy
  ·exact yz hy
  ·exact absurd rfl (S.RZ _ (Yw hy))
 ·exact zaK (x.above y c (Yw h))
 ·have hi:i < vs.length:=by
   unfold start at h2
   by_cases hi:i < vs.length
   ·exact hi
   ·rw[Z7 (by simpa using hi)] at h2
    rw[zbW] at h2
    split at h2<;>cases h2
  have ha:vs[i]? = some v:=by
   unfold start at h2
   rw[Zn (by simpa using hi),Yp] at h2
   cases e:vs[i]? with
   | none=>rw[e] at h2;cases h2
   | some a=>rw[e] at h2;cases h2;rfl
  obtain ⟨u,hu,rv⟩:=r.get ha
  have hp:ps[i]? = some y:=by
   rw[← S.pre,List.getElem?_take_of_lt (by lia)];exact h1
  have ndP:ps.Nodup:=by rw[← S.pre];exact S.nd.sublist (zbH _ _)
  refine ⟨u,rv,?_⟩
  rcases S.par y (Z8 hp) with k | k
  ·exact .inl ⟨k,uR ndP hp hu k⟩
  ·obtain ⟨c,e⟩:=yz (n:=s.heap.objs.size+1) k
   refine .inr ⟨.inl k,c,e,?_⟩
   have q:=x.cell y c e
   rw[uk ndP hp hu (by show scope.names.lookup y≠_;rw[k];decide)] at q
   exact q
 ·exact e0.hok.fresh (zaK (x.above y c (Yw h)))
 ·unfold start
  show _=N.length
  rw[Xo,Xc,zaU]
  lia
theorem Ua {CX:CXT}{P:XO}{w:X0}{K:Xa}{mg:Str->Option Xe}{base:Heap}{k:Nat}{f:Addr}{name qual:Str}{params:Arguments}{body:List Stmt}{scope:Scope}{dV kV doc pm cdv ct oc:Xe}{an od:Option Addr}
  {osl:Array (Option Xe)} {N ps:List Str} {sp:Sp} (lk:K.lookup f=some ⟨oc,od,.func (zah name qual params body scope dV kV doc pm an cdv ct),osl⟩) (hcd:zcK K cdv qual=true) (S:aF N ps scope)
  (len:∀ vs H Q E,sp vs H Q E->vs.length=ps.length)
  (hbody:∀ (A:X8) (outer:List Env) (s:Xg) (H:Hp) (vs:List V) (Q:VK) (E:XK),eV k (A.deeper (zbt qual scope s.heap.objs.size f cdv))->sp vs H Q E->
   ∃ t,PSs (w8 CX P w K mg base N qual scope f cdv A outer s H E) body t/\t { nx:=λ_ H'=>Q .non H',rt:=Q } (start N vs) H) :
  i4 P w K mg base CX (k+1) f (zah name qual params body scope dV kV doc pm an cdv ct) ps sp:=by
 refine ⟨len,λA outer s H args us vs Q E hr e0 hb r hsp=>?_⟩
 have hl:=len _ _ _ _ hsp
 have KX:K.In s.heap:=e0.mod.kin.keeps λb o e=>(e0.bs b o e).1
 have lim:s.heap.NoLimit:=e0.mod.nolimit.keeps λb o e=>(e0.bs b o e).1
 have fS:∀ y∈ps.zip us,scope.names.lookup y.1=some .local∨(scope.names.lookup y.1=some .cell/\((cellsFrom (s.heap.objs.size+1) scope.names []).lookup y.1).isSome=true):=λ⟨n,v⟩ hy=>by
  rcases S.par n (XH hy).1 with q | q
  ·exact .inl q
  ·exact .inr ⟨q,zcb _ _ _ (.inl q)⟩
 refine codeAny_call_function hr.depth (KX _ _ lk) rfl S.co S.gen rfl (PySem.W.codeRec_of KX hcd) (hb _ _ _ _ ?_)
 refine wpAny_newFunctionEnv_cells S.kind fS λenv he s1 x=>?_
 subst he
 refine ⟨lim.keeps x.toInCall.keep,codeAny_func ?_⟩
 obtain ⟨t,ht,hq⟩:=hbody A outer s H vs Q E (hr.deeper _) hsp
 have I:Inv (w8 CX P w K mg base N qual scope f cdv A outer s H E) [] (start N vs) H s1:=Fz S hr.hd e0 hl r x
 refine Yt (ht [] s1 (start N vs) H _ I hq) (λfl s' hs=>?_) λe s' hs=>hs
 have fin:∀ {σ':St} {H':Hp} {v:V} {u:Xe},Inv (w8 CX P w K mg base N qual scope f cdv A outer s H E) [] σ' H' s'->RelV v u->Q v H'->CE outer P w H s Q u s':=
  λ{σ' H' v u} J rv q=>⟨v,H',J.os,J.bare,J.base,J.hok,rv,q⟩
 cases fl with
 | ret u=>
  obtain ⟨v,σ',H',J,rv,q⟩:=hs
  exact fin J rv q
 | next=>
  obtain ⟨σ',H',J,q⟩:=hs
  exact fin (v:=V.non) (u:=Zb) J rfl q
 | brk=>
  obtain ⟨_,_,_,q⟩:=hs
  exact Xi q
 | cont=>
  obtain ⟨_,_,_,q⟩:=hs
  exact Xi q
section
variable {X:Cx} {x:Str} {p pos:Pos} {e:XJ} {es:List XJ} {t:TA} {id T:String} {r:List V->Hp->VK->Prop}
def tCB (r:List V->Hp->VK->Prop)(t:TA):TE:=λσ H Q=>t σ H λvs H1=>r vs H1 Q
theorem qJ (hc:bV X (.builtin id) r)(hg:Gl X x)(hm:X.mg x=none)(hv:YC x=some (.builtin id))(ha:PA X (e::es) t)(hn:x ≠ "__name__" := by decide)(hdb:(x == ("__debug__" : Str))=false:=by decide)
  (he:Xt (e::es) X.env=(false,Yr e X.env)::Xt es X.env:=by rfl) (hpl:(YI pos (Xt es X.env)).any (·.1)=false:=by rfl):PE X (.Call (.Name x p) (e::es) [] pos) (tCB r t):=by
 intro pins s σ H Q I h
 refine zaC (iA I hg hm hv ?_ hn hdb)
 exact zer (thn (ha pos pins s σ H _ I h) λus s1 ⟨vs,H1,I1,r1,q1⟩=>hc pins s1 σ H1 vs us Q I1 r1 q1) he hpl
theorem t7 (hc:bV X (.type T) r)(hg:Gl X x)(hm:X.mg x=none)(hv:YC x=some (.type T))(ha:PA X (e::es) t)(hn:x ≠ "__name__" := by decide)(hdb:(x == ("__debug__" : Str))=false:=by decide)
  (he:Xt (e::es) X.env=(false,Yr e X.env)::Xt es X.env:=by rfl) (hpl:(YI pos (Xt es X.env)).any (·.1)=false:=by rfl):PE X (.Call (.Name x p) (e::es) [] pos) (tCB r t):=by
 intro pins s σ H Q I h
 refine zaC (iA I hg hm hv ?_ hn hdb)
 exact Yo (thn (ha pos pins s σ H _ I h) λus s1 ⟨vs,H1,I1,r1,q1⟩=>hc pins s1 σ H1 vs us Q I1 r1 q1) he hpl
end
end L2
namespace HT
open PySem PyProof.Rows
section
open PySem.SeqAt
open PySem.AutoSeq1 (wpAny_loadPart')
open PySem.MeetsSeq PySem.MeetsSeq2 PySem.MeetsSeq3
end
section
variable {prog:XO} {w:X0} {A:X8} {E:Xe->Xg->Prop} {s:Xg}
theorem NQ {t b:Addr}{vs ws:List Xe}{Q:Xe->Xg->Prop}(ht:zeH s.heap t vs.toArray)(hb:zeH s.heap b ws.toArray)(hv:vs≠[])
  (h1:ws=[]->Q (.ref t) s) (h2:ws≠[]->Q (.ref s.heap.objs.size) { s with heap:=s.heap.push { cls:=.type "tuple", data:=.seq (vs++ws).toArray } })
  (hsz:vs.length+ws.length<=sizeLine):Xy (XF prog w) A (ZC .Add (.ref t) (.ref b)) Q E s:=by
 obtain ⟨⟨cls,dd,data,sl⟩,ho,hc,n,hd⟩:=id ht
 obtain ⟨⟨cls2,dd2,data2,sl2⟩,ho2,hc2,n2,hd2⟩:=id hb
 simp only at hc hd hc2 hd2
 subst hc hd hc2 hd2
 have e:vs.toArray++ws.toArray=(vs++ws).toArray:=by simp
 by_cases hw:ws=[]
 ·exact zcc ⟨_,ho,rfl⟩ ⟨_,ho2,rfl⟩ zbX zdj zaP zaF (zas _ _)
   (tuple_addW1 t b vs.toArray ws.toArray n n2 dd dd2 sl sl2 (by simpa using hv) (by simp[hw])) ⟨ho,ho2,h1 hw⟩
 ·refine zcc ⟨_,ho,rfl⟩ ⟨_,ho2,rfl⟩ zbX zdj zaP zaF (zas _ _)
   (tuple_addW2 t b vs.toArray ws.toArray n n2 dd dd2 sl sl2 (by simpa using hv) (by simpa using hw) (by rw[Xz,Xz];exact hsz)) ⟨ho,ho2,?_⟩
  rw[e]
  exact h2 hw
def sIx (n d:Nat):Option Int->Nat
 | none=>d
 | some v=>if v < 0 then (v+(n:Int)).toNat else min v.toNat n
theorem yL (n d:Nat):sIx n d none=d:=rfl
theorem CZ (n d k:Nat):sIx n d (some (k:Int))=min k n:=by
 show (if (k:Int) < 0 then ((k:Int)+(n:Int)).toNat else min (k:Int).toNat n)=min k n
 rw[if_neg (by lia),Z4]
theorem Q4 (n d:Nat)(hd:d<=n)(o:Option Int):sIx n d o<=n:=by
 cases o with
 | none=>exact hd
 | some v=>
  show (if v < 0 then (v+(n:Int)).toNat else min v.toNat n)<=n
  by_cases hv:v < 0
  ·rw[if_pos hv];lia
  ·rw[if_neg hv];exact Nat.min_le_right _ _
theorem CG (v:Int)(n d:Nat):(if v < 0 then max (v+(n:Int)) 0 else min v (n:Int))=((sIx n d (some v):Nat):Int):=by
 show (if v < 0 then max (v+(n:Int)) 0 else min v (n:Int))=(((if v < 0 then (v+(n:Int)).toNat else min v.toNat n):Nat):Int)
 by_cases hv:v < 0
 ·simp only[if_pos hv];lia
 ·simp only[if_neg hv];lia
theorem BA (lo hi:Option Int)(n:Nat):zal lo hi 1 (n:Int)=(((sIx n 0 lo:Nat):Int),((sIx n n hi:Nat):Int)):=by
 have h1:¬ ((1:Int) < 0):=by lia
 unfold zal
 simp only[h1,if_false]
 refine Prod.ext ?_ ?_
 ·cases lo with
  | none=>rfl
  | some v=>exact CG v n 0
 ·cases hi with
  | none=>rfl
  | some v=>exact CG v n n
theorem BX (i j:Nat):Zo (i:Int) (j:Int) 1=j - i:=by
 unfold Zo
 have h1:(1:Int) > 0:=by lia
 simp only[h1,if_true,Int.ediv_one]
 split<;>lia
theorem qM {v:Xe}{o:Option Int}{Q:Option Int->Xg->Prop}(p:IsPart v o)(h:Q o s):Xy (XF prog w) A (zeQ v) Q E s:=by
 cases p with
 | none=>exact slicePart_none h
 | int i t=>exact slicePart_int h
theorem hX {sl:Addr}{vl vu:Xe}{lo hi:Option Int}{n:Nat}{Q:Int×Int×Nat->Xg->Prop}(hs:s.heap.IsSliceOf sl vl vu .none)(pl:IsPart vl lo)(pu:IsPart vu hi)
  (h:Q (((sIx n 0 lo:Nat):Int),1,sIx n n hi - sIx n 0 lo) s):Xy (XF prog w) A (zbu (.ref sl) (pure (n:Int))) Q E s:=by
 obtain ⟨os,hos,hcs,hds⟩:=id hs
 unfold zbu zfj
 refine Xb (Xb (Yb hos hds (x:=vl) rfl (Xb (Yb hos hds (x:=vu) rfl (Xb (Yb hos hds (x:=.none) rfl (Xj ?_)))))))
 refine Xb (slicePart_none ?_)
 show Xy _ _ (if ((1:Int) == 0)=true then _ else _) _ _ s
 rw[if_neg (by decide)]
 refine Xb (qM pl (Xb (qM pu (Xb (Xj ?_)))))
 show Xy _ _ (match zal lo hi 1 (n:Int) with | (lo,hi)=>pure (lo,(1:Int),Zo lo hi 1)) _ _ s
 rw[BA lo hi n]
 show Xy _ _ (pure (((sIx n 0 lo:Nat):Int),(1:Int),Zo ((sIx n 0 lo:Nat):Int) ((sIx n n hi:Nat):Int) 1)) _ _ s
 rw[BX]
 exact Xj h
theorem GC (xs:Array Xe)(i k:Nat):((XX k).filterMap λ(m:Nat)=>xs[((i:Int)+(m:Int)*1).toNat]?).toArray=((xs.toList.drop i).take k).toArray:=by
 have e:(λ(m:Nat)=>xs[((i:Int)+(m:Int)*1).toNat]?)=λm=>xs[i+m]?:=by
  funext m
  have:((i:Int)+(m:Int)*1).toNat=i+m:=by lia
  rw[this]
 rw[e]
 have:=pick_run xs i k
 rw[zbv] at this
 have e2:((λx=>xs[x]?) ∘ λx=>i+x)=λm=>xs[i+m]?:=rfl
 rw[e2] at this
 rw[this]
theorem lM {t sl:Addr}{items:Array Xe}{vl vu:Xe}{lo hi:Option Int}{Q:Xe->Xg->Prop}(ht:zeH s.heap t items)(hs:s.heap.IsSliceOf sl vl vu .none)(pl:IsPart vl lo)(pu:IsPart vu hi)
  (hw:¬ (sIx items.size 0 lo=0/\sIx items.size items.size hi=items.size))
  (h:Q (.ref s.heap.objs.size) { s with heap:=s.heap.push { cls:=.type "tuple", data:=.seq ((items.toList.drop (sIx items.size 0 lo)).take (sIx items.size items.size hi - sIx items.size 0 lo)).toArray } })
  (hsz:items.size<=sizeLine):Xy (XF prog w) A (zbl (.ref t) (.ref sl)) Q E s:=by
 have Du:sizeOk (.seq ((items.toList.drop (sIx items.size 0 lo)).take (sIx items.size items.size hi - sIx items.size 0 lo)).toArray):=by
  show ((items.toList.drop (sIx items.size 0 lo)).take (sIx items.size items.size hi - sIx items.size 0 lo)).toArray.size<=sizeLine
  rw[Xz,ZD,zaY,zao]
  lia
 have hj:sIx items.size items.size hi<=items.size:=Q4 _ _ (Xq _) hi
 obtain ⟨os,hos,hcs,hds⟩:=id hs
 have hTs:s.TypeIs (.ref sl) "slice" := ⟨os,hos,hcs⟩
 unfold zbl
 try with_reducible refine ZX ?_
 first | refine Xb (Xj ?_) | skip
 refine Xb (zdR ht.typeIs (by decide) ?_)
 refine Xb (Yj (name:=OF "__getitem__") ht.typeIs Yg
  (YK Yg ht.typeIs zc9 ?_ (zdz _ _)))
 show Xy _ _ (Z9 (.ref t) >>= _) _ _ s
 refine Xb (tupleItemsOf_ ht ?_)
 refine Xb (wpAny_typeOf hTs ?_)
 rw[if_pos (by decide)]
 refine Xb (hX hs pl pu ?_)
 have hno:¬ ((((sIx items.size 0 lo:Nat):Int) == 0&&(1:Int) == 1&&(sIx items.size items.size hi - sIx items.size 0 lo) == items.size)=true):=by
  intro q
  rw[XY,XY] at q
  have q1:((sIx items.size 0 lo:Nat):Int)=0:=eq_of_beq q.1.1
  have q2:sIx items.size items.size hi - sIx items.size 0 lo=items.size:=eq_of_beq q.2
  exact hw ⟨by lia,by lia⟩
 show Xy _ _ (if (((sIx items.size 0 lo:Nat):Int) == 0&&(1:Int) == 1&&(sIx items.size items.size hi - sIx items.size 0 lo) == items.size)=true then _ else _) _ _ s
 rw[if_neg hno,GC]
 first
  | exact Xb (m:=Yn _) (Ye (Xj ⟨_,rfl,Xj h⟩) Du)
  | exact Xb (m:=Yn _) (Ye (Xb (Xj (Xj ⟨_,rfl,Xj h⟩))) Du)
  | exact Xb (Xb (m:=Yn _) (Ye (Xj (Xj ⟨_,rfl,Xj h⟩)) Du))
  | exact Xb (Xb (m:=Yn _) (Ye (Xj ⟨_,rfl,Xj h⟩) Du))
end
end HT
namespace L2
open PySem PySem.Spec PyProof.Rows
abbrev TO:=St->Hp->(Option Int->Hp->Prop)->Prop
def PO (X:Cx)(e:Option XJ)(t:TO):Prop:=
 ∀ (pins:List (Addr×Obj)) (s:Xg) (σ:St) (H:Hp) (Q:Option Int->Hp->Prop),Inv X pins σ H s->t σ H Q->
  Xy (XF X.prog X.w) X.A (evalPart e X.env) (λu s'=>∃ o H',Inv X pins σ H' s'/\IsPart u o/\Q o H') X.xe s
def N2:TO:=λ_ H Q=>Q none H
def UO (t:TE):TO:=λσ H Q=>t σ H λx H1=>∃ i,x=.int i/\Q (some i) H1
theorem intsAre_of {ns:List Int}:∀ {us:List Xe},Vals (ns.map V.int) us->zay us ns:=by
 induction ns with
 | nil=>intro us r;rw[zai] at r;cases r;exact .nil
 | cons n ns ih=>
  intro us r
  rw[Xm] at r
  cases r with
  | cons r1 r2=>
   obtain ⟨t,e⟩:=r1
   subst e
   exact .cons n t (ih r2)
section
variable {X:Cx} {e:XJ} {te:TE} {lo hi:Option XJ} {tl th:TO} {pos p2:Pos}
theorem Nk:PO X none N2:=by
 intro pins s σ H Q I h
 rw[evalPart_none]
 exact Xj ⟨none,H,I,.none,h⟩
theorem M4 (h:PE X e te):PO X (some e) (UO te):=by
 intro pins s σ H Q I hw
 rw[evalPart_some]
 refine thn (h pins s σ H _ I hw) λu s1 ⟨x,H1,I1,r1,q1⟩=>?_
 obtain ⟨i,rfl,q⟩:=q1
 obtain ⟨t,rfl⟩:=r1
 exact ⟨some i,H1,I1,.int i t,q⟩
def SlR (X:Cx)(r:V->Option Int->Option Int->Hp->VK->Prop):Prop:=
 ∀ (pins:List (Addr×Obj)) (s:Xg) (σ:St) (H:Hp) (x:V) (v vl vu:Xe) (lo hi:Option Int) (sl:Addr) (Q:VK),Inv X pins σ H s->RelV x v->s.heap.IsSliceOf sl vl vu .none->IsPart vl lo->IsPart vu hi->r x lo hi H Q->
  ∃ T id,ze5 (.type T) "__getitem__" = pure (some (.builtin id))/\s.TypeIs v T/\Xy (XF X.prog X.w) X.A (zbl v (.ref sl)) (EP X pins σ Q) X.xe s
theorem SlR.or {r r':V->Option Int->Option Int->Hp->VK->Prop}(h:SlR X r)(h':SlR X r'):SlR X (λx lo hi H Q=>r x lo hi H Q∨r' x lo hi H Q):=by
 intro pins s σ H x v vl vu lo hi sl Q I rx hs pl pu q
 rcases q with q | q
 ·exact h pins s σ H x v vl vu lo hi sl Q I rx hs pl pu q
 ·exact h' pins s σ H x v vl vu lo hi sl Q I rx hs pl pu q
def tSl (r:V->Option Int->Option Int->Hp->VK->Prop)(te:TE)(tl th:TO):TE:=λσ H Q=>te σ H λx H1=>tl σ H1 λl H2=>th σ H2 λu H3=>r x l u H3 Q
theorem Ie {r:V->Option Int->Option Int->Hp->VK->Prop}(hr:SlR X r)(he:PE X e te)(hl:PO X lo tl)(hu:PO X hi th):PE X (.Subscript e (.Slice lo hi none p2) pos) (tSl r te tl th):=by
 intro pins s σ H Q I h
 refine ze6 (thn (he pins s σ H _ I h) λv s1 ⟨x,H1,I1,r1,q1⟩=>?_)
 refine wpAny_Slice (thn (hl pins s1 σ H1 _ I1 q1) λvl s2 ⟨l,H2,I2,pl,q2⟩=>thn (hu pins s2 σ H2 _ I2 q2) λvu s3 ⟨u,H3,I3,pu,q3⟩=>?_)
 rw[evalPart_none]
 refine Xj ?_
 have I4:Inv X pins σ H3 { s3 with heap:=s3.heap.push { cls:=.type "slice", data:=.fields #[vl,vu,.none] } }:=I3.kept (t':=s3.toks) λb ob q=>Xd _ q
 obtain ⟨T,id,hT,ht,hg⟩:=hr pins { s3 with heap:=s3.heap.push { cls:=.type "slice", data:=.fields #[vl,vu,.none] } } σ H3 x v vl vu l u s3.heap.objs.size Q I4 r1 (zfJ ..) pl pu q3
 show Xy (XF X.prog X.w) X.A (zdk e (.Slice lo hi none p2) v (.ref s3.heap.objs.size)) (EP X pins σ Q) X.xe { s3 with heap:=s3.heap.push { cls:=.type "slice", data:=.fields #[vl,vu,.none] } }
 exact tail_any (ops:=[.ref s3.heap.objs.size,v]) ht hT hg (by with_unfolding_all rfl)
def zp (xs:List V)(lo hi:Option Int):List V:=(xs.drop (HT.sIx xs.length 0 lo)).take (HT.sIx xs.length xs.length hi - HT.sIx xs.length 0 lo)
theorem nq (xs:List V)(lo hi:Option Int):(zp xs lo hi).length<=xs.length:=by
 unfold zp
 rw[ZD,zaY]
 lia
def W6 (K:Xa):V->Option Int->Option Int->Hp->VK->Prop:=λx lo hi H Q=>∃ a xs,x=.ref a/\SqT K H a xs/\
 ¬ (HT.sIx xs.length 0 lo=0/\HT.sIx xs.length xs.length hi=xs.length)/\∀ p,H p=none->Q (.ref p) (upd H p (.tup (zp xs lo hi)))
theorem Qy:SlR X (W6 X.K):=by
 intro pins s σ H x v vl vu lo hi sl Q I rx hs pl pu h
 obtain ⟨a,xs,rfl,hx,hw,q⟩:=h
 cases rx
 obtain ⟨its,r,ht,hz⟩:=I.tuple hx
 have hlen:its.toArray.size=xs.length:=by rw[Xz];exact r.length.symm
 refine ⟨"tuple", _,Yg.lookup,ht.typeIs,?_⟩
 refine HT.lM ht hs pl pu (by rw[hlen];exact hw) ?_ (by rw[hlen];exact hz)
 rw[hlen]
 refine ⟨.ref s.heap.objs.size,_,I.laid (t':=s.toks) (o:=.tup (zp xs lo hi)) (λb ob q=>Xd _ q) (Xq _) ?_,rfl,q _ (I.hok.fresh (Xq _))⟩
 exact ⟨Yd (nq xs lo hi) hz,_,(r.drop (HT.sIx xs.length 0 lo)).take (HT.sIx xs.length xs.length hi - HT.sIx xs.length 0 lo),wu.new _ _⟩
def OE (K:Xa):R2:=λx y H Q=>∃ a b xs ys,x=.ref a/\y=.ref b/\SqT K H a xs/\SqT K H b ys/\xs≠[]/\xs.length+ys.length<=sizeLine/\
 (ys=[]->Q (.ref a) H)/\(ys≠[]->∀ p,H p=none->Q (.ref p) (upd H p (.tup (xs++ys))))
theorem Vals.uT {xs:List V}{us:List Xe}(r:Vals xs us):us=[]↔xs=[]:=by
 cases r with
 | nil=>simp
 | cons _ _=>simp
theorem L6:OpR X (ZC .Add) (OE X.K):=by
 intro pins s σ H x y v u Q I rx ry h
 obtain ⟨a,b,xs,ys,rfl,rfl,ha,hb,hx,hz,q1,q2⟩:=h
 cases rx
 cases ry
 obtain ⟨its,r1,p1,_⟩:=I.tuple ha
 obtain ⟨its2,r2,p2,_⟩:=I.tuple hb
 refine HT.NQ p1 p2 (λz=>hx (r1.uT.mp z)) (λz=>⟨.ref a,H,I,rfl,q1 (r2.uT.mp z)⟩) (λz=>?_) (by rw[← r1.length,← r2.length];exact hz)
 refine ⟨.ref s.heap.objs.size,_,I.laid (t':=s.toks) (o:=.tup (xs++ys)) (λb ob q=>Xd _ q) (Xq _) ?_,rfl,q2 (λw=>z (r2.uT.mpr w)) _ (I.hok.fresh (Xq _))⟩
 exact ⟨by rw[Xo];exact hz,_,r1.append r2,wu.new _ _⟩
end
def ixN (n:Nat)(i:Int):Option Nat:=if 0<=i then (if i < n then some i.toNat else none) else if -(n:Int)<=i then some (i+n).toNat else none
def atI {α:Type}(xs:List α)(i:Int):Option α:=(ixN xs.length i).bind λj=>xs[j]?
theorem Lv {n:Nat}{i:Int}{j:Nat}(h:ixN n i=some j):zc5 i n=some j/\j < n/\-(n:Int)<=i/\i < n:=by
 unfold ixN at h
 by_cases h0:0<=i
 ·rw[if_pos h0] at h
  by_cases h1:i < n
  ·rw[if_pos h1] at h
   have e:i.toNat=j:=X5 h
   exact ⟨by rw[seqIndex_of h0 h1,e],by lia,by lia,h1⟩
  ·rw[if_neg h1] at h;cases h
 ·rw[if_neg h0] at h
  by_cases h1:-(n:Int)<=i
  ·rw[if_pos h1] at h
   have e:(i+n).toNat=j:=X5 h
   exact ⟨by rw[seqIndex_neg (by lia) h1,e],by lia,h1,by lia⟩
  ·rw[if_neg h1] at h;cases h
theorem vC {α:Type}{xs:List α}{i:Int}{v:α}(h:atI xs i=some v):∃ j,zc5 i xs.length=some j/\xs[j]? = some v/\j < xs.length/\-(xs.length:Int)<=i/\i < xs.length:=by
 unfold atI at h
 cases e:ixN xs.length i with
 | none=>rw[e] at h;cases h
 | some j=>
  rw[e] at h
  obtain ⟨h1,h2,h3,h4⟩:=Lv e
  exact ⟨j,h1,h,h2,h3,h4⟩
def Dw (b:XJ):Prop:=∀ o i,zcL b false o i=operate [o,i] (zbl o i)
def IxR (X:Cx)(r:R2):Prop:=
 ∀ (value slice:XJ) (pins:List (Addr×Obj)) (s:Xg) (σ:St) (H:Hp) (x y:V) (v u:Xe) (Q:VK),Inv X pins σ H s->RelV x v->RelV y u->r x y H Q->
  zcL slice false v u=operate [v,u] (zbl v u)->Xy (XF X.prog X.w) X.A (zdk value slice v u) (EP X pins σ Q) X.xe s
def MtR (X:Cx)(id:String)(r:V->List V->Hp->VK->Prop):Prop:=
 ∀ (pins:List (Addr×Obj)) (s:Xg) (σ:St) (H:Hp) (x:V) (xs:List V) (v:Xe) (us:List Xe) (Q:VK),Inv X pins σ H s->RelV x v->Vals xs us->r x xs H Q->
  Xy (XF X.prog X.w) X.A (zcB (.builtin id) (v::us)) (EP X pins σ Q) X.xe s
section
variable {X:Cx} {a b:XJ} {ta tb:TE} {pos:Pos}
theorem IxR.or {r r':R2}(h:IxR X r)(h':IxR X r'):IxR X (λx y H Q=>r x y H Q∨r' x y H Q):=by
 intro value slice pins s σ H x y v u Q I rx ry q hs
 rcases q with q | q
 ·exact h value slice pins s σ H x y v u Q I rx ry q hs
 ·exact h' value slice pins s σ H x y v u Q I rx ry q hs
theorem UY {r:R2}(hr:IxR X r)(ha:PE X a ta)(hb:PE X b tb)(hs:Dw b):PE X (.Subscript a b pos) (tOp r ta tb):=by
 intro pins s σ H Q I h
 exact ze6 (Rv ha hb I h λv u s2 x y H2 I2 rx ry q=>hr a b pins s2 σ H2 x y v u Q I2 rx ry q (hs _ _))
def Tn (K:Xa):R2:=λx y H Q=>∃ p xs i v,x=.ref p/\y=.int i/\SqL K H p xs/\atI xs i=some v/\Q v H
def UR (K:Xa):R2:=λx y H Q=>∃ p xs i v,x=.ref p/\y=.int i/\SqT K H p xs/\atI xs i=some v/\Q v H
def TR:R2:=λx y H Q=>∃ z i c,x=.str z/\y=.int i/\z.length<=sizeLine/\atI z.cps.toList i=some c/\Q (.str ⟨#[c]⟩) H
theorem LL:IxR X (Tn X.K):=by
 intro value slice pins s σ H x y v u Q I rx ry h hs
 obtain ⟨p,xs,i,z,rfl,rfl,hq,he,q⟩:=h
 cases rx
 obtain ⟨t,rfl⟩:=ry
 obtain ⟨its,r,pl,hz⟩:=I.list hq
 obtain ⟨j,h1,h2,h3,h4,h5⟩:=vC he
 obtain ⟨w,ew,rw'⟩:=r.get h2
 have hl:=r.length
 have hn:=qS
 have fin:EP X pins σ Q w s:=⟨z,H,I,rw',q⟩
 by_cases h0:0<=i
 ·have hj:i.toNat=j:=by
   rw[seqIndex_of h0 h5] at h1
   exact X5 h1
  exact item_listR pl.isList h0 (by lia) (by rw[hj];simpa using ew) fin hs
 ·have hj:(i+(its.toArray.size:Int)).toNat=j:=by
   rw[seqIndex_neg (by lia) h4] at h1
   rw[Xz,← hl]
   exact X5 h1
  exact zcd (x:=w) pl.isList.typeIs zdS.lookup
   (wpAny_getItem_list_neg (Q:=λr s'=>r=w/\EP X pins σ Q r s') pl.isList (by lia) (by rw[Xz]<;>lia) (by lia) (by rw[hj];simpa using ew) ⟨rfl,fin⟩) hs
theorem Q6:IxR X (UR X.K):=by
 intro value slice pins s σ H x y v u Q I rx ry h hs
 obtain ⟨p,xs,i,z,rfl,rfl,hq,he,q⟩:=h
 cases rx
 obtain ⟨t,rfl⟩:=ry
 obtain ⟨its,r,pl,hz⟩:=I.tuple hq
 obtain ⟨j,h1,h2,h3,h4,h5⟩:=vC he
 obtain ⟨w,ew,rw'⟩:=r.get h2
 have hl:=r.length
 have hn:=qS
 have fin:EP X pins σ Q w s:=⟨z,H,I,rw',q⟩
 exact zcd (x:=w) pl.typeIs slot_tuple_getitem.lookup
  (getItem_tuple (j:=j) (Q:=λr s'=>r=w/\EP X pins σ Q r s') pl (by lia) (by lia) (by rw[Xz,← hl];exact h1) (by simpa using ew) ⟨rfl,fin⟩) hs
theorem Si:IxR X TR:=by
 intro value slice pins s σ H x y v u Q I rx ry h hs
 obtain ⟨z,i,c,rfl,rfl,hz,he,q⟩:=h
 obtain ⟨t,rfl⟩:=rx
 obtain ⟨t',rfl⟩:=ry
 obtain ⟨j,h1,h2,h3,h4,h5⟩:=vC he
 have hl:z.cps.toList.length=z.length:=by simp[Str.length]
 rw[hl] at h1 h4 h5
 have hn:=qS
 exact tail_any (typeIs_str s z t) slot_str_getitem.lookup (getItem_str (c:=c) (by
  have e1:decide (i < -(2 ^ 63:Int))=false:=decide_eq_false (by lia)
  have e2:decide (i ≥ 2 ^ 63)=false:=decide_eq_false (by lia)
  rw[e1,e2,zfk]) (by rw[h1];simpa using h2) ⟨.str ⟨#[c]⟩,H,I.tok _,⟨_,rfl⟩,q⟩) hs
def rIx (K:Xa):R2:=λx y H Q=>Tn K x y H Q∨UR K x y H Q∨TR x y H Q
theorem Sa:IxR X (rIx X.K):=LL.or (Q6.or Si)
theorem Inv.lst {pins:List (Addr×Obj)}{σ:St}{H:Hp}{s:Xg}{p:Addr}{xs:List V}(I:Inv X pins σ H s)(h:H p=some (.lst xs)) :
  ∃ (its:List Xe) (n:Nat),Vals xs its/\s.heap.get? p=some { cls:=.type "list", data:=.seq its.toArray n }/\xs.length<=sizeLine:=by
 obtain ⟨z,its,n,r,e⟩:=I.hok p _ h
 exact ⟨its,n,r,e,z⟩
theorem uV (lo hi:Option Int)(n:Nat):(zaG lo hi none n).1=((HT.sIx n 0 lo:Nat):Int)/\(zaG lo hi none n).2.1=((HT.sIx n n hi:Nat):Int)/\(zaG lo hi none n).2.2=1:=by
 refine ⟨?_,?_,rfl⟩
 ·cases lo with
  | none=>simp[zaG,HT.sIx]
  | some i=>
   simp only[zaG,HT.sIx,zes,show (1:Int) > 0 by decide,if_true]
   by_cases h:i < 0
   ·simp only[h,if_true]<;>lia
   ·simp only[h,if_false]<;>lia
 ·cases hi with
  | none=>simp[zaG,HT.sIx]
  | some i=>
   simp only[zaG,HT.sIx,zes,show (1:Int) > 0 by decide,if_true]
   by_cases h:i < 0
   ·simp only[h,if_true]<;>lia
   ·simp only[h,if_false]<;>lia
theorem tj (its:List Xe)(lo hi:Option Int):slicePick its.toArray lo hi none=((its.drop (HT.sIx its.length 0 lo)).take (HT.sIx its.length its.length hi - HT.sIx its.length 0 lo)).toArray:=by
 obtain ⟨h1,h2,h3⟩:=uV lo hi its.toArray.size
 unfold slicePick
 rw[h1,h2,h3]
 simp only[sliceRange_one,pick_run,Xz]<;>rfl
def V9 (K:Xa):V->Option Int->Option Int->Hp->VK->Prop:=λx lo hi H Q=>∃ a xs,x=.ref a/\SqL K H a xs/\∀ p,H p=none->Q (.ref p) (upd H p (.lst (zp xs lo hi)))
theorem N6:SlR X (V9 X.K):=by
 intro pins s σ H x v vl vu lo hi sl Q I rx hs pl pu h
 obtain ⟨a,xs,rfl,hx,q⟩:=h
 cases rx
 obtain ⟨its,r,ht,hz⟩:=I.list hx
 have hlen:=r.length
 refine ⟨"list", _,zdS.lookup,ht.isList.typeIs,?_⟩
 refine wpAny_getItem_list_slice ht.isList hs pl pu .none (by simp) ?_ (by rw[Xz]<;>lia)
 rw[tj,← hlen]
 refine ⟨.ref s.heap.objs.size,_,I.laid (t':=s.toks) (o:=.lst (zp xs lo hi)) (λb ob q=>Xd _ q) (Xq _) ?_,rfl,q _ (I.hok.fresh (Xq _))⟩
 exact ⟨Yd (nq xs lo hi) hz,_,0,(r.drop (HT.sIx xs.length 0 lo)).take (HT.sIx xs.length xs.length hi - HT.sIx xs.length 0 lo),Xw _ rfl⟩
def O1:V->Bool
 | .non=>true
 | .bl _=>true
 | .int _=>true
 | .str _=>true
 | _=>false
def eqV:V->V->Bool
 | .non,.non=>true
 | .bl a,.bl b=>a == b
 | .bl a,.int b=>(if a then 1 else 0) == b
 | .int a,.bl b=>a == (if b then 1 else 0)
 | .int a,.int b=>a == b
 | .str a,.str b=>a == b
 | _,_=>false
def inV (x:V)(xs:List V):Bool:=xs.any λy=>eqV y x
def rIn (K:Xa)(neg:Bool):R2:=λx y H Q=>∃ p xs,y=.ref p/\(SqL K H p xs∨SqT K H p xs)/\O1 x=true/\xs.all O1=true/\Q (.bl (if neg then !inV x xs else inV x xs)) H
theorem uZ:bV X (.builtin "len") (λxs H Q=>∃ p ys,xs=[.ref p]/\(SqL X.K H p ys∨SqT X.K H p ys)/\Q (.int ys.length) H):=by
 intro pins s σ H xs us Q I r h
 obtain ⟨p,ys,rfl,hq,q⟩:=h
 obtain ⟨u,rfl,rx⟩:=vals1 r
 cases rx
 have hn:=qS
 rcases hq with hq | hq
 ·obtain ⟨its,r',pl,hz⟩:=I.list hq
  have hlen:=r'.length
  exact Calls.call_len_list pl.isList (by simp only[Xz]<;>lia) ⟨.int ys.length,H,I.tok _,⟨s.toks+1,by rw[Xz,hlen]⟩,q⟩
 ·obtain ⟨its,r',pl,hz⟩:=I.tuple hq
  have hlen:=r'.length
  exact len_tuple pl (by simp only[Xz]<;>lia) ⟨.int ys.length,H,I.tok _,⟨s.toks+1,by rw[Xz,hlen]⟩,q⟩
theorem vO:bV X (.builtin "len") (λxs H Q=>∃ z,xs=[.str z]/\z.length<=sizeLine/\Q (.int z.length) H):=by
 intro pins s σ H xs us Q I r h
 obtain ⟨z,rfl,hz,q⟩:=h
 obtain ⟨u,rfl,t,rfl⟩:=vals1 r
 have hn:=qS
 exact len_str (by lia) ⟨.int z.length,H,I.tok _,⟨_,rfl⟩,q⟩
theorem bV.or {f:Xe}{r r':List V->Hp->VK->Prop}(h:bV X f r)(h':bV X f r'):bV X f (λxs H Q=>r xs H Q∨r' xs H Q):=by
 intro pins s σ H xs us Q I rs q
 rcases q with q | q
 ·exact h pins s σ H xs us Q I rs q
 ·exact h' pins s σ H xs us Q I rs q
theorem iR:bV X (.type "list") (λxs H Q=>∃ p ys,xs=[.ref p]/\(SqL X.K H p ys∨SqT X.K H p ys)/\∀ l,H l=none->Q (.ref l) (upd H l (.lst ys))):=by
 intro pins s σ H xs us Q I r h
 obtain ⟨p,ys,rfl,hq,q⟩:=h
 obtain ⟨u,rfl,rx⟩:=vals1 r
 cases rx
 have fin:∀ (its:List Xe),Vals ys its->ys.length<=sizeLine->∀ (h':Heap) (c':Nat),(∀ b o',s.heap.get? b=some o'->h'.get? b=some o')->
   h'.get? s.heap.objs.size=some { cls:=.type "list", dict:=none,data:=.seq its.toArray c',slots:=#[] }->EP X pins σ Q (.ref s.heap.objs.size) { s with heap:=h' }:=λits r' hz h' c' kp e=>
  ⟨.ref s.heap.objs.size,_,I.laid (t':=s.toks) kp (Xq _) (show dh X.prog X.w _ h' _ (.lst ys) from ⟨hz,its,c',r',e⟩),rfl,q _ (I.hok.fresh (Xq _))⟩
 rcases hq with hq | hq
 ·obtain ⟨its,r',pl,hz⟩:=I.list hq
  have hlen:=r'.length
  obtain ⟨o,ho,hc,n,hd⟩:=pl.isList
  exact call_list_seq p (.inl rfl) ho hc hd (λh' c' kp e=>fin its r' hz h' c' kp e) (by simp only[Xz]<;>lia)
 ·obtain ⟨its,r',pl,hz⟩:=I.tuple hq
  have hlen:=r'.length
  obtain ⟨o,ho,hc,n,hd⟩:=pl
  exact call_list_seq p (.inr rfl) ho hc hd (λh' c' kp e=>fin its r' hz h' c' kp e) (by simp only[Xz]<;>lia)
theorem aG:bV X (.type "tuple") (λxs H Q=>∃ p ys,xs=[.ref p]/\((SqL X.K H p ys/\∀ l,H l=none->Q (.ref l) (upd H l (.tup ys)))∨(SqT X.K H p ys/\Q (.ref p) H))):=by
 intro pins s σ H xs us Q I r h
 obtain ⟨p,ys,rfl,h⟩:=h
 obtain ⟨u,rfl,rx⟩:=vals1 r
 cases rx
 rcases h with ⟨hq,q⟩ | ⟨hq,q⟩
 ·obtain ⟨its,r',pl,hz⟩:=I.list hq
  have hlen:=r'.length
  refine call_tuple_list pl.isList (λh' kp=>?_) (by simp only[Xz]<;>lia)
  have I1:Inv X pins σ H { s with heap:=h' }:=I.kept (t':=s.toks) kp
  have I2:Inv X pins σ (upd H h'.objs.size (.tup ys)) { s with heap:=h'.push { cls:=.type "tuple", data:=.seq its.toArray } }:=
   I1.laid (t':=s.toks) (λb o e=>Xd _ e) (Xq _) (show dh X.prog X.w _ _ _ (.tup ys) from ⟨hz,its,r',wu.new _ _⟩)
  exact ⟨.ref h'.objs.size,_,I2,rfl,q _ (I1.hok.fresh (Xq _))⟩
 ·obtain ⟨its,r',pl,hz⟩:=I.tuple hq
  exact call_tuple_same pl ⟨.ref p,H,I,rfl,q⟩
def tyV (K:Xa)(T:String)(x:V)(H:Hp):Prop:=match x with
 | .str _=>T = "str"
 | .int _=>T = "int"
 | .ref p=>(T = "list" /\ ∃ xs,SqL K H p xs)∨(T = "tuple" /\ ∃ o,K.lookup p=some o/\o.cls=.type "tuple" /\ o.dict=none)∨
   (T = "dict" /\ ((∃ kvs,H p=some (.dK kvs))∨∃ kvs,H p=some (.dT kvs)))∨(T = "set" /\ ∃ S n,H p=some (.set S n))
 | _=>False
theorem QV {pins:List (Addr×Obj)}{σ:St}{H:Hp}{s:Xg}{T:String}{x:V}{v:Xe}(I:Inv X pins σ H s)(r:RelV x v)(ty:tyV X.K T x H) :
  s.TypeIs v T/\∀ a,v=.ref a->∃ ob,s.heap.get? a=some ob/\ob.dict=none:=by
 cases x with
 | str z=>
  obtain ⟨t,rfl⟩:=r
  cases (show T = "str" from ty)
  exact ⟨typeIs_str s z t,λ_ e=>nomatch e⟩
 | int i=>
  obtain ⟨t,rfl⟩:=r
  cases (show T = "int" from ty)
  exact ⟨typeIs_int s i t,λ_ e=>nomatch e⟩
 | ref p=>
  cases r
  rcases ty with ⟨rfl,xs,hq⟩ | ⟨rfl,o,hk,hc,hd⟩ | ⟨rfl,hk⟩ | ⟨rfl,S,n,hk⟩
  ·obtain ⟨its,_,pl,_⟩:=I.list hq
   refine ⟨pl.isList.typeIs,λa e=>?_⟩
   cases e
   obtain ⟨o,n,e,c,hd,_⟩:=pl
   exact ⟨o,e,hd⟩
  ·refine ⟨⟨o,I.kIn p o hk,hc⟩,λa e=>?_⟩
   cases e
   exact ⟨o,I.kIn _ o hk,hd⟩
  ·have z:∃ o,s.heap.get? p=some o/\o.ExactDict:=by
    rcases hk with ⟨kvs,hk⟩ | ⟨kvs,hk⟩
    ·obtain ⟨_,_,_,_,o,_,_,e,ex,_⟩:=I.hok p _ hk
     exact ⟨o,e,ex⟩
    ·obtain ⟨_,_,_,_,o,_,_,e,ex,_⟩:=I.hok p _ hk
     exact ⟨o,e,ex⟩
   obtain ⟨o,e,ex⟩:=z
   refine ⟨⟨o,e,ex.1⟩,λa e2=>?_⟩
   cases e2
   exact ⟨o,e,ex.2.1⟩
  ·obtain ⟨o,_,_,_,e,ex,_⟩:=I.hok p _ hk
   refine ⟨⟨o,e,ex.1⟩,λa e2=>?_⟩
   cases e2
   exact ⟨o,e,ex.2.1⟩
 | _=>exact Xi ty
def tBM (K:Xa)(T:String)(r:V->List V->Hp->VK->Prop)(to:TE)(t:TA):TE:=λσ H Q=>to σ H λx H1=>tyV K T x H1/\t σ H1 λxs H2=>r x xs H2 Q
variable {o e:XJ} {es:List XJ} {to:TE} {t:TA} {name:Str} {apos cpos:Pos} {T id:String} {r:V->List V->Hp->VK->Prop}
theorem Dh (pa:PlainAttrs T)(slot:Slot T name id)(hty:typeOf (.builtin id)=pure (.type "method_descriptor"))(hm:MtR X id r)(ho:PE X o to)(ha:PA X (e::es) t)
  (hbase:zat o name X.env (Yr o X.env)=Yr o X.env:=by rfl)
  (hfew:((YI cpos (Xt (e::es) X.env)).all (λx=>!x.1)&&(zbs cpos (Z6 [] X.env)).all (λx=>x.1.isSome)
   && decide ((e::es).length+([]:List zag).length+(if ([]:List zag).isEmpty then 0 else 1) < 30))=true:=by rfl)
  (hline:(apos.endLine == cpos.line)=true:=by rfl) (hs:Xt (e::es) X.env=(false,Yr e X.env)::Xt es X.env:=by rfl) (hplain:(YI cpos (Xt es X.env)).any (·.1)=false:=by rfl) :
  PE X (.Call (.Attribute o name apos) (e::es) [] cpos) (tBM X.K T r to t):=by
 intro pins s σ H Q I h
 refine wpAny_Call_method_late hbase hfew hline rfl (thn (ho pins s σ H _ I h) λv s1 ⟨x,H1,I1,r1,ty,q1⟩=>?_)
 obtain ⟨h1,h2⟩:=QV I1 r1 ty
 refine ⟨T,id,pa,slot,hty,h1,h2,?_⟩
 have hA:=ha cpos pins s1 σ H1 _ I1 q1
 rw[hs] at hA ⊢
 refine Calls.callWith_builtin (by show (false || (YI cpos (Xt es X.env)).any (·.1))=false;rw[hplain]<;>rfl) (Calls.evalArgs_plain ?_)
 exact thn hA λus s2 ⟨vs,H2,I2,r2,q2⟩=>hm pins s2 σ H2 x vs v us Q I2 r1 r2 q2
end
def MtM (X:Cx)(id:String)(r:V->List V->Hp->VK->Prop):Prop:=
 ∀ (pins:List (Addr×Obj)) (s:Xg) (σ:St) (H:Hp) (x:V) (xs:List V) (v:Xe) (us:List Xe) (Q:VK),Inv X pins σ H s->RelV x v->Vals xs us->r x xs H Q->
  Xy (XF X.prog X.w) X.A (zcB (.builtin id) (v::us)) (EP X pins σ Q) X.xe s
theorem Vals.one:∀ {x:V} {us:List Xe},Vals [x] us->∃ u,us=[u]/\RelV x u
 | _,_,.cons r .nil=>⟨_,rfl,r⟩
theorem Vals.zero:∀ {us:List Xe},Vals [] us->us=[]
 | _,.nil=>rfl
theorem Vals.eraseIdx:∀ {xs:List V} {us:List Xe} (i:Nat),Vals xs us->Vals (xs.eraseIdx i) (us.eraseIdx i)
 | _,_,_,.nil=>.nil
 | _,_,0,.cons _ t=>t
 | _,_,i+1,.cons r t=>.cons r (Vals.eraseIdx i t)
theorem uK {α:Type}:∀ (l:List α) (i:Nat),(l.eraseIdx i).length<=l.length
 | [],_=>Xq _
 | _::_,0=>zcM _
 | _::r,i+1=>zbY (uK r i)
section
variable {X:Cx} {pins:List (Addr×Obj)} {σ:St} {H:Hp} {s:Xg} {l b:Addr} {xs ys zs:List V}
theorem Inv.Np {its its':List Xe}{n:Nat}{f:Array Xe->Array Xe}{t':Nat}(I:Inv X pins σ H s)(hH:H l=some (.lst xs))
  (e:s.heap.get? l=some { cls:=.type "list", data:=.seq its.toArray n }) (hf:f its.toArray=its'.toArray) (hv:Vals ys its') (hz:ys.length<=sizeLine) :
  Inv X pins σ (upd H l (.lst ys)) { s with heap:=s.heap.update l (zce f),toks:=t' }:=by
 have q:=PySem.IsL.update e f
 rw[hf] at q
 refine I.write (x:=l) (e:=l) (by rw[hH];exact trivial) (.inl rfl) (λb' u hb hu=>(Yl s.heap (zce f) (XA hb)).trans hu) ⟨_,q⟩ ?_
 exact ⟨hz,its',_,hv,q⟩
theorem Inv.Wi {its:List Xe}{t':Nat}(I:Inv X pins σ H s)(hv:Vals ys its)(hz:ys.length<=sizeLine) :
  Inv X pins σ (upd H s.heap.objs.size (.lst ys)) { s with heap:=s.heap.push { cls:=.type "list", data:=.seq its.toArray },toks:=t' }:=
 I.laid (λ_ _ q=>Xd _ q) (Xq _) ⟨hz,its,0,hv,Xw _ rfl⟩
theorem Inv.fresh (I:Inv X pins σ H s):H s.heap.objs.size=none:=I.hok.fresh (Xq _)
theorem Inv.Ly (I:Inv X pins σ H s)(hH:H l=some (.lst xs)):xs.length<=sizeLine/\∃ (its:List Xe) (n:Nat),Vals xs its/\xs.length=its.length/\s.heap.get? l=some { cls:=.type "list", data:=.seq its.toArray n }:=by
 obtain ⟨z,its,n,r,e⟩:=I.hok l _ hH
 exact ⟨z,its,n,r,r.length,e⟩
theorem zh {n:Nat}(h:n<=sizeLine):YB n=false:=by
 unfold YB
 exact decide_eq_false (by lia)
end
section
variable {X:Cx}
def NN:V->List V->Hp->VK->Prop:=λx vs H Q=>∃ l xs y,x=.ref l/\vs=[y]/\H l=some (.lst xs)/\xs.length < sizeLine/\Q .non (upd H l (.lst (xs++[y])))
theorem uG:MtM X "list.append" NN:=by
 intro pins s σ H x vs v us Q I rx rv h
 obtain ⟨l,xs,y,rfl,rfl,hH,hz,q⟩:=h
 cases rx
 obtain ⟨u,rfl,ru⟩:=rv.one
 obtain ⟨z,its,n,r,hl,e⟩:=I.Ly hH
 refine zbw F.slot_list_append ⟨_,e,rfl⟩ F.entry_list_append (F.args_list_append_2 _ _) (PySem.list_append l its.toArray n u (by rw[Xz];lia)) ⟨e,?_⟩
 refine ⟨.non,_,I.Np (its':=its++[u]) hH e (by simp) (r.append (.cons ru .nil)) ?_,rfl,q⟩
 rw[Xo,List.length_singleton]
 lia
def Rn:V->List V->Hp->VK->Prop:=λx vs H Q=>∃ l xs i k y,x=.ref l/\vs=[.int i]/\H l=some (.lst xs)/\-(2 ^ 63)<=i/\i < 2 ^ 63/\zc5 i xs.length=some k/\xs[k]? = some y/\Q y (upd H l (.lst (xs.eraseIdx k)))
theorem Jg:MtM X "list.pop" Rn:=by
 intro pins s σ H x vs v us Q I rx rv h
 obtain ⟨l,xs,i,k,y,rfl,rfl,hH,h1,h2,hk,hy,q⟩:=h
 cases rx
 obtain ⟨u,rfl,ru⟩:=rv.one
 obtain ⟨t,rfl⟩:=ru
 obtain ⟨z,its,n,r,hl,e⟩:=I.Ly hH
 obtain ⟨w,hw,rw'⟩:=r.get hy
 refine zbw F.slot_list_pop ⟨_,e,rfl⟩ F.entry_list_pop (F.args_list_pop_2 _ _)
  (MeetsSeq.list_pop_at l its.toArray n i t k w (fitsIndex_both h1 h2) (by rw[Xz,← hl];exact hk) (by rw[← Array.getElem?_toList];exact hw) (by rw[Xz];lia)) ⟨e,?_⟩
 refine ⟨y,_,I.Np (its':=its.eraseIdx k) hH e ?_ (r.eraseIdx k) ?_,rw',q⟩
 ·show its.toArray.eraseIdxIfInBounds k=(its.eraseIdx k).toArray
  rw[List.eraseIdxIfInBounds_toArray]
 ·have:=uK xs k
  lia
end
section
variable {prog:XO} {w:X0} {A:X8} {E:Xe->Xg->Prop} {s:Xg}
end
section
variable {X:Cx}
end
end L2
namespace Att
open PySem PySem.W PySem.Calls PyProof.Rows
theorem oF {P:ze7}{h:Heap}:∀ (ns:List Int) (vs:List Xe),WellAll P h vs (ns.map WData.int)->zay vs ns:=by
 intro ns
 induction ns with
 | nil=>
  intro vs w
  rw[zai] at w
  cases w
  exact .nil
 | cons n ns ih=>
  intro vs w
  rw[Xm] at w
  cases w with
  | cons a b=>
   cases a
   exact .cons _ _ (ih _ b)
theorem D9 {l:OpenLaw}{n:Nat}(hn:l.most=some n){P:ze7}{h:Heap}{args:List WData}{vals:List Xe}
  (hpre:l.row.toRowW.claim.pre args=true) (hwl:WellAll P h vals args) :
  ∃ a vs ns,vals=[XQ a]/\args=[WData.list (ns.map WData.int)]/\h.get? a=some { cls:=.type "list", data:=.seq vs.toArray }/\zay vs ns/\ns.length<=n:=by
 have hsh:WShape.hasAll [] args [.list .int]=true:=(pre_splitW hpre).1
 have hc:l.pre.holds [] { args:=args }=true:=(pre_splitW hpre).2
 obtain ⟨d,r,rfl,h1,h2⟩:=hasAllW_cons hsh
 obtain rfl:=hasAllW_nil h2
 obtain ⟨xs,rfl,h3⟩:=hasW_list h1
 obtain ⟨ns,rfl⟩:=items_int h3
 have hlen:ns.length<=n:=by
  unfold OpenLaw.pre at hc
  have h4:(WTm.not (.lt (.lit (.int (n:Int))) (.len (.arg 0)))).holds [] { args:=[.list (ns.map .int)] }=true:=by
   have h4:=(holds_andW hc).1
   rw[hn] at h4
   exact h4
  have h5:=condW_of h4 (w_not (w_lt w_lit (w_len_list (w_arg rfl))))
  rw[Xc] at h5
  refine Nat.le_of_not_lt λq=>?_
  have q':(n:Int) < ((ns.length:Nat):Int):=by lia
  first
   | (rw[decide_eq_true q'] at h5;exact absurd h5 (by decide))
   | (simp at h5;lia)
 cases hwl with
 | cons w1 w2=>
  cases w2
  cases w1 with
  | list ho hall=>exact ⟨_,_,ns,rfl,rfl,ho,oF ns _ hall,hlen⟩
theorem Fx (l:OpenLaw)(args:List WData):l.row.toRowW.claim.post args (.bool true) args=true:=
 postW_of (r:=l.row.toRowW) (X:=(true == true))
  (show zfK [] (.bool true) .bool=true by first | rfl | decide | simp[zfK,WShape.arms,WShape.armsAll])
  (show (WTm.eq .res (.lit (.bool true))).value [] { args:=args,res:=some (.bool true),after:=args }=some (.bool (true == true)) from w_eq_bool (w_res rfl) w_lit) rfl
theorem xj {l:OpenLaw}{n:Nat}{q:XO}{loose:List Str}{XP:(Str->Option Xe)->Heap->Prop}{YP:X0->Heap->Prop}{d:DefRec}
  (hn:l.most=some n) (hdf:d.params.defaults=[])
  (zcB:∀ (w:X0) (s₀ s₁:Xg) (mg mb:Str->Option Xe) (fa:Addr) (o:Obj) (pm cd doc:Xe) (a:Addr) (vs:List Xe) (ns:List Int),
   Ground q loose [] XP w s₀ mg mb s₁.heap->YP w s₁.heap->
   s₁.heap.get? fa=some o->o.data=.func (docDef d.name d.params d.body d.scope pm cd doc)->s₁.heap.CodeRec cd d.name->mg d.name=some (.ref fa)->
   s₁.heap.get? a=some { cls:=.type "list", data:=.seq vs.toArray }->zay vs ns->ns.length<=n->s₁.gens = #[]->
   Z3 (XF l.prog w) zcf (.call (.ref fa) ⟨[.ref a],[]⟩) (λr s'=>r=.ok (.ret (.bool true))/\OldK s₁.heap s'.heap/\s'.os=s₁.os/\zbF s'.gens) s₁) :
  WalkO q loose XP YP l.row.toRowW d [] (λf vs=>ze8 f vs):=by
 intro w s₀ s₁ mg mb G Y fa o pm cd doc dV kV ho hd hcd hD hmg hg args vals as hpre hlay hrd hwl hlo
 obtain rfl:dV=.none:=Dflts.none hD hdf
 obtain rfl:kV=.none:=Dflts.noKw hD
 obtain ⟨a,vs,ns,rfl,rfl,hobj,hints,hlen⟩:=D9 hn hpre hwl
 refine enter_call (zdQ (zcB w s₀ s₁ mg mb fa o pm cd doc a vs ns G Y ho (fd_plain hd) hcd hmg hobj hints hlen hg) λr s' hq=>?_)
 obtain ⟨rfl,h2,h3,h4⟩:=hq
 exact ⟨.inl ⟨.bool true,.bool true,[],rfl,λ_=>rfl,.bool true,Fx l _,λ_=>⟨zfM,λ_ hm=>(nomatch hm)⟩⟩,h2,h3,h4⟩
section
variable {prog:XO} {w:X0} {A:X8} {E:Xe->Xg->Prop} {s:Xg} {K:Frag}
end
end Att
namespace L2
open PySem PySem.Spec PyProof.Rows
theorem ua:∀ {vs:List Xe} {ns:List Int},zay vs ns->Vals (ns.map V.int) vs
 | _,_,.nil=>.nil
 | _,_,.cons n t h=>.cons ⟨t,rfl⟩ (ua h)
def NT (H:Hp):Prop:=∀ b,H b=none∨∃ o xs,H b=some (.frz o (.lst xs))
theorem FQ {P:XO}{w:X0}{K:Xa}{mg mb:Str->Option Xe}{CX:CXT}{k:Nat}{fa a:Addr}{fd:XB}{x:Str}{sp:Sp}{s₁:Xg}{vs:List Xe}{ns:List Int}
  (KX:K.In s₁.heap) (hns:s₁.heap.Ns YJ mg) (hb:s₁.heap.Ns zeZ mb) (hbb:∀ x:Str,x ≠ "__name__" -> mb x=YC x) (hlim:s₁.heap.NoLimit) (hg:s₁.gens = #[])
  (ha:s₁.heap.get? a=some { cls:=.type "list", data:=.seq vs.toArray }) (hi:zay vs ns) (hl:ns.length<=sizeLine) (hr:eV k zcf)
  (F:∀ base:Heap,K.In base->base.Ns YJ mg->i4 P w K mg base CX k fa fd [x] sp) (hbind:∀ (s:Xg) (u:Xe),zdP s fd ⟨[u],[]⟩ [(x,u)])
  (hsp:∀ H:Hp,NT H->SqL K H a (ns.map V.int)->sp [.ref a] H (λv _=>v=.bl true) λ_ _ _=>False)
  (hCX:∀ H e s',CX [] H s₁ (λ_ _ _=>False) e s'->False) :
  Z3 (XF P w) zcf (.call (.ref fa) ⟨[.ref a],[]⟩) (λr s'=>r=.ok (.ret (.bool true))/\OldK s₁.heap s'.heap/\s'.os=s₁.os/\zbF s'.gens) s₁:=by
 have rv:=ua hi
 have WH:=hi.length
 -- from an abstract heap in which nothing but the script may be tracked
 have core:∀ H:Hp,NT H->SqL K H a (ns.map V.int)->HOk P w H s₁.heap->(∀ b,H b≠none->b=a)->(H a≠none->K.lookup a=none)->
   Z3 (XF P w) zcf (.call (.ref fa) ⟨[.ref a],[]⟩) (λr s'=>r=.ok (.ret (.bool true))/\OldK s₁.heap s'.heap/\s'.os=s₁.os/\zbF s'.gens) s₁:=by
  intro H hO hS hok hA hK
  have base_of:∀ {b:Addr} {o:Obj},s₁.heap.get? b=some o->H b=none->(vD s₁.heap H).get? b=some o:=λe n=>G6 e n
  have noA:∀ {b:Addr} {o:Obj} {es:Array zel} {ep:Nat},s₁.heap.get? b=some o->o.data=.dict es ep->H b=none:=λ{b o es ep} e d=>by
   cases q:H b with
   | none=>rfl
   | some u=>
    have e':b=a:=hA b (by rw[q];simp)
    subst e'
    rw[ha] at e;cases e
    have d':Data.seq vs.toArray _=Data.dict es ep:=d
    cases d'
  have nsK:∀ {b:Addr} {m:Str->Option Xe},s₁.heap.Ns b m->(vD s₁.heap H).Ns b m:=λ{b m} ⟨o,es,ep,e,d,r⟩=>⟨o,es,ep,base_of e (noA e d),d,r⟩
  have hKb:K.In (vD s₁.heap H):=λb o e=>base_of (KX b o e) (by
   cases q:H b with
   | none=>rfl
   | some u=>
    have e':b=a:=hA b (by rw[q];simp)
    subst e'
    rw[hK (by rw[q];simp)] at e;cases e)
  have hM:Mod K mg (vD s₁.heap H):=⟨hKb,nsK hns,⟨mb,nsK hb,hbb⟩,let ⟨mc,h1,h2⟩:=hlim;⟨mc,nsK h1,h2⟩⟩
  have e0:AF P w K mg (vD s₁.heap H) zcf [] s₁ H:=⟨rfl,hM,λb o e=>Mt e,Nat.le_of_eq (Fn _ _),trivial,λb hb=>absurd (show b∈([]:List Addr) from hb) (by simp),hok,.of_eq hg⟩
  refine zdQ ((F _ hKb (nsK hns)).run zcf [] s₁ H ⟨[.ref a],[]⟩ [.ref a] [.ref a] _ _ hr e0 (hbind s₁ (.ref a)) (.cons rfl .nil) (hsp H hO hS)) λr s' h=>?_
  cases r with
  | error e=>exact (hCX H e s' h).elim
  | ok fl=>
   cases fl with
   | next=>exact Xi h
   | brk=>exact Xi h
   | cont=>exact Xi h
   | ret u=>
    obtain ⟨v,H',os,bare,un,hok',r',q⟩:=h
    have q':v=.bl true:=q
    subst q'
    obtain rfl:u=zbp true:=r'
    refine ⟨rfl,OldK.of_keep λb o e=>?_,os,bare⟩
    cases q:H b with
    | none=>exact un.keep b o e q (by intro z;exact absurd (show b∈([]:List Addr) from z) (by simp)) (by simp)
    | some u=>
     rcases hO b with z | ⟨ob,xs,z⟩
     ·rw[q] at z;cases z
     ·have z2:=un.mq b ob _ z
      obtain ⟨e1,_⟩:=hok b _ z
      obtain ⟨e2,_⟩:=hok' b _ z2
      rw[e] at e1;cases e1
      exact e2
 cases hk:K.lookup a with
 | some o=>
  -- the script is one of the module's own objects
  have e:=KX a o hk
  rw[ha] at e
  cases e
  refine core (λ_=>none) (λ_=>.inl rfl) (.inr ⟨_,vs.toArray,_,hk,rfl,rfl,rfl,by rw[Xz,WH];exact hl,by simpa using rv⟩) (λb u z=>by have z':(none:Option HO)=some u:=z;cases z') (λb z=>absurd rfl z) λz=>absurd rfl z
 | none=>
  refine core (λb=>if b=a then some (.frz { cls:=.type "list", data:=.seq vs.toArray } (.lst (ns.map V.int))) else none) (λb=>?_) (.inl (.inr ⟨{ cls:=.type "list", data:=.seq vs.toArray },if_pos rfl⟩)) (λb u z=>?_) (λb z=>?_) λ_=>hk
  ·by_cases hb:b=a
   ·exact .inr ⟨_,_,if_pos hb⟩
   ·exact .inl (if_neg hb)
  ·by_cases hb:b=a
   ·have z':=(if_pos hb).symm.trans z
    cases z'
    subst hb
    exact ⟨ha,by rw[Xc];exact hl,vs,_,rv,ha⟩
   ·have z':=(if_neg hb).symm.trans z
    cases z'
  ·by_cases hb:b=a
   ·exact hb
   ·exact absurd (if_neg hb) z
theorem MI {l:zcr}{n k:Nat}{q:XO}{loose:List Str}{XP:(Str->Option Xe)->Heap->Prop}{YP:X0->Heap->Prop}{d:DefRec}{K:ze7->Xa}{CX:X0->CXT}{sp:X0->Sp}{x:Str}
  (hn:l.most=some n) (hn2:n<=sizeLine) (hdf:d.params.defaults=[]) (hr:eV k zcf)
  (hY:∀ (w:X0) (h:Heap),YP w h->(K w.params).In h)
  (F:∀ (w:X0) (mg:Str->Option Xe) (fa:Addr) (h:Heap),(K w.params).In h->h.Ns YJ mg->mg d.name=some (.ref fa)->
   ∃ fd:XB,(∀ (s:Xg) (u:Xe),zdP s fd ⟨[u],[]⟩ [(x,u)])/\
    ∀ base:Heap,(K w.params).In base->base.Ns YJ mg->i4 l.prog w (K w.params) mg base (CX w) k fa fd [x] (sp w))
  (hsp:∀ (w:X0) (H:Hp) (a:Addr) (ns:List Int),ns.length<=n->NT H->SqL (K w.params) H a (ns.map V.int)->sp w [.ref a] H (λv _=>v=.bl true) λ_ _ _=>False)
  (hCX:∀ (w:X0) (H:Hp) (s:Xg) (e:Xe) (s':Xg),CX w [] H s (λ_ _ _=>False) e s'->False) :
  zfl q loose XP YP l.row.toRowW d [] (λf vs=>ze8 f vs):=by
 refine Att.xj hn hdf λw s₀ s₁ mg mb fa o pm cd doc a vs ns G Y ho hd hcd hmg hobj hints hlen hg=>?_
 have KX:=hY w _ Y
 obtain ⟨fd,hb,hF⟩:=F w mg fa _ KX G.T.g hmg
 exact FQ KX G.T.g G.T.b G.T.builtins G.T.nolimit hg hobj hints (Yd hlen hn2) hr hF hb (λH hO hS=>hsp w H a ns hlen hO hS) λH e s'=>hCX w H s₁ e s'
def lN (s:Stmt):Arguments:=match s with
 | .FunctionDef _ a _ _ _ _ _ _ _ _=>a
 | _=>{ posonlyargs:=[],args:=[],vararg:=none,kwonlyargs:=[],kw_defaults:=[],kwarg:=none,defaults:=[] }
def gr (s:Stmt):List Stmt:=match s with
 | .FunctionDef _ _ b _ _ _ _ _ _ _=>b
 | _=>[]
def ao (s:Stmt):Scope:=match s with
 | .FunctionDef _ _ _ _ _ _ sc _ _ _=>sc
 | _=>{ kind:=.function,names:=[],isGenerator:=false,isCoroutine:=false }
abbrev CX0:CXT:=λ_ _ _ _ _ _=>False
abbrev E0:XK:=λ_ _ _=>False
theorem UH {X:Cx}:Passes CX0 X E0:=λ_ _ _ _ _ _ _ h=>h.elim
structure Fun (K:Xa) (x qual:Str) (st:Stmt) (f:Addr) (fd:XB):Prop where
 ex:∃ (oc:Xe) (od:Option Addr) (kV doc pm:Xe) (an:Option Addr) (cdv ct:Xe) (osl:Array (Option Xe)),
  fd=zah x qual (lN st) (gr st) (ao st) .none kV doc pm an cdv ct/\K.lookup f=some ⟨oc,od,.func fd,osl⟩/\zcK K cdv qual=true
 kp:zaO K (.ref f)=true
section
variable {P:XO} {w:X0} {K:Xa} {mg:Str->Option Xe} {base:Heap}
theorem Fun.ok {x qual:Str}{st:Stmt}{f:Addr}{fd:XB}{N ps:List Str}{k:Nat}{sp:Sp}(F:Fun K x qual st f fd)(S:aF N ps (ao st))(len:∀ vs H Q E,sp vs H Q E->vs.length=ps.length)
  (hbody:∀ (cdv:Xe) (A:X8) (outer:List Env) (s:Xg) (H:Hp) (vs:List V) (Q:VK) (E:XK),eV k (A.deeper (zbt qual (ao st) s.heap.objs.size f cdv))->sp vs H Q E->
   ∃ t,PSs (w8 CX0 P w K mg base N qual (ao st) f cdv A outer s H E).nox (gr st) t/\t { nx:=λ_ H'=>Q .non H',rt:=Q } (start N vs) H):i4 P w K mg base CX0 (k+1) f fd ps sp:=by
 obtain ⟨oc,od,kV,doc,pm,an,cdv,ct,osl,rfl,lk,hcd⟩:=F.ex
 refine Ua lk hcd S len λA outer s H vs Q E hr hsp=>?_
 obtain ⟨t,h,q⟩:=hbody cdv A outer s H vs Q E hr hsp
 exact ⟨t,h.nox,q⟩
theorem Fun.binds {x qual:Str}{st:Stmt}{f:Addr}{fd:XB}{ps:List Str}(F:Fun K x qual st f fd)
  (h:∀ (kV doc pm:Xe) (an:Option Addr) (cdv ct:Xe) (us:List Xe),us.length=ps.length->bindArgs (zah x qual (lN st) (gr st) (ao st) .none kV doc pm an cdv ct) ⟨us,[]⟩=pure (ps.zip us)):Binds K fd ps []:=by
 obtain ⟨oc,od,kV,doc,pm,an,cdv,ct,osl,rfl,lk,hcd⟩:=F.ex
 exact .all (h kV doc pm an cdv ct)
theorem aR {x qual:Str}{st:Stmt}{f:Addr}{oc:Xe}{od an:Option Addr}{osl:Array (Option Xe)}{kV doc pm cdv ct:Xe}(l:K.lookup f=some ⟨oc,od,.func (zah x qual (lN st) (gr st) (ao st) .none kV doc pm an cdv ct),osl⟩)
  (c:zcK K cdv qual=true) (k:zaO K (.ref f)=true):Fun K x qual st f (zah x qual (lN st) (gr st) (ao st) .none kV doc pm an cdv ct):=⟨⟨oc,od,kV,doc,pm,an,cdv,ct,osl,rfl,l,c⟩,k⟩
end
section
variable {X:Cx}
theorem pv (i:Nat){x:Str}{pos:Pos}(hN:X.N[i]? = some x:=by rfl)(hv:Vis X.env.scope x:=by first | exact zaQ rfl | exact zaR (zaQ rfl) | exact zaR (zaR rfl))(hd:(x == ("__debug__" : Str))=false:=by decide)
  (hcd:(x == ("__classdict__" : Str))=false:=by decide):PE X (.Name x pos) (Us i):=J1 hN hv hd hcd
end
theorem qi {A B:Prop}(h:B):if false=true then A else B:=by
 rw[if_neg ZJ]
 exact h
theorem pF {A B:Prop}(h:A):if true=true then A else B:=by
 rw[if_pos rfl]
 exact h
def zg (H H':Hp):Prop:=∀ b o,H b=some o->H' b=some o
theorem zg.trans {H H1 H2:Hp}(a:zg H H1)(b:zg H1 H2):zg H H2:=λc o h=>b c o (a c o h)
theorem zg.free {H H':Hp}(e:zg H H'){l:Addr}(h:H' l=zfF):H l=zfF:=by
 cases q:H l with
 | none=>rfl
 | some o=>
  rw[e l o q] at h
  cases h
theorem zg.seq {K:Xa}{H H':Hp}{a:Addr}{xs:List V}(e:zg H H')(h:SqL K H a xs):SqL K H' a xs:=by
 rcases h with (h | ⟨o,h⟩) | h
 ·exact .inl (.inl (e _ _ h))
 ·exact .inl (.inr ⟨o,e _ _ h⟩)
 ·exact .inr h
section
variable {κ:Type} [DecidableEq κ]
def f9 (kvs:List (κ×V))(k:κ):Option V:=(kvs.find? λkv=>decide (kv.1=k)).map (·.2)
def putK (kvs:List (κ×V))(k:κ)(v:V):List (κ×V):=
 if (kvs.any λkv=>decide (kv.1=k))=true then kvs.map (λkv=>if kv.1=k then (kv.1,v) else kv) else kvs++[(k,v)]
def OI (kvs:List (κ×V))(k:κ):List (κ×V):=kvs.filter λkv=>decide (kv.1≠k)
theorem lI {p:κ×V}{r:List (κ×V)}{k:κ}(e:p.1=k):f9 (p::r) k=some p.2:=by simp[f9,X1,e]
theorem kT {p:κ×V}{r:List (κ×V)}{k:κ}(e:¬ p.1=k):f9 (p::r) k=f9 r k:=by simp[f9,X1,e]
theorem rn (k:κ):∀ kvs:List (κ×V),(kvs.any λkv=>decide (kv.1=k))=(f9 kvs k).isSome
 | []=>rfl
 | p::r=>by
  rw[ZY]
  by_cases e:p.1=k
  ·simp only[lI e,decide_eq_true e,zfu,Option.isSome_some]
  ·rw[kT e,decide_eq_false e,zdl];exact rn k r
theorem jq (kvs:List (κ×V))(k:κ)(v:V):(putK kvs k v).length<=kvs.length+1:=by
 unfold putK
 split
 ·rw[Xc];lia
 ·rw[Xo,XC,Zs];lia
theorem Ir {kvs:List (κ×V)}{k:κ}(v:V)(h:f9 kvs k=none):putK kvs k v=kvs++[(k,v)]:=by
 unfold putK
 rw[rn,h]
 exact if_neg (by decide)
theorem nW.mV {o:Option V}{u:Option Xe}(r:nW o u):o.isSome=u.isSome:=by
 cases o with
 | none=>cases u with
  | none=>rfl
  | some _=>exact (show False from r).elim
 | some _=>cases u with
  | none=>exact (show False from r).elim
  | some _=>rfl
theorem nW.getD {o:Option V}{u:Option Xe}{d:V}{d':Xe}(r:nW o u)(rd:RelV d d'):RelV (o.getD d) (u.getD d'):=by
 cases o with
 | none=>cases u with
  | none=>exact rd
  | some _=>exact (show False from r).elim
 | some _=>cases u with
  | none=>exact (show False from r).elim
  | some _=>exact r
theorem KV.val {kvs:List (κ×V)}{vs:List (κ×Xe)}(r:KV kvs vs)(k:κ):nW (f9 kvs k) (zc6 vs k):=by
 unfold KV at r
 induction r with
 | nil=>exact YR
 | @cons p q ps qs h t ih=>
  obtain ⟨h1,h2⟩:=h
  by_cases e:p.1=k
  ·have e':q.1=k:=h1.symm.trans e
   have b:zc6 (q::qs) k=some q.2:=by simp[zc6,X1,e']
   rw[lI e,b];exact h2
  ·have e':¬ q.1=k:=λz=>e (h1.trans z)
   have b:zc6 (q::qs) k=zc6 qs k:=by simp[zc6,X1,e']
   rw[kT e,b];exact ih
theorem KV.any {kvs:List (κ×V)}{vs:List (κ×Xe)}(r:KV kvs vs)(k:κ):(kvs.any λkv=>decide (kv.1=k))=vs.any λkv=>decide (kv.1=k):=by
 unfold KV at r
 induction r with
 | nil=>rfl
 | cons h t ih=>rw[ZY,ZY,ih,h.1]
theorem KV.Rb {kvs:List (κ×V)}{vs:List (κ×Xe)}(r:KV kvs vs)(k:κ){y:V}{u:Xe}(ry:RelV y u) :
  KV (kvs.map λkv=>if kv.1=k then (kv.1,y) else kv) (vs.map λkv=>if kv.1=k then (kv.1,u) else kv):=by
 unfold KV at r ⊢
 induction r with
 | nil=>exact .nil
 | @cons p q ps qs h t ih=>
  rw[Xm,Xm]
  refine .cons ?_ ih
  obtain ⟨h1,h2⟩:=h
  by_cases e:p.1=k
  ·rw[if_pos e,if_pos (h1.symm.trans e)];exact ⟨h1,ry⟩
  ·rw[if_neg e,if_neg (λz=>e (h1.trans z))];exact ⟨h1,h2⟩
theorem KV.put {kvs:List (κ×V)}{vs:List (κ×Xe)}(r:KV kvs vs)(k:κ){y:V}{u:Xe}(ry:RelV y u):KV (putK kvs k y) (stored vs k u):=by
 unfold putK stored
 rw[r.any k]
 by_cases e:(vs.any λkv=>decide (kv.1=k))=true
 ·rw[if_pos e,if_pos e];exact r.Rb k ry
 ·rw[if_neg e,if_neg e];exact zfG r ⟨rfl,ry⟩
theorem KV.drop {kvs:List (κ×V)}{vs:List (κ×Xe)}(r:KV kvs vs)(k:κ):KV (OI kvs k) (without vs k):=by
 unfold KV at r ⊢
 unfold OI without
 induction r with
 | nil=>exact .nil
 | @cons p q ps qs h t ih=>
  obtain ⟨h1,h2⟩:=h
  rw[Zg,Zg]
  by_cases e:p.1=k
  ·have a:¬ decide (p.1≠k)=true:=by simp[e]
   have b:¬ decide (q.1≠k)=true:=by simp[h1.symm.trans e]
   rw[if_neg a,if_neg b];exact ih
  ·have e':¬ q.1=k:=λz=>e (h1.trans z)
   have a:decide (p.1≠k)=true:=by simp[e]
   have b:decide (q.1≠k)=true:=by simp[e']
   rw[if_pos a,if_pos b];exact .cons ⟨h1,h2⟩ ih
theorem KV.keys {kvs:List (κ×V)}{vs:List (κ×Xe)}(r:KV kvs vs):kvs.map (·.1)=vs.map (·.1):=by
 unfold KV at r
 induction r with
 | nil=>rfl
 | cons h t ih=>rw[Xm,Xm,ih,h.1]
theorem KV.length {kvs:List (κ×V)}{vs:List (κ×Xe)}(r:KV kvs vs):kvs.length=vs.length:=za1 r
end
theorem t9 {P:XO}{w:X0}{k:Key}{u:Xe}(r:RelV (kV k) u):(cc P w).is k u=true:=by
 cases k with
 | inl i=>obtain ⟨t,e⟩:=(show ∃ t,u=zbo i t from r);subst e;exact yy P w i t
 | inr x=>obtain ⟨t,e⟩:=(show ∃ t,u=zbV x t from r);subst e;exact xT P w x t
theorem uL {P:XO}{w:X0}:∀ {ks:List Key} {us:List Xe},Vals (ks.map kV) us->ItemsAre (cc P w) ks us
 | [],_,r=>by rw[zai] at r;cases r;exact .nil
 | k::ks,_,r=>by
  rw[Xm] at r
  cases r with
  | cons h t=>exact .cons (t9 h) (uL t)
abbrev KT (H:Hp):List (List Key×V)->List (List Key×Addr×Xe)->Prop:=ZI λp q=>p.1=q.1/\H q.2.1=some (.tup (p.1.map kV))/\RelV p.2 q.2.2
theorem KT.val {H:Hp}{kvs:List (List Key×V)}{xs:List (List Key×Addr×Xe)}(r:KT H kvs xs)(k:List Key):nW (f9 kvs k) ((zbx xs k).map (·.2)):=by
 induction r with
 | nil=>exact YR
 | @cons p q ps qs h t ih=>
  obtain ⟨h1,_,h2⟩:=h
  by_cases e:p.1=k
  ·have e':q.1=k:=h1.symm.trans e
   have b:zbx (q::qs) k=some q.2:=by simp[zbx,X1,e']
   rw[lI e,b];exact h2
  ·have e':¬ q.1=k:=λz=>e (h1.trans z)
   have b:zbx (q::qs) k=zbx qs k:=by simp[zbx,X1,e']
   rw[kT e,b];exact ih
theorem KT.Rb {H:Hp}{kvs:List (List Key×V)}{xs:List (List Key×Addr×Xe)}(r:KT H kvs xs)(k:List Key){y:V}{u:Xe}(ry:RelV y u) :
  KT H (kvs.map λkv=>if kv.1=k then (kv.1,y) else kv) (xs.map (putAt k u)):=by
 induction r with
 | nil=>exact .nil
 | @cons p q ps qs h t ih=>
  rw[Xm,Xm]
  refine .cons ?_ ih
  obtain ⟨h1,h2,h3⟩:=h
  unfold putAt
  by_cases e:p.1=k
  ·rw[if_pos e,if_pos (h1.symm.trans e)];exact ⟨h1,h2,ry⟩
  ·rw[if_neg e,if_neg (λz=>e (h1.trans z))];exact ⟨h1,h2,h3⟩
theorem KT.put {H:Hp}{kvs:List (List Key×V)}{xs:List (List Key×Addr×Xe)}(r:KT H kvs xs)(k:List Key){b:Addr}{y:V}{u:Xe}(hb:H b=some (.tup (k.map kV)))(ry:RelV y u) :
  KT H (putK kvs k y) (storedH xs k b u):=by
 have e:(kvs.any λkv=>decide (kv.1=k))=(zbx xs k).isSome:=by
  rw[rn,(r.val k).mV,zdT]
 unfold putK storedH
 rw[e]
 by_cases q:(zbx xs k).isSome=true
 ·rw[if_pos q,if_pos q];exact r.Rb k ry
 ·rw[if_neg q,if_neg q];exact zfG r ⟨rfl,hb,ry⟩
theorem KT.keeps {H H':Hp}{kvs:List (List Key×V)}{xs:List (List Key×Addr×Xe)}(r:KT H kvs xs)(ht:∀ b ys,H b=some (.tup ys)->H' b=some (.tup ys)):KT H' kvs xs:=
 ZI.Oc r λ_ _ z=>⟨z.1,ht _ _ z.2.1,z.2.2⟩
section
variable {P:XO} {w:X0} {H:Hp} {h:Heap} {a:Addr}
theorem OW {u:HO}(ok:HOk P w H h)(e:Rd H a u):dh P w H h a u:=e.ok ok
theorem Dg {kvs:List (Key×V)}(ok:HOk P w H h)(e:Rd H a (.dK kvs)):kvs.length<=sizeLine/\(a == Zw)=false/\∃ vs,KV kvs vs/\h.DictOf (cc P w) a vs:=
 show dh P w H h a (.dK kvs) from OW ok e
theorem O8 {kvs:List (Key×V)}(ok:HOk P w H h)(e:H a=some (.dK kvs)):kvs.length<=sizeLine/\(a == Zw)=false/\∃ vs,KV kvs vs/\h.DictOf (cc P w) a vs:=Dg ok (.inl e)
theorem wG {ks:List Key}(ok:HOk P w H h)(e:H a=some (.tup (ks.map kV))):(zc4 (cc P w)).is h ks a:=by
 obtain ⟨_,its,r,n,h1⟩:=(show dh P w H h a (.tup (ks.map kV)) from ok a _ e)
 exact ⟨_,its.toArray,n,h1,rfl,rfl,by simpa using uL r⟩
theorem Cp {kvs:List (List Key×V)}(ok:HOk P w H h)(e:Rd H a (.dT kvs)):kvs.length<=sizeLine/\(a == Zw)=false/\
  ∃ xs,KT H kvs xs/\h.DictOfH (zc4 (cc P w)) a xs:=by
 obtain ⟨z,y,xs,r,o,es,ep,h1,h2,h3,h4,h5⟩:=(show dh P w H h a (.dT kvs) from OW ok e)
 refine ⟨z,y,xs,r,o,es,ep,h1,h2,h3,h4,λx hx=>?_,h5⟩
 have all:∀ {l:List (List Key×V)} {m:List (List Key×Addr×Xe)},KT H l m->∀ x∈m,(zc4 (cc P w)).is h x.1 x.2.1:=by
  intro l m q
  induction q with
  | nil=>intro x hx;exact nomatch hx
  | @cons p q ps qs hq t ih=>
   intro x hx
   rcases Xr.mp hx with e | hx
   ·subst e
    exact wG ok (by rw[← hq.1];exact hq.2.1)
   ·exact ih x hx
 exact all r x hx
theorem Tj {kvs:List (List Key×V)}(ok:HOk P w H h)(e:H a=some (.dT kvs)):kvs.length<=sizeLine/\(a == Zw)=false/\
  ∃ xs,KT H kvs xs/\h.DictOfH (zc4 (cc P w)) a xs:=Cp ok (.inl e)
end
def rL (H:Hp)(a:Addr)(y:V)(r:Option V):Prop:=
 (∃ kvs k,Rd H a (.dK kvs)/\y=kV k/\r=f9 kvs k)∨∃ kvs k b,Rd H a (.dT kvs)/\y=.ref b/\H b=some (.tup (k.map kV))/\r=f9 kvs k
def BP (H:Hp)(a:Addr)(y v:V)(H':Hp):Prop:=
 (∃ kvs k,H a=some (.dK kvs)/\y=kV k/\kvs.length < sizeLine/\H'=upd H a (.dK (putK kvs k v)))∨
 ∃ kvs k b,H a=some (.dT kvs)/\y=.ref b/\H b=some (.tup (k.map kV))/\kvs.length < sizeLine/\H'=upd H a (.dT (putK kvs k v))
theorem rL.k {H:Hp}{a:Addr}{kvs:List (Key×V)}{k:Key}(e:H a=some (.dK kvs)):rL H a (kV k) (f9 kvs k):=.inl ⟨kvs,k,.inl e,rfl,rfl⟩
theorem rL.t {H:Hp}{a b:Addr}{kvs:List (List Key×V)}{k:List Key}(e:H a=some (.dT kvs))(eb:H b=some (.tup (k.map kV))):rL H a (.ref b) (f9 kvs k):=.inr ⟨kvs,k,b,.inl e,rfl,eb,rfl⟩
theorem BP.k {H:Hp}{a:Addr}{kvs:List (Key×V)}{k:Key}{v:V}(e:H a=some (.dK kvs))(hl:kvs.length < sizeLine):BP H a (kV k) v (upd H a (.dK (putK kvs k v))):=.inl ⟨kvs,k,e,rfl,hl,rfl⟩
theorem BP.t {H:Hp}{a b:Addr}{kvs:List (List Key×V)}{k:List Key}{v:V}(e:H a=some (.dT kvs))(eb:H b=some (.tup (k.map kV)))(hl:kvs.length < sizeLine) :
  BP H a (.ref b) v (upd H a (.dT (putK kvs k v))):=.inr ⟨kvs,k,b,e,rfl,eb,hl,rfl⟩
section
variable {X:Cx} {pins:List (Addr×Obj)} {σ:St} {H:Hp} {s:Xg} {a:Addr} {y v:V} {u r:Xe} {o:Option V} {A:X8} {E:Xe->Xg->Prop}
theorem Inv.big (I:Inv X pins σ H s):Zw < s.heap.objs.size:=by
 have h:YJ < s.heap.objs.size:=(I.mod.glob.keeps I.bk).lt
 exact zdU (by decide) h
theorem Ew {Q:Xe->Xg->Prop}(hu:A.units+1 < cLine)(I:Inv X pins σ H s)(g:rL H a y (some v))(ry:RelV y u)(h:∀ w' s',Inv X pins σ H s'->RelV v w'->Q w' s') :
  Xy (XF X.prog X.w) A (zbl (.ref a) u) Q E s:=by
 rcases g with ⟨kvs,k,e,ey,l⟩ | ⟨kvs,k,b,e,ey,eb,l⟩
 ·subst ey
  obtain ⟨z,hd,vs,rel,dd⟩:=Dg I.hok e
  obtain ⟨w',hw,rw'⟩:=nW.some_of (v:=v) (o:=zc6 vs k) (by rw[l];exact rel.val k)
  exact wpAny_getItem_of (t9 ry) dd.mapOf hw (h w' _ (I.tok _) rw')
 ·subst ey
  cases (show u=XQ b from ry)
  obtain ⟨z,hd,xs,rel,dd⟩:=Cp I.hok e
  obtain ⟨w',hw,rw'⟩:=nW.some_of (v:=v) (o:=(zbx xs k).map (·.2)) (by rw[l];exact rel.val k)
  obtain ⟨p,hp,hp2⟩:=zcg.mp hw
  refine zdA (zby hu) (wG I.hok eb) dd hp ?_
  rw[hp2]
  exact h w' _ (I.tok _) rw'
theorem Oa {Q:Xe->Xg->Prop}(hu:A.units+1 < cLine)(I:Inv X pins σ H s)(g:rL H a y o)(ry:RelV y u)(h:∀ s',Inv X pins σ H s'->Q (.bool (!o.isSome)) s') :
  Xy (XF X.prog X.w) A (Y8 .NotIn u (.ref a)) Q E s:=by
 rcases g with ⟨kvs,k,e,ey,l⟩ | ⟨kvs,k,b,e,ey,eb,l⟩
 ·subst ey
  obtain ⟨z,hd,vs,rel,dd⟩:=Dg I.hok e
  refine wpAny_notIn_of (t9 ry) hd dd.mapOf ?_
  rw[← (rel.val k).mV,← l]
  exact h _ (I.tok _)
 ·subst ey
  cases (show u=XQ b from ry)
  obtain ⟨z,hd,xs,rel,dd⟩:=Cp I.hok e
  refine wpAny_notIn_heap (zby hu) (wG I.hok eb) hd dd ?_
  have q:=(rel.val k).mV
  rw[zdT] at q
  rw[← q,← l]
  exact h _ (I.tok _)
theorem pf {h':Heap}{t':Nat}{ob:HO}(I:Inv X pins σ H s)(mu:Mut (H a))(hs:zaf a s.heap h')(he:∃ q,h'.get? a=some q)(new:dh X.prog X.w (upd H a ob) h' a ob) :
  Inv X pins σ (upd H a ob) { s with heap:=h',toks:=t' }:=
 I.write (x:=a) (e:=a) mu (.inl rfl) (λb q hb z=>(hs.2 b hb).trans z) he new
theorem BG {P:XO}{w:X0}{H':Hp}{h':Heap}{kvs:List (Key×V)}{vs:List (Key×Xe)}(z:kvs.length<=sizeLine)(hd:(a == Zw)=false)(rel:KV kvs vs)(dd:h'.DictOf (cc P w) a vs) :
  dh P w H' h' a (.dK kvs):=⟨z,hd,vs,rel,dd⟩
theorem FA {H':Hp}{Q:Unit->Xg->Prop}(hu:A.units+1 < cLine)(I:Inv X pins σ H s)(g:BP H a y v H')(ry:RelV y u)(rv:RelV v r)(h:∀ s',Inv X pins σ H' s'->Q () s') :
  Xy (XF X.prog X.w) A (setItem (.ref a) u r) Q E s:=by
 rcases g with ⟨kvs,k,e,ey,l,eH⟩ | ⟨kvs,k,b,e,ey,eb,l,eH⟩
 ·subst ey eH
  obtain ⟨z,hd,vs,rel,dd⟩:=O8 I.hok e
  have hz:vs.length<=sizeLine:=by rw[← rel.length];exact z
  have hl:(putK kvs k v).length<=sizeLine:=by have:=jq kvs k v;lia
  refine wpAny_setItem_pairs (hsz:=hz) (t9 ry) dd λh' dd' hs=>h _ ?_
  have he:∃ q,h'.get? a=some q:=let ⟨q,_,_,hq,_⟩:=dd';⟨q,hq⟩
  exact pf I (by rw[e];exact YR) hs he (BG hl hd (rel.put k rv) dd')
 ·subst ey eH
  cases (show u=XQ b from ry)
  obtain ⟨z,hd,xs,rel,dd⟩:=Tj I.hok e
  have hz:xs.length<=sizeLine:=by rw[← za1 rel];exact z
  have hl:(putK kvs k v).length<=sizeLine:=by have:=jq kvs k v;lia
  refine zdB (hsz:=hz) (zby hu) (wG I.hok eb) dd λh' dd' hs=>h _ ?_
  obtain ⟨q,es,ep,hq,h2,h3,h4,_,h5⟩:=dd'
  refine pf I (by rw[e];exact YR) hs ⟨q,hq⟩ ⟨hl,hd,_,(rel.put k eb rv).keeps λc ys ec=>?_,q,es,ep,hq,h2,h3,h4,h5⟩
  rw[aJ (Vt ec e (λz=>nomatch z))]
  exact ec
end
section
variable {X:Cx} {pins:List (Addr×Obj)} {σ:St} {H:Hp} {s:Xg} {a:Addr} {kvs:List (Key×V)} {k:Key} {u:Xe} {A:X8} {E:Xe->Xg->Prop}
end
def Mg (i:XJ):Prop:=∀ ov iv,zcL i false ov iv=operate [ov,iv] (zbl ov iv)
theorem De {prog:XO}{w:X0}{A:X8}{E:Xe->Xg->Prop}{s:Xg}{env:Env}{value slice:XJ}{pos:Pos}{T id:String}{Q:Xe->Xg->Prop}
  (hl:ze5 (.type T) "__getitem__" = pure (some (.builtin id))) (hs:Mg slice)
  (h:Xy (XF prog w) A (Yr value env) (λo s₁=>Xy (XF prog w) A (Yr slice env) (λi s₂=>s₂.TypeIs o T/\Xy (XF prog w) A (zbl o i) Q E s₂) E s₁) E s) :
  Xy (XF prog w) A (Yr (.Subscript value slice pos) env) Q E s:=by
 refine ze6 (Yt h (λo s₁ h₁=>Yt h₁ (λi s₂ h₂=>?_) λ_ _ x=>x) λ_ _ x=>x)
 obtain ⟨hT,h₂⟩:=h₂
 unfold zdk
 refine Xb ?_
 rw[getitemInPython_of_ne hT.not_modules]
 refine Xb (wpAny_specialOf hT hl ?_)
 have fin:Xy (XF prog w) A (zcL slice false o i) (λr s₃=>Xy (XF prog w) A (letTemporaryGo value o r >>= λ_=>pure r) Q E s₃) E s₂:=by
  rw[hs o i]
  exact wpAny_operating (Yt h₂ (λr s₃ h₃=>Xb (wpAny_letTemporaryGo (Xj h₃))) λ_ _ x=>x)
 first
  | exact Xj (Xb fin)
  | exact Xb (Xj (Xb fin))
  | exact Xb fin
theorem xq {X:Cx}{pins:List (Addr×Obj)}{σ:St}{H:Hp}{s:Xg}{a:Addr}{y:V}{o:Option V}(I:Inv X pins σ H s)(g:rL H a y o):s.TypeIs (.ref a) "dict" := by
 rcases g with ⟨kvs,k,e,_,_⟩ | ⟨kvs,k,b,e,_,_,_⟩
 ·obtain ⟨_,_,vs,_,dd⟩:=Dg I.hok e
  exact dd.typeIs
 ·obtain ⟨_,_,xs,_,dd⟩:=Cp I.hok e
  exact dd.typeIs
def Vs (td ty:TE):TE:=λσ H Q=>td σ H λx H1=>ty σ H1 λy H2=>∃ a v,x=.ref a/\rL H2 a y (some v)/\Q v H2
def C5 (ty td:TE):TE:=λσ H Q=>ty σ H λy H1=>td σ H1 λx H2=>∃ a o,x=.ref a/\rL H2 a y o/\Q (.bl (!o.isSome)) H2
def SX (td ty tv:TE):TS:=λD σ H=>tv σ H λv H1=>td σ H1 λx H2=>ty σ H2 λy H3=>∃ a H4,x=.ref a/\BP H3 a y v H4/\D.nx σ H4
section
variable {X:Cx} {o i e value:XJ} {pos pos' tpos:Pos} {td ty tv:TE}
theorem Nu (hu:X.A.units+1 < cLine)(ho:PE X o td)(hi:PE X i ty)(hs:Mg i):PE X (.Subscript o i pos) (Vs td ty):=by
 intro pins s σ H Q I h
 refine De zbC.lookup hs (thn (ho pins s σ H _ I h) λu s1 ⟨x,H1,I1,rx,q1⟩=>thn (hi pins s1 σ H1 _ I1 q1) λiv s2 ⟨y,H2,I2,ry,a,v,ex,g,q2⟩=>?_)
 subst ex
 obtain rfl:u=XQ a:=rx
 exact ⟨xq I2 g,Ew hu I2 g ry λw' s3 I3 rw'=>⟨v,H2,I3,rw',q2⟩⟩
theorem EX (hu:X.A.units+1 < cLine)(hi:PE X i ty)(ho:PE X o td):PC X .NotIn i o (C5 ty td):=by
 intro pins s σ H Q I h
 refine thn (hi pins s σ H _ I h) λiv s1 ⟨y,H1,I1,ry,q1⟩=>thn (ho pins s1 σ H1 _ I1 q1) λu s2 ⟨x,H2,I2,rx,a,ov,ex,g,q2⟩=>?_
 subst ex
 obtain rfl:u=XQ a:=rx
 exact Oa hu I2 g ry λs3 I3=>⟨.bl (!ov.isSome),H2,I3,rfl,q2⟩
theorem ML (hu:X.A.units+1 < cLine)(ho:PE X o td)(hi:PE X i ty)(hv:PE X value tv)(hs:Zq value (some (.Subscript o i pos')) pos.line X.env=pure false) :
  PS X (.Assign [.Subscript o i pos'] value pos) (SX td ty tv):=by
 intro pins s σ H D I h
 refine zch (thn (hv pins s σ H _ I h) λr s1 ⟨v,H1,I1,rv,q1⟩=>thn (ho pins s1 σ H1 _ I1 q1) λu s2 ⟨x,H2,I2,rx,q2⟩=>thn (hi pins s2 σ H2 _ I2 q2) λiv s3 ⟨y,H3,I3,ry,a,H4,ex,g,q3⟩=>?_) hs
 subst ex
 obtain rfl:u=XQ a:=rx
 exact FA hu I3 g ry rv λs4 I4=>⟨σ,H4,I4,q3⟩
end
theorem yp {P:XO}{w:X0}{H:Hp}(h:Heap)(hb:Zw < h.objs.size):dh P w H (h.push { cls:=.type "dict", data:=.dict #[] }) h.objs.size (.dK []):=
 ⟨Yu _,beq_eq_false_iff_ne.mpr (XA (XI hb)),[],.nil,zeR h⟩
def RH:TE:=λ_ H Q=>∀ p,H p=none->Q (.ref p) (upd H p (.dK []))
section
variable {X:Cx} {pos:Pos}
theorem Kj:PE X (.Dict [] [] pos) RH:=λpins s σ H Q I h=>
 zet ⟨.ref s.heap.objs.size,_,I.laid (a:=s.heap.objs.size) (o:=.dK []) (t':=s.toks) (λ_ _ q=>Xd _ q) (Xq _) (yp s.heap I.big),rfl,h _ (I.hok.fresh (Xq _))⟩
end
def vZ:List (TE×TE)->St->Hp->(List (V×V)->Hp->Prop)->Prop
 | [],_,H,Q=>Q [] H
 | (tk,tv)::r,σ,H,Q=>tk σ H λx H1=>tv σ H1 λy H2=>vZ r σ H2 λps H3=>Q ((x,y)::ps) H3
abbrev VV:List (V×V)->List (Xe×Xe)->Prop:=ZI λp q=>RelV p.1 q.1/\RelV p.2 q.2
def PPs (X:Cx)(pos:Pos)(keys:List (Option XJ))(values:List XJ)(trs:List (TE×TE)):Prop:=
 ∀ (pins:List (Addr×Obj)) (s:Xg) (σ:St) (H:Hp) (Q:List (V×V)->Hp->Prop),Inv X pins σ H s->vZ trs σ H Q->
  Xy (XF X.prog X.w) X.A (evalPairs (pairTrees keys values X.env pos)) (λvs s'=>∃ ps H',Inv X pins σ H' s'/\VV ps vs/\Q ps H') X.xe s
theorem Oj {X:Cx}{pos:Pos}:PPs X pos [] [] []:=λpins s σ H Q I h=>pairTrees_nil_walk ⟨[],H,I,.nil,h⟩
theorem Jb {X:Cx}{pos:Pos}{k v:XJ}{ks:List (Option XJ)}{vs:List XJ}{tk tv:TE}{trs:List (TE×TE)}(hk:PE X k tk)(hv:PE X v tv)(hr:PPs X pos ks vs trs) :
  PPs X pos (some k::ks) (v::vs) ((tk,tv)::trs):=λpins s σ H Q I h=>
 pairTrees_cons_walk (thn (hk pins s σ H _ I h) λu s1 ⟨x,H1,I1,rx,q1⟩=>thn (hv pins s1 σ H1 _ I1 q1) λw2 s2 ⟨y,H2,I2,ry,q2⟩=>
  thn (hr pins s2 σ H2 _ I2 q2) λws s3 ⟨ps,H3,I3,rel,q3⟩=>⟨(x,y)::ps,H3,I3,.cons ⟨rx,ry⟩ rel,q3⟩)
def dS (kvs more:List (Key×V)):List (Key×V):=more.foldl (λacc kv=>putK acc kv.1 kv.2) kvs
theorem KV.merge:∀ {more:List (Key×V)} {rs:List (Key×Xe)} {kvs:List (Key×V)} {vs:List (Key×Xe)},KV more rs->KV kvs vs->KV (dS kvs more) (merged vs rs):=by
 intro more rs kvs vs r
 unfold KV at r
 induction r generalizing kvs vs with
 | nil=>intro q;exact q
 | @cons p q ps qs h t ih=>
  intro r0
  have e:KV (putK kvs p.1 p.2) (stored vs q.1 q.2):=by
   have:=r0.put p.1 h.2
   rw[← h.1];exact this
  exact ih e
theorem gH:∀ (more kvs:List (Key×V)),(dS kvs more).length<=kvs.length+more.length
 | [],kvs=>by show kvs.length<=kvs.length+0;lia
 | p::r,kvs=>by
  have h1:=gH r (putK kvs p.1 p.2)
  have h2:=jq kvs p.1 p.2
  show (dS (putK kvs p.1 p.2) r).length<=_
  rw[XC];lia
theorem qc {P:XO}{w:X0}:∀ {kvs:List (Key×V)} {ws:List (Xe×Xe)},VV (kvs.map λkv=>(kV kv.1,kv.2)) ws->∃ rs,Carries (cc P w) ws rs/\KV kvs rs
 | [],_,r=>by rw[zai] at r;cases r;exact ⟨[],YR,.nil⟩
 | p::kvs,_,r=>by
  rw[Xm] at r
  cases r with
  | @cons a b as bs h t=>
   obtain ⟨rs,c,q⟩:=qc (P:=P) (w:=w) t
   obtain ⟨b1,b2⟩:=b
   exact ⟨(p.1,b2)::rs,⟨t9 h.1,rfl,c⟩,.cons ⟨rfl,h.2⟩ q⟩
def U4 (trs:List (TE×TE)):TE:=λσ H Q=>∀ p,H p=none->vZ trs σ (upd H p (.dK [])) λps H2=>H2 p=some (.dK [])/\∃ kvs:List (Key×V),ps=kvs.map (λkv=>(kV kv.1,kv.2))/\kvs.length<=15/\Q (.ref p) (upd H2 p (.dK (dS [] kvs)))
theorem Mo {X:Cx}{pos:Pos}{keys:List (Option XJ)}{values:List XJ}{trs:List (TE×TE)}(h:PPs X pos keys values trs)(hall:keys.all (·.isSome)=true)(hl:keys.length=values.length)(h0:keys≠[])
  (h15:keys.length<=15):PE X (.Dict keys values pos) (U4 trs):=by
 intro pins s σ H Q I q
 have hn:=I.hok.fresh (Xq s.heap.objs.size)
 have I1:=I.laid (a:=s.heap.objs.size) (o:=.dK []) (h':=s.heap.push { cls:=.type "dict", data:=.dict #[] }) (t':=s.toks) (λ_ _ q=>Xd _ q) (Xq _) (yp s.heap I.big)
 refine wpAny_Dict_walk (knd:=cc X.prog X.w) hall hl h0 h15 (thn (h pins _ σ _ _ I1 (q _ hn)) λws s2 ⟨ps,H2,I2,rel,e,kvs,ep,lk,q2⟩=>?_)
 subst ep
 obtain ⟨rs,c,rk⟩:=qc (P:=X.prog) (w:=X.w) rel
 obtain ⟨z,hd,vs0,r0,dd⟩:=O8 I2.hok e
 cases r0
 refine ⟨rs,c,dd,λh' dd' hs=>⟨.ref s.heap.objs.size,_,?_,rfl,q2⟩⟩
 have hz:(dS [] kvs).length<=sizeLine:=by
  have h1:=gH kvs []
  rw[Zs] at h1
  rw[zcJ];lia
 have he:∃ q,h'.get? s.heap.objs.size=some q:=let ⟨q,_,_,hq,_⟩:=dd';⟨q,hq⟩
 exact pf I2 (by rw[e];exact YR) hs he (BG hz hd (rk.merge .nil) dd')
structure M1 (X:Cx) (o:XJ) (m:Str) (apos:Pos) (e:XJ) (cpos:Pos):Prop where
 base:zat o m X.env (Yr o X.env)=Yr o X.env
 few:((YI cpos (Xt [e] X.env)).all (λx=>!x.1)&&(zbs cpos (Z6 [] X.env)).all (λx=>x.1.isSome)
  && decide (([e]:List XJ).length+([]:List zag).length+(if ([]:List zag).isEmpty then 0 else 1) < 30))=true
 line:(apos.endLine == cpos.line)=true
 trees:YI cpos (Xt [e] X.env)=[(false,Yr e X.env)]
section
variable {X:Cx} {pins:List (Addr×Obj)} {σ:St} {H:Hp} {s:Xg} {a:Addr} {y d:V} {u r:Xe} {o:Option V} {A:X8} {E:Xe->Xg->Prop}
end
section
variable {X:Cx} {o e f:XJ} {apos cpos:Pos} {td ty tx:TE}
end
section
variable {X:Cx} {pins:List (Addr×Obj)} {σ:St} {H:Hp} {s:Xg} {a:Addr} {kvs:List (Key×V)} {A:X8} {E:Xe->Xg->Prop}
end
section
variable {X:Cx} {pins:List (Addr×Obj)} {σ:St} {H:Hp} {s:Xg} {a:Addr} {y:V} {u:Xe} {A:X8} {E:Xe->Xg->Prop}
end
end L2
namespace L3
open PySem
theorem Jn {p q:Prop}(a:p)(b:q):p/\q:=⟨a,b⟩
inductive D where
 | non | bl (b:Bool) | int (i:Int) | str (x:Str) | ty (n:String) | tup (ds:List D) | ls (ds:List D) | obj (a:Addr)
inductive MO where
 | lst (ds:List D)
 | dct (kvs:List (L2.Key×D))
 | dcT (kvs:List (List L2.Key×D))
 | dcF (kvs:List (L2.Key×D))
 | dcD (kvs:List (PyData×D))
mutual
def toP:D->PyData
 | .non=>.none
 | .bl b=>.bool b
 | .int i=>.int i
 | .str x=>.str x
 | .tup ds=>.tuple (gN ds)
 | .ls ds=>.list (gN ds)
 | .ty _=>.none
 | .obj _=>.none
def gN:List D->List PyData
 | []=>[]
 | d::r=>toP d::gN r
end
mutual
def kyP:PyData->Bool
 | .none=>true
 | .int _=>true
 | .str _=>true
 | .tuple xs=>gT xs
 | _=>false
def gT:List PyData->Bool
 | []=>true
 | x::r=>kyP x&&gT r
end
abbrev Mu:=Addr->Option MO
def up (μ:Mu)(a:Addr)(o:MO):Mu:=λb=>if b=a then some o else μ b
theorem ay {μ:Mu}{a:Addr}{o:MO}:up μ a o a=some o:=by unfold up;rw[if_pos rfl]
theorem aE {μ:Mu}{a b:Addr}{o:MO}(h:b≠a):up μ a o b=μ b:=by unfold up;rw[if_neg h]
theorem iw {μ:Mu}{a:Addr}{o u:MO}:up (up μ a o) a u=up μ a u:=by
 funext b;unfold up;split<;>rfl
abbrev ST:=List (Option D)
abbrev DK:=D->Mu->Prop
abbrev ETr:=ST->Mu->DK->Prop
abbrev TTr:=ST->Mu->(Bool->Mu->Prop)->Prop
abbrev ATr:=ST->Mu->(List D->Mu->Prop)->Prop
abbrev DR:=D->Mu->DK->Prop
abbrev DR2:=D->D->Mu->DK->Prop
abbrev FSp:=List D->Mu->DK->Prop
def kcI (ds:List D)(f:Int->List D->Prop):Prop:=match ds with
 | .int i::r=>f i r
 | _=>False
theorem ecI {ds:List D}{f:Int->List D->Prop}(h:kcI ds f):∃ i r,ds=.int i::r/\f i r:=by
 cases ds with
 | nil=>exact Xi h
 | cons d r=>cases d<;>first | exact ⟨_,_,rfl,h⟩ | exact Xi h
theorem lcI {ds:List D}{f:Int->List D->Prop}{n:Nat}(h:kcI ds f)(k:∀ i r,f i r->r.length=n):ds.length=n+1:=by
 obtain ⟨i,r,e,h⟩:=ecI h
 rw[e,XC,k i r h]
def kcS (ds:List D)(f:Str->List D->Prop):Prop:=match ds with
 | .str i::r=>f i r
 | _=>False
theorem ecS {ds:List D}{f:Str->List D->Prop}(h:kcS ds f):∃ i r,ds=.str i::r/\f i r:=by
 cases ds with
 | nil=>exact Xi h
 | cons d r=>cases d<;>first | exact ⟨_,_,rfl,h⟩ | exact Xi h
theorem lcS {ds:List D}{f:Str->List D->Prop}{n:Nat}(h:kcS ds f)(k:∀ i r,f i r->r.length=n):ds.length=n+1:=by
 obtain ⟨i,r,e,h⟩:=ecS h
 rw[e,XC,k i r h]
def kcT (ds:List D)(f:List D->List D->Prop):Prop:=match ds with
 | .tup i::r=>f i r
 | _=>False
theorem ecT {ds:List D}{f:List D->List D->Prop}(h:kcT ds f):∃ i r,ds=.tup i::r/\f i r:=by
 cases ds with
 | nil=>exact Xi h
 | cons d r=>cases d<;>first | exact ⟨_,_,rfl,h⟩ | exact Xi h
theorem lcT {ds:List D}{f:List D->List D->Prop}{n:Nat}(h:kcT ds f)(k:∀ i r,f i r->r.length=n):ds.length=n+1:=by
 obtain ⟨i,r,e,h⟩:=ecT h
 rw[e,XC,k i r h]
def kcL (ds:List D)(f:List D->List D->Prop):Prop:=match ds with
 | .ls i::r=>f i r
 | _=>False
theorem ecL {ds:List D}{f:List D->List D->Prop}(h:kcL ds f):∃ i r,ds=.ls i::r/\f i r:=by
 cases ds with
 | nil=>exact Xi h
 | cons d r=>cases d<;>first | exact ⟨_,_,rfl,h⟩ | exact Xi h
theorem lcL {ds:List D}{f:List D->List D->Prop}{n:Nat}(h:kcL ds f)(k:∀ i r,f i r->r.length=n):ds.length=n+1:=by
 obtain ⟨i,r,e,h⟩:=ecL h
 rw[e,XC,k i r h]
def kcO (ds:List D)(f:Addr->List D->Prop):Prop:=match ds with
 | .obj i::r=>f i r
 | _=>False
theorem ecO {ds:List D}{f:Addr->List D->Prop}(h:kcO ds f):∃ i r,ds=.obj i::r/\f i r:=by
 cases ds with
 | nil=>exact Xi h
 | cons d r=>cases d<;>first | exact ⟨_,_,rfl,h⟩ | exact Xi h
theorem lcO {ds:List D}{f:Addr->List D->Prop}{n:Nat}(h:kcO ds f)(k:∀ i r,f i r->r.length=n):ds.length=n+1:=by
 obtain ⟨i,r,e,h⟩:=ecO h
 rw[e,XC,k i r h]
def kcA (ds:List D)(f:D->List D->Prop):Prop:=match ds with
 | i::r=>f i r
 | _=>False
theorem ecA {ds:List D}{f:D->List D->Prop}(h:kcA ds f):∃ i r,ds=i::r/\f i r:=by
 cases ds with
 | nil=>exact Xi h
 | cons d r=>exact ⟨_,_,rfl,h⟩
theorem lcA {ds:List D}{f:D->List D->Prop}{n:Nat}(h:kcA ds f)(k:∀ i r,f i r->r.length=n):ds.length=n+1:=by
 obtain ⟨i,r,e,h⟩:=ecA h
 rw[e,XC,k i r h]
def kcN (ds:List D)(P:Prop):Prop:=match ds with
 | []=>P
 | _=>False
theorem ecN {ds:List D}{P:Prop}(h:kcN ds P):ds=[]/\P:=by
 cases ds with
 | nil=>exact ⟨rfl,h⟩
 | cons d r=>exact Xi h
structure En where
 nx:ST->Mu->Prop
 rt:DK
 bk:ST->Mu->Prop:=λ_ _=>False
 ct:ST->Mu->Prop:=λ_ _=>False
abbrev STr:=En->ST->Mu->Prop
abbrev GTr:=D->ST->Mu->(ST->Mu->Prop)->Prop
def kIf (c:Bool)(A B:Prop):Prop:=match c with
 | true=>A
 | false=>B
def kB (x:D)(f:Bool->Prop):Prop:=match x with
 | .bl c=>f c
 | _=>False
def kI (x:D)(f:Int->Prop):Prop:=match x with
 | .int c=>f c
 | _=>False
def kO (x:Option D)(f:D->Prop):Prop:=match x with
 | some d=>f d
 | none=>False
def kS (x:D)(f:List D->Prop):Prop:=match x with
 | .tup ds=>f ds
 | .ls ds=>f ds
 | _=>False
def k2 (ds:List D)(f:D->D->Prop):Prop:=match ds with
 | [v,w]=>f v w
 | _=>False
def kL (μ:Mu)(a:Addr)(f:List D->Prop):Prop:=match μ a with
 | some (.lst ds)=>f ds
 | _=>False
def kD (μ:Mu)(a:Addr)(f:List (L2.Key×D)->Prop):Prop:=match μ a with
 | some (.dct ds)=>f ds
 | _=>False
def kN (x:Option Nat)(f:Nat->Prop):Prop:=match x with
 | some d=>f d
 | none=>False
def lk:ST->Nat->Option D
 | [],_=>none
 | o::_,0=>o
 | _::r,n+1=>lk r n
def ah (i:Nat):ETr:=λρ μ Q=>kO (lk ρ i) λd=>Q d μ
def TC (d:D):ETr:=λ_ μ Q=>Q d μ
def ak (r:DR2)(a b:ETr):ETr:=λρ μ Q=>a ρ μ λx μ1=>b ρ μ1 λy μ2=>r x y μ2 Q
def TUn (r:DR)(a:ETr):ETr:=λρ μ Q=>a ρ μ λx μ1=>r x μ1 Q
def S64 (i:Int):Prop:=-18446744073709551616 < i/\i < 18446744073709551616
def j7 (i:Int):Prop:=-115792089237316195423570985008687907853269984665640564039457584007913129639936 < i/\i < 115792089237316195423570985008687907853269984665640564039457584007913129639936
def MulOk (i j:Int):Prop:=(S64 i∨S64 j)∨(j7 i/\j7 j)
def jK (j:Int):Prop:=j≠0/\j7 j
def yQ (i j:Int):Prop:=0<=j/\j<=1000000/\i.natAbs < 18446744073709551616
def gM:DR2:=λx y μ Q=>match x,y with
 | .int i,.int j=>Q (.int (i - j)) μ
 | _,_=>False
def gL:DR2:=λx y μ Q=>match x,y with
 | .int i,.int j=>MulOk i j/\Q (.int (i*j)) μ
 | _,_=>False
def nY:DR2:=λx y μ Q=>match x,y with
 | .int i,.int j=>jK j/\Q (.int (i.fdiv j)) μ
 | _,_=>False
def mJ:DR2:=λx y μ Q=>match x,y with
 | .int i,.int j=>j≠0/\Q (.int (i.fmod j)) μ
 | _,_=>False
def La:DR2:=λx y μ Q=>match x,y with
 | .int i,.int j=>yQ i j/\Q (.int (i ^ j.toNat)) μ
 | _,_=>False
def EZ:DR:=λx μ Q=>match x with
 | .int i=>Q (.int (-i)) μ
 | _=>False
def He (p:Int->Int->Bool):DR2:=λx y μ Q=>match x,y with
 | .int i,.int j=>Q (.bl (p i j)) μ
 | _,_=>False
def rLt:DR2:=He λi j=>decide (i < j)
def rLe:DR2:=He λi j=>decide (i<=j)
def rGt:DR2:=He λi j=>decide (j < i)
def rGe:DR2:=He λi j=>decide (j<=i)
mutual
def eqD:D->D->Bool
 | .non,.non=>true
 | .bl a,.bl b=>a == b
 | .int a,.int b=>decide (a=b)
 | .bl a,.int b=>decide ((if a then 1 else 0:Int)=b)
 | .int a,.bl b=>decide (a=(if b then 1 else 0:Int))
 | .str a,.str b=>decide (a=b)
 | .tup a,.tup b=>kb a b
 | .ls a,.ls b=>kb a b
 | _,_=>false
def kb:List D->List D->Bool
 | [],[]=>true
 | a::r,b::s=>eqD a b&&kb r s
 | _,_=>false
end
mutual
def okD:Nat->D->Bool
 | _,.non=>true
 | _,.bl _=>true
 | _,.int _=>true
 | _,.str x=>Xn x
 | n+1,.tup ds=>cH n ds
 | n+1,.ls ds=>cH n ds
 | _,_=>false
def cH:Nat->List D->Bool
 | _,[]=>true
 | n,d::ds=>okD n d&&cH n ds
end
def rEq:DR2:=λx y μ Q=>(okD 40 x=true/\okD 40 y=true)/\Q (.bl (eqD x y)) μ
def rNe:DR2:=λx y μ Q=>(okD 40 x=true/\okD 40 y=true)/\Q (.bl (!eqD x y)) μ
def rIs:DR2:=λx y μ Q=>match y with
 | .non=>(match x with
  | .non=>Q (.bl true) μ
  | _=>Q (.bl false) μ)
 | _=>False
def jv:DR2:=λx y μ Q=>match y with
 | .non=>(match x with
  | .non=>Q (.bl false) μ
  | _=>Q (.bl true) μ)
 | _=>False
def kr (a b:ETr):ETr:=λρ μ Q=>a ρ μ λx μ1=>kB x λc=>kIf c (b ρ μ1 Q) (Q (.bl false) μ1)
def GK (a b:ETr):ETr:=λρ μ Q=>a ρ μ λx μ1=>kB x λc=>kIf c (Q (.bl true) μ1) (b ρ μ1 Q)
def Ks (a:ETr):ETr:=λρ μ Q=>a ρ μ λx μ1=>kB x λc=>Q (.bl (!c)) μ1
def TB (t:ETr):TTr:=λρ μ Q=>t ρ μ λx μ1=>kB x λc=>Q c μ1
def wN (t u:TTr):TTr:=λρ μ Q=>t ρ μ λc μ1=>kIf c (u ρ μ1 Q) (Q false μ1)
def TOr (t u:TTr):TTr:=λρ μ Q=>t ρ μ λc μ1=>kIf c (Q true μ1) (u ρ μ1 Q)
def ES (t:TTr):TTr:=λρ μ Q=>t ρ μ λc μ1=>Q (!c) μ1
def kM (c:TTr)(a b:ETr):ETr:=λρ μ Q=>c ρ μ λk μ1=>kIf k (a ρ μ1 Q) (b ρ μ1 Q)
def Ao (r r':DR2)(a b c:ETr):ETr:=λρ μ Q=>a ρ μ λx μ1=>b ρ μ1 λy μ2=>r x y μ2 λz μ3=>kB z λk=>kIf k (c ρ μ3 λy' μ4=>r' y y' μ4 Q) (Q (.bl false) μ3)
def au:ATr:=λ_ μ Q=>Q [] μ
def af (a:ETr)(r:ATr):ATr:=λρ μ Q=>a ρ μ λx μ1=>r ρ μ1 λxs μ2=>Q (x::xs) μ2
def bC (t:ATr):ETr:=λρ μ Q=>t ρ μ λds μ1=>ds.length<=1000000/\Q (.tup ds) μ1
def gK (t:ATr):ETr:=λρ μ Q=>t ρ μ λds μ1=>ds.length<=1000000/\Q (.ls ds) μ1
def jo (t:ATr):ETr:=λρ μ Q=>t ρ μ λds μ1=>ds.length<=1000000/\∀ p,μ1 p=none->Q (.obj p) (up μ1 p (.lst ds))
def aw (sp:FSp)(t:ATr):ETr:=λρ μ Q=>t ρ μ λds μ1=>sp ds μ1 Q
def atD (ds:List D)(i:Int):Option D:=L2.atI ds i
def rIx:DR2:=λx y μ Q=>match x,y with
 | .tup ds,.int i=>kO (atD ds i) λd=>Q d μ
 | .ls ds,.int i=>kO (atD ds i) λd=>Q d μ
 | .obj a,.int i=>kL μ a λds=>kO (atD ds i) λd=>Q d μ
 | _,_=>False
def Ho:FSp:=λds μ Q=>match ds with
 | [.int i]=>Q (.int (if i < 0 then -i else i)) μ
 | _=>False
def rW:FSp:=λds μ Q=>k2 ds λa b=>kI a λi=>kI b λj=>Q (.int (if j > i then j else i)) μ
def yV:FSp:=λds μ Q=>k2 ds λa b=>kI a λi=>kI b λj=>Q (.int (if j < i then j else i)) μ
def k1 (ds:List D)(f:D->Prop):Prop:=match ds with
 | [a]=>f a
 | _=>False
def D8:FSp:=λds μ Q=>match ds with
 | [.int i]=>Q (.int i) μ
 | [.bl k]=>Q (.int (if k then 1 else 0)) μ
 | _=>False
def dI:FSp:=λds μ Q=>k1 ds λd=>match d with
 | .tup xs=>Q (.int xs.length) μ
 | .ls xs=>Q (.int xs.length) μ
 | .str x=>x.length<=1000000/\Q (.int x.length) μ
 | .obj a=>kL μ a λxs=>Q (.int xs.length) μ
 | _=>False
def tyD:D->Option String
 | .non=>some "NoneType"
 | .bl _=>some "bool"
 | .int _=>some "int"
 | .str _=>some "str"
 | .tup _=>some "tuple"
 | .ls _=>some "list"
 | _=>none
def eB (t c:String):Bool:=t == c || (t == "bool" && c == "int")
def fW (c:String):DR:=λx μ Q=>match tyD x with
 | some t=>Q (.bl (eB t c)) μ
 | none=>False
def bM:STr:=by walk_at "~0"
def aC (t u:STr):STr:=λE ρ μ=>t { E with nx:=u E } ρ μ
def AI:STr:=by walk_at "~1"
def Iy:STr:=by walk_at "~2"
def dZ (e:ETr):STr:=λE ρ μ=>e ρ μ λ_ μ1=>E.nx ρ μ1
def aZ (e:ETr):STr:=λE ρ μ=>e ρ μ E.rt
def Ik:STr:=by walk_at "~3"
def dq (c:TTr)(t u:STr):STr:=λE ρ μ=>c ρ μ λb μ1=>kIf b (t E ρ μ1) (u E ρ μ1)
def av (i:Nat):GTr:=λd ρ μ k=>k (ρ.set i (some d)) μ
def aO (e:ETr)(g:GTr):STr:=λE ρ μ=>e ρ μ λd μ1=>g d ρ μ1 E.nx
def E8 (i j:Nat)(a:ATr):STr:=λE ρ μ=>a ρ μ λds μ1=>k2 ds λv w=>E.nx ((ρ.set i (some v)).set j (some w)) μ1
def UT (x z y:D)(μ:Mu)(f:Mu->Prop):Prop:=match x,z with
 | .obj a,.int n=>kL μ a λds=>kN (L2.ixN ds.length n) λj=>f (up μ a (.lst (ds.set j y)))
 | _,_=>False
def Az (o k e:ETr):STr:=λE ρ μ=>e ρ μ λy μ1=>o ρ μ1 λx μ2=>k ρ μ2 λz μ3=>UT x z y μ3 λμ4=>E.nx ρ μ4
def vV (c:TTr)(b:STr):STr:=λE ρ μ=>∃ (P:ST->Mu->Prop) (m:ST->Mu->Nat),P ρ μ/\∀ ρ μ,P ρ μ->
 c ρ μ λk μ1=>kIf k (b { E with nx:=λρ' μ'=>P ρ' μ'/\m ρ' μ' < m ρ μ,ct:=λρ' μ'=>P ρ' μ'/\m ρ' μ' < m ρ μ,bk:=E.nx } ρ μ1) (E.nx ρ μ1)
def forR (g:GTr)(b:STr)(E:En):List D->ST->Mu->Prop
 | [],ρ,μ=>E.nx ρ μ
 | d::r,ρ,μ=>g d ρ μ λρ1 μ1=>b { E with nx:=forR g b E r,ct:=forR g b E r,bk:=E.nx } ρ1 μ1
def jC (it:ATr)(g:GTr)(b:STr):STr:=λE ρ μ=>it ρ μ λds μ1=>forR g b E ds ρ μ1
def c5 (lo:Int)(n:Nat):List D:=(XX n).map λi=>.int (lo+(i:Nat))
def iQ (a:ETr):ATr:=λρ μ Q=>a ρ μ λx μ1=>kI x λj=>(-4611686018427387904<=j/\j < 4611686018427387904)/\Q (c5 0 j.toNat) μ1
def dG (a:ETr):ATr:=λρ μ Q=>a ρ μ λx μ1=>kS x λds=>Q ds μ1
def dn (μ:Mu)(a:Addr):Mu:=λb=>if b=a then none else μ b
theorem ub {μ:Mu}{a:Addr}{o:MO}(h:μ a=none):dn (up μ a o) a=μ:=by
 funext b
 unfold dn up
 by_cases hb:b=a
 ·subst hb;simp[h]
 ·simp[hb]
def eL (ρ:ST)(n:Nat)(caps:List Nat):ST:=YQ n none++caps.map (lk ρ)
def fj (p:Addr)(G:GTr)(tt:TTr)(te:ETr)(ρc:ST)(K:Mu->Prop):List D->Mu->Prop
 | [],μ=>K μ
 | d::r,μ=>G d ρc μ λρ1 μ1=>tt ρ1 μ1 λb μ2=>kIf b (te ρ1 μ2 λy μ3=>kL μ3 p λzs=>zs.length < 1000000/\fj p G tt te ρc K r (up μ3 p (.lst (zs++[y])))) (fj p G tt te ρc K r μ2)
def bQ (it:ATr)(G:GTr)(tt:TTr)(te:ETr)(n:Nat)(caps:List Nat):ETr:=λρ μ Q=>it ρ μ λds μ1=>∀ p,μ1 p=none->
 fj p G tt te (eL ρ n caps) (λμ'=>kL μ' p λzs=>Q (.ls zs) (dn μ' p)) ds (up μ1 p (.lst []))
def dW:TTr:=λ_ μ Q=>Q true μ
def Mx:FSp:=λds μ Q=>match ds with
 | [.ls xs]=>∃ bs:List Bool,xs=bs.map .bl/\Q (.bl (bs.all id)) μ
 | _=>False
theorem cJ {g:GTr}{b:STr}{E:En}(P:List D->ST->Mu->Prop)(hnil:∀ ρ μ,P [] ρ μ->E.nx ρ μ)
  (hcons:∀ d r ρ μ (N:ST->Mu->Prop),P (d::r) ρ μ->(∀ ρ' μ',P r ρ' μ'->N ρ' μ')->g d ρ μ λρ1 μ1=>b { E with nx:=N,ct:=N,bk:=E.nx } ρ1 μ1) :
  ∀ (ds:List D) (ρ:ST) (μ:Mu),P ds ρ μ->forR g b E ds ρ μ
 | [],ρ,μ,h=>hnil ρ μ h
 | d::r,ρ,μ,h=>hcons d r ρ μ _ h λρ' μ' q=>cJ P hnil hcons r ρ' μ' q
section
open PySem.Spec PyProof.Rows L2
def SqF (K:Xa)(H:Hp)(a:Addr)(xs:List V):Prop:=
 (∃ o,H a=some (.frz o (.lst xs)))∨
  ∃ (o:Obj) (its:Array Xe) (n:Nat),K.lookup a=some o/\o.cls=.type "list" /\ o.dict=none/\o.data=.seq its n/\its.size<=sizeLine/\Vals xs its.toList
theorem SqF.sq {K:Xa}{H:Hp}{a:Addr}{xs:List V}(h:SqF K H a xs):SqL K H a xs:=by
 rcases h with h | h
 ·exact .inl (.inr h)
 ·exact .inr h
mutual
inductive Dp (K:Xa) (H:Hp):V->D->Prop
 | non:Dp K H .non .non
 | bl (b:Bool):Dp K H (.bl b) (.bl b)
 | int (n:Int):Dp K H (.int n) (.int n)
 | str (z:Str):Dp K H (.str z) (.str z)
 | ty (n:String):Dp K H (.ty n) (.ty n)
 | tup {a:Addr} {xs:List V} {ds:List D}:SqT K H a xs->DpL K H xs ds->Dp K H (.ref a) (.tup ds)
 | ls {a:Addr} {xs:List V} {ds:List D}:SqF K H a xs->DpL K H xs ds->Dp K H (.ref a) (.ls ds)
 | obj (a:Addr):Dp K H (.ref a) (.obj a)
inductive DpL (K:Xa) (H:Hp):List V->List D->Prop
 | nil:DpL K H [] []
 | cons {v:V} {d:D} {vs:List V} {ds:List D}:Dp K H v d->DpL K H vs ds->DpL K H (v::vs) (d::ds)
end
structure Tk (H H':Hp):Prop where
 tup:∀ a xs,H a=some (.tup xs)->H' a=some (.tup xs)
 frz:∀ a o u,H a=some (.frz o u)->H' a=some (.frz o u)
theorem Tk.refl (H:Hp):Tk H H:=⟨λ_ _ h=>h,λ_ _ _ h=>h⟩
theorem Tk.trans {H H1 H2:Hp}(a:Tk H H1)(b:Tk H1 H2):Tk H H2:=⟨λc xs h=>b.tup c xs (a.tup c xs h),λc o u h=>b.frz c o u (a.frz c o u h)⟩
theorem Tk.upd {H:Hp}{a:Addr}{o:HO}(h1:∀ xs,H a≠some (.tup xs))(h2:∀ o u,H a≠some (.frz o u)):Tk H (L2.upd H a o):=
 ⟨λb xs h=>by rw[aJ (λz=>by subst z;exact h1 _ h)];exact h,λb o u h=>by rw[aJ (λz=>by subst z;exact h2 _ _ h)];exact h⟩
theorem Tk.new {H:Hp}{a:Addr}{o:HO}(h:H a=none):Tk H (L2.upd H a o):=.upd (λ_ e=>by rw[h] at e;cases e) λ_ _ e=>by rw[h] at e;cases e
theorem Tk.sqT {K:Xa}{H H':Hp}{a:Addr}{xs:List V}(t:Tk H H')(h:SqT K H a xs):SqT K H' a xs:=by
 rcases h with (h | ⟨o,h⟩) | h
 ·exact .inl (.inl (t.tup _ _ h))
 ·exact .inl (.inr ⟨o,t.frz _ _ _ h⟩)
 ·exact .inr h
theorem Tk.sqF {K:Xa}{H H':Hp}{a:Addr}{xs:List V}(t:Tk H H')(h:SqF K H a xs):SqF K H' a xs:=by
 rcases h with ⟨o,h⟩ | h
 ·exact .inl ⟨o,t.frz _ _ _ h⟩
 ·exact .inr h
mutual
theorem Dp.mono {K:Xa}{H H':Hp}(t:Tk H H'):∀ {v:V} {d:D},Dp K H v d->Dp K H' v d
 | _,_,.non=>.non
 | _,_,.bl b=>.bl b
 | _,_,.int i=>.int i
 | _,_,.str x=>.str x
 | _,_,.ty n=>.ty n
 | _,_,.tup h l=>.tup (t.sqT h) (DpL.mono t l)
 | _,_,.ls h l=>.ls (t.sqF h) (DpL.mono t l)
 | _,_,.obj a=>.obj a
theorem DpL.mono {K:Xa}{H H':Hp}(t:Tk H H'):∀ {vs:List V} {ds:List D},DpL K H vs ds->DpL K H' vs ds
 | _,_,.nil=>.nil
 | _,_,.cons h l=>.cons (Dp.mono t h) (DpL.mono t l)
end
theorem DpL.length {K:Xa}{H:Hp}:∀ {vs:List V} {ds:List D},DpL K H vs ds->vs.length=ds.length
 | _,_,.nil=>rfl
 | _,_,.cons _ l=>by rw[XC,XC,DpL.length l]
theorem DpL.get {K:Xa}{H:Hp}:∀ {vs:List V} {ds:List D} {i:Nat} {d:D},DpL K H vs ds->ds[i]? = some d->∃ v,vs[i]? = some v/\Dp K H v d
 | _,_,_,_,.nil,e=>by simp at e
 | _,_,0,_,.cons h _,e=>by simp at e;subst e;exact ⟨_,rfl,h⟩
 | _,_,i+1,d,.cons _ l,e=>by
  obtain ⟨v,e1,h⟩:=DpL.get (i:=i) (d:=d) l (by simpa using e)
  exact ⟨v,by simpa using e1,h⟩
theorem DpL.get' {K:Xa}{H:Hp}:∀ {vs:List V} {ds:List D} {i:Nat} {v:V},DpL K H vs ds->vs[i]? = some v->∃ d,ds[i]? = some d/\Dp K H v d
 | _,_,_,_,.nil,e=>by simp at e
 | _,_,0,_,.cons h _,e=>by simp at e;subst e;exact ⟨_,rfl,h⟩
 | _,_,i+1,d,.cons _ l,e=>by
  obtain ⟨v,e1,h⟩:=DpL.get' (i:=i) (v:=d) l (by simpa using e)
  exact ⟨v,by simpa using e1,h⟩
theorem DpL.set {K:Xa}{H:Hp}{v:V}{d:D}(h:Dp K H v d):∀ {vs:List V} {ds:List D} (i:Nat),DpL K H vs ds->DpL K H (vs.set i v) (ds.set i d)
 | _,_,_,.nil=>.nil
 | _,_,0,.cons _ l=>.cons h l
 | _,_,i+1,.cons q l=>.cons q (DpL.set h i l)
theorem DpL.append {K:Xa}{H:Hp}:∀ {vs ws:List V} {ds es:List D},DpL K H vs ds->DpL K H ws es->DpL K H (vs++ws) (ds++es)
 | _,_,_,_,.nil,s=>s
 | _,_,_,_,.cons h l,s=>.cons h (DpL.append l s)
theorem DpL.at {K:Xa}{H:Hp}{vs:List V}{ds:List D}{i:Int}{d:D}(l:DpL K H vs ds)(e:atD ds i=some d):∃ v,atI vs i=some v/\Dp K H v d:=by
 unfold atD atI at e
 unfold atI
 rw[l.length]
 cases q:ixN ds.length i with
 | none=>rw[q] at e;cases e
 | some j=>
  rw[q] at e
  exact l.get e
def DpK {κ:Type}(K:Xa)(H:Hp)(xs:List (κ×V))(kvs:List (κ×D)):Prop:=xs.map (·.1)=kvs.map (·.1)/\DpL K H (xs.map (·.2)) (kvs.map (·.2))
theorem DpK.mono {κ:Type}{K:Xa}{H H':Hp}(t:Tk H H'){xs:List (κ×V)}{kvs:List (κ×D)}(h:DpK K H xs kvs):DpK K H' xs kvs:=⟨h.1,h.2.mono t⟩
def yI (K:Xa)(H:Hp)(k:PyData)(b:Addr):Prop:=∃ d,Dp K H (.ref b) d/\toP d=k/\okD 8 d=true/\kyP k=true
def DpD (K:Xa)(H:Hp)(xs:List (PyData×Addr×V))(kvs:List (PyData×D)):Prop:=ZI (λx y=>x.1=y.1/\yI K H x.1 x.2.1/\Dp K H x.2.2 y.2) xs kvs
theorem DpD.mono {K:Xa}{H H':Hp}(t:Tk H H'){xs:List (PyData×Addr×V)}{kvs:List (PyData×D)}(h:DpD K H xs kvs):DpD K H' xs kvs:=
 ZI.Oc h λ_ _ ⟨e,⟨d,p,r⟩,q⟩=>⟨e,⟨d,p.mono t,r⟩,q.mono t⟩
def As (K:Xa)(H:Hp)(a:Addr):MO->Prop
 | .lst ds=>∃ xs,H a=some (.lst xs)/\DpL K H xs ds
 | .dct kvs=>∃ xs,H a=some (.dK xs)/\DpK K H xs kvs
 | .dcT kvs=>∃ xs,H a=some (.dT xs)/\DpK K H xs kvs
 | .dcF kvs=>∃ xs,(∃ o,H a=some (.frz o (.dK xs)))/\DpK K H xs kvs
 | .dcD kvs=>∃ xs,H a=some (.dD xs)/\DpD K H xs kvs
theorem As.go {K:Xa}{H H':Hp}{a:Addr}{o:MO}(h:As K H a o)(t:Tk H H')(k:∀ u,H a=some u->H' a=some u):As K H' a o:=by
 cases o<;>(obtain ⟨xs,z,l⟩:=h;first | exact ⟨xs,k _ z,l.mono t⟩ | (obtain ⟨o,z⟩:=z;exact ⟨xs,⟨o,k _ z⟩,l.mono t⟩))
theorem As.ne {K:Xa}{H:Hp}{a q:Addr}{o:MO}{u:HO}(h:As K H a o)(t:Tk H (L2.upd H q u))(k:a≠q):As K (L2.upd H q u) a o:=h.go t λ_ e=>by rw[aJ k];exact e
def bL (K:Xa)(H:Hp)(μ:Mu):Prop:=∀ a o,μ a=some o->As K H a o
theorem bL.free {K:Xa}{H:Hp}{μ:Mu}(h:bL K H μ){a:Addr}(e:H a=none):μ a=none:=by
 cases q:μ a with
 | none=>rfl
 | some o=>
  cases o<;>(obtain ⟨xs,z,_⟩:=h a _ q;first | (rw[e] at z;cases z;done) | (obtain ⟨o,z⟩:=z;rw[e] at z;cases z))
theorem bL.keep {K:Xa}{H H':Hp}{μ:Mu}(h:bL K H μ)(t:Tk H H')(k:∀ a u,μ a≠none->H a=some u->H' a=some u):bL K H' μ:=λa o e=>by
 exact (h a _ e).go t λu z=>k a u (by rw[e];simp) z
def Sub (μ μ':Mu):Prop:=∀ a o,μ a=some o->μ' a=some o
theorem Sub.refl (μ:Mu):Sub μ μ:=λ_ _ h=>h
theorem Sub.new {μ:Mu}{p:Addr}{o:MO}(h:μ p=none):Sub μ (up μ p o):=λa u e=>by
 rw[aE (λz=>by subst z;rw[h] at e;cases e)];exact e
theorem Sub.trans {μ μ1 μ2:Mu}(a:Sub μ μ1)(b:Sub μ1 μ2):Sub μ μ2:=λc o h=>b c o (a c o h)
theorem bL.sub {K:Xa}{H:Hp}{μ μ':Mu}(h:bL K H μ')(s:Sub μ μ'):bL K H μ:=λa o e=>h a o (s a o e)
structure Rl (K:Xa) (σ:L2.St) (H:Hp) (ρ:ST) (μ:Mu):Prop where
 len:ρ.length=σ.length
 loc:∀ i d,lk ρ i=some d->∃ v,σ[i]? = some (some v)/\Dp K H v d
 mu:bL K H μ
theorem Rl.go {K:Xa}{σ:L2.St}{H H':Hp}{ρ:ST}{μ μ':Mu}(r:Rl K σ H ρ μ)(t:Tk H H')(m:bL K H' μ'):Rl K σ H' ρ μ':=
 ⟨r.len,λi d e=>let ⟨v,h1,h2⟩:=r.loc i d e;⟨v,h1,h2.mono t⟩,m⟩
theorem Jm:∀ (ρ:ST) (i j:Nat) (d:D),lk (ρ.set i (some d)) j=if i=j/\i < ρ.length then some d else lk ρ j
 | [],i,j,d=>by simp[lk]
 | o::r,0,0,d=>by simp[lk]
 | o::r,0,j+1,d=>by simp[lk]
 | o::r,i+1,0,d=>by simp[lk]
 | o::r,i+1,j+1,d=>by
  show lk (r.set i (some d)) j=_
  rw[Jm r i j d]
  simp[lk]
theorem Rl.set {K:Xa}{σ:L2.St}{H:Hp}{ρ:ST}{μ:Mu}(r:Rl K σ H ρ μ){v:V}{d:D}(h:Dp K H v d)(i:Nat):Rl K (σ.set i (some v)) H (ρ.set i (some d)) μ:=by
 refine ⟨by simp[r.len],λj e q=>?_,r.mu⟩
 rw[Jm] at q
 split at q
 ·rename_i hc
  obtain ⟨rfl,hlt⟩:=hc
  cases q
  exact ⟨v,by rw[zaL (by rw[← r.len];exact hlt)],h⟩
 ·rename_i hc
  obtain ⟨u,h1,h2⟩:=r.loc j e q
  by_cases hij:i=j
  ·subst hij
   have:¬ i < ρ.length:=λz=>hc ⟨rfl,z⟩
   have hn:σ[i]? = none:=zam.mpr (by rw[← r.len];lia)
   rw[hn] at h1;cases h1
  ·exact ⟨u,by rw[Zt hij];exact h1,h2⟩
abbrev ja (K:Xa)(H:Hp)(Q:DK)(Q':VK):Prop:=∀ v H' d μ',Tk H H'->bL K H' μ'->Dp K H' v d->Q d μ'->Q' v H'
def Sim (K:Xa)(t:TE)(T:ETr):Prop:=∀ σ H ρ μ (Q:DK) (Q':VK),Rl K σ H ρ μ->T ρ μ Q->ja K H Q Q'->t σ H Q'
def Mp (K:Xa)(t:TT)(T:TTr):Prop:=∀ σ H ρ μ (Q:Bool->Mu->Prop) (Q':Bool->Hp->Prop),Rl K σ H ρ μ->T ρ μ Q->(∀ b H' μ',Tk H H'->bL K H' μ'->Q b μ'->Q' b H')->t σ H Q'
def Vg (K:Xa)(t:TA)(T:ATr):Prop:=∀ σ H ρ μ (Q:List D->Mu->Prop) (Q':List V->Hp->Prop),Rl K σ H ρ μ->T ρ μ Q->(∀ vs H' ds μ',Tk H H'->bL K H' μ'->DpL K H' vs ds->Q ds μ'->Q' vs H')->t σ H Q'
abbrev yq (K:Xa)(H:Hp)(N:ST->Mu->Prop)(N':L2.St->Hp->Prop):Prop:=∀ σ' H' ρ' μ',Tk H H'->Rl K σ' H' ρ' μ'->N ρ' μ'->N' σ' H'
structure Ke (K:Xa) (H:Hp) (E:En) (E':Ends):Prop where
 nx:yq K H E.nx E'.nx
 rt:ja K H E.rt E'.rt
 bk:yq K H E.bk E'.bk
 ct:yq K H E.ct E'.ct
theorem Ke.go {K:Xa}{H H1:Hp}{E:En}{E':Ends}(e:Ke K H E E')(t:Tk H H1):Ke K H1 E E':=
 ⟨λ_ _ _ _ t'=>e.nx _ _ _ _ (t.trans t'),λ_ _ _ _ t'=>e.rt _ _ _ _ (t.trans t'),λ_ _ _ _ t'=>e.bk _ _ _ _ (t.trans t'),λ_ _ _ _ t'=>e.ct _ _ _ _ (t.trans t')⟩
def My (K:Xa)(t:TS)(T:STr):Prop:=∀ σ H ρ μ (E:En) (E':Ends),Rl K σ H ρ μ->T E ρ μ->Ke K H E E'->t E' σ H
def Rf (K:Xa)(g:TG)(G:GTr):Prop:=∀ σ H ρ μ v d (k:ST->Mu->Prop) (k':L2.St->Hp->Prop),Rl K σ H ρ μ->Dp K H v d->G d ρ μ k->yq K H k k'->g v σ H k'
structure LE (X:Cx) (e:XJ) (T:ETr):Prop where
 ex:∃ t,PE X e t/\Sim X.K t T
structure LT (X:Cx) (e:XJ) (T:TTr):Prop where
 ex:∃ t,PT X e t/\Mp X.K t T
structure LW (X:Cx) (e:XJ) (T:TTr):Prop where
 ex:∃ t,PW X e t/\Mp X.K t T
structure LA (X:Cx) (es:List XJ) (T:ATr):Prop where
 ex:∃ t,PA X es t/\Vg X.K t T
structure LS (X:Cx) (st:Stmt) (T:STr):Prop where
 ex:∃ t,PS X st t/\My X.K t T
structure LSs (X:Cx) (sts:List Stmt) (T:STr):Prop where
 ex:∃ t,PSs X sts t/\My X.K t T
structure LG (X:Cx) (tg:XJ) (G:GTr):Prop where
 ex:∃ g,PG X tg g/\Rf X.K g G
section
variable {X:Cx} {a b c e:XJ} {Ta Tb Tc:ETr} {pos:Pos}
theorem ae (i:Nat){x:Str}(hN:X.N[i]? = some x:=by rfl)(hv:Vis X.env.scope x:=by first | exact zaQ rfl | exact zaR (zaQ rfl) | exact zaR (zaR rfl))(hd:(x == ("__debug__" : Str))=false:=by decide)
  (hcd:(x == ("__classdict__" : Str))=false:=by decide):LE X (.Name x pos) (ah i):=
 ⟨_,J1 hN hv hd hcd,λσ H ρ μ Q Q' r h k=>by
  have h:kO (lk ρ i) λd=>Q d μ:=h
  cases q:lk ρ i with
  | none=>rw[q] at h;exact Xi h
  | some d=>
   rw[q] at h
   have h:Q d μ:=h
   obtain ⟨v,e1,p⟩:=r.loc i d q
   exact ⟨v,e1,k v H d μ (.refl H) r.mu p h⟩⟩
theorem le_int {i:Int}{j}:LE X (.Constant (.int i) j pos) (TC (.int i)):=⟨_,Rt,λσ H ρ μ Q Q' r h k=>k _ H _ μ (.refl H) r.mu (.int i) h⟩
theorem JH {b:Bool}{j}:LE X (.Constant (.bool b) j pos) (TC (.bl b)):=⟨_,Tw,λσ H ρ μ Q Q' r h k=>k _ H _ μ (.refl H) r.mu (.bl b) h⟩
theorem cZ {j}:LE X (.Constant .none j pos) (TC .non):=⟨_,Rr,λσ H ρ μ Q Q' r h k=>k _ H _ μ (.refl H) r.mu .non h⟩
theorem le_str {x:Str}{j}:LE X (.Constant (.str x) j pos) (TC (.str x)):=⟨_,Gu,λσ H ρ μ Q Q' r h k=>k _ H _ μ (.refl H) r.mu (.str x) h⟩
def gE (K:Xa)(r:R2)(R:DR2):Prop:=∀ H μ x y dx dy (Q:DK) (Q':VK),bL K H μ->Dp K H x dx->Dp K H y dy->R dx dy μ Q->ja K H Q Q'->r x y H Q'
def UQ (K:Xa)(r:V->Hp->VK->Prop)(R:DR):Prop:=∀ H μ x dx (Q:DK) (Q':VK),bL K H μ->Dp K H x dx->R dx μ Q->ja K H Q Q'->r x H Q'
theorem ja.go {K:Xa}{H H1:Hp}{Q:DK}{Q':VK}(k:ja K H Q Q')(t:Tk H H1):ja K H1 Q Q':=λv H' d μ' t'=>k v H' d μ' (t.trans t')
theorem oX {K:Xa}{r:R2}{R:DR2}{ta tb:TE}(hr:gE K r R)(ha:Sim K ta Ta)(hb:Sim K tb Tb):Sim K (tOp r ta tb) (ak R Ta Tb):=λσ H ρ μ Q Q' rl h k=>
 ha σ H ρ μ _ _ rl h λx H1 dx μ1 t1 m1 p1 h1=>hb σ H1 ρ μ1 _ _ (rl.go t1 m1) h1 λy H2 dy μ2 t2 m2 p2 h2=>hr H2 μ2 x y dx dy Q Q' m2 (p1.mono t2) p2 h2 (k.go (t1.trans t2))
theorem qm {op:ze1}{r:R2}{R:DR2}(ho:OpR X (ZC op) r)(hr:gE X.K r R)(ha:LE X a Ta)(hb:LE X b Tb):LE X (.BinOp a op b pos) (ak R Ta Tb):=by
 obtain ⟨ta,pa,sa⟩:=ha.ex
 obtain ⟨tb,pb,sb⟩:=hb.ex
 exact ⟨_,Pe ho pa pb,oX hr sa sb⟩
theorem vp {op:zeI}{r:R2}{R:DR2}(ho:OpR X (Y8 op) r)(hr:gE X.K r R)(ha:LE X a Ta)(hb:LE X b Tb)(hm:YA op b=false):LE X (.Compare a [op] [b] pos) (ak R Ta Tb):=by
 obtain ⟨ta,pa,sa⟩:=ha.ex
 obtain ⟨tb,pb,sb⟩:=hb.ex
 exact ⟨_,NS ho pa pb hm,oX hr sa sb⟩
theorem Cn {K:Xa}{t:TE}{T:ETr}(h:Sim K t T):Mp K (OQ t) (TB T):=λσ H ρ μ Q Q' rl hh k=>
 h σ H ρ μ _ _ rl hh λv H' d μ' t' m' p' h'=>by
  cases p' with
  | bl c=>exact ⟨c,rfl,k c H' μ' t' m' h'⟩
  | _=>exact Xi h'
theorem SI {K:Xa}{t:TE}{T:ETr}(h:Sim K t T):Mp K (tB t) (TB T):=λσ H ρ μ Q Q' rl hh k=>
 h σ H ρ μ _ _ rl hh λv H' d μ' t' m' p' h'=>by
  cases p' with
  | bl c=>exact ⟨c,rfl,k c H' μ' t' m' h'⟩
  | _=>exact Xi h'
theorem fE {op:zeI}{r:R2}{R:DR2}(ho:OpR X (Y8 op) r)(hr:gE X.K r R)(ha:LE X a Ta)(hb:LE X b Tb)(hm:YA op b=false):LT X (.Compare a [op] [b] pos) (TB (ak R Ta Tb)):=by
 obtain ⟨ta,pa,sa⟩:=ha.ex
 obtain ⟨tb,pb,sb⟩:=hb.ex
 exact ⟨_,MF ho pa pb hm,Cn (oX hr sa sb)⟩
theorem wW {K:Xa}{C:Int->Int->Prop}{g:Int->Int->V}{R:DR2}(f:Int->Int->D)(hg:∀ H i j,Dp K H (g i j) (f i j))(hR:∀ i j μ Q,R (.int i) (.int j) μ Q->C i j/\Q (f i j) μ)
  (hn:∀ dx dy μ Q,R dx dy μ Q->(∃ i,dx=.int i)/\∃ j,dy=.int j):gE K (rI C g) R:=λH μ x y dx dy Q Q' m px py h k=>by
 obtain ⟨⟨i,rfl⟩,j,rfl⟩:=hn _ _ _ _ h
 cases px;cases py
 obtain ⟨h1,h2⟩:=hR _ _ _ _ h
 exact ⟨i,j,rfl,rfl,h1,k _ H _ μ (.refl H) m (hg H i j) h2⟩
theorem Dc {K:Xa}{g:Int->Int->V}{R:DR2}(f:Int->Int->D)(hg:∀ H i j,Dp K H (g i j) (f i j))(hR:∀ i j μ Q,R (.int i) (.int j) μ Q->Q (f i j) μ)
  (hn:∀ dx dy μ Q,R dx dy μ Q->(∃ i,dx=.int i)/\∃ j,dy=.int j):gE K (rI0 g) R:=λH μ x y dx dy Q Q' m px py h k=>by
 obtain ⟨⟨i,rfl⟩,j,rfl⟩:=hn _ _ _ _ h
 cases px;cases py
 exact ⟨i,j,rfl,rfl,k _ H _ μ (.refl H) m (hg H i j) (hR _ _ _ _ h)⟩
theorem dj (ha:LE X a Ta)(hb:LE X b Tb):LE X (.BinOp a .Sub b pos) (ak gM Ta Tb):=qm QW (Dc (λi j=>.int (i - j)) (λ_ _ _=>.int _) (λ_ _ _ _ h=>h) (λdx dy μ Q h=>by cases dx<;>cases dy<;>first | exact ⟨⟨_,rfl⟩,_,rfl⟩ | exact Xi h)) ha hb
theorem j7.abs {j:Int}(h:j7 j):j.natAbs < 2 ^ 256:=by
 have e:(2:Nat) ^ 256=115792089237316195423570985008687907853269984665640564039457584007913129639936:=by decide +kernel
 rw[e]
 obtain ⟨h1,h2⟩:=h
 lia
theorem MulOk.ok {i j:Int}(h:MulOk i j):IntMulOk i j:=by
 rcases h with (⟨h1,h2⟩ | ⟨h1,h2⟩) | ⟨h1,h2⟩
 ·exact .of_left (zbN h1 h2)
 ·exact .of_right (zbN h1 h2)
 ·exact .of_le (zbZ h1.abs) (zbZ h2.abs) (by decide)
theorem NH:OpR X (ZC .Mult) (rI MulOk λi j=>.int (i*j)):=opI λ_ _ _ _ _ _ _ hc q=>mul_int q hc.ok
theorem jK.np {i j:Int}(h:jK j):Builtin.divisionGoesByPylong i j=false:=by
 refine PyProof.noPylong_of_log2 ?_
 have h0:j.natAbs≠0:=by have:=h.1;lia
 have:=(Nat.log2_lt h0).mpr h.2.abs
 lia
theorem NM:OpR X (ZC .FloorDiv) (rI (λ_ j=>jK j) λi j=>.int (i.fdiv j)):=opI λ_ _ _ _ _ _ _ hc q=>floordiv_int hc.1 q (.inl hc.np)
theorem jf (ha:LE X a Ta)(hb:LE X b Tb):LE X (.BinOp a .FloorDiv b pos) (ak nY Ta Tb):=qm NM (wW (λi j=>.int (i.fdiv j)) (λ_ _ _=>.int _) (λ_ _ _ _ h=>⟨h.1,h.2⟩) (λdx dy μ Q h=>by cases dx<;>cases dy<;>first | exact ⟨⟨_,rfl⟩,_,rfl⟩ | exact Xi h)) ha hb
theorem le_mul (ha:LE X a Ta)(hb:LE X b Tb):LE X (.BinOp a .Mult b pos) (ak gL Ta Tb):=qm NH (wW (λi j=>.int (i*j)) (λ_ _ _=>.int _) (λ_ _ _ _ h=>⟨h.1,h.2⟩) (λdx dy μ Q h=>by cases dx<;>cases dy<;>first | exact ⟨⟨_,rfl⟩,_,rfl⟩ | exact Xi h)) ha hb
theorem iO (ha:LE X a Ta)(hb:LE X b Tb):LE X (.BinOp a .Mod b pos) (ak mJ Ta Tb):=qm LC (wW (λi j=>.int (i.fmod j)) (λ_ _ _=>.int _) (λ_ _ _ _ h=>⟨h.1,h.2⟩) (λdx dy μ Q h=>by cases dx<;>cases dy<;>first | exact ⟨⟨_,rfl⟩,_,rfl⟩ | exact Xi h)) ha hb
theorem le_pow (ha:LE X a Ta)(hb:LE X b Tb):LE X (.BinOp a .Pow b pos) (ak La Ta Tb):=qm QU (wW (λi j=>.int (i ^ j.toNat)) (λ_ _ _=>.int _) (λ_ _ _ _ h=>⟨h.1,h.2⟩) (λdx dy μ Q h=>by cases dx<;>cases dy<;>first | exact ⟨⟨_,rfl⟩,_,rfl⟩ | exact Xi h)) ha hb
theorem oO {K:Xa}(p:Int->Int->Bool):gE K (rI0 λi j=>.bl (p i j)) (He p):=Dc (λi j=>.bl (p i j)) (λ_ _ _=>.bl _) (λ_ _ _ _ h=>h) (λdx dy μ Q h=>by cases dx<;>cases dy<;>first | exact ⟨⟨_,rfl⟩,_,rfl⟩ | exact Xi h)
theorem OG (ha:LE X a Ta)(hb:LE X b Tb):LE X (.Compare a [.Lt] [b] pos) (ak rLt Ta Tb):=vp Ow (oO _) ha hb (fU _)
theorem l3 (ha:LE X a Ta)(hb:LE X b Tb):LT X (.Compare a [.Lt] [b] pos) (TB (ak rLt Ta Tb)):=fE Ow (oO _) ha hb (fU _)
theorem l5 (ha:LE X a Ta)(hb:LE X b Tb):LT X (.Compare a [.Gt] [b] pos) (TB (ak rGt Ta Tb)):=fE UP (oO _) ha hb (fU _)
theorem OA (ha:LE X a Ta)(hb:LE X b Tb):LT X (.Compare a [.GtE] [b] pos) (TB (ak rGe Ta Tb)):=fE Vj (oO _) ha hb (fU _)
theorem TN {op:UnaryOp}{r:V->Hp->VK->Prop}{R:DR}(ho:UnR X (unaryOp op) r)(hr:UQ X.K r R)(ha:LE X a Ta):LE X (.UnaryOp op a pos) (TUn R Ta):=by
 obtain ⟨ta,pa,sa⟩:=ha.ex
 exact ⟨_,T8 ho pa,λσ H ρ μ Q Q' rl h k=>sa σ H ρ μ _ _ rl h λx H1 dx μ1 t1 m1 p1 h1=>hr H1 μ1 x dx Q Q' m1 p1 h1 (k.go t1)⟩
theorem i6 (ha:LE X a Ta)(he:∀ whole,isTrue a X.env whole=(do let v ← whole;standAt a.pos;zdM [v] (truthy v)):=by intro _;rfl):LT X a (TB Ta):=by
 obtain ⟨ta,pa,sa⟩:=ha.ex
 exact ⟨_,Rc pa he,SI sa⟩
variable {tA tB' tC':TTr} {rest:List XJ}
theorem Qx (ha:LT X a tA):LT X (.UnaryOp .Not a pos) (ES tA):=by
 obtain ⟨ta,pa,sa⟩:=ha.ex
 exact ⟨_,Qt pa,λσ H ρ μ Q Q' rl h k=>sa σ H ρ μ _ _ rl h λc H1 μ1 t1 m1 h1=>k (!c) H1 μ1 t1 m1 h1⟩
theorem LW.lt (h:LW X a tA):LT X a tA:=by
 obtain ⟨ta,pa,sa⟩:=h.ex
 exact ⟨_,pa.pt,sa⟩
theorem pj (ha:LT X a tA):LW X (.BoolOp .And [a] pos) tA:=by
 obtain ⟨ta,pa,sa⟩:=ha.ex
 exact ⟨_,pw_and1 pa,sa⟩
theorem rA (ha:LT X a tA):LW X (.BoolOp .Or [a] pos) tA:=by
 obtain ⟨ta,pa,sa⟩:=ha.ex
 exact ⟨_,pw_or1 pa,sa⟩
theorem wO (ha:LT X a tA)(hb:LW X (.BoolOp .And (b::rest) pos) tB'):LW X (.BoolOp .And (a::b::rest) pos) (wN tA tB'):=by
 obtain ⟨ta,pa,sa⟩:=ha.ex
 obtain ⟨tb,pb,sb⟩:=hb.ex
 refine ⟨_,pw_and pa pb,λσ H ρ μ Q Q' rl h k=>sa σ H ρ μ _ _ rl h λc H1 μ1 t1 m1 h1=>?_⟩
 cases c with
 | true=>exact pF (sb σ H1 ρ μ1 Q Q' (rl.go t1 m1) h1 λb H2 μ2 t2=>k b H2 μ2 (t1.trans t2))
 | false=>exact qi (k false H1 μ1 t1 m1 h1)
theorem zK (ha:LT X a tA)(hb:LW X (.BoolOp .Or (b::rest) pos) tB'):LW X (.BoolOp .Or (a::b::rest) pos) (TOr tA tB'):=by
 obtain ⟨ta,pa,sa⟩:=ha.ex
 obtain ⟨tb,pb,sb⟩:=hb.ex
 refine ⟨_,pw_or pa pb,λσ H ρ μ Q Q' rl h k=>sa σ H ρ μ _ _ rl h λc H1 μ1 t1 m1 h1=>?_⟩
 cases c with
 | true=>exact pF (k true H1 μ1 t1 m1 h1)
 | false=>exact qi (sb σ H1 ρ μ1 Q Q' (rl.go t1 m1) h1 λb H2 μ2 t2=>k b H2 μ2 (t1.trans t2))
theorem pQ {op}(h:LE X a Ta):LE X (.BoolOp op [a] pos) Ta:=by
 obtain ⟨ta,pa,sa⟩:=h.ex
 exact ⟨_,Py pa,sa⟩
theorem pA (ha:LE X a Ta)(hb:LE X (.BoolOp .And (b::rest) pos) Tb):LE X (.BoolOp .And (a::b::rest) pos) (kr Ta Tb):=by
 obtain ⟨ta,pa,sa⟩:=ha.ex
 obtain ⟨tb,pb,sb⟩:=hb.ex
 refine ⟨_,SU pa pb,λσ H ρ μ Q Q' rl h k=>sa σ H ρ μ _ _ rl h λx H1 dx μ1 t1 m1 p1 h1=>?_⟩
 cases p1 with
 | bl c=>
  refine ⟨c,rfl,?_⟩
  cases c with
  | true=>exact pF (sb σ H1 ρ μ1 Q Q' (rl.go t1 m1) h1 (k.go t1))
  | false=>exact qi (k _ H1 _ μ1 t1 m1 (.bl _) h1)
 | _=>exact Xi h1
theorem Tz (ha:LE X a Ta)(hb:LE X (.BoolOp .Or (b::rest) pos) Tb):LE X (.BoolOp .Or (a::b::rest) pos) (GK Ta Tb):=by
 obtain ⟨ta,pa,sa⟩:=ha.ex
 obtain ⟨tb,pb,sb⟩:=hb.ex
 refine ⟨_,Ug pa pb,λσ H ρ μ Q Q' rl h k=>sa σ H ρ μ _ _ rl h λx H1 dx μ1 t1 m1 p1 h1=>?_⟩
 cases p1 with
 | bl c=>
  refine ⟨c,rfl,?_⟩
  cases c with
  | true=>exact pF (k _ H1 _ μ1 t1 m1 (.bl _) h1)
  | false=>exact qi (sb σ H1 ρ μ1 Q Q' (rl.go t1 m1) h1 (k.go t1))
 | _=>exact Xi h1
theorem gI (hc:LT X c tC')(ha:LE X a Ta)(hb:LE X b Tb):LE X (.IfExp c a b pos) (kM tC' Ta Tb):=by
 obtain ⟨tc,pc,sc⟩:=hc.ex
 obtain ⟨ta,pa,sa⟩:=ha.ex
 obtain ⟨tb,pb,sb⟩:=hb.ex
 refine ⟨_,Km pc pa pb,λσ H ρ μ Q Q' rl h k=>sc σ H ρ μ _ _ rl h λq H1 μ1 t1 m1 h1=>?_⟩
 cases q with
 | true=>exact pF (sa σ H1 ρ μ1 Q Q' (rl.go t1 m1) h1 (k.go t1))
 | false=>exact qi (sb σ H1 ρ μ1 Q Q' (rl.go t1 m1) h1 (k.go t1))
variable {es:List XJ} {At:ATr}
theorem ai:LA X [] au:=⟨_,iT,λσ H ρ μ Q Q' rl h k=>k [] H [] μ (.refl H) rl.mu .nil h⟩
theorem aa (ha:LE X e Ta)(hr:LA X es At)(hs:Xt (e::es) X.env=(false,Yr e X.env)::Xt es X.env:=by rfl):LA X (e::es) (af Ta At):=by
 obtain ⟨ta,pa,sa⟩:=ha.ex
 obtain ⟨tr,pr,sr⟩:=hr.ex
 exact ⟨_,eA pa pr hs,λσ H ρ μ Q Q' rl h k=>sa σ H ρ μ _ _ rl h λx H1 dx μ1 t1 m1 p1 h1=>sr σ H1 ρ μ1 _ _ (rl.go t1 m1) h1 λxs H2 ds μ2 t2 m2 p2 h2=>k _ H2 _ μ2 (t1.trans t2) m2 (.cons (p1.mono t2) p2) h2⟩
theorem c6 {K:Xa}{H:Hp}{μ:Mu}{p:Addr}{o:HO}(m:bL K H μ)(hp:H p=none):bL K (L2.upd H p o) μ:=m.keep (.new hp) λa' xs' _ e=>by rw[aJ (bo e hp)];exact e
theorem big {n:Nat}(h:n<=1000000):n<=sizeLine:=Yd h (by decide)
theorem aL {x1}(h:LA X es At):LE X (.Tuple es x1 pos) (bC At):=by
 obtain ⟨ta,pa,sa⟩:=h.ex
 refine ⟨_,Qs pa,λσ H ρ μ Q Q' rl h k=>sa σ H ρ μ _ _ rl h λxs H1 ds μ1 t1 m1 p1 h1=>⟨by rw[p1.length];exact big h1.1,λp hp=>?_⟩⟩
 exact k _ _ _ μ1 (t1.trans (.new hp)) (c6 m1 hp) (.tup (SqT.of aK) (p1.mono (.new hp))) h1.2
theorem eW (h:LA X es At):LE X (.List es pos) (jo At):=by
 obtain ⟨ta,pa,sa⟩:=h.ex
 refine ⟨_,JQ pa,λσ H ρ μ Q Q' rl h k=>sa σ H ρ μ _ _ rl h λxs H1 ds μ1 t1 m1 p1 h1=>⟨by rw[p1.length];exact big h1.1,λp hp=>?_⟩⟩
 refine k _ _ _ (up μ1 p (.lst ds)) (t1.trans (.new hp)) (λa o e=>?_) (.obj p) (h1.2 p (m1.free hp))
 by_cases ha:a=p
 ·subst ha
  rw[ay] at e;cases e
  exact ⟨xs,aK,p1.mono (.new hp)⟩
 ·rw[aE ha] at e
  exact c6 m1 hp a o e
def Fh (t:TE):TE:=λσ H Q=>t σ H λv H1=>∃ a xs,v=.ref a/\H1 a=some (.lst xs)/\∀ o,Q v (L2.upd H1 a (.frz o (.lst xs)))
theorem kG {t:TE}(h:PE X e t):PE X e (Fh t):=by
 intro pins s σ H Q I hh
 refine thn (h pins s σ H _ I hh) λu s1 ⟨v,H1,I1,r,a,xs,ev,ea,q⟩=>?_
 obtain ⟨z,its,n,rv,hg⟩:=(show dh X.prog X.w H1 s1.heap a (.lst xs) from I1.hok a _ ea)
 have nl:∀ b o,H1 b=some o->(∀ ys,o≠.lst ys)->b≠a:=λb o e1 e2 z=>by subst z;rw[ea] at e1;cases e1;exact e2 _ rfl
 refine ⟨v,_,I1.un (h':=s1.heap) (t':=s1.toks) (H':=L2.upd H1 a (.frz { cls:=.type "list", data:=.seq its.toArray n } (.lst xs))) ⟨λb o e _ _ _=>e,λb o e _ _ _=>⟨o.slots,e⟩,λb o e n _=>?_,λb o e _=>⟨o,e⟩,λb ys e=>?_,λb o u e=>?_,λb ps e=>⟨#[],?_⟩⟩ (λb u e=>?_),r,q _⟩
 ·rw[aJ (λz=>by subst z;rw[ea] at n;cases n)];exact n
 ·rw[aJ (nl b _ e (λ_=>nofun))];exact e
 ·rw[aJ (nl b _ e (λ_=>nofun))];exact e
 ·rw[aJ (nl b _ e (λ_=>nofun)),e];simp
 ·by_cases hb:b=a
  ·subst hb
   rw[aK] at e;cases e
   exact ⟨hg,z,its,n,rv,hg⟩
  ·rw[aJ hb] at e
   refine (I1.hok b u e).nX (λc w _ q=>q) (λc q=>?_) λc ys q=>?_
   ·rw[aJ (nl c _ q (λ_=>nofun))];exact q
   ·rw[aJ (nl c _ q (λ_=>nofun))];exact q
theorem dF (h:LA X es At):LE X (.List es pos) (gK At):=by
 obtain ⟨ta,pa,sa⟩:=h.ex
 refine ⟨_,kG (JQ pa),λσ H ρ μ Q Q' rl h k=>sa σ H ρ μ _ _ rl h λxs H1 ds μ1 t1 m1 p1 h1=>⟨by rw[p1.length];exact big h1.1,λp hp=>⟨p,xs,rfl,aK,λo=>?_⟩⟩⟩
 have e:L2.upd (L2.upd H1 p (.lst xs)) p (.frz o (.lst xs))=L2.upd H1 p (.frz o (.lst xs)):=Cu
 rw[e]
 exact k _ _ _ μ1 (t1.trans (.new hp)) (c6 m1 hp) (.ls (.inl ⟨o,aK⟩) (p1.mono (.new hp))) h1.2
end
end
section
open PySem.Spec PyProof.Rows L2
mutual
theorem fO:∀ (n:Nat) (d:D),okD n d=true->(toP d).canLay0=true/\(toP d).depth<=n
 | n,.non,_=>⟨rfl,Yu _⟩
 | n,.bl b,_=>⟨rfl,Yu _⟩
 | n,.int i,_=>⟨rfl,Yu _⟩
 | n,.str x,h=>⟨by cases n<;>exact h,Yu _⟩
 | n+1,.tup ds,h=>by
  obtain ⟨h1,h2⟩:=qP n ds h
  exact ⟨h1,zbY h2⟩
 | n+1,.ls ds,h=>by
  obtain ⟨h1,h2⟩:=qP n ds h
  exact ⟨h1,zbY h2⟩
 | 0,.tup ds,h=>by cases h
 | 0,.ls ds,h=>by cases h
 | n,.ty _,h=>by cases n<;>cases h
 | n,.obj _,h=>by cases n<;>cases h
theorem qP:∀ (n:Nat) (ds:List D),cH n ds=true->zdV (gN ds)=true/\X2 (gN ds)<=n
 | n,[],_=>⟨rfl,Yu _⟩
 | n,d::r,h=>by
  have h':okD n d=true/\cH n r=true:=YL.mp h
  obtain ⟨a1,a2⟩:=fO n d h'.1
  obtain ⟨b1,b2⟩:=qP n r h'.2
  refine ⟨?_,?_⟩
  ·show (ze9 (toP d)&&zdV (gN r))=true
   rw[a1,b1];rfl
  ·show max (zdW (toP d)) (X2 (gN r))<=n
   exact Nat.max_le.mpr ⟨a2,b2⟩
end
theorem str_beq (a b:Str):(a == b)=decide (a=b):=by
 by_cases h:a=b
 ·subst h;simp
 ·rw[decide_eq_false h];exact beq_eq_false_iff_ne.mpr h
mutual
theorem oR:∀ (n m:Nat) (a b:D),okD n a=true->okD m b=true->YS (toP a) (toP b)=eqD a b
 | n,m,.non,b,_,hb=>by cases b<;>first | rfl | (cases m<;>cases hb)
 | n,m,.bl x,b,_,hb=>by
  cases b with
  | int y=>exact zaV _ _
  | ty _=>cases m<;>cases hb
  | obj _=>cases m<;>cases hb
  | _=>rfl
 | n,m,.int x,b,_,hb=>by
  cases b with
  | int y=>exact zaV _ _
  | bl y=>exact zaV _ _
  | ty _=>cases m<;>cases hb
  | obj _=>cases m<;>cases hb
  | _=>rfl
 | n,m,.str x,b,_,hb=>by
  cases b with
  | str y=>exact str_beq x y
  | ty _=>cases m<;>cases hb
  | obj _=>cases m<;>cases hb
  | _=>rfl
 | n+1,m,.tup xs,b,ha,hb=>by
  cases b with
  | tup ys=>
   cases m with
   | zero=>cases hb
   | succ m=>exact pw n m xs ys ha hb
  | ty _=>cases m<;>cases hb
  | obj _=>cases m<;>cases hb
  | _=>rfl
 | n+1,m,.ls xs,b,ha,hb=>by
  cases b with
  | ls ys=>
   cases m with
   | zero=>cases hb
   | succ m=>exact pw n m xs ys ha hb
  | ty _=>cases m<;>cases hb
  | obj _=>cases m<;>cases hb
  | _=>rfl
 | 0,_,.tup ds,_,h,_=>by cases h
 | 0,_,.ls ds,_,h,_=>by cases h
 | n,_,.ty _,_,h,_=>by cases n<;>cases h
 | n,_,.obj _,_,h,_=>by cases n<;>cases h
theorem pw:∀ (n m:Nat) (a b:List D),cH n a=true->cH m b=true->zau (gN a) (gN b)=kb a b
 | _,_,[],[],_,_=>rfl
 | _,_,[],_::_,_,_=>rfl
 | _,_,_::_,[],_,_=>rfl
 | n,m,a::r,b::s,ha,hb=>by
  have ha':okD n a=true/\cH n r=true:=YL.mp ha
  have hb':okD m b=true/\cH m s=true:=YL.mp hb
  show (YS (toP a) (toP b)&&zau (gN r) (gN s))=(eqD a b&&kb r s)
  rw[oR n m a b ha'.1 hb'.1,pw n m r s ha'.2 hb'.2]
end
section
variable {X:Cx} {pins:List (Addr×Obj)} {σ:L2.St} {H:Hp} {s:Xg}
mutual
theorem eC (I:Inv X pins σ H s):∀ {n:Nat} {v:V} {d:D} {u:Xe},Dp X.K H v d->okD n d=true->RelV v u->∃ as,zdX s.heap u (toP d) as
 | n,_,_,u,.non,_,r=>by cases (show u=Zb from r);exact ⟨_,.none⟩
 | n,_,_,u,.bl b,_,r=>by cases (show u=zbp b from r);exact ⟨_,.bool b⟩
 | n,_,_,u,.int i,_,r=>by obtain ⟨t,e⟩:=(show ∃ t,u=zbo i t from r);subst e;exact ⟨_,.int i t⟩
 | n,_,_,u,.str x,_,r=>by obtain ⟨t,e⟩:=(show ∃ t,u=zbV x t from r);subst e;exact ⟨_,.str x t⟩
 | n,_,_,u,.ty _,h,_=>by cases n<;>cases h
 | n+1,_,_,u,@Dp.tup _ _ a xs ds q l,h,r=>by
  cases (show u=XQ a from r)
  obtain ⟨its,rv,⟨o,e1,e2,k,e3⟩,_⟩:=I.tuple q
  obtain ⟨as,ra⟩:=jk I (n:=n) l h rv
  exact ⟨_,.tuple e1 e2 e3 (by simpa using ra)⟩
 | n+1,_,_,u,@Dp.ls _ _ a xs ds q l,h,r=>by
  cases (show u=XQ a from r)
  obtain ⟨its,rv,⟨o,k,e1,e2,_,e3⟩,_⟩:=I.list q.sq
  obtain ⟨as,ra⟩:=jk I (n:=n) l h rv
  exact ⟨_,.list e1 e2 e3 (by simpa using ra)⟩
 | 0,_,_,u,@Dp.tup _ _ a xs ds q l,h,r=>by cases h
 | 0,_,_,u,@Dp.ls _ _ a xs ds q l,h,r=>by cases h
 | n,_,_,u,.obj _,h,_=>by cases n<;>cases h
theorem jk (I:Inv X pins σ H s):∀ {n:Nat} {vs:List V} {ds:List D} {us:List Xe},DpL X.K H vs ds->cH n ds=true->Vals vs us->∃ as,zdY s.heap us (gN ds) as
 | n,_,_,_,.nil,_,.nil=>⟨_,.nil⟩
 | n,_,_,_,@DpL.cons _ _ v d vs ds h l,ho,.cons r rs=>by
  have ho':okD n d=true/\cH n ds=true:=YL.mp ho
  obtain ⟨as,ra⟩:=eC I h ho'.1 r
  obtain ⟨bs,rb⟩:=jk I l ho'.2 rs
  exact ⟨_,.cons ra rb⟩
end
end
def MA (K:Xa)(f:Bool->Bool):R2:=λx y H Q=>∃ dx dy,Dp K H x dx/\Dp K H y dy/\okD 40 dx=true/\okD 40 dy=true/\Q (.bl (f (eqD dx dy))) H
section
variable {X:Cx} {a b c e:XJ} {Ta Tb Tc:ETr} {pos:Pos}
theorem IV (hu:X.A.units+64 < cLine):OpR X (Y8 .Eq) (MA X.K id):=λpins s σ H x y v u Q I rx ry ⟨dx,dy,px,py,ox,oy,q⟩=>by
 obtain ⟨as,ra⟩:=eC I px ox rx
 obtain ⟨bs,rb⟩:=eC I py oy ry
 obtain ⟨l1,d1⟩:=fO 40 dx ox
 obtain ⟨l2,d2⟩:=fO 40 dy oy
 exact SeqAt.compareEq_reads ra rb l1 l2 (by have:=zbf (toP dx).depth (toP dy).depth;lia) ⟨.bl _,H,I,rfl,by rw[oR 40 40 dx dy ox oy];exact q⟩
theorem RW (hu:X.A.units+64 < cLine):OpR X (Y8 .NotEq) (MA X.K not):=λpins s σ H x y v u Q I rx ry ⟨dx,dy,px,py,ox,oy,q⟩=>by
 obtain ⟨as,ra⟩:=eC I px ox rx
 obtain ⟨bs,rb⟩:=eC I py oy ry
 obtain ⟨l1,d1⟩:=fO 40 dx ox
 obtain ⟨l2,d2⟩:=fO 40 dy oy
 exact SeqAt.compareNe_reads ra rb l1 l2 (by have:=zbf (toP dx).depth (toP dy).depth;lia) ⟨.bl _,H,I,rfl,by rw[oR 40 40 dx dy ox oy];exact q⟩
theorem II {K:Xa}:gE K (MA K id) rEq:=λH μ x y dx dy Q Q' m px py h k=>⟨dx,dy,px,py,h.1.1,h.1.2,k _ H _ μ (.refl H) m (.bl _) h.2⟩
theorem Qd {K:Xa}:gE K (MA K not) rNe:=λH μ x y dx dy Q Q' m px py h k=>⟨dx,dy,px,py,h.1.1,h.1.2,k _ H _ μ (.refl H) m (.bl _) h.2⟩
theorem le_eq (hu:X.A.units+64 < cLine)(ha:LE X a Ta)(hb:LE X b Tb):LE X (.Compare a [.Eq] [b] pos) (ak rEq Ta Tb):=vp (IV hu) II ha hb (fU _)
theorem lt_eq (hu:X.A.units+64 < cLine)(ha:LE X a Ta)(hb:LE X b Tb):LT X (.Compare a [.Eq] [b] pos) (TB (ak rEq Ta Tb)):=fE (IV hu) II ha hb (fU _)
theorem uC (hu:X.A.units+64 < cLine)(ha:LE X a Ta)(hb:LE X b Tb):LT X (.Compare a [.NotEq] [b] pos) (TB (ak rNe Ta Tb)):=fE (RW hu) Qd ha hb (fU _)
theorem GX {K:Xa}:gE K (λx y H Q=>y=.non/\Q (.bl (decide (x=.non))) H) rIs:=λH μ x y dx dy Q Q' m px py h k=>by
 cases py with
 | non=>
  refine ⟨rfl,?_⟩
  cases px with
  | non=>exact k _ H _ μ (.refl H) m (.bl _) h
  | _=>exact k _ H _ μ (.refl H) m (.bl _) h
 | _=>exact Xi h
theorem Et {K:Xa}:gE K (λx y H Q=>y=.non/\Q (.bl (!decide (x=.non))) H) jv:=λH μ x y dx dy Q Q' m px py h k=>by
 cases py with
 | non=>
  refine ⟨rfl,?_⟩
  cases px with
  | non=>exact k _ H _ μ (.refl H) m (.bl _) h
  | _=>exact k _ H _ μ (.refl H) m (.bl _) h
 | _=>exact Xi h
theorem Uc (ha:LE X a Ta)(hb:LE X b Tb):LE X (.Compare a [.Is] [b] pos) (ak rIs Ta Tb):=vp IB GX ha hb (fU _)
theorem nQ (ha:LE X a Ta)(hb:LE X b Tb):LT X (.Compare a [.Is] [b] pos) (TB (ak rIs Ta Tb)):=fE IB GX ha hb (fU _)
theorem F4 (ha:LE X a Ta)(hb:LE X b Tb):LT X (.Compare a [.IsNot] [b] pos) (TB (ak jv Ta Tb)):=fE NO Et ha hb (fU _)
theorem MJ {K:Xa}:UQ K (rU λi=>.int (-i)) EZ:=λH μ x dx Q Q' m px h k=>by
 cases px with
 | int i=>exact ⟨i,rfl,k _ H _ μ (.refl H) m (.int _) h⟩
 | _=>exact Xi h
theorem le_neg (ha:LE X a Ta):LE X (.UnaryOp .USub a pos) (TUn EZ Ta):=TN QG MJ ha
theorem kC {o:Option D}{f:D->Prop}(h:kO o f):∃ d,o=some d/\f d:=by
 cases o with
 | none=>exact Xi h
 | some d=>exact ⟨d,rfl,h⟩
theorem bP {μ:Mu}{a:Addr}{f:List D->Prop}(h:kL μ a f):∃ ds,μ a=some (.lst ds)/\f ds:=by
 unfold kL at h
 cases e:μ a with
 | none=>rw[e] at h;exact Xi h
 | some o=>cases o with
  | lst ds=>rw[e] at h;exact ⟨ds,rfl,h⟩
  | _=>rw[e] at h;exact Xi h
theorem vm {μ:Mu}{a:Addr}{f:List (Key×D)->Prop}(h:kD μ a f):∃ ds,μ a=some (.dct ds)/\f ds:=by
 unfold kD at h
 cases e:μ a with
 | none=>rw[e] at h;exact Xi h
 | some o=>cases o with
  | dct ds=>rw[e] at h;exact ⟨ds,rfl,h⟩
  | _=>rw[e] at h;exact Xi h
theorem Hu {o:Option Nat}{f:Nat->Prop}(h:kN o f):∃ d,o=some d/\f d:=by
 cases o with
 | none=>exact Xi h
 | some d=>exact ⟨d,rfl,h⟩
theorem Qj {K:Xa}:gE K (L2.rIx K) L3.rIx:=λH μ x y dx dy Q Q' m px py h k=>by
 cases px with
 | @tup a xs ds q l=>
  cases py with
  | int i=>
   obtain ⟨d,e,h'⟩:=kC h
   obtain ⟨v,e1,p⟩:=l.at e
   exact .inr (.inl ⟨a,xs,i,v,rfl,rfl,q,e1,k _ H _ μ (.refl H) m p h'⟩)
  | _=>exact Xi h
 | @ls a xs ds q l=>
  cases py with
  | int i=>
   obtain ⟨d,e,h'⟩:=kC h
   obtain ⟨v,e1,p⟩:=l.at e
   exact .inl ⟨a,xs,i,v,rfl,rfl,q.sq,e1,k _ H _ μ (.refl H) m p h'⟩
  | _=>exact Xi h
 | obj a=>
  cases py with
  | int i=>
   obtain ⟨ds,e0,h1⟩:=bP h
   obtain ⟨d,e,h'⟩:=kC h1
   obtain ⟨xs,ex,l⟩:=m a _ e0
   obtain ⟨v,e1,p⟩:=l.at e
   exact .inl ⟨a,xs,i,v,rfl,rfl,SqL.of ex,e1,k _ H _ μ (.refl H) m p h'⟩
  | _=>exact Xi h
 | _=>cases py<;>exact Xi h
theorem aq (ha:LE X a Ta)(hb:LE X b Tb)(hs:Dw b:=by intro _ _;rfl):LE X (.Subscript a b pos) (ak L3.rIx Ta Tb):=by
 obtain ⟨ta,pa,sa⟩:=ha.ex
 obtain ⟨tb,pb,sb⟩:=hb.ex
 exact ⟨_,UY Sa pa pb hs,oX Qj sa sb⟩
variable {es:List XJ} {At:ATr} {x:Str} {p:Pos} {id T:String}
def kc (K:Xa)(r:List V->Hp->VK->Prop)(R:FSp):Prop:=∀ H μ xs ds (Q:DK) (Q':VK),bL K H μ->DpL K H xs ds->R ds μ Q->ja K H Q Q'->r xs H Q'
theorem uD {K:Xa}{r:List V->Hp->VK->Prop}{R:FSp}{ta:TA}(hr:kc K r R)(ha:Vg K ta At):Sim K (tCB r ta) (aw R At):=λσ H ρ μ Q Q' rl h k=>
 ha σ H ρ μ _ _ rl h λxs H1 ds μ1 t1 m1 p1 h1=>hr H1 μ1 xs ds Q Q' m1 p1 h1 (k.go t1)
theorem aN {r:List V->Hp->VK->Prop}{R:FSp}(hc:bV X (.builtin id) r)(hr:kc X.K r R)(hg:Gl X x)(hm:X.mg x=none)(hv:YC x=some (.builtin id))(ha:LA X (e::es) At)(hn:x ≠ "__name__" := by decide)(hdb:(x == ("__debug__" : Str))=false:=by decide)
  (h1:Xt (e::es) X.env=(false,Yr e X.env)::Xt es X.env:=by rfl) (h2:(YI pos (Xt es X.env)).any (·.1)=false:=by rfl):LE X (.Call (.Name x p) (e::es) [] pos) (aw R At):=by
 obtain ⟨ta,pa,sa⟩:=ha.ex
 exact ⟨_,qJ hc hg hm hv pa hn hdb h1 h2,uD hr sa⟩
theorem aP {r:List V->Hp->VK->Prop}{R:FSp}(hc:bV X (.type T) r)(hr:kc X.K r R)(hg:Gl X x)(hm:X.mg x=none)(hv:YC x=some (.type T))(ha:LA X (e::es) At)(hn:x ≠ "__name__" := by decide)(hdb:(x == ("__debug__" : Str))=false:=by decide)
  (h1:Xt (e::es) X.env=(false,Yr e X.env)::Xt es X.env:=by rfl) (h2:(YI pos (Xt es X.env)).any (·.1)=false:=by rfl):LE X (.Call (.Name x p) (e::es) [] pos) (aw R At):=by
 obtain ⟨ta,pa,sa⟩:=ha.ex
 exact ⟨_,t7 hc hg hm hv pa hn hdb h1 h2,uD hr sa⟩
theorem OR {n:String}(hg:Gl X x)(hm:X.mg x=none)(hv:YC x=some (.type n))(hn:x ≠ "__name__" := by decide)(hd:(x == ("__debug__" : Str))=false:=by decide):LE X (.Name x pos) (TC (.ty n)):=
 ⟨_,CO hg hm hv (v:=.ty n) rfl hn hd,λσ H ρ μ Q Q' r h k=>k _ H _ μ (.refl H) r.mu (.ty n) h⟩
theorem C7 {K:Xa}:kc K (λxs H Q=>∃ i,xs=[.int i]/\Q (.int (if i < 0 then -i else i)) H) Ho:=λH μ xs ds Q Q' m p h k=>by
 unfold Ho at h
 split at h
 ·cases p with | cons p1 p2=>cases p2;cases p1;exact ⟨_,rfl,k _ H _ μ (.refl H) m (.int _) h⟩
 ·exact Xi h
theorem DJ {K:Xa}{H:Hp}{v:V}{x:D}{f:Int->Prop}(p:Dp K H v x)(h:kI x f):∃ i,v=.int i/\x=.int i/\f i:=by
 cases p with
 | int i=>exact ⟨i,rfl,rfl,h⟩
 | _=>exact Xi h
theorem OD {K:Xa}{H:Hp}{vs:List V}{ds:List D}{f:D->Prop}(p:DpL K H vs ds)(h:k1 ds f):∃ v d,vs=[v]/\Dp K H v d/\f d:=by
 cases p with
 | nil=>exact Xi h
 | cons p l=>cases l with
  | nil=>exact ⟨_,_,rfl,p,h⟩
  | cons _ _=>exact Xi h
theorem Pa {K:Xa}{H:Hp}{vs:List V}{ds:List D}{f:D->D->Prop}(p:DpL K H vs ds)(h:k2 ds f):∃ v w d e,vs=[v,w]/\Dp K H v d/\Dp K H w e/\f d e:=by
 cases p with
 | nil=>exact Xi h
 | cons p l=>cases l with
  | nil=>exact Xi h
  | cons q l=>cases l with
   | nil=>exact ⟨_,_,_,_,rfl,p,q,h⟩
   | cons _ _=>exact Xi h
theorem l9 {K:Xa}:kc K (λxs H Q=>∃ i j,xs=[.int i,.int j]/\Q (.int (if j > i then j else i)) H) rW:=λH μ xs ds Q Q' m p h k=>by
 obtain ⟨v,w,d,e,rfl,p1,p2,h⟩:=Pa p h
 obtain ⟨i,rfl,rfl,h⟩:=DJ p1 h
 obtain ⟨j,rfl,rfl,h⟩:=DJ p2 h
 exact ⟨_,_,rfl,k _ H _ μ (.refl H) m (.int _) h⟩
theorem Kc {K:Xa}:kc K (λxs H Q=>∃ i j,xs=[.int i,.int j]/\Q (.int (if j < i then j else i)) H) yV:=λH μ xs ds Q Q' m p h k=>by
 obtain ⟨v,w,d,e,rfl,p1,p2,h⟩:=Pa p h
 obtain ⟨i,rfl,rfl,h⟩:=DJ p1 h
 obtain ⟨j,rfl,rfl,h⟩:=DJ p2 h
 exact ⟨_,_,rfl,k _ H _ μ (.refl H) m (.int _) h⟩
theorem Ol {K:Xa}:kc K (λxs H Q=>(∃ i,xs=[.int i]/\Q (.int i) H)∨∃ k,xs=[.bl k]/\Q (.int (if k then 1 else 0)) H) D8:=λH μ xs ds Q Q' m p h k=>by
 unfold D8 at h
 split at h
 ·cases p with | cons p1 p2=>cases p2;cases p1;exact .inl ⟨_,rfl,k _ H _ μ (.refl H) m (.int _) h⟩
 ·cases p with | cons p1 p2=>cases p2;cases p1;exact .inr ⟨_,rfl,k _ H _ μ (.refl H) m (.int _) h⟩
 ·exact Xi h
theorem bV.or {f:Xe}{r r':List V->Hp->VK->Prop}(h:bV X f r)(h':bV X f r'):bV X f (λxs H Q=>r xs H Q∨r' xs H Q):=λpins s σ H xs us Q I rx q=>by
 rcases q with q | q
 ·exact h pins s σ H xs us Q I rx q
 ·exact h' pins s σ H xs us Q I rx q
theorem bD {K:Xa}:kc K (λxs H Q=>(∃ p ys,xs=[.ref p]/\(SqL K H p ys∨SqT K H p ys)/\Q (.int ys.length) H)∨∃ z,xs=[.str z]/\z.length<=sizeLine/\Q (.int z.length) H) dI:=λH μ xs ds Q Q' m p h k=>by
 obtain ⟨v,d,rfl,p1,h⟩:=OD p h
 cases p1 with
 | tup q l=>exact .inl ⟨_,_,rfl,.inr q,k _ H _ μ (.refl H) m (by rw[l.length];exact .int _) h⟩
 | ls q l=>exact .inl ⟨_,_,rfl,.inl q.sq,k _ H _ μ (.refl H) m (by rw[l.length];exact .int _) h⟩
 | str z=>exact .inr ⟨_,rfl,big h.1,k _ H _ μ (.refl H) m (.int _) h.2⟩
 | obj a=>
  obtain ⟨ys,e0,h⟩:=bP h
  obtain ⟨xs,ex,l⟩:=m a _ e0
  exact .inl ⟨_,_,rfl,.inl (SqL.of ex),k _ H _ μ (.refl H) m (by rw[l.length];exact .int _) h⟩
 | _=>exact Xi h
theorem aV:bV X (.builtin "len") (λxs H Q=>(∃ p ys,xs=[.ref p]/\(SqL X.K H p ys∨SqT X.K H p ys)/\Q (.int ys.length) H)∨∃ z,xs=[.str z]/\z.length<=sizeLine/\Q (.int z.length) H):=bV.or uZ vO
end
end
section
open PySem.Spec PyProof.Rows L2
def tys:List String:=["NoneType", "bool", "int", "str", "tuple", "list"]
def xi:List String:=["bool", "int", "str", "tuple", "list", "dict"]
theorem DE (K:Xa):∀ t∈tys,∀ c∈xi,PySem.W.kitOne K (.type t) (.type c)=some (eB t c):=by
 intro t ht c hc
 simp only[tys,Xr,XW,or_false] at ht
 simp only[xi,Xr,XW,or_false] at hc
 rcases ht with rfl | rfl | rfl | rfl | rfl | rfl<;>rcases hc with rfl | rfl | rfl | rfl | rfl | rfl<;>with_unfolding_all rfl
theorem GY {d:D}{t:String}(h:tyD d=some t):t∈tys:=by
 cases d<;>cases h<;>decide
def Vq (K:Xa):List V->Hp->VK->Prop:=λxs H Q=>∃ x d t c,xs=[x,.ty c]/\Dp K H x d/\tyD d=some t/\c∈xi/\Q (.bl (eB t c)) H
theorem GJ {X:Cx}:bV X (.builtin "isinstance") (Vq X.K):=λpins s σ H xs us Q I rx ⟨x,d,t,c,ex,px,et,hc,q⟩=>by
 subst ex
 cases rx with | @cons _ u _ _ r1 r2=>cases r2 with | cons r2 r3=>
 cases r3
 cases (show _=zdw c from r2)
 have e:=DE X.K t (GY et) c hc
 have fin:∀ tk,EP X pins σ Q (.bool (eB t c)) { s with toks:=tk }:=λtk=>⟨.bl _,H,I.tok tk,rfl,q⟩
 cases px with
 | non=>cases et;cases (show u=Zb from r1);exact ZR zdZ I.kIn YR e (λz=>nomatch z) fin
 | bl y=>cases et;cases (show u=zbp y from r1);exact ZR zd0 I.kIn YR e (λz=>nomatch z) fin
 | int i=>cases et;obtain ⟨t,z⟩:=(show ∃ t,u=zbo i t from r1);cases z;exact ZR zeu I.kIn YR e (λz=>nomatch z) fin
 | str y=>cases et;obtain ⟨t,z⟩:=(show ∃ t,u=zbV y t from r1);cases z;exact ZR zew I.kIn YR e (λz=>nomatch z) fin
 | ty _=>cases et
 | obj _=>cases et
 | @tup a xs ds sq l=>
  cases et
  cases (show u=XQ a from r1)
  obtain ⟨its,_,⟨o,h1,h2,_⟩,_⟩:=I.tuple sq
  exact ZR zdC I.kIn ⟨o,h1,h2⟩ e (λz=>nomatch z) fin
 | @ls a xs ds sq l=>
  cases et
  cases (show u=XQ a from r1)
  obtain ⟨its,_,⟨o,n,h1,h2,_⟩,_⟩:=I.list sq.sq
  exact ZR zd1 I.kIn ⟨o,h1,h2⟩ e (λz=>nomatch z) fin
theorem fR {X:Cx}{x y:Str}{p p2 pos:Pos}{c:String}{e:XJ}{Ta:ETr}(hg:Gl X x)(hm:X.mg x=none)(hv:YC x=some (.builtin "isinstance"))(ha:LE X e Ta)(hg2:Gl X y)(hm2:X.mg y=none)(hv2:YC y=some (.type c))(hc:c∈xi:=by decide)
  (hn:x ≠ "__name__" := by decide) (hdb:(x == ("__debug__" : Str))=false:=by decide) (hn2:y ≠ "__name__" := by decide) (hdb2:(y == ("__debug__" : Str))=false:=by decide)
  (h0:Xt [.Name y p2] X.env=[(false,Yr (.Name y p2) X.env)]:=by rfl) (h1:Xt (e::[.Name y p2]) X.env=(false,Yr e X.env)::Xt [.Name y p2] X.env:=by rfl) (h2:(YI pos (Xt [.Name y p2] X.env)).any (·.1)=false:=by rfl) :
  LE X (.Call (.Name x p) [e,.Name y p2] [] pos) (TUn (fW c) Ta):=by
 obtain ⟨ta,pa,sa⟩:=ha.ex
 refine ⟨_,qJ GJ hg hm hv (eA pa (eA (CO hg2 hm2 hv2 (v:=.ty c) rfl hn2 hdb2) iT h0) h1) hn hdb h1 h2,λσ H ρ μ Q Q' rl h k=>sa σ H ρ μ _ _ rl h λv H1 d μ1 t1 m1 p1 h1=>?_⟩
 have h1':(match tyD d with | some t=>Q (.bl (eB t c)) μ1 | none=>False):=h1
 cases et:tyD d with
 | none=>rw[et] at h1';exact Xi h1'
 | some t=>rw[et] at h1';exact ⟨v,d,t,c,rfl,p1,et,hc,k _ H1 _ μ1 t1 m1 (.bl _) h1'⟩
section
variable {X:Cx} {a b c e tg o:XJ} {Ta Tb Tc:ETr} {pos:Pos} {es:List XJ} {At:ATr} {x:Str} {p:Pos} {id T:String} {st:Stmt} {rest:List Stmt} {T1 T2:STr} {tA:TTr}
theorem bf:LSs X [] bM:=⟨_,NL,λσ H ρ μ E E' rl h k=>k.nx _ _ _ _ (.refl H) rl h⟩
theorem aj (h1:LS X st T1)(h2:LSs X rest T2):LSs X (st::rest) (aC T1 T2):=by
 obtain ⟨t1,p1,s1⟩:=h1.ex
 obtain ⟨t2,p2,s2⟩:=h2.ex
 exact ⟨_,Jv p1 p2,λσ H ρ μ E E' rl h k=>s1 σ H ρ μ _ _ rl h ⟨λσ' H' ρ' μ' t' r' q=>s2 σ' H' ρ' μ' E E' r' q (k.go t'),k.rt,k.bk,k.ct⟩⟩
theorem ax (h1:LS X st T1):LSs X [st] T1:=by
 obtain ⟨t1,p1,s1⟩:=h1.ex
 exact ⟨_,Mw p1,s1⟩
theorem cS (he:LE X e Ta)(hs:Zq e none pos.line X.env=pure false:=by rfl):LS X (.Expr e pos) (dZ Ta):=by
 obtain ⟨ta,pa,sa⟩:=he.ex
 exact ⟨_,L5 pa hs,λσ H ρ μ E E' rl h k=>sa σ H ρ μ _ _ rl h λv H' d μ' t' m' p' h'=>k.nx _ _ _ _ t' (rl.go t' m') h'⟩
theorem aD (he:LE X e Ta):LS X (.Return (some e) pos) (aZ Ta):=by
 obtain ⟨ta,pa,sa⟩:=he.ex
 exact ⟨_,Qn pa,λσ H ρ μ E E' rl h k=>sa σ H ρ μ _ _ rl h k.rt⟩
theorem bZ {sa sb:List Stmt}(hc:LT X c tA)(ha:LSs X sa T1)(hb:LSs X sb T2):LS X (.If c sa sb pos) (dq tA T1 T2):=by
 obtain ⟨tc,pc,sc⟩:=hc.ex
 obtain ⟨t1,p1,s1⟩:=ha.ex
 obtain ⟨t2,p2,s2⟩:=hb.ex
 refine ⟨_,S7 pc p1 p2,λσ H ρ μ E E' rl h k=>sc σ H ρ μ _ _ rl h λq H1 μ1 t1' m1 h1=>?_⟩
 cases q with
 | true=>exact pF (s1 σ H1 ρ μ1 E E' (rl.go t1' m1) h1 (k.go t1'))
 | false=>exact qi (s2 σ H1 ρ μ1 E E' (rl.go t1' m1) h1 (k.go t1'))
theorem hU {K:Xa}(i:Nat):Rf K (lO i) (av i):=λσ H ρ μ v d k k' rl p h q=>q _ _ _ _ (.refl H) (rl.set p i) h
theorem fM (i:Nat)(hN:X.N.Nodup)(hi:X.N[i]? = some x:=by rfl)(hx:Loc X.env.scope x:=by first | exact zaQ rfl | exact zaR rfl)(hf:X.fn x=true∨X.env.scope.names.lookup x=some .local:=by first | exact .inl rfl | exact .inr rfl | assumption):LG X (.Name x pos) (av i):=
 ⟨_,iU hN hi hx hf,hU i⟩
theorem aB (i:Nat){pos':Pos}(hN:X.N.Nodup)(he:LE X e Ta)(hi:X.N[i]? = some x:=by rfl)(hx:Loc X.env.scope x:=by first | exact zaQ rfl | exact zaR rfl)(hs:Zq e (some (.Name x pos')) pos.line X.env=pure false:=by rfl)
  (hf:X.fn x=true∨X.env.scope.names.lookup x=some .local:=by first | exact .inl rfl | exact .inr rfl | assumption):LS X (.Assign [.Name x pos'] e pos) (aO Ta (av i)):=by
 obtain ⟨ta,pa,sa⟩:=he.ex
 exact ⟨_,Qf hN hi hx pa hs hf,λσ H ρ μ E E' rl h k=>sa σ H ρ μ _ _ rl h λv H' d μ' t' m' p' h'=>hU i σ H' ρ μ' v d _ _ (rl.go t' m') p' h' (k.go t').nx⟩
theorem Rh (i j:Nat){y:Str}{px py pt:Pos}{kt k2 pt2}(hc:X.calm=true)(hN:X.N.Nodup)(ha:LA X [a,b] At)(hi:X.N[i]? = some x:=by rfl)(hj:X.N[j]? = some y:=by rfl)(hij:i≠j:=by decide)
  (hx:X.env.scope.names.lookup x=some .local:=by rfl) (hy:X.env.scope.names.lookup y=some .local:=by rfl)
  (hw:zar [.Tuple [.Name x px,.Name y py] kt pt] (.Tuple [a,b] k2 pt2) X.env=pure (some [x,y]):=by rfl)
  (hs:zaq [.Tuple [.Name x px,.Name y py] kt pt] (.Tuple [a,b] k2 pt2) pos.line X.env=pure false:=by rfl) :
  LS X (.Assign [.Tuple [.Name x px,.Name y py] kt pt] (.Tuple [a,b] k2 pt2) pos) (E8 i j At):=by
 obtain ⟨ta,pa,sa⟩:=ha.ex
 refine ⟨_,Sr hc hN hi hj hij hx hy pa hw hs,λσ H ρ μ E E' rl h k=>sa σ H ρ μ _ _ rl h λvs H' ds μ' t' m' p' h'=>?_⟩
 unfold L3.k2 at h'
 split at h'
 ·rename_i dv dw
  cases p' with | cons p1 p2=>cases p2 with | cons p2 p3=>
  cases p3
  exact ⟨_,_,rfl,k.nx _ _ _ _ t' (((rl.go t' m').set p1 i).set p2 j) h'⟩
 ·exact Xi h'
theorem pI {body:List Stmt}(hp:zeo (XF X.prog X.w) X.A X.env X.xe)(hc:LT X c tA)(hb:LSs X body T1):LS X (.While c body [] pos) (vV tA T1):=by
 obtain ⟨tc,pc,sc⟩:=hc.ex
 obtain ⟨t1,p1,s1⟩:=hb.ex
 refine ⟨_,Hh hp pc p1,λσ H ρ μ E E' rl h k=>?_⟩
 obtain ⟨P,m,h0,hs⟩:=h
 refine ⟨λn σ' H'=>∃ ρ' μ',Tk H H'/\Rl X.K σ' H' ρ' μ'/\P ρ' μ'/\n=m ρ' μ',⟨_,ρ,μ,.refl H,rl,h0,rfl⟩,?_⟩
 rintro n σ1 H1 ⟨ρ1,μ1,t1',rl1,hP,rfl⟩
 refine sc σ1 H1 ρ1 μ1 _ _ rl1 (hs ρ1 μ1 hP) λq H2 μ2 t2 m2 h2=>?_
 have t12:=t1'.trans t2
 cases q with
 | true=>
  refine pF ⟨λσ' H'=>∃ ρ' μ',Tk H H'/\Rl X.K σ' H' ρ' μ'/\P ρ' μ'/\m ρ' μ' < m ρ1 μ1,λσ' H' ⟨ρ',μ',a1,a2,a3,a4⟩=>⟨_,a4,ρ',μ',a1,a2,a3,rfl⟩,?_⟩
  have h2':=h2
  refine s1 σ1 H2 ρ1 μ2 _ _ (rl1.go t2 m2) h2' ⟨λσ' H' ρ' μ' t' r' q=>⟨ρ',μ',t12.trans t',r',q.1,q.2⟩,(k.go t12).rt,(k.go t12).nx,λσ' H' ρ' μ' t' r' q=>⟨ρ',μ',t12.trans t',r',q.1,q.2⟩⟩
 | false=>exact qi (k.nx _ _ _ _ t12 (rl1.go t2 m2) h2)
theorem jb (lo:Int)(n:Nat):c5 lo (n+1)=.int lo::c5 (lo+1) n:=by
 unfold c5
 rw[zci]
 rw[Xm,Xk]
 congr 1
 ·simp
 ·refine Xu λi _=>?_
  show D.int _=D.int _
  congr 1
  show lo+((i+1:Nat):Int)=lo+1+(i:Int)
  lia
end
def lift (K:Xa)(sp:FSp):Sp:=λvs H Q _=>∃ ds μ QQ,DpL K H vs ds/\bL K H μ/\sp ds μ QQ/\ja K H QQ Q
def RT (Q:DK):DK:=λd μ'=>∃ μ,Sub μ μ'/\Q d μ
def ini (n:Nat)(ds:List D):ST:=ds.map some++YQ (n - ds.length) none
abbrev zz_q (sp:FSp)(T:STr)(n:Nat):Prop:=∀ ds μ Q,sp ds μ Q->T { nx:=λ_ μ'=>RT Q .non μ',rt:=RT Q } (ini n ds) μ
abbrev zz_l (sp:FSp)(n:Nat):Prop:=∀ ds μ Q,sp ds μ Q->ds.length=n
theorem SM:∀ (ds:List D) (n i:Nat) (d:D),lk (ini n ds) i=some d->ds[i]? = some d:=by
 intro ds
 have rep:∀ m i (d:D),lk (YQ m none) i=some d->False:=by
  intro m
  induction m with
  | zero=>intro i d h;cases i<;>cases h
  | succ m ih=>intro i d h;cases i with
   | zero=>cases h
   | succ i=>exact ih i d h
 have gen:∀ (ds:List D) m i d,lk (ds.map some++YQ m none) i=some d->ds[i]? = some d:=by
  intro ds
  induction ds with
  | nil=>intro m i d h;exact (rep m i d h).elim
  | cons x r ih=>intro m i d h;cases i with
   | zero=>simpa[lk] using h
   | succ i=>simpa using ih m i d h
 exact λn i d h=>gen ds _ i d h
section
variable {P:XO} {w:X0} {K:Xa} {mg:Str->Option Xe} {base:Heap}
theorem Hx {x qual:Str}{st:Stmt}{f:Addr}{fd:XB}{N ps:List Str}{k:Nat}{sp:FSp}{T:STr}(F:Fun K x qual st f fd)(S:aF N ps (ao st))(len:∀ ds μ Q,sp ds μ Q->ds.length=ps.length)
  (hb:∀ (cdv:Xe) (A:X8) (outer:List Env) (s:Xg) (H:Hp) (E:XK),eV k (A.deeper (zbt qual (ao st) s.heap.objs.size f cdv))->
   LSs (w8 CX0 P w K mg base N qual (ao st) f cdv A outer s H E).nox (gr st) T)
  (hr:∀ ds μ Q,sp ds μ Q->T { nx:=λ_ μ'=>RT Q .non μ',rt:=RT Q } (ini N.length ds) μ):i4 P w K mg base CX0 (k+1) f fd ps (lift K sp):=by
 refine F.ok S (λvs H Q E h=>?_) (λcdv A outer s H vs Q E hroom h=>?_)
 ·obtain ⟨ds,μ,QQ,l,m,h1,k⟩:=h
  rw[l.length];exact len ds μ QQ h1
 ·obtain ⟨ds,μ,QQ,l,m,h1,k⟩:=h
  obtain ⟨t,pt,stt⟩:=(hb cdv A outer s H E hroom).ex
  have hl:vs.length=ds.length:=l.length
  refine ⟨t,pt,stt (L2.start N vs) H (ini N.length ds) μ _ _ ⟨?_,λi d e=>?_,m⟩ (hr ds μ QQ h1) ⟨λσ' H' ρ' μ' t' r' q=>?_,λv H' d μ' t' m' p' q=>?_,λ_ _ _ _ _ _ q=>q,λ_ _ _ _ _ _ q=>q⟩⟩
  ·unfold ini L2.start;simp[hl]
  ·have e':=SM ds _ i d e
   obtain ⟨v,e1,p⟩:=l.get e'
   refine ⟨v,?_,p⟩
   unfold L2.start
   have hi:i < vs.length:=(XR.mp e1).1
   rw[Zn (by simpa using hi),Yp,e1]
   rfl
  ·obtain ⟨μ2,s2,q2⟩:=q
   exact k _ _ _ μ2 t' (r'.mu.sub s2) .non q2
  ·obtain ⟨μ2,s2,q2⟩:=q
   exact k _ _ _ μ2 t' (m'.sub s2) p' q2
end
section
variable {X:Cx} {k:Nat} {f:Addr} {fd:XB} {ps:List Str} {sp:FSp} {x:Str} {p pos:Pos} {e:XJ} {es:List XJ} {At:ATr}
theorem Ct (F:i4 X.prog X.w X.K X.mg X.base CX0 k f fd ps (lift X.K sp))(hr:eV k X.A)(hg:Gl X x)(hm:X.mg x=some (.ref f))(hk:zaO X.K (.ref f)=true)(hb:Binds X.K fd ps [])
  (ha:LA X (e::es) At) (hdb:(x == ("__debug__" : Str))=false:=by decide) (he:Xt (e::es) X.env=(false,Yr e X.env)::Xt es X.env:=by rfl) (hpl:(YI pos (Xt es X.env)).any (·.1)=false:=by rfl) :
  LE X (.Call (.Name x p) (e::es) [] pos) (aw sp At):=by
 obtain ⟨ta,pa,sa⟩:=ha.ex
 refine ⟨_,Ny F hr hg hm hk hb .nil UH pa hdb he hpl,λσ H ρ μ Q Q' rl h k=>sa σ H ρ μ _ _ rl h λxs H1 ds μ1 t1 m1 p1 h1=>?_⟩
 rw[XU]
 exact ⟨ds,μ1,Q,p1,m1,h1,k.go t1⟩
end
end
section
open PySem.Spec PyProof.Rows L2
theorem DpL.ints {K:Xa}{H:Hp}:∀ ns:List Int,DpL K H (ns.map V.int) (ns.map D.int)
 | []=>.nil
 | n::r=>.cons (.int n) (DpL.ints r)
theorem SqF.only {K:Xa}{H:Hp}{a:Addr}{xs:List V}(hO:NT H)(h:SqL K H a xs):SqF K H a xs:=by
 rcases h with (h | h) | h
 ·rcases hO a with z | ⟨o,ys,z⟩
  ·rw[h] at z;cases z
  ·rw[h] at z;cases z
 ·exact .inl h
 ·exact .inr h
theorem Uo {l:zcr}{k:Nat}{q:XO}{loose:List Str}{XP:(Str->Option Xe)->Heap->Prop}{YP:X0->Heap->Prop}{d:DefRec}{K:ze7->Xa}{sp:FSp}{x:Str}
  (hn:l.most=some 63) (hdf:d.params.defaults=[]) (hr:eV k zcf) (hY:∀ (w:X0) (h:Heap),YP w h->(K w.params).In h)
  (hl:∀ ns:List Int,ns.length<=63->∀ μ,sp [.ls (ns.map .int)] μ (λd _=>d=.bl true))
  (F:∀ (w:X0) (mg:Str->Option Xe) (fa:Addr) (h:Heap),(K w.params).In h->h.Ns YJ mg->mg d.name=some (.ref fa)->
   ∃ fd:XB,(∀ (s:Xg) (u:Xe),zdP s fd ⟨[u],[]⟩ [(x,u)])/\∀ base:Heap,(K w.params).In base->base.Ns YJ mg->i4 l.prog w (K w.params) mg base CX0 k fa fd [x] (lift (K w.params) sp)) :
  zfl q loose XP YP l.row.toRowW d [] (λf vs=>ze8 f vs):=
 L2.MI (n:=63) (k:=k) (x:=x) (CX:=λ_=>CX0) (sp:=λw=>lift (K w.params) sp) hn (by decide) hdf hr hY F
  (λw H a ns hl' hO hS=>⟨[.ls (ns.map .int)],λ_=>none,_,.cons (.ls (.only hO hS) (.ints ns)) .nil,(λa o e=>by cases e),hl ns hl' _,λv H' d μ' _ _ p e=>by
   have e':d=.bl true:=e
   subst e'
   cases p;rfl⟩) λ_ _ _ _ _ z=>z
end
section
open PySem.Spec PyProof.Rows L2
def scB (N P:List Str)(sc:Scope):Bool:=decide N.Nodup&&decide (∀ x∈P,sc.names.lookup x=some .local∨sc.names.lookup x=some .cell)&&decide (∀ y∈sc.names,y.2≠.free)
theorem Uj {N P:List Str}{sc:Scope}(h1:sc.kind=.function)(h2:sc.isCoroutine=false)(h3:sc.isGenerator=false)(h4:N.take P.length=P)(h:scB N P sc=true):aF N P sc:=by
 unfold scB at h
 rw[XY,XY] at h
 exact ⟨h1,h2,h3,of_decide_eq_true h.1.1,h4,of_decide_eq_true h.1.2,of_decide_eq_true h.2⟩
structure aQ (P:XO) (w:X0) (K:Xa) (mg:Str->Option Xe) (base:Heap) (k:Nat) (x:Str) (ps:List Str) (sp:FSp):Prop where
 ex:∃ f fd,i4 P w K mg base CX0 k f fd ps (lift K sp)/\mg x=some (.ref f)/\zaO K (.ref f)=true/\Binds K fd ps []
section
variable {P:XO} {w:X0} {K:Xa} {mg:Str->Option Xe} {base:Heap}
theorem aI {x qual:Str}{st:Stmt}{f:Addr}{fd:XB}{N ps:List Str}{k:Nat}{sp:FSp}{T:STr}(m:mg x=some (.ref f))(F:Fun K x qual st f fd)(S:aF N ps (ao st))(len:∀ ds μ Q,sp ds μ Q->ds.length=ps.length)
  (hr:∀ ds μ Q,sp ds μ Q->T { nx:=λ_ μ'=>RT Q .non μ',rt:=RT Q } (ini N.length ds) μ)
  (b:∀ (kV doc pm:Xe) (an:Option Addr) (cdv ct:Xe) (us:List Xe),us.length=ps.length->bindArgs (zah x qual (lN st) (gr st) (ao st) .none kV doc pm an cdv ct) ⟨us,[]⟩=pure (ps.zip us))
  (hb:∀ (cdv:Xe) (A:X8) (outer:List Env) (s:Xg) (H:Hp) (E:XK),eV k (A.deeper (zbt qual (ao st) s.heap.objs.size f cdv))->(A.deeper (zbt qual (ao st) s.heap.objs.size f cdv)).units+64 < cLine->
   LSs (w8 CX0 P w K mg base N qual (ao st) f cdv A outer s H E).nox (gr st) T):aQ P w K mg base (k+1) x ps sp:=
 ⟨f,fd,Hx F S len (λcdv A outer s H E h=>hb cdv A outer s H E h h.units) hr,m,F.kp,F.binds b⟩
end
theorem ar {X:Cx}{k n:Nat}{x:Str}{ps:List Str}{sp:FSp}{e:XJ}{es:List XJ}{At:ATr}{p pos:Pos}(C:aQ X.prog X.w X.K X.mg X.base k x ps sp)(hr:eV n X.A)(hg:Gl X x)
  (ha:LA X (e::es) At) (hle:k<=n:=by decide) (hdb:(x == ("__debug__" : Str))=false:=by decide) (he:Xt (e::es) X.env=(false,Yr e X.env)::Xt es X.env:=by rfl) (hpl:(YI pos (Xt es X.env)).any (·.1)=false:=by rfl) :
  LE X (.Call (.Name x p) (e::es) [] pos) (aw sp At):=by
 obtain ⟨f,fd,F,m,kp,b⟩:=C.ex
 exact Ct F (hr.mono hle) hg m kp b ha hdb he hpl
end
section
open PySem.Spec PyProof.Rows L2
def ba (X:Cx)(scope:Scope)(Nc:List Str)(cl:List (Str×Addr))(C:Addr)(s₀:Xg)(H₀:Hp)(ex:List Addr):Cx:=
 { X with env:=zfa scope cl C X.env,N:=Nc,s₀:=s₀,H₀:=H₀,outer:=X.stack,ex:=ex,fn:=λ_=>false,pn:=[] }
theorem BF {scope:Scope}{env:Env}(h:∀ y∈scope.names,y.2=.free->∃ c,env.cells.lookup y.1=some c) :
  ∃ cl,closureFor scope env=pure cl/\(∀ x c,cl.lookup x=some c->env.cells.lookup x=some c)/\∀ y∈scope.names,y.2=.free->∃ c,cl.lookup y.1=some c:=by
 have gen:∀ (ns:List (Str×za7)) (cs:List (Str×Addr)),(∀ y∈ns,y.2=.free->∃ c,env.cells.lookup y.1=some c)->(∀ x c,cs.lookup x=some c->env.cells.lookup x=some c)->
   ∃ cl,(forIn ns cs λx r=>if (x.2 == Y3)=true then do let c ← cellOf env x.1;pure (YD ((x.1,c)::r)) else pure (YD r):Sem _)=pure cl/\(∀ x c,cl.lookup x=some c->env.cells.lookup x=some c)/\
    (∀ x,(cs.lookup x).isSome=true->(cl.lookup x).isSome=true)/\∀ y∈ns,y.2=.free->∃ c,cl.lookup y.1=some c:=by
  intro ns
  induction ns with
  | nil=>intro cs _ h2;exact ⟨cs,rfl,h2,λ_ z=>z,λ_ z=>nomatch z⟩
  | cons y r ih=>
   intro cs h1 h2
   obtain ⟨n,k⟩:=y
   by_cases hk:k=.free
   ·subst hk
    obtain ⟨c,hc⟩:=h1 (n,.free) Xl rfl
    have h2':∀ x c',((n,c)::cs).lookup x=some c'->env.cells.lookup x=some c':=λx c' e=>by
     rw[Y0] at e
     split at e
     ·rename_i hx
      cases e
      have:x=n:=by simpa using hx
      subst this;exact hc
     ·exact h2 x c' e
    obtain ⟨cl,e1,e2,e3,e4⟩:=ih ((n,c)::cs) (λy hy=>h1 y (Xp _ hy)) h2'
    refine ⟨cl,?_,e2,λx hx=>e3 x ?_,λy hy hf=>?_⟩
    ·rw[ZS]
     have:cellOf env n=pure c:=by unfold cellOf;rw[hc]
     simp only[beq_self_eq_true,if_true,this,pure_bind]
     exact e1
    ·rw[Y0];split
     ·rfl
     ·exact hx
    ·obtain rfl | hy:=Xr.mp hy
     ·have:(cl.lookup n).isSome=true:=e3 n (by simp[Y0])
      exact zbO.mp this
     ·exact e4 y hy hf
   ·obtain ⟨cl,e1,e2,e3,e4⟩:=ih cs (λy hy=>h1 y (Xp _ hy)) h2
    refine ⟨cl,?_,e2,e3,λy hy hf=>?_⟩
    ·rw[ZS]
     have:(k == Y3)=false:=by simpa using hk
     simp only[this,Zk,if_false,pure_bind]
     exact e1
    ·obtain rfl | hy:=Xr.mp hy
     ·exact absurd hf hk
     ·exact e4 y hy hf
 obtain ⟨cl,e1,e2,_,e4⟩:=gen scope.names [] h λx c e=>by cases e
 refine ⟨cl,?_,e2,e4⟩
 show ((forIn scope.names ([]:List (Str×Addr)) λx r=>if (x.2 == Y3)=true then do let c ← cellOf env x.1;pure (YD ((x.1,c)::r)) else pure (YD r):Sem _) >>= λs=>pure s)=pure cl
 rw[e1]
 rfl
def xR (Y:Cx)(ifs:List XJ)(t:TT):Prop:=
 ∀ (pins:List (Addr×Obj)) (s:Xg) (σ:L2.St) (H:Hp) (Q:Bool->Hp->Prop),Inv Y pins σ H s->t σ H Q->
  Xy (XF Y.prog Y.w) Y.A (forIn ifs true λc r=>if r=true then do let ok ← isTrue c Y.env (Yr c Y.env);pure (YD ok) else pure (YD r)) (TP Y pins σ Q) Y.xe s
def WA:TT:=λ_ H Q=>Q true H
theorem Og {Y:Cx}:xR Y [] WA:=λpins s σ H Q I h=>wpAny_tests_nil ⟨H,I,h⟩
theorem M3 {Y:Cx}{c:XJ}{t:TT}(h:PT Y c t):xR Y [c] t:=λpins s σ H Q I hh=>wpAny_tests_one (h pins s σ H Q I hh)
def j9 (σ:L2.St)(n:Nat)(caps:List Nat):L2.St:=YQ n none++caps.map λi=>(σ[i]?).join
def Wk (σ' σ:L2.St):Prop:=σ'.length=σ.length/\∀ (i:Nat) v,σ'[i]? = some (some v)->σ[i]? = some (some v)
def kf (wi:TI)(g:TG)(tt:TT)(te:TE)(n:Nat)(caps:List Nat):TE:=λσ H Q=>wi σ H λJ H1=>∀ D,H1 D=none->
 ∃ W:Nat->Nat->List V->Hp->Prop,(∃ m,W 0 m [] (L2.upd H1 D (.lst [])))/\∀ i m ys H2,W i m ys H2->
  (J.stop i H2/\Q (.ref D) H2)∨(J.go i H2/\∃ N:List V->Hp->Prop,(∀ ys' H',N ys' H'->∃ m',m' < m/\W (i+1) m' ys' H')/\
   ∀ x H3,J.yld i H2 x H3->g x (j9 σ n caps) H3 λσ4 H4=>Wk (j9 σ n caps) σ4/\tt σ4 H4 λb H5=>if b=true then te σ4 H5 λy H6=>∃ zs,H6 D=some (.lst zs)/\zs.length < sizeLine/\N (zs++[y]) (L2.upd H6 D (.lst (zs++[y]))) else N ys H5)
theorem ET {prog:XO}{w:X0}{A:X8}{R:zeq->Xg->Prop}{s:Xg}{elt target iter:XJ}{ifs:List XJ}{scope:Scope}{pos:Pos}{it acc:Xe}{env:Env}(J:Nat->Xg->Prop)
  (turn:∀ n s,J n s->Xy (XF prog w) A (zaB it) (λo t₁=>match o with
   | none=>R (.ok .next) t₁
   | some v=>Xy (XF prog w) A (zbe target it v) (λ_ t₁=>Xy (XF prog w) A (zcI target env v) (λ_ t₂=>
     Xy (XF prog w) A (forIn ifs true λc r=>
      if r=true then do let ok ← isTrue c env (Yr c env);pure (YD ok) else pure (YD r)) (λok t₃=>
      if ok=true then Xy (XF prog w) A (Yr elt env) (λx t₄=>
       Xy (XF prog w) A (zcB (.builtin "list.append") [acc,x]) (λ_ t₅=>∃ m,m < n/\J m t₅) (λ_ _=>False) t₄) (λ_ _=>False) t₃
      else ∃ m,m < n/\J m t₃) (λ_ _=>False) t₂) (λ_ _=>False) t₁) (λ_ _=>False) t₁) (λ_ _=>False) s)
  (n:Nat) (h:J n s):Z3 (XF prog w) A (.compLoop (.ListComp elt [⟨target,iter,ifs,0⟩] scope pos) 0 it acc env) R s:=by
 refine codeAny_loop rfl J (λn s hJ=>?_) n h
 show Xy _ A ((compTurn (.ListComp elt [⟨target,iter,ifs,0⟩] scope pos) 0 it acc env).onRaise
  (λx=>do noteFrame x env;theTreesLotGoes x)) _ _ s
 refine wpAny_noted ?_
 rw[compTurn_list]
 refine Xb (za3 (Xb (Yt (turn n s hJ) (λr t₁ g₁=>?_) λ_ _ h'=>h'.elim)))
 cases r with
 | none=>exact Xj g₁
 | some v=>
  refine Xb (Yt g₁ (λ_ t₁' g₁'=>?_) λ_ _ h'=>h'.elim)
  refine Xb (Yt g₁' (λ_ t₂ g₂=>Xb (Yt g₂ (λok t₃ g₃=>?_) λ_ _ h'=>h'.elim)) λ_ _ h'=>h'.elim)
  cases ok with
  | false=>exact Xj ⟨rfl,g₃⟩
  | true=>
   exact Xb (Xb (Yt g₃ (λx t₄ g₄=>Xb (Yt g₄ (λ_ t₅ g₅=>Xj (Xj ⟨rfl,g₅⟩)) λ_ _ h'=>h'.elim)) λ_ _ h'=>h'.elim))
theorem jF {σ:L2.St}{n:Nat}{caps:List Nat}{i:Nat}{v:V}(h:(j9 σ n caps)[i]? = some (some v)):∃ j k,i=n+j/\caps[j]? = some k/\σ[k]? = some (some v):=by
 unfold j9 at h
 by_cases hi:i < n
 ·rw[Zn (by simpa using hi),zbW,if_pos hi] at h
  cases h
 ·rw[Z7 (by simpa using hi)] at h
  rw[zaU,Yp] at h
  cases e:caps[i - n]? with
  | none=>rw[e] at h;cases h
  | some k=>
   rw[e] at h
   have h':(σ[k]?).join=some v:=X5 h
   cases e2:σ[k]? with
   | none=>rw[e2] at h';cases h'
   | some o=>
    rw[e2] at h'
    have h'':o=some v:=h'
    subst h''
    exact ⟨i - n,k,by lia,e,e2⟩
theorem fi {env:Env}(hk:env.scope.kind=.function):∀ {names:List (Str×za7)} {x:Str},env.kindOf x=some .cell->names.lookup x=some .free->
  (names.map λ(n,k)=>if (k == Y3&&env.scope.kind == .function&&env.kindOf n == some .cell) then (n,zdm) else (n,k)).lookup x=some .cell
 | [],_,_,h=>by simp at h
 | (n,k)::r,x,hc,h=>by
  have ih:=@fi env hk r x hc
  show List.lookup x ((if (k == Y3&&env.scope.kind == .function&&env.kindOf n == some .cell)=true
   then (n,zdm) else (n,k))::_)=_
  cases hx:x == n with
  | true=>
   simp only[hx,Y0] at h
   cases h
   have e:x=n:=by simpa using hx
   subst e
   simp[Y0,hk,hc]
  | false=>
   simp only[hx,Y0] at h
   by_cases hcc:(k == Y3&&env.scope.kind == .function&&env.kindOf n == some .cell)=true
   ·rw[if_pos hcc];simp only[Y0,hx];exact ih h
   ·rw[if_neg hcc];simp only[Y0,hx];exact ih h
theorem nM {env:Env}:∀ {names:List (Str×za7)} {x:Str} {k':za7},(∀ y∈names,y.2≠.cell)->(k'=.cell∨k'=.free)->
  (x,k')∈(names.map λ(n,k)=>if (k == Y3&&env.scope.kind == .function&&env.kindOf n == some .cell) then (n,zdm) else (n,k))->(x,Y3)∈names:=by
 intro names x k' hn hk h
 obtain ⟨⟨n,k⟩,hm,e⟩:=Xh.mp h
 dsimp only at e
 split at e
 ·rename_i hc
  cases e
  have:k=.free:=by simp at hc;exact hc.1.1
  subst this;exact hm
 ·cases e
  rcases hk with rfl | rfl
  ·exact absurd rfl (hn _ hm)
  ·exact hm
theorem HX {X:Cx}{pins:List (Addr×Obj)}{σ:L2.St}{H H5:Hp}{s:Xg}{C:Addr}{h':Heap}(I:Inv X pins σ H s)(f0:H C=none)(fC:pU X pins H5 C)(hs:zaf C s.heap h'):Inv X pins σ H { s with heap:=h' }:=by
 have keep:∀ b o',b≠C->s.heap.get? b=some o'->h'.get? b=some o':=λb o' hb e'=>(hs.2 b hb).trans e'
 refine I.Oz (ch:=[C]) (s':={ s with heap:=h' }) rfl ⟨λb o' e' _ _ nx=>keep b o' (λz=>nx (by rw[z];exact Xl)) e',λb o' e' _ _ nx=>⟨o'.slots,keep b o' (λz=>nx (by rw[z];exact Xl)) e'⟩,λb o' _ w _=>w,λb o' e' nx=>⟨o',keep b o' (λz=>nx (by rw[z];exact Xl)) e'⟩,λb ys e'=>e',λb o' u e'=>e',λb ps e'=>⟨#[],by simpa using e'⟩⟩ (λb u e'=>?_) I.bare λb hb=>?_
 ·refine (I.hok b u e').nX (λc w' hc q=>keep c w' ?_ q) (λ_ q=>q) λ_ _ q=>q
  rintro rfl
  rcases hc with z | z
  ·rw[← z,f0] at e';cases e'
  ·rw[f0] at z;cases z
 ·cases X9.mp hb
  exact ⟨fC.2.2.2.1,fC.2.1,fC.2.2.2.2.1,fC.2.2.2.2.2⟩
theorem yh {X:Cx}{tg iter elt:XJ}{ifs:List XJ}{scope:Scope}{pos:Pos}{wi:TI}{g:TG}{tt:TT}{te:TE}{Nc:List Str}{n:Nat}{caps:List Nat}
  (hxe:X.xe=λ_ _=>False) (hcalm:X.calm=true) (hi:PI X tg iter wi)
  (hbody:∀ (cl:List (Str×Addr)) (C:Addr) (s₀:Xg) (H₀:Hp) (ex:List Addr),PG (ba X scope Nc cl C s₀ H₀ ex) tg g/\xR (ba X scope Nc cl C s₀ H₀ ex) ifs tt/\PE (ba X scope Nc cl C s₀ H₀ ex) elt te)
  (hfree:∀ y∈scope.names,y.2=.free->X.env.kindOf y.1=some .cell) (hcell:∀ y∈scope.names,y.2≠.cell) (fS:scope.kind=.function)
  (hnames:∀ y∈scope.names,y.2=.local->scope.names.lookup y.1=some .local) (hlen:Nc.length=n+caps.length)
  (hcap:∀ (j k:Nat),caps[j]? = some k->∃ x,Nc[n+j]? = some x/\X.N[k]? = some x/\scope.names.lookup x=some .free)
  {use:Option (Xe->Sem Unit)} {Qv:Xe->Xg->Prop} {pins:List (Addr×Obj)} {s:Xg} {σ:L2.St} {H:Hp} {Q:VK} {ps:Pos} (I:Inv X pins σ H s) (h:kf wi g tt te n caps σ H Q)
  (hfin:∀ (D C:Addr) (s5:Xg) (H5:Hp) (m:Str->Option Xe),Inv X pins σ H5 s5->pU X pins H5 C->s5.heap.Ns C m->Q (.ref D) H5->zfb (XF X.prog X.w) X.A (λ_ _=>False) use Qv (.ref D) C (.ok .next) s5)
  (hs:∀ x,X6 iter X.env x=pure x:=by intro _;rfl) :
  Xy (XF X.prog X.w) X.A (comprehension (.ListComp elt [⟨tg,iter,ifs,0⟩] scope pos) scope X.env ps (newList []) false (Yr iter X.env) use) Qv (λ_ _=>False) s:=by
 obtain ⟨cl,hclos,clin,clfree⟩:=BF (scope:=scope) (env:=X.env) λy hy hf=>I.ok.has y.1 (.inl (hfree y hy hf))
 refine wpAny_comprehension_free (use:=use) rfl hs hclos fS hnames ?_
 have hi':=hi pins s σ H _ I h
 rw[hxe] at hi'
 refine Yt hi' (λxv s1 h1=>Yt h1 (λitv s2 h2=>?_) λ_ _ z=>z) λ_ _ z=>z
 obtain ⟨it,fp,tn,J,H1,rfl,I2,T,st2,f2,hh⟩:=h2
 -- the new list
 refine Ye ?_
 have hD:H1 s2.heap.objs.size=none:=I2.hok.fresh (Xq _)
 obtain ⟨W,⟨m0,w0⟩,turn⟩:=hh _ hD
 have I3:Inv X pins σ (L2.upd H1 s2.heap.objs.size (.lst [])) { s2 with heap:=s2.heap.push { cls:=.type "list", dict:=none,data:=.seq ([]:List Xe).toArray } }:=
  I2.laid (t':=s2.toks) (λb u e=>Xd _ e) (Xq _) ⟨Yu _,[],0,.nil,Xw _ rfl⟩
 have k3:∀ b u,s2.heap.get? b=some u->(s2.heap.push { cls:=.type "list", dict:=none,data:=.seq ([]:List Xe).toArray }).get? b=some u:=λb u e=>Xd _ e
 have fne:∀ b∈fp,b≠s2.heap.objs.size:=λb hb=>by
  obtain ⟨o,ho,_⟩:=T.obj 0 _ st2 b hb
  exact XI (Xs ho)
 generalize eD:s2.heap.objs.size=D at *
 generalize eh3:s2.heap.push { cls:=.type "list", dict:=none,data:=.seq ([]:List Xe).toArray }=h3 at *
 generalize eH3:L2.upd H1 D (.lst [])=H3 at *
 have st3:tn 0 h3:=T.keep 0 _ _ st2 λb hb o e=>k3 b o e
 have f3:∀ b∈fp,pU X pins H3 b:=λb hb=>⟨by rw[← eH3,aJ (fne b hb)];exact (f2 b hb).1,(f2 b hb).2⟩
 have lt3:∀ b∈fp,b < h3.objs.size:=λb hb=>by
  obtain ⟨o,ho,_⟩:=T.obj 0 _ st3 b hb
  exact Xs ho
 generalize es3:({ s2 with heap:=h3 }:Xg)=s3 at *
 have hs3:s3.heap=h3:=by rw[← es3]
 refine wpAny_newFunctionEnv hcell (λy hy=>(by cases hy)) (λh4 hns hsb=>?_) fS
 show Z3 _ _ (.compStart _ 0 (.ref it) (.ref D) (zfa scope cl s3.heap.objs.size X.env)) (zfb _ _ _ _ _ (.ref D) s3.heap.objs.size) _
 have k4:∀ b u,s3.heap.get? b=some u->h4.get? b=some u:=λb u e=>hsb.extBut b u (XI (Xs e)) (Xd _ e)
 have okY:(ba X scope Nc cl s3.heap.objs.size s3 H3 fp).Ok:=by
  refine ⟨I3.ok.mod,fS,I3.ok.glob,I3.ok.blt,Xq _,λx y c e1 e2=>I3.ok.inj x y c (clin _ _ e1) (clin _ _ e2),λx hx=>?_,λx c hf=>(by cases hf),I3.ok.hd,I3.ok.frames,.inl rfl,λb hb=>⟨?_,λx c e z=>?_⟩,I3.bs,Yd I3.ok.bsz I3.sz,λb o e hb=>?_,λb hb hz=>?_,I3.stack,I3.Cy⟩
  ·have hx':(relabel scope X.env).names.lookup x=some .cell∨(relabel scope X.env).names.lookup x=some .free:=hx
   have hm:(x,Y3)∈scope.names:=by
    rcases hx' with q | q
    ·exact nM hcell (.inl rfl) (Yw q)
    ·exact nM hcell (.inr rfl) (Yw q)
   exact clfree _ hm rfl
  ·show b≠s3.heap.objs.size
   rw[hs3];exact XI (lt3 b hb)
  ·exact (f3 b hb).2.2.2.2.1 x c (clin _ _ e) z
  ·rcases (f3 b hb).2.2.2.1 with z | z
   ·exact I3.ok.Jf b o e z
   ·exact absurd (XG (Xs e) (Yd I3.ok.bsz z)) (Zx _)
  ·rcases Xr.mp (I3.zY b hz) with z | z
   ·exact (f3 b hb).2.1 z
   ·exact (f3 b hb).2.2.1 z
 have Tu:∀ c v,s3.heap.IsCell c v->h4.IsCell c v:=λc v ⟨o,ho,hd⟩=>⟨o,k4 c o ho,hd⟩
 have J0:Inv (ba X scope Nc cl s3.heap.objs.size s3 H3 fp) [] (j9 σ n caps) H3 { s3 with heap:=h4,toks:=s3.toks+([]:List (Str×Xe)).length }:=by
  refine ⟨okY,rfl,I3.bare,Un.kept k4,⟨_,hns,λi x v e1 e2 e3=>?_⟩,λx c e=>?_,I3.hok.fresh (Xq _),λx c e=>I3.jw x c (clin _ _ e),(λp hp=>(by cases hp)),I3.hok.kept k4,?_⟩
  ·obtain ⟨j,k,rfl,ej,ek⟩:=jF e2
   obtain ⟨x',n1,n2,n3⟩:=hcap j k ej
   have e1':Nc[n+j]? = some x:=e1
   rw[n1] at e1';cases e1'
   have hmem:(x,Y3)∈scope.names:=Yw n3
   have hcellx:X.env.kindOf x=some .cell:=hfree _ hmem rfl
   obtain ⟨m,hn,hl⟩:=I3.loc
   obtain ⟨u,ru,lk⟩:=hl k x v n2 ek (.inr (.inl hcellx))
   refine ⟨u,ru,.inr ⟨.inl (fi I3.ok.kind hcellx n3),?_⟩⟩
   rcases lk with ⟨q,_⟩ | ⟨_,c,ec,ic⟩
   ·rw[hcellx] at q;cases q
   ·obtain ⟨c',ec'⟩:=clfree _ hmem rfl
    have:=clin _ _ ec'
    rw[ec] at this;cases this
    exact ⟨c,ec',Tu _ _ ic⟩
  ·obtain ⟨v,q⟩:=I3.cell x c (clin _ _ e)
   exact ⟨v,Tu _ _ q⟩
  ·unfold j9
   show _=Nc.length
   rw[Xo,zaU,Xc,hlen]
 obtain ⟨pg,pifs,pelt⟩:=hbody cl s3.heap.objs.size s3 H3 fp
 generalize eY:ba X scope Nc cl s3.heap.objs.size s3 H3 fp=Y at *
 have yP:Y.prog=X.prog:=by rw[← eY];rfl
 have yw:Y.w=X.w:=by rw[← eY];rfl
 have yK:Y.K=X.K:=by rw[← eY];rfl
 have yA:Y.A=X.A:=by rw[← eY];rfl
 have yx:Y.xe=λ_ _=>False:=by rw[← eY];exact hxe
 have yc:Y.calm=true:=by rw[← eY];exact hcalm
 have ye:Y.env=zfa scope cl s3.heap.objs.size X.env:=by rw[← eY];rfl
 have yfs:Y.fs=frs X.stack:=by rw[← eY];rfl
 have yex:Y.ex=fp:=by rw[← eY];rfl
 have ys0:Y.s₀=s3:=by rw[← eY];rfl
 have yH0:Y.H₀=H3:=by rw[← eY];rfl
 have ypn:Y.pn=[]:=by rw[← eY];rfl
 have BI:∀ {H':Hp},(∀ b∈fp,H' b=none)->∀ b∈fp,pU Y [] H' b:=λhn b hb=>⟨hn b hb,by rw[ye];show b≠s3.heap.objs.size;rw[hs3];exact XI (lt3 b hb),okY.Hw b (by rw[yex];exact hb),.inl (by rw[yex];exact hb),
  λx c e=>by rw[ye] at e;exact (f3 b hb).2.2.2.2.1 x c (clin _ _ e),λp hp=>by rw[ypn] at hp;exact nomatch hp⟩
 have tn4:∀ t,tn 0 ({ s3 with heap:=h4,toks:=t }:Xg).heap:=λt=>T.keep 0 _ _ st3 λb hb o e=>k4 b o (by rw[hs3];exact e)
 -- the end
 have fin:∀ (s5:Xg) (H5:Hp),Inv Y [] (j9 σ n caps) H5 s5->Q (.ref D) H5->zfb (XF X.prog X.w) X.A (λ_ _=>False) use Qv (.ref D) s3.heap.objs.size (.ok .next) s5:=λs5 H5 I5 q5=>by
  obtain ⟨m,hn,_⟩:=I5.loc
  rw[ye] at hn
  have un:=I5.base
  rw[yfs,yex,yH0,ys0] at un
  have hfreeC0:=I5.free
  rw[ye] at hfreeC0
  have hfreeC:H5 s3.heap.objs.size=none:=hfreeC0
  have hok5:=I5.hok
  rw[yP,yw] at hok5
  have I5X:Inv X pins σ H5 s5:=I3.Oz (ch:=fp) (s':=s5) (by have:=I5.os;rw[ys0] at this;exact this) un hok5 I5.bare λb hb=>⟨(f3 b hb).2.2.2.1,(f3 b hb).2.1,(f3 b hb).2.2.2.2.1,(f3 b hb).2.2.2.2.2⟩
  exact hfin _ _ s5 H5 m I5X (I3.EA (Xq _) hfreeC) hn q5
 have loop:Z3 (XF X.prog X.w) X.A (.compLoop (.ListComp elt [⟨tg,iter,ifs,0⟩] scope pos) 0 (.ref it) (.ref D) (zfa scope cl s3.heap.objs.size X.env)) (zfb (XF X.prog X.w) X.A (λ_ _=>False) use Qv (.ref D) s3.heap.objs.size)
   { s3 with heap:=h4,toks:=s3.toks+([]:List (Str×Xe)).length }:=by
  refine ET (λk s'=>∃ i ys H',Inv Y [] (j9 σ n caps) H' s'/\tn i s'.heap/\(∀ b∈fp,H' b=none)/\W i k ys H') ?_ m0 ⟨0,[],H3,J0,tn4 _,λb hb=>(f3 b hb).1,w0⟩
  rintro k s5 ⟨i,ys,H5,I5,st5,fr5,w5⟩
  rcases turn i k ys H5 w5 with ⟨stop,q⟩ | ⟨go,N,hN,step⟩
  ·have d:=T.done Y yP yw yK yc i [] s5 _ H5 (λ_ _=>False) I5 (BI fr5) st5 stop
   rw[yA] at d
   refine thn d λr s6 ⟨hr,I6⟩=>?_
   subst hr
   exact fin s6 H5 I6 q
  ·have d:=T.item Y yP yw yK yc i [] s5 _ H5 (λ_ _=>False) I5 (BI fr5) st5 go
   rw[yA] at d
   refine thn d λr s6 ⟨u,hr,h6⟩=>?_
   subst hr
   refine thn h6 λ_ s7 ⟨x,H7,I7,r7,y7,st7,fr7⟩=>?_
   have I7':=I7.pinned (BI fr7) (T.obj _ _ st7)
   have a:=pg _ s7 _ H7 x u _ I7' r7 (step x H7 y7)
   rw[yP,yw,yA,yx,ye] at a
   refine thn a λ_ s8 ⟨σ8,H8,I8,wk,q8⟩=>?_
   have b:=pifs _ s8 σ8 H8 _ I8 q8
   rw[yP,yw,yA,yx,ye] at b
   have again:∀ {s9:Xg} {ys9:List V} {H9:Hp},Inv Y ([]++qf fp s7.heap) σ8 H9 s9->N ys9 H9->∃ m,m < k/\∃ i ys H',Inv Y [] (j9 σ n caps) H' s9/\tn i s9.heap/\(∀ b∈fp,H' b=none)/\W i m ys H':=λ{s9 ys9 H9} I9 n9=>by
    obtain ⟨m',hm,w9⟩:=hN ys9 H9 n9
    have hp:∀ b∈fp,∀ o,s7.heap.get? b=some o->s9.heap.get? b=some o/\H9 b=none:=λb hb o e=>
     ⟨(I9.pin (b,o) (XM _ (XM _ (fZ hb e)))).1,(I9.pin (b,o) (XM _ (XM _ (fZ hb e)))).2.1⟩
    refine ⟨m',hm,i+1,ys9,H9,I9.jg.weak wk.1 wk.2,T.keep _ _ _ st7 λb hb o e=>(hp b hb o e).1,λb hb=>?_,w9⟩
    obtain ⟨o,e,_⟩:=T.obj _ _ st7 b hb
    exact (hp b hb o e).2
   refine thn b λok s9 ⟨H9,I9,q9⟩=>?_
   cases ok with
   | false=>
    rw[if_neg ZJ] at q9 ⊢
    exact again I9 q9
   | true=>
    rw[if_pos rfl] at q9 ⊢
    have c:=pelt _ s9 σ8 H9 _ I9 q9
    rw[yP,yw,yA,yx,ye] at c
    refine thn c λv s10 ⟨y,H10,I10,r10,zs,ez,lz,n10⟩=>?_
    have d:=uG (X:=Y) _ s10 σ8 H10 (.ref D) [y] (.ref D) [v] (λ_ H'=>N (zs++[y]) H') I10 rfl (.cons r10 .nil) ⟨D,zs,y,rfl,rfl,ez,lz,n10⟩
    rw[yP,yw,yA,yx] at d
    exact thn d λ_ s11 ⟨_,H11,I11,_,q11⟩=>again I11 q11
 refine codeAny_compStart_list loop ?_
 exact T.self X.A 0 _ _ _ (tn4 _) loop
theorem Dj {X:Cx}{tg iter elt:XJ}{ifs:List XJ}{scope:Scope}{pos:Pos}{wi:TI}{g:TG}{tt:TT}{te:TE}{Nc:List Str}{n:Nat}{caps:List Nat}
  (hxe:X.xe=λ_ _=>False) (hcalm:X.calm=true) (hi:PI X tg iter wi)
  (hbody:∀ (cl:List (Str×Addr)) (C:Addr) (s₀:Xg) (H₀:Hp) (ex:List Addr),PG (ba X scope Nc cl C s₀ H₀ ex) tg g/\xR (ba X scope Nc cl C s₀ H₀ ex) ifs tt/\PE (ba X scope Nc cl C s₀ H₀ ex) elt te)
  (hfree:∀ y∈scope.names,y.2=.free->X.env.kindOf y.1=some .cell) (hcell:∀ y∈scope.names,y.2≠.cell) (fS:scope.kind=.function)
  (hnames:∀ y∈scope.names,y.2=.local->scope.names.lookup y.1=some .local) (hlen:Nc.length=n+caps.length)
  (hcap:∀ (j k:Nat),caps[j]? = some k->∃ x,Nc[n+j]? = some x/\X.N[k]? = some x/\scope.names.lookup x=some .free)
  (hs:∀ x,X6 iter X.env x=pure x:=by intro _;rfl) :
  PE X (.ListComp elt [⟨tg,iter,ifs,0⟩] scope pos) (kf wi g tt te n caps):=by
 intro pins s σ H Q I h
 rw[hxe,eval_ListComp]
 exact yh hxe hcalm hi hbody hfree hcell fS hnames hlen hcap (use:=none) I h (λD C s5 H5 m I5 fC hn q=>⟨m,hn,λh6 hs6=>⟨.ref D,H5,HX I5 fC.1 fC hs6,rfl,q⟩⟩) hs
theorem xC {X:Cx}{tg iter elt:XJ}{ifs:List XJ}{scope:Scope}{pos spos py:Pos}{y:Str}{iy:Nat}{wi:TI}{g:TG}{tt:TT}{te:TE}{Nc:List Str}{n:Nat}{caps:List Nat}{Z:TE->TE}
  (hxe:X.xe=λ_ _=>False) (hcalm:X.calm=true) (hi:PI X tg iter wi)
  (hbody:∀ (cl:List (Str×Addr)) (C:Addr) (s₀:Xg) (H₀:Hp) (ex:List Addr),PG (ba X scope Nc cl C s₀ H₀ ex) tg g/\xR (ba X scope Nc cl C s₀ H₀ ex) ifs tt/\PE (ba X scope Nc cl C s₀ H₀ ex) elt te)
  (hfree:∀ y∈scope.names,y.2=.free->X.env.kindOf y.1=some .cell) (hcell:∀ y∈scope.names,y.2≠.cell) (fS:scope.kind=.function)
  (hnames:∀ y∈scope.names,y.2=.local->scope.names.lookup y.1=some .local) (hlen:Nc.length=n+caps.length)
  (hcap:∀ (j k:Nat),caps[j]? = some k->∃ x,Nc[n+j]? = some x/\X.N[k]? = some x/\scope.names.lookup x=some .free)
  (pgy:PG X (.Name y py) (lO iy))
  (hsw:Zq (.ListComp elt [⟨tg,iter,ifs,0⟩] scope pos) (some (.Name y py)) spos.line X.env=pure true)
  (hz:∀ (σ:L2.St) (H:Hp) (Q:VK),Z (kf wi g tt te n caps) σ H Q->∃ Q',kf wi g tt te n caps σ H Q'/\∀ pins D H5 s5,Inv X pins σ H5 s5->Q' (.ref D) H5->∃ H6,(∀ b,H5 b=none->H6 b=none)/\Inv X pins σ H6 s5/\Q (.ref D) H6)
  (hs:∀ x,X6 iter X.env x=pure x:=by intro _;rfl) :
  PS X (.Assign [.Name y py] (.ListComp elt [⟨tg,iter,ifs,0⟩] scope pos) spos) (J7 (Z (kf wi g tt te n caps)) (lO iy)):=by
 intro pins s σ H E' I h
 rw[hxe]
 rewrite [exec_Assign_Name_used _ _ _ _ hsw]
 refine Xb (za3 ?_)
 refine Xb ?_
 refine (show Xy _ X.A (do let _ ← comprehension (.ListComp elt [⟨tg,iter,ifs,0⟩] scope pos) scope X.env _ (newList []) false (Yr iter X.env) (some (zcI (.Name y py) X.env))) _ _ s from ?_)
 obtain ⟨Q',h',hq⟩:=hz σ H _ h
 refine Xb (Yt (yh hxe hcalm hi hbody hfree hcell fS hnames hlen hcap (use:=some (zcI (.Name y py) X.env)) (Qv:=λ_ s'=>SP X pins E' .next s') I h' (λD C s5 H5 m I5 fC hn q=>?_) hs) (λ_ s' hq=>Xj (Xj hq)) λ_ _ e=>e)
 obtain ⟨H6,fr,I6,q6⟩:=hq pins D H5 s5 I5 q
 have f0:=fr C fC.1
 have fC6:pU X pins H6 C:=⟨f0,fC.2⟩
 obtain ⟨oC,gC,dC⟩:∃ oC,s5.heap.get? C=some oC/\∀ v,oC.data≠.cell v:=by
  obtain ⟨oC,es,ep,ho,hd,_⟩:=hn
  exact ⟨oC,ho,λv z=>by rw[hd] at z;cases z⟩
 have I5P:=I6.pinned (fp:=[C]) (λb hb=>by cases X9.mp hb;exact fC6) (λb hb=>by cases X9.mp hb;exact ⟨oC,gC,dC⟩)
 have as:=pgy _ s5 σ _ (.ref D) (.ref D) E'.nx I5P rfl q6
 rw[hxe] at as
 refine thn as λ_ s6 ⟨σ6,H7,I7,n7⟩=>?_
 obtain ⟨g7,f7,_⟩:=I7.pin (C,oC) (XM _ (XM _ (fZ Xl gC)))
 exact ⟨m,hn.at' (λo' e'=>by have e'':s5.heap.get? C=some o':=e';rw[gC] at e'';cases e'';exact g7),λh8 hs8=>⟨σ6,H7,HX I7.jg f7 fC6 hs8,n7⟩⟩
end
section
open PySem.Spec PyProof.Rows L2
structure Gm (K:Xa) (J:It) (H1:Hp) (ds:List D):Prop where
 go:∀ i H',Tk H1 H'->i < ds.length->J.go i H'
 yld:∀ i H' x H'',Tk H1 H'->i < ds.length->J.yld i H' x H''->Tk H' H''/\(∃ d,ds[i]? = some d/\Dp K H'' x d)/\∀ μ,bL K H' μ->bL K H'' μ
 stop:∀ i H',Tk H1 H'->ds.length<=i->J.stop i H'
def Rx (K:Xa)(wi:TI)(It':ATr):Prop:=∀ σ H ρ μ (Q:List D->Mu->Prop) (R:It->Hp->Prop),Rl K σ H ρ μ->It' ρ μ Q->(∀ J H1 ds μ1,Tk H H1->bL K H1 μ1->Gm K J H1 ds->Q ds μ1->R J H1)->wi σ H R
structure LI (X:Cx) (tg iter:XJ) (It':ATr):Prop where
 ex:∃ wi,PI X tg iter wi/\Rx X.K wi It'
section
variable {X:Cx} {tg a b c e elt iter:XJ} {Ta Tb Te:ETr} {Tt:TTr} {pos:Pos} {It':ATr} {G:GTr}
theorem FR {K:Xa}{H:Hp}{p:Addr}{xs:List V}{ds:List D}(q:SqT K H p xs)(l:DpL K H xs ds):Gm K (Itt K p) H ds where
 go:=λi H' t hi=>by
  have hl:=l.length
  exact ⟨xs,xs[i],t.sqT q,by simp[show i < xs.length by lia]⟩
 yld:=λi H' x H'' t hi ⟨e,y⟩=>by
  subst e
  have ex:=y xs (t.sqT q)
  obtain ⟨d,ed,p⟩:=l.get' ex
  exact ⟨.refl _,⟨d,ed,p.mono t⟩,λ_ m=>m⟩
 stop:=λi H' t hi=>⟨xs,t.sqT q,by rw[l.length];exact hi⟩
theorem Md {K:Xa}{H:Hp}{p:Addr}{xs:List V}{ds:List D}(q:SqF K H p xs)(l:DpL K H xs ds):Gm K (Itl K p) H ds where
 go:=λi H' t hi=>by
  have hl:=l.length
  exact ⟨xs,xs[i],(t.sqF q).sq,by simp[show i < xs.length by lia]⟩
 yld:=λi H' x H'' t hi ⟨e,y⟩=>by
  subst e
  have ex:=y xs (t.sqF q).sq
  obtain ⟨d,ed,p⟩:=l.get' ex
  exact ⟨.refl _,⟨d,ed,p.mono t⟩,λ_ m=>m⟩
 stop:=λi H' t hi=>⟨xs,(t.sqF q).sq,by rw[l.length];exact hi⟩
theorem dX (lo:Int)(n:Nat):(c5 lo n).length=n:=by unfold c5;simp
theorem Ha {K:Xa}{H:Hp}(lo:Int)(n:Nat):Gm K (Itr lo n) H (c5 lo n) where
 go:=λi H' t hi=>by rw[dX] at hi;exact hi
 yld:=λi H' x H'' t hi ⟨e,y⟩=>by
  rw[dX] at hi
  subst e y
  exact ⟨.refl _,⟨.int (lo+i),by unfold c5;simp[hi],.int _⟩,λ_ m=>m⟩
 stop:=λi H' t hi=>by rw[dX] at hi;exact hi
def TZ (a:ETr):ATr:=λρ μ Q=>a ρ μ λx μ1=>match x with
 | .tup ds=>Q ds μ1
 | _=>False
def ILs (a:ETr):ATr:=λρ μ Q=>a ρ μ λx μ1=>match x with
 | .ls ds=>Q ds μ1
 | _=>False
theorem um {rp rpos:Pos}(hg:Gl X "range")(hm:X.mg "range" = none)(ha:LE X a Ta)(hs:Xt [a] X.env=[(false,Yr a X.env)]:=by rfl):LI X tg (.Call (.Name "range" rp) [a] [] rpos) (iQ Ta):=by
 obtain ⟨ta,pa,sa⟩:=ha.ex
 refine ⟨_,Ee hg hm (eA pa iT hs) hs,λσ H ρ μ Q R rl h k=>sa σ H ρ μ _ _ rl h λx H1 d μ1 t1 m1 p1 h1=>?_⟩
 cases p1 with
 | int j=>
  obtain ⟨⟨h2,h3⟩,h4⟩:=h1
  exact ⟨j,rfl,by simpa using h2,by simpa using h3,k _ H1 _ μ1 t1 m1 (Ha 0 _) h4⟩
 | _=>exact Xi h1
theorem Vn {t1:TS}{T1:STr}{g:TG}{E:En}{E':Ends}{K:Xa}{H0 H1:Hp}{J:It}{ds:List D}(sg:Rf K g G)(s1:My K t1 T1)(k:Ke K H0 E E')(Y:Gm K J H1 ds){σ:L2.St}{ρ:ST}{μ:Mu}(t0:Tk H0 H1)(rl:Rl K σ H1 ρ μ)(h:forR G T1 E ds ρ μ) :
  ∃ W:Nat->Nat->L2.St->Hp->Prop,(∃ m,W 0 m σ H1)/\∀ i m σ H,W i m σ H->
   (J.stop i H/\E'.nx σ H)∨(J.go i H/\∃ N:L2.St->Hp->Prop,(∀ σ' H',N σ' H'->∃ m',m' < m/\W (i+1) m' σ' H')/\∀ x H',J.yld i H x H'->g x σ H' λσ2 H2=>t1 { E' with nx:=N,ct:=N,bk:=E'.nx } σ2 H2):=by
 refine ⟨λi m σ' H'=>m=ds.length - i/\i<=ds.length/\Tk H1 H'/\∃ ρ' μ',Rl K σ' H' ρ' μ'/\forR G T1 E (ds.drop i) ρ' μ',⟨ds.length,by simp,Yu _,.refl _,ρ,μ,rl,by simpa using h⟩,?_⟩
 rintro i m σ1 H2 ⟨rfl,hi,t12,ρ1,μ1,r1,h1⟩
 by_cases hlt:i < ds.length
 ·refine .inr ⟨Y.go i H2 t12 hlt,λσ' H'=>Tk H1 H'/\∃ ρ' μ',Rl K σ' H' ρ' μ'/\forR G T1 E (ds.drop (i+1)) ρ' μ',λσ' H' ⟨t',ρ',μ',r',h'⟩=>⟨ds.length - (i+1),by lia,rfl,hlt,t',ρ',μ',r',h'⟩,λx H3 y=>?_⟩
  obtain ⟨t23,⟨d,ed,pd⟩,mk⟩:=Y.yld i H2 x H3 t12 hlt y
  have e:ds.drop i=d::ds.drop (i+1):=by
   refine (YX hlt).trans ?_
   congr 1
   rw[Xx hlt] at ed
   exact X5 ed
  rw[e] at h1
  have t13:=t12.trans t23
  refine sg σ1 H3 ρ1 μ1 _ _ _ _ (r1.go t23 (mk _ r1.mu)) pd h1 λσ4 H4 ρ4 μ4 t4 r4 h4=>?_
  have t14:=t13.trans t4
  have t04:=t0.trans t14
  exact s1 σ4 H4 ρ4 μ4 _ _ r4 h4 ⟨λσ' H' ρ' μ' t' r' q=>⟨t14.trans t',ρ',μ',r',q⟩,(k.go t04).rt,(k.go t04).nx,λσ' H' ρ' μ' t' r' q=>⟨t14.trans t',ρ',μ',r',q⟩⟩
 ·have e:i=ds.length:=by lia
  subst e
  rw[ZE] at h1
  exact .inl ⟨Y.stop _ H2 t12 (Xq _),k.nx _ _ _ _ (t0.trans t12) r1 h1⟩
theorem fc {body:List Stmt}{T1:STr}(hp:zeo (XF X.prog X.w) X.A X.env X.xe)(hc:X.calm=true)(hi:LI X tg iter It')(hG:LG X tg G)(hb:LSs X body T1)(hf:∀ x,X6 iter X.env x=pure x:=by intro _;rfl) :
  LS X (.For tg iter body [] pos) (jC It' G T1):=by
 obtain ⟨wi,pi,si⟩:=hi.ex
 obtain ⟨g,pg,sg⟩:=hG.ex
 obtain ⟨t1,p1,s1⟩:=hb.ex
 exact ⟨_,PL hp hc pi pg p1 hf,λσ H ρ μ E E' rl h k=>si σ H ρ μ _ _ rl h λJ H1 ds μ1 t1' m1 Y h1=>Vn sg s1 k Y t1' (rl.go t1' m1) h1⟩
def lC (K:Xa)(T:ETr):TE:=λσ H Q'=>∃ ρ μ Q,Rl K σ H ρ μ/\T ρ μ Q/\ja K H Q Q'
def liftT (K:Xa)(T:TTr):TT:=λσ H Q'=>∃ ρ μ Q,Rl K σ H ρ μ/\T ρ μ Q/\∀ b H' μ',Tk H H'->bL K H' μ'->Q b μ'->Q' b H'
abbrev OO (K:Xa)(n:Nat)(σ:L2.St)(H:Hp)(k:ST->Mu->Prop)(k':L2.St->Hp->Prop):Prop:=∀ σ' H' ρ' μ',Tk H H'->Rl K σ' H' ρ' μ'->(σ'.length=σ.length/\∀ j,n<=j->σ'[j]? = σ[j]?)->k ρ' μ'->k' σ' H'
def lV (K:Xa)(n:Nat)(G:GTr):TG:=λv σ H k'=>∃ ρ μ d k,Rl K σ H ρ μ/\Dp K H v d/\G d ρ μ k/\OO K n σ H k k'
theorem LE.pe (h:LE X e Te):PE X e (lC X.K Te):=by
 obtain ⟨t,p,s⟩:=h.ex
 exact λpins st σ H Q I ⟨ρ,μ,Q0,rl,hT,k⟩=>p pins st σ H Q I (s σ H ρ μ Q0 Q rl hT k)
structure yn (X:Cx) (ifs:List XJ) (Tt:TTr):Prop where
 pe:xR X ifs (liftT X.K Tt)
theorem bH:yn X [] dW:=⟨λpins s σ H Q I ⟨ρ,μ,Q0,rl,hT,k⟩=>Og pins s σ H Q I (k true H μ (.refl H) rl.mu hT)⟩
theorem eR (h:LT X c Tt):yn X [c] Tt:=by
 obtain ⟨t,p,s⟩:=h.ex
 exact ⟨λpins st σ H Q I ⟨ρ,μ,Q0,rl,hT,k⟩=>M3 p pins st σ H Q I (s σ H ρ μ Q0 Q rl hT k)⟩
structure LGc (X:Cx) (n:Nat) (tg:XJ) (G:GTr):Prop where
 pe:PG X tg (lV X.K n G)
theorem bj {x:Str}{n:Nat}(i:Nat)(hN:X.N.Nodup)(hin:i < n:=by decide)(hi:X.N[i]? = some x:=by rfl)(hx:Loc X.env.scope x:=by first | exact zaQ rfl | exact zaR rfl)(hf:X.fn x=true∨X.env.scope.names.lookup x=some .local:=by first | exact .inr rfl | exact .inl rfl | assumption):LGc X n (.Name x pos) (av i):=
 ⟨λpins s σ H v u k' I r ⟨ρ,μ,d,k,rl,p,h,post⟩=>iU hN hi hx hf pins s σ H v u k' I r (post _ H _ μ (.refl H) (rl.set p i) ⟨by simp,λj hj=>by rw[Zt (by lia)]⟩ h)⟩
theorem oZ {K:Xa}{σ:L2.St}{H:Hp}{ρ:ST}{μ:Mu}(rl:Rl K σ H ρ μ)(n:Nat)(caps:List Nat):Rl K (j9 σ n caps) H (eL ρ n caps) μ:=by
 refine ⟨by unfold j9 eL;simp,λi d e=>?_,rl.mu⟩
 have gen:∀ (n i:Nat),lk (YQ n none++caps.map (lk ρ)) i=some d->∃ j,i=n+j/\∃ k,caps[j]? = some k/\lk ρ k=some d:=by
  intro n
  induction n with
  | zero=>
   intro i h
   have h':lk (caps.map (lk ρ)) i=some d:=by simpa using h
   have g2:∀ (cs:List Nat) (i:Nat),lk (cs.map (lk ρ)) i=some d->∃ k,cs[i]? = some k/\lk ρ k=some d:=by
    intro cs
    induction cs with
    | nil=>intro i h;cases i<;>cases h
    | cons c r ih=>intro i h;cases i with
     | zero=>exact ⟨c,rfl,h⟩
     | succ i=>simpa using ih i h
   exact ⟨i,by lia,g2 caps i h'⟩
  | succ n ih=>
   intro i h
   cases i with
   | zero=>cases h
   | succ i=>
    obtain ⟨j,rfl,k,h1,h2⟩:=ih i h
    exact ⟨j,by lia,k,h1,h2⟩
 obtain ⟨j,rfl,k,h1,h2⟩:=gen n i e
 obtain ⟨v,h3,h4⟩:=rl.loc k d h2
 refine ⟨v,?_,h4⟩
 unfold j9
 rw[Z7 (by simp)]
 simp[h1,h3]
theorem Nx {ifs:List XJ}{scope:Scope}{Nc:List Str}{n:Nat}{caps:List Nat}(hxe:X.xe=λ_ _=>False)(hcalm:X.calm=true)(hi:LI X tg iter It')
  (hbody:∀ (cl:List (Str×Addr)) (C:Addr) (s₀:Xg) (H₀:Hp) (ex:List Addr),LGc (ba X scope Nc cl C s₀ H₀ ex) n tg G/\yn (ba X scope Nc cl C s₀ H₀ ex) ifs Tt/\LE (ba X scope Nc cl C s₀ H₀ ex) elt Te)
  (hfree:∀ y∈scope.names,y.2=.free->X.env.kindOf y.1=some .cell) (hcell:∀ y∈scope.names,y.2≠.cell) (fS:scope.kind=.function)
  (hnames:∀ y∈scope.names,y.2=.local->scope.names.lookup y.1=some .local) (hlen:Nc.length=n+caps.length)
  (hcap:∀ (j k:Nat),caps[j]? = some k->∃ x,Nc[n+j]? = some x/\X.N[k]? = some x/\scope.names.lookup x=some .free)
  (hs:∀ x,X6 iter X.env x=pure x:=by intro _;rfl) :
  LE X (.ListComp elt [⟨tg,iter,ifs,0⟩] scope pos) (bQ It' G Tt Te n caps):=by
 obtain ⟨wi,pi,si⟩:=hi.ex
 refine ⟨_,kG (Dj (g:=lV X.K n G) (tt:=liftT X.K Tt) (te:=lC X.K Te) hxe hcalm pi (λcl C s₀ H₀ ex=>let ⟨h1,h2,h3⟩:=hbody cl C s₀ H₀ ex;⟨h1.pe,h2.pe,h3.pe⟩) hfree hcell fS hnames hlen hcap hs),?_⟩
 intro σ H ρ μ Q Q' rl h k
 refine si σ H ρ μ _ _ rl h λJ H1 ds μ1 t1 m1 Y h1 D hD=>?_
 have hp:=h1 D (m1.free hD)
 have tD:Tk H1 (L2.upd H1 D (.lst [])):=.new hD
 have mD:bL X.K (L2.upd H1 D (.lst [])) (up μ1 D (.lst [])):=λa o e=>by
  by_cases ha:a=D
  ·subst ha
   rw[ay] at e;cases e
   exact ⟨[],aK,.nil⟩
  ·rw[aE ha] at e
   exact c6 m1 hD a o e
 refine ⟨λi m ys H2=>m=ds.length - i/\i<=ds.length/\Tk H1 H2/\∃ μ2,bL X.K H2 μ2/\fj D G Tt Te (eL ρ n caps) (λμ'=>kL μ' D λzs=>Q (.ls zs) (dn μ' D)) (ds.drop i) μ2,
  ⟨ds.length,by simp,Yu _,tD,_,mD,by simpa using hp⟩,?_⟩
 rintro i m ys H2 ⟨rfl,hi,t12,μ2,m2,h2⟩
 by_cases hlt:i < ds.length
 ·refine .inr ⟨Y.go i H2 t12 hlt,λys' H'=>Tk H1 H'/\∃ μ',bL X.K H' μ'/\fj D G Tt Te (eL ρ n caps) (λμ'=>kL μ' D λzs=>Q (.ls zs) (dn μ' D)) (ds.drop (i+1)) μ',λys' H' ⟨t',μ',m',h'⟩=>⟨ds.length - (i+1),by lia,rfl,hlt,t',μ',m',h'⟩,λx H3 y=>?_⟩
  obtain ⟨t23,⟨d,ed,pd⟩,mk⟩:=Y.yld i H2 x H3 t12 hlt y
  have e:ds.drop i=d::ds.drop (i+1):=by
   refine (YX hlt).trans ?_
   congr 1
   rw[Xx hlt] at ed
   exact X5 ed
  rw[e] at h2
  have t13:=t12.trans t23
  have r3:Rl X.K (j9 σ n caps) H3 (eL ρ n caps) μ2:=oZ (rl.go (t1.trans t13) (mk _ m2)) n caps
  refine ⟨_,_,d,_,r3,pd,h2,λσ4 H4 ρ4 μ4 t4 r4 kp h4=>⟨⟨kp.1.symm,λj v ej=>?_⟩,_,_,_,r4,h4,λb H5 μ5 t5 m5 h5=>?_⟩⟩
  ·by_cases hj:n<=j
   ·rw[kp.2 j hj];exact ej
   ·obtain ⟨j',k',e1,_⟩:=jF ej
    lia
  ·have t15:=t13.trans (t4.trans t5)
   cases b with
   | false=>exact qi ⟨t15,μ5,m5,h5⟩
   | true=>
    refine pF ⟨_,_,_,r4.go t5 m5,h5,λv H6 d6 μ6 t6 m6 p6 h6=>?_⟩
    obtain ⟨zs,ez,lz,h7⟩:=bP h6
    obtain ⟨xs,ex,lx⟩:=m6 D _ ez
    have t67:Tk H6 (L2.upd H6 D (.lst (xs++[v]))):=.upd (λys z=>by rw[ex] at z;cases z) λo' u z=>by rw[ex] at z;cases z
    refine ⟨xs,ex,by rw[lx.length];exact XG lz (by decide),(t15.trans t6).trans t67,up μ6 D (.lst (zs++[d6])),λa o ea=>?_,h7⟩
    by_cases ha:a=D
    ·subst ha
     rw[ay] at ea;cases ea
     exact ⟨_,aK,(lx.append (.cons p6 .nil)).mono t67⟩
    ·rw[aE ha] at ea
     exact (m6 a _ ea).ne t67 ha
 ·have e:i=ds.length:=by lia
  subst e
  rw[ZE] at h2
  obtain ⟨zs,ez,hq⟩:=bP (show kL μ2 D λzs=>Q (.ls zs) (dn μ2 D) from h2)
  obtain ⟨xs,ex,lx⟩:=m2 D _ ez
  refine .inl ⟨Y.stop _ H2 t12 (Xq _),D,xs,rfl,ex,λo=>?_⟩
  have t2f:Tk H2 (L2.upd H2 D (.frz o (.lst xs))):=.upd (λys z=>by rw[ex] at z;cases z) λo' u z=>by rw[ex] at z;cases z
  refine k _ _ _ (dn μ2 D) ((t1.trans t12).trans t2f) (λa o' ea=>?_) (.ls (.inl ⟨o,aK⟩) (lx.mono t2f)) hq
  have ha:a≠D:=λz=>by subst z;unfold dn at ea;rw[if_pos rfl] at ea;cases ea
  have ea':μ2 a=some o':=by unfold dn at ea;rw[if_neg ha] at ea;exact ea
  exact (m2 a _ ea').ne t2f ha
end
end
section
open PySem.Spec PyProof.Rows L2
def gO (fn:List (Str×za7))(XN:List Str)(sc:Scope)(Nc:List Str)(n:Nat)(caps:List Nat):Bool:=
 sc.names.all (λy=>(y.2 != .free || fn.lookup y.1 == some .cell)&&y.2 != .cell&&(y.2 != .local || sc.names.lookup y.1 == some .local))&&sc.kind == .function&&Nc.length == n+caps.length &&
 (XX caps.length).all λj=>match caps[j]? with
  | some k=>(match XN[k]? with
   | some x=>Nc[n+j]? == some x&&sc.names.lookup x == some .free
   | none=>false)
  | none=>false
section
variable {X:Cx} {tg a b c e elt iter:XJ} {Ta Tb Te:ETr} {Tt:TTr} {pos:Pos} {It':ATr} {G:GTr}
theorem bI {ifs:List XJ}{scope fsc:Scope}(XN Nc:List Str)(n:Nat)(caps:List Nat)(hxe:X.xe=λ_ _=>False)(hcalm:X.calm=true)(hi:LI X tg iter It')
  (hbody:∀ (cl:List (Str×Addr)) (C:Addr) (s₀:Xg) (H₀:Hp) (ex:List Addr),LGc (ba X scope Nc cl C s₀ H₀ ex) n tg G/\yn (ba X scope Nc cl C s₀ H₀ ex) ifs Tt/\LE (ba X scope Nc cl C s₀ H₀ ex) elt Te)
  (hsc:X.env.scope=fsc) (hXN:X.N=XN) (hok:gO fsc.names XN scope Nc n caps=true)
  (hs:∀ x,X6 iter X.env x=pure x:=by intro _;rfl) :
  LE X (.ListComp elt [⟨tg,iter,ifs,0⟩] scope pos) (bQ It' G Tt Te n caps):=by
 unfold gO at hok
 simp only[XY,zaj] at hok
 obtain ⟨⟨⟨h1,h2⟩,h3⟩,h4⟩:=hok
 refine Nx hxe hcalm hi hbody (λy hy hf=>?_) (λy hy hf=>?_) (by simpa using h2) (λy hy hf=>?_) (by simpa using h3) (λj k hj=>?_) hs
 ·have:=(h1 y hy).1.1
  show X.env.scope.names.lookup y.1=_
  rw[hsc]
  simpa[hf] using this
 ·have:=(h1 y hy).1.2
  simp[hf] at this
 ·have:=(h1 y hy).2
  simpa[hf] using this
 ·have hl:j < caps.length:=(XR.mp hj).1
  have:=h4 j (Ys.mpr hl)
  rw[hj] at this
  dsimp only at this
  rw[hXN]
  cases e:XN[k]? with
  | none=>rw[e] at this;cases this
  | some x=>
   rw[e] at this
   dsimp only at this
   rw[XY] at this
   exact ⟨x,by simpa using this.1,rfl,by simpa using this.2⟩
end
theorem ny:∀ {bs:List Bool} {us:List Xe},Vals (bs.map V.bl) us->LSm.BoolsAre us bs
 | [],_,.nil=>.nil
 | b::r,_,.cons h t=>by
  cases (show _=zbp b from h)
  exact .cons b (ny t)
theorem Fj {X:Cx}(hc:X.calm=true):bV X (.builtin "all") (λxs H Q=>∃ (p:Addr) (ys:List V) (bs:List Bool),xs=[.ref p]/\SqL X.K H p ys/\ys=bs.map V.bl/\Q (.bl (bs.all id)) H):=λpins s σ H xs us Q I rx ⟨p,ys,bs,e1,sq,e2,q⟩=>by
 subst e1 e2
 cases rx with | cons r1 r2=>
 cases r2
 cases (show _=XQ p from r1)
 obtain ⟨its,rv,pl,_⟩:=I.list sq
 have ils:s.heap.IsList p its.toArray:=by
  obtain ⟨o,n,h1,h2,_,h3⟩:=pl
  exact ⟨o,h1,h2,n,h3⟩
 have bls:=ny rv
 have hlt:p < s.heap.objs.size:=by obtain ⟨_,e,_⟩:=ils;exact Xs e
 refine call_all_walk (Z2 ils ?_)
 refine ⟨s.heap.objs.size,[s.heap.objs.size,p],[s.heap.objs.size],its.toArray.size,_,_,λi=>(bs[i]?).getD true,rfl,zfL (A:=X.A.in1) (I.ok.hd hc) _ p (XI hlt) its.toArray,
  ⟨⟨_,Xw _ rfl,rfl,rfl⟩,ils.push _⟩,λi v s' Q' E' gP gQ=>?_,λh' tk hk=>?_⟩
 ·obtain ⟨b,e,rfl⟩:=bls.get i v (by simpa using gP)
  simp only[e,zex] at gQ
  exact Y9 gQ
 ·have e:((XX its.toArray.size).all λi=>(bs[i]?).getD true)=bs.all id:=by
   rw[Xz,bls.length];exact LSm.range_all bs
  rw[e]
  exact ⟨.bl _,H,I.kept (LSm.kept_iter hk),rfl,q⟩
theorem DpL.bools {K:Xa}{H:Hp}:∀ {xs:List V} {bs:List Bool},DpL K H xs (bs.map .bl)->xs=bs.map V.bl
 | _,[],.nil=>rfl
 | _,b::r,.cons h l=>by cases h;rw[DpL.bools l];rfl
theorem MB {K:Xa}:kc K (λxs H Q=>∃ (p:Addr) (ys:List V) (bs:List Bool),xs=[.ref p]/\SqL K H p ys/\ys=bs.map V.bl/\Q (.bl (bs.all id)) H) Mx:=λH μ xs ds Q Q' m p h k=>by
 unfold Mx at h
 split at h
 ·obtain ⟨bs,rfl,h⟩:=h
  cases p with | cons p1 p2=>cases p2;cases p1 with | ls q l=>exact ⟨_,_,bs,rfl,q.sq,l.bools,k _ H _ μ (.refl H) m (.bl _) h⟩
 ·exact h.elim
end
section
open PySem.Spec PyProof.Rows L2
def GV (K:Xa)(mg:Str->Option Xe)(x:Str)(d:D):Prop:=∃ u v,mg x=some u/\RelV v u/\∀ H,Dp K H v d
theorem aA {X:Cx}{x:Str}{pos:Pos}{d:D}(hg:Gl X x)(h:GV X.K X.mg x d)(hd:(x == ("__debug__" : Str))=false:=by decide):LE X (.Name x pos) (TC d):=by
 obtain ⟨u,v,hm,r,p⟩:=h
 exact ⟨_,Mv hg hm r hd,λσ H ρ μ Q Q' rl h k=>k v H d μ (.refl H) rl.mu (p H) h⟩
section
variable {K:Xa} {h:Heap} {mg:Str->Option Xe} {x:Str}
theorem bu {i:Int}{t:Tok}(X:K.In h)(G:h.Ns YJ mg)(a:zfv K YJ x=some (some (.int i t))):GV K mg x (.int i):=⟨_,.int i,zfm X G a,⟨t,rfl⟩,λ_=>.int i⟩
theorem Ag {p:Addr}{o:Obj}{its:Array Xe}{n:Nat}{xs:List V}{ds:List D}(X:K.In h)(G:h.Ns YJ mg)(a:zfv K YJ x=some (some (.ref p)))(l:K.lookup p=some o)(c:o.cls=.type "tuple")(dn:o.dict=none)(d:o.data=.seq its n)
  (z:its.size<=sizeLine) (r:Vals xs its.toList) (q:∀ H,DpL K H xs ds):GV K mg x (.tup ds):=⟨_,.ref p,zfm X G a,rfl,λH=>.tup (.inr ⟨o,its,n,l,c,dn,d,z,r⟩) (q H)⟩
end
def kR:ST->List Nat->List D->ST
 | ρ,i::is,d::ds=>kR (ρ.set i (some d)) is ds
 | ρ,_,_=>ρ
def fg (is:List Nat):GTr:=λd ρ μ k=>match d with
 | .tup ds=>ds.length=is.length/\k (kR ρ is ds) μ
 | _=>False
def Vm (K:Xa)(t:TGs)(is:List Nat):Prop:=∀ σ H ρ μ vs ds (k:ST->Mu->Prop) (k':L2.St->Hp->Prop),Rl K σ H ρ μ->DpL K H vs ds->ds.length=is.length->k (kR ρ is ds) μ->yq K H k k'->t vs σ H k'
structure LGs (X:Cx) (es:List XJ) (is:List Nat):Prop where
 ex:∃ t,PGs X es t/\Vm X.K t is
section
variable {X:Cx} {e tg:XJ} {es:List XJ} {is:List Nat} {pos:Pos} {x:Str} {Ta:ETr} {G:GTr}
theorem kY:LGs X [] []:=⟨_,CH,λσ H ρ μ vs ds k k' rl l hl h q=>by
 cases ds with
 | nil=>cases l;exact ⟨rfl,q _ _ _ _ (.refl H) rl h⟩
 | cons=>cases hl⟩
theorem c9 (i:Nat)(hN:X.N.Nodup)(h2:LGs X es is)(hi:X.N[i]? = some x:=by rfl)(hx:Loc X.env.scope x:=by first | exact zaQ rfl | exact zaR rfl)(hf:X.fn x=true∨X.env.scope.names.lookup x=some .local:=by first | exact .inl rfl | exact .inr rfl | assumption)
  (hs:(YO (.Name x pos::es) X.env).map (·.2)=zcI (.Name x pos) X.env::(YO es X.env).map (·.2):=by rfl):LGs X (.Name x pos::es) (i::is):=by
 obtain ⟨t,pt,st⟩:=h2.ex
 refine ⟨_,zD (iU hN hi hx hf) pt hs,λσ H ρ μ vs ds k k' rl l hl h q=>?_⟩
 cases l with
 | nil=>cases hl
 | @cons v d vs ds p l=>exact ⟨v,vs,rfl,st _ H _ μ vs ds k k' (rl.set p i) l (by simpa using hl) h q⟩
theorem rY {k:Nat}(hc:X.calm=true)(h:LGs X es is)(hn:(YO es X.env).length=is.length:=by rfl)(hst:(YO es X.env).findIdx? (·.1)=none:=by rfl):LG X (.Tuple es k pos) (fg is):=by
 obtain ⟨t,pt,st⟩:=h.ex
 refine ⟨_,HF hc pt hn hst,λσ H ρ μ v d k k' rl p h q=>?_⟩
 cases p with
 | @tup a xs ds sq l=>exact ⟨a,xs,rfl,sq,by rw[l.length];exact h.1,st σ H ρ μ xs ds k k' rl l h.1 h.2 q⟩
 | _=>exact Xi h
theorem Gy (he:LE X e Ta)(hG:LG X tg G)(hs:zaq [tg] e pos.line X.env=pure false:=by rfl)(hw:zar [tg] e X.env=pure none:=by rfl)
  (h1:(YO [tg] X.env).map (·.2)=[zcI tg X.env]:=by rfl):LS X (.Assign [tg] e pos) (aO Ta G):=by
 obtain ⟨ta,pa,sa⟩:=he.ex
 obtain ⟨g,pg,sg⟩:=hG.ex
 exact ⟨_,P5 pa pg hs hw h1,λσ H ρ μ E E' rl h k=>sa σ H ρ μ _ _ rl h λv H' d μ' t' m' p' h'=>sg σ H' ρ μ' v d _ _ (rl.go t' m') p' h' (k.go t').nx⟩
end
end
section
open PySem.Spec PyProof.Rows L2
def gZ (tp:Bool)(h:Heap)(it a:Addr)(i:Nat):Prop:=match tp with
 | true=>h.IsTupleIter it a i
 | false=>h.IsListIter it a i
def fF (tp:Bool)(h:Heap)(a:Addr)(xs:Array Xe):Prop:=match tp with
 | true=>h.IsTuple a xs
 | false=>h.IsList a xs
theorem gZ.at {tp:Bool}{h g:Heap}{it a:Addr}{i:Nat}(x:gZ tp h it a i)(k:∀ o,h.get? it=some o->g.get? it=some o):gZ tp g it a i:=by
 cases tp with
 | true=>obtain ⟨o,e,r⟩:=x;exact ⟨o,k o e,r⟩
 | false=>obtain ⟨o,e,r⟩:=x;exact ⟨o,k o e,r⟩
theorem fF.at {tp:Bool}{h g:Heap}{a:Addr}{xs:Array Xe}(x:fF tp h a xs)(k:∀ o,h.get? a=some o->g.get? a=some o):fF tp g a xs:=by
 cases tp with
 | true=>obtain ⟨o,e,r⟩:=x;exact ⟨o,k o e,r⟩
 | false=>obtain ⟨o,e,r⟩:=x;exact ⟨o,k o e,r⟩
theorem gZ.ex {tp:Bool}{h:Heap}{it a:Addr}{i:Nat}(x:gZ tp h it a i):∃ o,h.get? it=some o/\∃ vs,o.data=.fields vs:=by
 cases tp with
 | true=>obtain ⟨o,e,_,d⟩:=x;exact ⟨o,e,_,d⟩
 | false=>obtain ⟨o,e,_,d⟩:=x;exact ⟨o,e,_,d⟩
section
variable {prog:XO} {w:X0} {A:X8} {E:Xe->Xg->Prop} {s:Xg}
theorem GW {it t:Addr}{i:Nat}{xs:Array Xe}{x:Xe}{Q:Xe->Xg->Prop}(hi:s.heap.IsTupleIter it t i)(ht:s.heap.IsTuple t xs)(hx:xs[i]? = some x)
  (k:∀ g,g.IsTupleIter it t (i+1)->zaf it s.heap g->Q x { s with heap:=g }):Xy (XF prog w) A (XS (.ref it)) Q E s:=by
 obtain ⟨ob,gb,cb,db⟩:=id hi
 obtain ⟨ot,gt,_,nt,dt⟩:=ht
 delta XS
 refine Xb (Yj (name:=OF "__next__") hi.typeIs Zl (YK Zl hi.typeIs zbm ?_ (zbg _)))
 refine Xb (m:=zcN (.ref it) 0) (Yb gb db (x:=.ref t) rfl ?_)
 refine (show Xy _ _ (if (XQ t == Zb)=true then _ else _) _ _ s from ?_)
 rw[if_neg (show ¬ ((XQ t == Zb)=true) by intro z;cases z)]
 refine Xb (m:=zcN (.ref it) 1) (Yb gb db (x:=.int i 0) rfl ?_)
 refine Xb (m:=zc7 (.ref t)) (Ym gt dt ?_)
 simp only[hx,Z4]
 refine Xb (wpAny_setField gb db (by simp) (Xj ⟨x,rfl,Xj (k _ ⟨_,zaW _ gb (Obj.isFreed_of_fields (zdD db _)),(Obj.cls_mapFields ..).trans cb,?_⟩ (zda ..))⟩))
 rw[zdD db];simp[zbr]
theorem pk {tp:Bool}{it a:Addr}{i:Nat}{xs:Array Xe}{x:Xe}{Q:Xe->Xg->Prop}(hi:gZ tp s.heap it a i)(hs:fF tp s.heap a xs)(hx:xs[i]? = some x)
  (k:∀ g,gZ tp g it a (i+1)->zaf it s.heap g->Q x { s with heap:=g }):Xy (XF prog w) A (XS (.ref it)) Q E s:=by
 cases tp with
 | true=>exact GW hi hs hx k
 | false=>exact wpAny_nextOf_list_item hi hs hx k
theorem KZ {it t:Addr}{i:Nat}{xs:Array Xe}{Q:Xe->Xg->Prop}(hh:A.handled=none)(hi:s.heap.IsTupleIter it t i)(ht:s.heap.IsTuple t xs)(hx:xs[i]? = none)
  (k:∀ g e,zeJ it s.heap g->(∃ o,g.get? e=some o/\o.cls=.type "StopIteration")->E (.ref e) { s with heap:=g }):Xy (XF prog w) A (XS (.ref it)) Q E s:=by
 obtain ⟨ob,gb,cb,db⟩:=id hi
 obtain ⟨ot,gt,_,nt,dt⟩:=ht
 delta XS
 refine Xb (Yj (name:=OF "__next__") hi.typeIs Zl (YK Zl hi.typeIs zbm ?_ (zbg _)))
 refine Xb (m:=zcN (.ref it) 0) (Yb gb db (x:=.ref t) rfl ?_)
 refine (show Xy _ _ (if (XQ t == Zb)=true then _ else _) _ _ s from ?_)
 rw[if_neg (show ¬ ((XQ t == Zb)=true) by intro z;cases z)]
 refine Xb (m:=zcN (.ref it) 1) (Yb gb db (x:=.int i 0) rfl ?_)
 refine Xb (m:=zc7 (.ref t)) (Ym gt dt ?_)
 simp only[hx,Z4]
 refine Xb (Zy (Xb (wpAny_setField gb db (by simp) (Xb (m:=newExc (.type "StopIteration") []) ?_))))
 simp only[newExc,newTuple]
 refine Xb (Ye (Xb (m:=firstArgMember _ _) (zeK (a:=Zb) (by first | rfl | (simp only[firstArgMember];rfl)) (Ye ?_ (by size_fits)))) (by size_fits))
 simp only[raiseNew]
 refine Xb <| wpAny_handled ?_
 rw[(show A.in1.handled=none from hh)]
 exact Xb (Xj (wpAny_throw (k _ _ (((zda ..).extBut.push _).push _) ⟨_,Xw _ rfl,rfl⟩)))
theorem AJ {tp:Bool}{it a:Addr}{i:Nat}{xs:Array Xe}{Q:Xe->Xg->Prop}(hh:A.handled=none)(hi:gZ tp s.heap it a i)(hs:fF tp s.heap a xs)(hx:xs[i]? = none)
  (k:∀ g e,zeJ it s.heap g->(∃ o,g.get? e=some o/\o.cls=.type "StopIteration")->E (.ref e) { s with heap:=g }):Xy (XF prog w) A (XS (.ref it)) Q E s:=by
 cases tp with
 | true=>exact KZ hh hi hs hx k
 | false=>exact wpAny_nextOf_list_end hh hi hs hx k
structure Zp (z ti to i j a b:Addr):Prop where
 nd:[z,ti,to,i,j].Nodup
 na:a ∉ [z,to,i,j]
 nb:b ∉ [z,to,i,j]
structure ZAt (ta tb:Bool) (h:Heap) (z ti to i j a b:Addr) (k:Nat):Prop where
 zz:Zu h z ti to .none
 zt:YT h ti (.ref i) (.ref j)
 zo:∃ u v,YT h to u v
 zi:gZ ta h i a k
 zj:gZ tb h j b k
theorem EC {ta tb:Bool}{z ti to i j a b:Addr}{k:Nat}{xs ys:Array Xe}{x y:Xe}{Q:Option Xe->Xg->Prop}(Z:Zp z ti to i j a b)(S:ZAt ta tb s.heap z ti to i j a b k)(ha:fF ta s.heap a xs)(hb:fF tb s.heap b ys)(hx:xs[k]? = some x)(hy:ys[k]? = some y)
  (q:∀ g,Zu g z ti to (zbr s.heap.objs.size)->YT g ti (.ref i) (.ref j)->YT g to x y->gZ ta g i a (k+1)->gZ tb g j b (k+1)->YT g s.heap.objs.size x y->
   (∀ c o,c≠z->c≠to->c≠i->c≠j->s.heap.get? c=some o->g.get? c=some o)->Q (some (.ref s.heap.objs.size)) { s with heap:=g }):Xy (XF prog w) A (zaB (.ref z)) Q E s:=by
 obtain ⟨zz,zt,⟨u,v,zo⟩,zi,zj⟩:=S
 obtain ⟨nd,na,nb⟩:=Z
 simp only[Yc,Xr,XW,or_false,not_or] at nd na nb
 obtain ⟨⟨n1,n2,n3,n4⟩,⟨n5,n6,n7⟩,⟨n8,n9⟩,n10,_⟩:=nd
 obtain ⟨a1,a2,a3,a4⟩:=na
 obtain ⟨b1,b2,b3,b4⟩:=nb
 have hT:s.TypeIs (.ref z) "zip" := ⟨_,zz,rfl⟩
 unfold zaB
 refine Xb (zbP (Yj (name:=OF "__next__") hT zbh (YK zbh hT zey ?_ (zd2 _))))
 refine Xb (m:=zcN (.ref z) 2) (Yb zz rfl (x:=.bool false) rfl ?_)
 refine Xb (m:=zcN (.ref z) 3) (Yb zz rfl (x:=.ref ti) rfl (Xb (Ym zt rfl (Xb (m:=X4 (.ref z)) ?_))))
 delta X4
 refine Xb (Yb zz rfl (x:=.none) rfl (Xj ?_))
 simp only[if_true]
 refine Xb (Zy (Xb (Yb zz rfl (x:=.ref to) rfl (Xb (Yf zz (by simp) λg1 zz1 k1=>Xb ?_)))))
 have zz1:Zu g1 z ti to .ellipsis:=zz1
 simp only[zeS,zez,zfc,ZS]
 refine Xb (Xb (zbQ (Xb (m:=XS (.ref i)) (pk (s:={ s with heap:=g1 }) (zi.at λo e=>(k1.2 i (XA n3)).trans e) (ha.at λo e=>(k1.2 a a1).trans e) hx λg2 zi2 k2=>Xj ?_))))
 have zo2:YT g2 to u v:=(k2.2 to n8).trans ((k1.2 to (XA n2)).trans zo)
 refine Xb (Ym zo2 rfl (Xb (zaa zo2 λg3 zo3 k3=>Xb (zab (Xj ?_)))))
 have zo3:YT g3 to x v:=zo3
 refine Xb (Xb (zbQ (Xb (m:=XS (.ref j)) (pk (s:={ s with heap:=g3 }) (zj.at λo e=>(k3.2 j (XA n9)).trans ((k2.2 j (XA n10)).trans ((k1.2 j (XA n4)).trans e)))
  (hb.at λo e=>(k3.2 b b2).trans ((k2.2 b b3).trans ((k1.2 b b1).trans e))) hy λg4 zj4 k4=>Xj ?_))))
 have zo4:YT g4 to x v:=(k4.2 to n9).trans zo3
 refine Xb (Ym zo4 rfl (Xb (zaa zo4 λg5 zo5 k5=>Xb (zab (Xj (Xj ?_))))))
 have zo5:YT g5 to x y:=zo5
 refine Xb (Ym zo5 rfl (Xb (wpAny_newTuple (Xb (m:=Yx (.ref z) (.ref g5.objs.size)) ?_))))
 have sz:g5.objs.size=s.heap.objs.size:=by rw[k5.1,k4.1,k3.1,k2.1,k1.1]
 have zz5:Zu g5 z ti to .ellipsis:=(k5.2 z n2).trans ((k4.2 z n4).trans ((k3.2 z n2).trans ((k2.2 z n3).trans zz1)))
 have zlt:z < g5.objs.size:=Xs zz5
 delta Yx
 have zz6:Zu (g5.push { cls:=.type "tuple", data:=.seq #[x,y] }) z ti to .ellipsis:=Xd _ zz5
 refine Xb (Yf zz6 (by simp) λg7 zz7 k7=>?_)
 have zz7:Zu g7 z ti to (zbr g5.objs.size):=zz7
 refine Yf zz7 (by simp) λg8 zz8 k8=>Xj ⟨_,rfl,Xj ?_⟩
 have up5:∀ c o,c≠z->g5.get? c=some o->g8.get? c=some o:=λc o c1 e=>(k8.2 c c1).trans ((k7.2 c c1).trans (Xd _ e))
 have Vr:YT g8 g5.objs.size x y:=(k8.2 _ (ZK zlt)).trans ((k7.2 _ (ZK zlt)).trans (Xw _ rfl))
 have zz8:Zu g8 z ti to (zbr g5.objs.size):=zz8
 rw[sz] at zz8 Vr
 have all:∀ c o,c≠z->c≠to->c≠i->c≠j->s.heap.get? c=some o->g8.get? c=some o:=λc o c1 c2 c3 c4 e=>up5 c o c1 ((k5.2 c c2).trans ((k4.2 c c4).trans ((k3.2 c c2).trans ((k2.2 c c3).trans ((k1.2 c c1).trans e)))))
 have fin:=q g8 zz8 (all ti _ (XA n1) n5 n6 n7 zt) (up5 to _ (XA n2) zo5) (zi2.at λo e=>up5 i o (XA n3) ((k5.2 i (XA n8)).trans ((k4.2 i n10).trans ((k3.2 i (XA n8)).trans e)))) (zj4.at λo e=>up5 j o (XA n4) ((k5.2 j (XA n9)).trans e)) Vr all
 rw[← sz] at fin
 exact fin
theorem FY {ta tb:Bool}{z ti to i j a b:Addr}{k:Nat}{xs ys:Array Xe}{Q:Option Xe->Xg->Prop}(hh:A.handled=none)(Z:Zp z ti to i j a b)(S:ZAt ta tb s.heap z ti to i j a b k)(ha:fF ta s.heap a xs)(hb:fF tb s.heap b ys)(he:xs[k]? = none∨ys[k]? = none)
  (q:∀ g,(∀ c o,c≠z->c≠to->c≠i->c≠j->s.heap.get? c=some o->g.get? c=some o)->Q none { s with heap:=g }):Xy (XF prog w) A (zaB (.ref z)) Q E s:=by
 obtain ⟨zz,zt,⟨u,v,zo⟩,zi,zj⟩:=S
 obtain ⟨nd,na,nb⟩:=Z
 simp only[Yc,Xr,XW,or_false,not_or] at nd na nb
 obtain ⟨⟨n1,n2,n3,n4⟩,⟨n5,n6,n7⟩,⟨n8,n9⟩,n10,_⟩:=nd
 obtain ⟨a1,a2,a3,a4⟩:=na
 obtain ⟨b1,b2,b3,b4⟩:=nb
 have hT:s.TypeIs (.ref z) "zip" := ⟨_,zz,rfl⟩
 have stop:∀ g e,(∃ o,g.get? e=some o/\o.cls=.type "StopIteration")->(∀ c o,c≠z->c≠to->c≠i->c≠j->s.heap.get? c=some o->g.get? c=some o)->
   Xy (XF prog w) A (isInstance (.ref e) (.type "StopIteration") >>= λy=>if y=true then pure none else throw (.ref e)) Q E { s with heap:=g }:=λg e ⟨o,ho,hc⟩ al=>by
  refine Xb <| wpAny_isInstance (T := "StopIteration") (b:=true) ⟨o,ho,hc⟩ isSubtype_stop ?_
  exact Xj (q g al)
 unfold zaB
 refine Xb (zbP (Yj (name:=OF "__next__") hT zbh (YK zbh hT zey ?_ (zd2 _))))
 refine Xb (m:=zcN (.ref z) 2) (Yb zz rfl (x:=.bool false) rfl ?_)
 refine Xb (m:=zcN (.ref z) 3) (Yb zz rfl (x:=.ref ti) rfl (Xb (Ym zt rfl (Xb (m:=X4 (.ref z)) ?_))))
 delta X4
 refine Xb (Yb zz rfl (x:=.none) rfl (Xj ?_))
 simp only[if_true]
 refine Xb (Zy (Xb (Yb zz rfl (x:=.ref to) rfl (Xb (Yf zz (by simp) λg1 zz1 k1=>Xb ?_)))))
 have zz1:Zu g1 z ti to .ellipsis:=zz1
 simp only[zeS,zez,zfc,ZS]
 have zi1:gZ ta g1 i a k:=zi.at λo e=>(k1.2 i (XA n3)).trans e
 have ha1:fF ta g1 a xs:=ha.at λo e=>(k1.2 a a1).trans e
 refine Xb (Xb (zbQ (Xb (m:=XS (.ref i)) ?_)))
 cases hx:xs[k]? with
 | none=>
  refine AJ (s:={ s with heap:=g1 }) hh zi1 ha1 hx λg2 e k2 he2=>?_
  obtain ⟨oe,ge,ce⟩:=he2
  have zz2:Zu g2 z ti to .ellipsis:=k2 z _ n3 zz1
  have ez:e≠z:=λy=>by subst y;rw[zz2] at ge;cases ge;simp at ce
  refine Yf zz2 (by simp) λg3 _ k3=>stop g3 e ⟨oe,(k3.2 e ez).trans ge,ce⟩ λc o c1 _ c3 _ y=>(k3.2 c c1).trans (k2 c o c3 ((k1.2 c c1).trans y))
 | some x=>
  have hy:ys[k]? = none:=by rcases he with h | h;rw[hx] at h;cases h;exact h
  refine pk (s:={ s with heap:=g1 }) zi1 ha1 hx λg2 zi2 k2=>Xj ?_
  have zo2:YT g2 to u v:=(k2.2 to n8).trans ((k1.2 to (XA n2)).trans zo)
  refine Xb (Ym zo2 rfl (Xb (zaa zo2 λg3 zo3 k3=>Xb (zab (Xj ?_)))))
  refine Xb (Xb (zbQ (Xb (m:=XS (.ref j)) (AJ (s:={ s with heap:=g3 }) hh (zj.at λo e=>(k3.2 j (XA n9)).trans ((k2.2 j (XA n10)).trans ((k1.2 j (XA n4)).trans e)))
   (hb.at λo e=>(k3.2 b b2).trans ((k2.2 b b3).trans ((k1.2 b b1).trans e))) hy λg4 e k4 he4=>?_))))
  obtain ⟨oe,ge,ce⟩:=he4
  have zz4:Zu g4 z ti to .ellipsis:=k4 z _ n4 ((k3.2 z n2).trans ((k2.2 z n3).trans zz1))
  have ez:e≠z:=λy=>by subst y;rw[zz4] at ge;cases ge;simp at ce
  refine Yf zz4 (by simp) λg5 _ k5=>stop g5 e ⟨oe,(k5.2 e ez).trans ge,ce⟩ λc o c1 c2 c3 c4 y=>(k5.2 c c1).trans (k4 c o c4 ((k3.2 c c2).trans ((k2.2 c c3).trans ((k1.2 c c1).trans y))))
abbrev itO (tp:Bool)(a:Addr):Obj:={ cls:=.type (match tp with | true => "tuple_iterator" | false => "list_iterator"),data:=.fields #[.ref a,.int 0 0] }
theorem L4 {tp:Bool}{a:Addr}{xs:Array Xe}{Q:Xe->Xg->Prop}(h:fF tp s.heap a xs)(q:Q (.ref s.heap.objs.size) { s with heap:=s.heap.push (itO tp a) }):Xy (XF prog w) A (pyIter (.ref a)) Q E s:=by
 cases tp with
 | true=>exact zdE h q
 | false=>exact Z2 h q
abbrev zg1 (ta:Bool)(h:Heap)(a:Addr):Heap:=h.push (itO ta a)
abbrev zg2 (ta tb:Bool)(h:Heap)(a b:Addr):Heap:=(zg1 ta h a).push (itO tb b)
abbrev zg3 (ta tb:Bool)(h:Heap)(a b:Addr):Heap:=(zg2 ta tb h a b).push { cls:=.type "tuple", data:=.seq #[.ref h.objs.size,.ref (zg1 ta h a).objs.size] }
abbrev zg4 (ta tb:Bool)(h:Heap)(a b:Addr):Heap:=(zg3 ta tb h a b).push { cls:=.type "tuple", data:=.seq #[.none,.none] }
abbrev zg5 (ta tb:Bool)(h:Heap)(a b:Addr):Heap:=(zg4 ta tb h a b).push { cls:=.type "zip", data:=.fields #[.none,.bool false,.bool false,.ref (zg2 ta tb h a b).objs.size,.ref (zg3 ta tb h a b).objs.size] }
theorem JS (ta tb:Bool)(a b:Addr)(xs ys:Array Xe):Meets (za4.«zip.__new__» ⟨[.type "zip", .ref a,.ref b],[]⟩) (λ_ R s=>fF ta s.heap a xs/\fF tb s.heap b ys/\R (.ok (.ret (.ref (zg4 ta tb s.heap a b).objs.size))) { s with heap:=zg5 ta tb s.heap a b }):=
 .of_wp λprog w A R s h=>by
  rcases s with ⟨hp,g,d,tk,os⟩
  obtain ⟨h1,h2,h⟩:=h
  have hs0:=PySem.sub_zip
  have H1:fF ta (zeL ⟨hp,g,d,tk,os⟩) a xs:=h1
  have H2:fF tb (zeL ⟨hp.push (itO ta a),g,d,tk,os⟩) b ys:=fF.at h2 λo e=>Xd _ e
  wp_walk using L4 H1,L4 H2
  exact ⟨_,rfl,h⟩
theorem D0 {ta tb:Bool}{a b:Addr}{xs ys:Array Xe}{Q:Xe->Xg->Prop}(h1:fF ta s.heap a xs)(h2:fF tb s.heap b ys)
  (q:∀ g,ZAt ta tb g (s.heap.objs.size+4) (s.heap.objs.size+2) (s.heap.objs.size+3) s.heap.objs.size (s.heap.objs.size+1) a b 0->(∀ c o,s.heap.get? c=some o->g.get? c=some o)->Q (.ref (s.heap.objs.size+4)) { s with heap:=g }) :
  Xy (XF prog w) A (zcB (.type "zip") [.ref a,.ref b]) Q E s:=by
 refine callType_new F.called_zip (by decide) (F.typeCall_zip_2 _ _) (F.newCall_zip_2 _ _) (λobj=>F.args_object_init_3 obj _ _) F.entry_zip_new (JS ta tb a b xs ys) ⟨h1,h2,?_⟩
 have s1:(zg1 ta s.heap a).objs.size=s.heap.objs.size+1:=zac ..
 have s2:(zg2 ta tb s.heap a b).objs.size=s.heap.objs.size+2:=by rw[zac,s1]
 have s3:(zg3 ta tb s.heap a b).objs.size=s.heap.objs.size+3:=by rw[zac,s2]
 have s4:(zg4 ta tb s.heap a b).objs.size=s.heap.objs.size+4:=by rw[zac,s3]
 have p5:(zg5 ta tb s.heap a b).get? (zg4 ta tb s.heap a b).objs.size=some _:=Xw _ rfl
 have p4:(zg5 ta tb s.heap a b).get? (zg3 ta tb s.heap a b).objs.size=some _:=Xd _ (Xw _ rfl)
 have p3:(zg5 ta tb s.heap a b).get? (zg2 ta tb s.heap a b).objs.size=some _:=Xd _ (Xd _ (Xw _ rfl))
 have p2:(zg5 ta tb s.heap a b).get? (zg1 ta s.heap a).objs.size=some (itO tb b):=Xd _ (Xd _ (Xd _ (Xw _ rfl)))
 have p1:(zg5 ta tb s.heap a b).get? s.heap.objs.size=some (itO ta a):=Xd _ (Xd _ (Xd _ (Xd _ (Xw _ rfl))))
 have i1:gZ ta (zg5 ta tb s.heap a b) s.heap.objs.size a 0:=by cases ta<;>exact ⟨_,p1,rfl,rfl⟩
 have i2:gZ tb (zg5 ta tb s.heap a b) (zg1 ta s.heap a).objs.size b 0:=by cases tb<;>exact ⟨_,p2,rfl,rfl⟩
 show _/\_
 rw[s2,s3,s4] at p5
 rw[s1,s2] at p3
 rw[s3] at p4
 rw[s1] at i2
 rw[s4]
 exact ⟨⟨_,p5,rfl⟩,q _ ⟨p5,p3,⟨_,_,p4⟩,i1,i2⟩ λc o x=>Xd _ (Xd _ (Xd _ (Xd _ (Xd _ x))))⟩
end
def Sq (tp:Bool)(K:Xa)(H:Hp)(a:Addr)(xs:List V):Prop:=match tp with
 | true=>SqT K H a xs
 | false=>SqL K H a xs
def SqX (tp:Bool)(K:Xa)(H:Hp)(a:Addr)(xs:List V):Prop:=match tp with
 | true=>SqT K H a xs
 | false=>SqF K H a xs
theorem SqX.sq {tp:Bool}{K:Xa}{H:Hp}{a:Addr}{xs:List V}(h:SqX tp K H a xs):Sq tp K H a xs:=by
 cases tp with
 | true=>exact h
 | false=>exact SqF.sq h
theorem Inv.sq {X:Cx}{pins:List (Addr×Obj)}{σ:L2.St}{H:Hp}{s:Xg}{tp:Bool}{a:Addr}{xs:List V}(I:Inv X pins σ H s)(h:Sq tp X.K H a xs):∃ its:List Xe,Vals xs its/\fF tp s.heap a its.toArray:=by
 cases tp with
 | true=>obtain ⟨its,r,p,_⟩:=I.tuple h;exact ⟨its,r,p⟩
 | false=>
  obtain ⟨its,r,⟨o,n,e1,e2,_,e3⟩,_⟩:=I.list h
  exact ⟨its,r,o,e1,e2,n,e3⟩
theorem Inv.BY {X:Cx}{pins:List (Addr×Obj)}{σ:L2.St}{H:Hp}{s:Xg}{tp:Bool}{a:Addr}{xs ys:List V}(I:Inv X pins σ H s)(h:Sq tp X.K H a xs)(h':Sq tp X.K H a ys):xs=ys:=by
 cases tp with
 | true=>exact I.ud h h'
 | false=>exact I.zf h h'
def Itz (ta tb:Bool)(K:Xa)(a b:Addr):It:=
 ⟨λi H=>∃ xs ys x y,Sq ta K H a xs/\Sq tb K H b ys/\xs[i]? = some x/\ys[i]? = some y,
  λi H v H'=>∃ x y p,(∀ xs,Sq ta K H a xs->xs[i]? = some x)/\(∀ ys,Sq tb K H b ys->ys[i]? = some y)/\v=.ref p/\H p=none/\H'=L2.upd H p (.tup [x,y]),
  λi H=>∃ xs ys,Sq ta K H a xs/\Sq tb K H b ys/\(xs.length<=i∨ys.length<=i)⟩
theorem Hg {P:XO}{w:X0}{K:Xa}{es:List XJ}{ek:Nat}{ep:Pos}{ta tb:Bool}{z ti to i j a b:Addr}(Z:Zp z ti to i j a b) :
  Turn P w K (.Tuple es ek ep) (Itz ta tb K a b) [z,ti,to,i,j] z (λk h=>ZAt ta tb h z ti to i j a b k) where
 mem:=by simp
 obj:=λk h S c hc=>by
  obtain ⟨zz,zt,⟨u,v,zo⟩,zi,zj⟩:=S
  simp only[Xr,XW,or_false] at hc
  rcases hc with rfl | rfl | rfl | rfl | rfl
  ·exact ⟨_,zz,λv y=>by cases y⟩
  ·exact ⟨_,zt,λv y=>by cases y⟩
  ·exact ⟨_,zo,λv y=>by cases y⟩
  ·obtain ⟨o,e,vs,d⟩:=zi.ex;exact ⟨o,e,λv y=>by rw[d] at y;cases y⟩
  ·obtain ⟨o,e,vs,d⟩:=zj.ex;exact ⟨o,e,λv y=>by rw[d] at y;cases y⟩
 keep:=λk h g S kp=>by
  obtain ⟨zz,zt,⟨u,v,zo⟩,zi,zj⟩:=S
  exact ⟨kp z (by simp) _ zz,kp ti (by simp) _ zt,⟨u,v,kp to (by simp) _ zo⟩,zi.at λo e=>kp i (by simp) o e,zj.at λo e=>kp j (by simp) o e⟩
 item:=by
  intro X hP hw hK hc k pins s σ H E I hf S hg
  subst hP hw hK
  obtain ⟨xs,ys,x,y,qa,qb,ex,ey⟩:=hg
  obtain ⟨ia,ra,sa⟩:=Inv.sq I qa
  obtain ⟨ib,rb,sb⟩:=Inv.sq I qb
  obtain ⟨ux,hux,rx⟩:=ra.get ex
  obtain ⟨uy,huy,ry⟩:=rb.get ey
  refine EC Z S sa sb (x:=ux) (y:=uy) (by simpa using hux) (by simpa using huy) λg zz zt zo zi zj new al=>⟨_,rfl,wpAny_letOwnedTupleGo_zip zz λg2 zz2 k2=>?_⟩
  have nd:=Z.nd
  simp only[Yc,Xr,XW,or_false,not_or] at nd
  obtain ⟨⟨n1,n2,n3,n4⟩,_⟩:=nd
  have zlt:z < s.heap.objs.size:=Xs S.zz
  have fr:H s.heap.objs.size=none:=I.hok.fresh (Xq _)
  have new2:YT g2 s.heap.objs.size ux uy:=(k2.2 _ (ZK zlt)).trans new
  have all:∀ c o,c ∉ [z,ti,to,i,j]->s.heap.get? c=some o->g2.get? c=some o:=λc o hc e=>by
   simp only[Xr,XW,or_false,not_or] at hc
   exact (k2.2 c hc.1).trans (al c o hc.1 hc.2.2.1 hc.2.2.2.1 hc.2.2.2.2 e)
  have nfp:∀ c u,H c=some u->c ∉ [z,ti,to,i,j]:=λc u e hc=>by rw[(hf c hc).1] at e;cases e
  refine ⟨.ref s.heap.objs.size,L2.upd H s.heap.objs.size (.tup [x,y]),?_,rfl,⟨x,y,_,λxs' q=>by rw[Inv.BY I q qa];exact ex,λys' q=>by rw[Inv.BY I q qb];exact ey,rfl,fr,rfl⟩,⟨zz2,(k2.2 ti (XA n1)).trans zt,⟨_,_,(k2.2 to (XA n2)).trans zo⟩,zi.at λo e=>(k2.2 i (XA n3)).trans e,zj.at λo e=>(k2.2 j (XA n4)).trans e⟩,λc hc=>?_⟩
  ·refine L2.Inv.step (s:=s) (H:=H) (H':=L2.upd H s.heap.objs.size (.tup [x,y])) (g':=s.gens) (d':=s.drawn) (t':=s.toks) (h':=g2) (ch:=[z,ti,to,i,j]) I (λc hc=>⟨(hf c hc).2.2.2.1,(hf c hc).2.1,(hf c hc).2.2.2.2.1,(hf c hc).2.2.2.2.2⟩) (λc o _ _ hc e _=>all c o hc e) (λc o _ _ hc e _=>⟨o.slots,all c o hc e⟩) (λc o hc e n=>?_) (λc o hc e=>⟨o,all c o hc e⟩)
    (λc xs e=>?_) (λc o u e=>?_) (λc ps e=>⟨#[],?_⟩) (λm hm=>?_) (λc u e=>?_) I.bare
   ·rw[aJ (XI (Xs e))];exact n
   ·rw[aJ (bo e fr)];exact e
   ·rw[aJ (bo e fr)];exact e
   ·rw[aJ (bo e fr),e];simp
   ·obtain ⟨o,es',ep',ho,r⟩:=hm
    exact ⟨o,es',ep',all _ o (λhc=>(hf _ hc).2.1 rfl) ho,r⟩
   ·by_cases hcT:c=s.heap.objs.size
    ·subst hcT
     rw[aK] at e;cases e
     exact ⟨by show 2<=sizeLine;decide,[ux,uy],.cons rx (.cons ry .nil),⟨_,new2⟩⟩
    ·rw[aJ hcT] at e
     refine (I.hok c u e).nX (λc' v hc' q=>all c' v ?_ q) (λc' q=>by rw[aJ (bo q fr)];exact q) λc' xs q=>by rw[aJ (bo q fr)];exact q
     rcases hc' with rfl | hc'
     ·exact nfp _ _ e
     ·exact nfp _ _ hc'
  ·have hcl:c≠s.heap.objs.size:=by
    obtain ⟨zz,zt,⟨u,v,zo⟩,zi,zj⟩:=S
    simp only[Xr,XW,or_false] at hc
    rcases hc with rfl | rfl | rfl | rfl | rfl
    ·exact XI (Xs zz)
    ·exact XI (Xs zt)
    ·exact XI (Xs zo)
    ·obtain ⟨o,e,_⟩:=zi.ex;exact XI (Xs e)
    ·obtain ⟨o,e,_⟩:=zj.ex;exact XI (Xs e)
   rw[aJ hcl];exact (hf c hc).1
 done:=by
  intro X hP hw hK hc k pins s σ H E I hf S hg
  subst hP hw hK
  obtain ⟨xs,ys,qa,qb,he⟩:=hg
  obtain ⟨ia,ra,sa⟩:=Inv.sq I qa
  obtain ⟨ib,rb,sb⟩:=Inv.sq I qb
  have la:=ra.length
  have lb:=rb.length
  refine FY (I.ok.hd hc) Z S sa sb (he.imp (λh=>by simp;lia) λh=>by simp;lia) λg al=>⟨rfl,?_⟩
  have all:∀ c o,c ∉ [z,ti,to,i,j]->s.heap.get? c=some o->g.get? c=some o:=λc o hc e=>by
   simp only[Xr,XW,or_false,not_or] at hc
   exact al c o hc.1 hc.2.2.1 hc.2.2.2.1 hc.2.2.2.2 e
  have nfp:∀ c u,H c=some u->c ∉ [z,ti,to,i,j]:=λc u e hc=>by rw[(hf c hc).1] at e;cases e
  refine L2.Inv.step (s:=s) (H:=H) (H':=H) (g':=s.gens) (d':=s.drawn) (t':=s.toks) (h':=g) (ch:=[z,ti,to,i,j]) I (λc hc=>⟨(hf c hc).2.2.2.1,(hf c hc).2.1,(hf c hc).2.2.2.2.1,(hf c hc).2.2.2.2.2⟩) (λc o _ _ hc e _=>all c o hc e) (λc o _ _ hc e _=>⟨o.slots,all c o hc e⟩) (λc o hc e n=>n) (λc o hc e=>⟨o,all c o hc e⟩)
   (λc xs e=>e) (λc o u e=>e) (λc ps e=>⟨#[],by rw[e];simp⟩) (λm hm=>?_) (λc u e=>?_) I.bare
  ·obtain ⟨o,es',ep',ho,r⟩:=hm
   exact ⟨o,es',ep',all _ o (λhc=>(hf _ hc).2.1 rfl) ho,r⟩
  ·refine (I.hok c u e).nX (λc' v hc' q=>all c' v ?_ q) (λc' q=>q) λc' xs q=>q
   rcases hc' with rfl | hc'
   ·exact nfp _ _ e
   ·exact nfp _ _ hc'
 self:=λ_ _ _ _ _ S h=>zeA S.zz h
theorem TK (n a b:Nat)(ha:a < n)(hb:b < n):Zp (n+4) (n+2) (n+3) n (n+1) a b:=by
 refine ⟨?_,?_,?_⟩
 ·show ([n+4,n+2,n+3,n,n+1]:List Nat).Nodup
  simp only[Yc,Xr,XW,or_false,not_or,zcO,and_true,not_false_eq_true]
  and_intros<;>lia
 ·show a ∉ ([n+4,n+3,n,n+1]:List Nat)
  simp only[Xr,XW,or_false,not_or]
  lia
 ·show b ∉ ([n+4,n+3,n,n+1]:List Nat)
  simp only[Xr,XW,or_false,not_or]
  lia
theorem OX (n c:Nat)(h:c∈([n+4,n+2,n+3,n,n+1]:List Nat)):n<=c:=by
 simp only[Xr,XW,or_false] at h
 lia
section
variable {X:Cx} {ea eb:XJ} {es:List XJ} {ek:Nat} {ep p pos:Pos}
def kQ (tp:Bool)(x:D)(f:List D->Prop):Prop:=match tp,x with
 | true,.tup ds=>f ds
 | false,.ls ds=>f ds
 | _,_=>False
theorem Bl {K:Xa}{H:Hp}{tp:Bool}{v:V}{x:D}{f:List D->Prop}(p:Dp K H v x)(h:kQ tp x f):∃ a xs ds,v=.ref a/\SqX tp K H a xs/\DpL K H xs ds/\f ds:=by
 cases tp with
 | true=>cases p with
  | @tup a xs ds q l=>exact ⟨a,xs,ds,rfl,q,l,h⟩
  | _=>exact Xi h
 | false=>cases p with
  | @ls a xs ds q l=>exact ⟨a,xs,ds,rfl,q,l,h⟩
  | _=>exact Xi h
theorem Tk.sq {K:Xa}{H H':Hp}{tp:Bool}{a:Addr}{xs:List V}(t:Tk H H')(h:SqX tp K H a xs):Sq tp K H' a xs:=by
 cases tp with
 | true=>exact t.sqT h
 | false=>exact (t.sqF h).sq
end
end
section
open PySem.Spec PyProof.Rows L2
def kObj (x:D)(f:Addr->Prop):Prop:=match x with
 | .obj a=>f a
 | _=>False
theorem iH (a:Addr)(f):kObj (.obj a) f=f a:=rfl
section
variable {X:Cx} {o a b c e:XJ} {To Ta Tb Tc Te T T':ETr} {pos:Pos}
theorem UE {K:Xa}{H:Hp}{μ:Mu}{q:Addr}{u:HO}(m:bL K H μ)(t:Tk H (L2.upd H q u)):bL K (L2.upd H q u) (dn μ q):=λz y ez=>by
 have zq:z≠q:=λw=>by subst w;unfold dn at ez;rw[if_pos rfl] at ez;cases ez
 have ez':μ z=some y:=by unfold dn at ez;rw[if_neg zq] at ez;exact ez
 exact (m z _ ez').ne t zq
theorem kF {H:Hp}{q:Addr}{u:HO}{xs:List V}(ex:H q=some (.lst xs)):Tk H (L2.upd H q u):=
 .upd (λys z=>by rw[ex] at z;cases z) λo' w z=>by rw[ex] at z;cases z
theorem G9 {K:Xa}{H:Hp}{μ:Mu}{q:Addr}{xs ys:List V}{ds:List D}(m:bL K H μ)(ex:H q=some (.lst xs))(l:DpL K H ys ds):bL K (L2.upd H q (.lst ys)) (up μ q (.lst ds)):=λz y ez=>by
 by_cases zq:z=q
 ·subst zq
  rw[ay] at ez;cases ez
  exact ⟨ys,aK,l.mono (kF ex)⟩
 ·rw[aE zq] at ez
  exact (m z _ ez).ne (kF ex) zq
theorem A4 {K:Xa}{H:Hp}{μ:Mu}{q:Addr}{ys:List V}{ds:List D}(m:bL K H μ)(hq:H q=none)(l:DpL K H ys ds):bL K (L2.upd H q (.lst ys)) (up μ q (.lst ds)):=λz y ez=>by
 by_cases zq:z=q
 ·subst zq
  rw[ay] at ez;cases ez
  exact ⟨ys,aK,l.mono (.new hq)⟩
 ·rw[aE zq] at ez
  exact c6 m hq z y ez
def tM (T:ETr):ETr:=λρ μ Q=>T ρ μ λx μ1=>kObj x λa=>kL μ1 a λds=>Q (.ls ds) (dn μ1 a)
theorem qE (h:LE X e T):LE X e (tM T):=by
 obtain ⟨t,p,s⟩:=h.ex
 refine ⟨_,kG p,λσ H ρ μ Q Q' rl h k=>s σ H ρ μ _ _ rl h λv H1 d μ1 t1 m1 p1 h1=>?_⟩
 cases p1 with
 | obj q=>
  obtain ⟨ds,e0,h2⟩:=bP h1
  obtain ⟨xs,ex,l⟩:=m1 q _ e0
  refine ⟨q,xs,rfl,ex,λu=>?_⟩
  have t2:Tk H1 (L2.upd H1 q (.frz u (.lst xs))):=kF ex
  exact k _ _ _ (dn μ1 q) (t1.trans t2) (UE m1 t2) (.ls (.inl ⟨u,aK⟩) (l.mono t2)) h2
 | _=>exact Xi h1
def jn (To Te:ETr):ETr:=λρ μ Q=>To ρ μ λx μ1=>kObj x λa=>kL μ1 a λ_=>Te ρ μ1 λy μ2=>kL μ2 a λds=>ds.length < 1000000/\Q .non (up μ2 a (.lst (ds++[y])))
theorem le_app {apos cpos:Pos}(ho:LE X o To)(he:LE X e Te)
  (hbase:zat o (OF "append") X.env (Yr o X.env)=Yr o X.env:=by rfl)
  (hfew:((YI cpos (Xt [e] X.env)).all (λx=>!x.1)&&(zbs cpos (Z6 [] X.env)).all (λx=>x.1.isSome)
   && decide ([e].length+([]:List zag).length+(if ([]:List zag).isEmpty then 0 else 1) < 30))=true:=by rfl)
  (hline:(apos.endLine == cpos.line)=true:=by rfl) (hs:Xt [e] X.env=(false,Yr e X.env)::Xt [] X.env:=by rfl) (hplain:(YI cpos (Xt [] X.env)).any (·.1)=false:=by rfl) :
  LE X (.Call (.Attribute o (OF "append") apos) [e] [] cpos) (jn To Te):=by
 obtain ⟨to,po,so⟩:=ho.ex
 obtain ⟨te,pe,se⟩:=he.ex
 refine ⟨_,Dh ZF PySem.F.slot_list_append PySem.F.type_list_append uG po (eA pe iT hs) hbase hfew hline hs hplain,λσ H ρ μ Q Q' rl h k=>so σ H ρ μ _ _ rl h λx H1 dx μ1 t1 m1 p1 h1=>?_⟩
 cases p1 with
 | obj q=>
  obtain ⟨ds0,e0,h2⟩:=bP h1
  obtain ⟨xs0,ex0,_⟩:=m1 q _ e0
  refine ⟨.inl ⟨rfl,_,SqL.of ex0⟩,se σ H1 ρ μ1 _ _ (rl.go t1 m1) h2 λy H2 dy μ2 t2 m2 p2 h3=>?_⟩
  obtain ⟨ds,e1,lz,h4⟩:=bP h3
  obtain ⟨xs,ex,l⟩:=m2 q _ e1
  exact ⟨q,xs,y,rfl,rfl,ex,by rw[l.length];exact XG lz (by decide),k _ _ _ _ ((t1.trans t2).trans (kF ex)) (G9 m2 ex (l.append (.cons p2 .nil))) .non h4⟩
 | _=>exact Xi h1
def bz:FSp:=λds μ Q=>k1 ds λd=>match d with
 | .tup xs=>Q (.tup xs) μ
 | .ls xs=>Q (.tup xs) μ
 | .obj a=>kL μ a λxs=>Q (.tup xs) μ
 | _=>False
theorem aU {K:Xa}:kc K (λxs H Q=>∃ p ys,xs=[.ref p]/\((SqL K H p ys/\∀ l,H l=none->Q (.ref l) (L2.upd H l (.tup ys)))∨(SqT K H p ys/\Q (.ref p) H))) bz:=λH μ xs ds Q Q' m p h k=>by
 obtain ⟨v,d,rfl,p1,h⟩:=OD p h
 cases p1 with
 | tup q l=>exact ⟨_,_,rfl,.inr ⟨q,k _ H _ μ (.refl H) m (.tup q l) h⟩⟩
 | ls q l=>exact ⟨_,_,rfl,.inl ⟨q.sq,λz hz=>k _ _ _ μ (.new hz) (c6 m hz) (.tup (SqT.of aK) (l.mono (.new hz))) h⟩⟩
 | obj q=>
  obtain ⟨ys,e0,h⟩:=bP h
  obtain ⟨xs,ex,l⟩:=m q _ e0
  exact ⟨_,_,rfl,.inl ⟨SqL.of ex,λz hz=>k _ _ _ μ (.new hz) (c6 m hz) (.tup (SqT.of aK) (l.mono (.new hz))) h⟩⟩
 | _=>exact Xi h
def ji:FSp:=λds μ Q=>match ds with
 | [.tup xs]=>∀ p,μ p=none->Q (.obj p) (up μ p (.lst xs))
 | [.ls xs]=>∀ p,μ p=none->Q (.obj p) (up μ p (.lst xs))
 | [.obj a]=>kL μ a λxs=>∀ p,μ p=none->Q (.obj p) (up μ p (.lst xs))
 | _=>False
theorem uO {K:Xa}:kc K (λxs H Q=>∃ p ys,xs=[.ref p]/\(SqL K H p ys∨SqT K H p ys)/\∀ l,H l=none->Q (.ref l) (L2.upd H l (.lst ys))) ji:=λH μ xs ds Q Q' m p h k=>by
 unfold ji at h
 split at h
 ·cases p with | cons p1 p2=>cases p2;cases p1 with | tup q l=>exact ⟨_,_,rfl,.inr q,λz hz=>k _ _ _ _ (.new hz) (A4 m hz l) (.obj _) (h z (m.free hz))⟩
 ·cases p with | cons p1 p2=>cases p2;cases p1 with | ls q l=>exact ⟨_,_,rfl,.inl q.sq,λz hz=>k _ _ _ _ (.new hz) (A4 m hz l) (.obj _) (h z (m.free hz))⟩
 ·rename_i q
  cases p with | cons p1 p2=>
  cases p2;cases p1
  obtain ⟨ys,e0,h⟩:=bP h
  obtain ⟨xs,ex,l⟩:=m q _ e0
  exact ⟨_,_,rfl,.inl (SqL.of ex),λz hz=>k _ _ _ _ (.new hz) (A4 m hz l) (.obj _) (h z (m.free hz))⟩
 ·exact Xi h
def jB:FSp:=λds μ Q=>match ds with
 | [.tup xs]=>Q (.ls xs) μ
 | [.ls xs]=>Q (.ls xs) μ
 | [.obj a]=>kL μ a λxs=>Q (.ls xs) μ
 | _=>False
def PX (Q:VK):VK:=λv H1=>∃ a xs,v=.ref a/\H1 a=some (.lst xs)/\∀ o,Q v (L2.upd H1 a (.frz o (.lst xs)))
theorem gq {K:Xa}{H:Hp}{μ:Mu}{ys:List V}{ds:List D}{Q:DK}{Q':VK}{z:Addr}(m:bL K H μ)(l:DpL K H ys ds)(h:Q (.ls ds) μ)(k:ja K H Q Q')(hz:H z=none):PX Q' (.ref z) (L2.upd H z (.lst ys)):=
 ⟨z,ys,rfl,aK,λo=>by
  have e:L2.upd (L2.upd H z (.lst ys)) z (.frz o (.lst ys))=L2.upd H z (.frz o (.lst ys)):=Cu
  rw[e]
  exact k _ _ _ μ (.new hz) (c6 m hz) (.ls (.inl ⟨o,aK⟩) (l.mono (.new hz))) h⟩
theorem Ek {K:Xa}:kc K (λxs H Q=>∃ p ys,xs=[.ref p]/\(SqL K H p ys∨SqT K H p ys)/\∀ l,H l=none->PX Q (.ref l) (L2.upd H l (.lst ys))) jB:=λH μ xs ds Q Q' m p h k=>by
 unfold jB at h
 split at h
 ·cases p with | cons p1 p2=>cases p2;cases p1 with | tup q l=>exact ⟨_,_,rfl,.inr q,λz hz=>gq m l h k hz⟩
 ·cases p with | cons p1 p2=>cases p2;cases p1 with | ls q l=>exact ⟨_,_,rfl,.inl q.sq,λz hz=>gq m l h k hz⟩
 ·rename_i q
  cases p with | cons p1 p2=>
  cases p2;cases p1
  obtain ⟨ys,e0,h⟩:=bP h
  obtain ⟨xs,ex,l⟩:=m q _ e0
  exact ⟨_,_,rfl,.inl (SqL.of ex),λz hz=>gq m l h k hz⟩
 ·exact Xi h
theorem Jh {x:Str}{p:Pos}{At:ATr}(hx:x = "list")(hg:Gl X x)(hm:X.mg x=none)(hv:YC x=some (.type "list"))(ha:LA X [e] At)(hn:x ≠ "__name__" := by decide)(hdb:(x == ("__debug__" : Str))=false:=by decide)
  (h1:Xt [e] X.env=(false,Yr e X.env)::Xt [] X.env:=by rfl) (h2:(YI pos (Xt [] X.env)).any (·.1)=false:=by rfl):LE X (.Call (.Name x p) [e] [] pos) (aw jB At):=by
 obtain ⟨ta,pa,sa⟩:=ha.ex
 exact ⟨_,kG (t7 iR hg hm hv pa hn hdb h1 h2),λσ H ρ μ Q Q' rl h k=>sa σ H ρ μ _ _ rl h λxs H1 ds μ1 t1 m1 p1 h1=>Ek H1 μ1 xs ds Q Q' m1 p1 h1 (k.go t1)⟩
def iW:D->Bool
 | .non=>true
 | .bl _=>true
 | .int _=>true
 | .str _=>true
 | _=>false
def inD (x:D)(xs:List D):Bool:=xs.any λy=>eqD y x
def rIn (neg:Bool):DR2:=λx y μ Q=>match y with
 | .tup xs=>(iW x=true/\xs.all iW=true)/\Q (.bl (if neg then !inD x xs else inD x xs)) μ
 | .ls xs=>(iW x=true/\xs.all iW=true)/\Q (.bl (if neg then !inD x xs else inD x xs)) μ
 | .obj a=>kL μ a λxs=>(iW x=true/\xs.all iW=true)/\Q (.bl (if neg then !inD x xs else inD x xs)) μ
 | _=>False
end
end
section
open PySem.Spec PyProof.Rows L2
section
variable {X:Cx} {a b e:XJ} {Ta Tb T:ETr} {pos:Pos}
def Tr (t:TE):TE:=λσ H Q=>t σ H λv H1=>Q v H1∨PX Q v H1
theorem Cq {t:TE}(h:PE X e t):PE X e (Tr t):=by
 have g:PE X e (λσ H Q=>∃ P:VK,Fh t σ H P/\∀ v H',P v H'->Q v H'):=λpins s σ H Q I ⟨P,hP,k⟩=>
  thn (kG h pins s σ H P I hP) λu s1 ⟨v,H1,I1,r,q⟩=>⟨v,H1,I1,r,k _ _ q⟩
 intro pins s σ H Q I hh
 refine thn (h pins s σ H _ I hh) λu s1 ⟨v,H1,I1,r,q⟩=>?_
 rcases q with q | ⟨c,xs,rfl,ec,q⟩
 ·exact ⟨v,H1,I1,r,q⟩
 ·have hz:=I1.hok c _ ec
  obtain ⟨z,its,n,rv,hg⟩:=hz
  have nl:∀ d o,H1 d=some o->(∀ ys,o≠.lst ys)->d≠c:=λd o e1 e2 w=>by subst w;rw[ec] at e1;cases e1;exact e2 _ rfl
  refine ⟨.ref c,_,I1.un (h':=s1.heap) (t':=s1.toks) (H':=L2.upd H1 c (.frz { cls:=.type "list", data:=.seq its.toArray n } (.lst xs))) ⟨λd o e _ _ _=>e,λd o e _ _ _=>⟨o.slots,e⟩,λd o e w _=>?_,λd o e _=>⟨o,e⟩,λd ys e=>?_,λd o u e=>?_,λd ps e=>⟨#[],?_⟩⟩ (λd u e=>?_),r,q _⟩
  ·rw[aJ (λz=>by subst z;rw[ec] at w;cases w)];exact w
  ·rw[aJ (nl d _ e (λ_=>nofun))];exact e
  ·rw[aJ (nl d _ e (λ_=>nofun))];exact e
  ·rw[aJ (nl d _ e (λ_=>nofun)),e];simp
  ·by_cases hd:d=c
   ·subst hd
    rw[aK] at e;cases e
    exact ⟨hg,z,its,n,rv,hg⟩
   ·rw[aJ hd] at e
    refine (I1.hok d u e).nX (λk w _ q=>q) (λk q=>?_) λk ys q=>?_
    ·rw[aJ (nl k _ q (λ_=>nofun))];exact q
    ·rw[aJ (nl k _ q (λ_=>nofun))];exact q
def Oy (K:Xa):R2:=λx y H Q=>∃ p q ys,x=.ref p/\y=.ref q/\SqT K H p []/\SqT K H q ys/\Q (.ref q) H
theorem Ln:OpR X (ZC .Add) (Oy X.K):=λpins s σ H x y v u Q I rx ry ⟨p,q,ys,e1,e2,hp,hq,h⟩=>by
 subst e1 e2
 cases rx
 cases ry
 obtain ⟨its,r1,p1,_⟩:=I.tuple hp
 obtain ⟨its2,r2,p2,_⟩:=I.tuple hq
 cases r1
 obtain ⟨⟨c1,d1,t1,l1⟩,ho,hc,n,hd⟩:=id p1
 obtain ⟨⟨c2,d2,t2,l2⟩,ho2,hc2,n2,hd2⟩:=id p2
 simp only at hc hd hc2 hd2
 subst hc hd hc2 hd2
 exact zcc ⟨_,ho,rfl⟩ ⟨_,ho2,rfl⟩ zbX zdj zaP zaF (zas _ _)
  (tuple_addW0 p q #[] its2.toArray n n2 d1 d2 l1 l2 rfl) ⟨ho,ho2,⟨.ref q,H,I,rfl,h⟩⟩
def Pb (K:Xa):R2:=λx y H Q=>∃ p q xs ys,x=.ref p/\y=.ref q/\SqL K H p xs/\SqL K H q ys/\xs.length+ys.length<=sizeLine/\∀ z,H z=none->Q (.ref z) (L2.upd H z (.lst (xs++ys)))
theorem Nt:OpR X (ZC .Add) (Pb X.K):=λpins s σ H x y v u Q I rx ry ⟨p,q,xs,ys,e1,e2,hp,hq,hz,h⟩=>by
 subst e1 e2
 cases rx
 cases ry
 obtain ⟨its,r1,p1,_⟩:=I.list hp
 obtain ⟨its2,r2,p2,_⟩:=I.list hq
 obtain ⟨⟨c1,d1,t1,l1⟩,n,ho,hc,hx,hd⟩:=id p1
 obtain ⟨⟨c2,d2,t2,l2⟩,n2,ho2,hc2,hx2,hd2⟩:=id p2
 simp only at hc hd hc2 hd2
 subst hc hd hc2 hd2
 have z1:=r1.length
 have z2:=r2.length
 refine zcc ⟨_,ho,rfl⟩ ⟨_,ho2,rfl⟩ PySem.noFill_list_add PySem.seq_list_add PySem.F.slot_list_add PySem.F.entry_list_add (PySem.F.args_list_add_2 _ _)
  (list_addW p q its.toArray its2.toArray n n2 d1 d2 l1 l2 (by rw[Xz,Xz];lia)) ⟨ho,ho2,?_⟩
 have ea:its.toArray++its2.toArray=(its++its2).toArray:=by simp
 rw[ea]
 exact ⟨.ref _,_,I.Wi (t':=s.toks) (r1.append r2) (by rw[Xo];lia),rfl,h _ I.fresh⟩
def aT:DR2:=λx y μ Q=>match x,y with
 | .int i,.int j=>Q (.int (i+j)) μ
 | .str i,.str j=>i.length+j.length<=1000000/\Q (.str (i++j)) μ
 | .tup a,.tup b=>a.length+b.length<=1000000/\Q (.tup (a++b)) μ
 | .ls a,.ls b=>a.length+b.length<=1000000/\Q (.ls (a++b)) μ
 | _,_=>False
def rPl (K:Xa):R2:=λx y H Q=>(rI0 λi j=>.int (i+j)) x y H Q∨(∃ i j,x=.str i/\y=.str j/\i.length+j.length<=sizeLine/\Q (.str (i++j)) H)∨OE K x y H Q∨Oy K x y H Q∨Pb K x y H Q
theorem Nq:OpR X (ZC .Add) (rPl X.K):=λpins s σ H x y v u Q I rx ry h=>by
 rcases h with h | h | h | h | h
 ·exact Su pins s σ H x y v u Q I rx ry h
 ·exact zW pins s σ H x y v u Q I rx ry h
 ·exact L6 pins s σ H x y v u Q I rx ry h
 ·exact Ln pins s σ H x y v u Q I rx ry h
 ·exact Nt pins s σ H x y v u Q I rx ry h
theorem aH (ha:LE X a Ta)(hb:LE X b Tb):LE X (.BinOp a .Add b pos) (ak aT Ta Tb):=by
 obtain ⟨ta,pa,sa⟩:=ha.ex
 obtain ⟨tb,pb,sb⟩:=hb.ex
 refine ⟨_,Cq (Pe Nq pa pb),λσ H ρ μ Q Q' rl h k=>sa σ H ρ μ _ _ rl h λx H1 dx μ1 t1 m1 p1 h1=>sb σ H1 ρ μ1 _ _ (rl.go t1 m1) h1 λy H2 dy μ2 t2 m2 p2 h2=>?_⟩
 have p1:=p1.mono t2
 have k:=k.go (t1.trans t2)
 cases p1 with
 | int i=>
  cases p2 with
  | int j=>exact .inl ⟨i,j,rfl,rfl,.inl (k _ H2 _ μ2 (.refl H2) m2 (.int _) h2)⟩
  | _=>exact Xi h2
 | str i=>
  cases p2 with
  | str j=>exact .inr (.inl ⟨i,j,rfl,rfl,big h2.1,.inl (k _ H2 _ μ2 (.refl H2) m2 (.str _) h2.2)⟩)
  | _=>exact Xi h2
 | @tup q xs ds sq l=>
  cases p2 with
  | @tup q' ys es sq' l'=>
   obtain ⟨hz,h3⟩:=h2
   by_cases hx:xs=[]
   ·subst hx
    cases l
    exact .inr (.inr (.inr (.inl ⟨q,q',ys,rfl,rfl,sq,sq',.inl (k _ H2 _ μ2 (.refl H2) m2 (.tup sq' l') h3)⟩)))
   ·refine .inr (.inr (.inl ⟨q,q',xs,ys,rfl,rfl,sq,sq',hx,by rw[l.length,l'.length];exact big hz,λhy=>?_,λ_ z hzn=>.inl ?_⟩))
    ·subst hy
     cases l'
     rw[XU] at h3
     exact .inl (k _ H2 _ μ2 (.refl H2) m2 (.tup sq l) h3)
    ·exact k _ _ _ μ2 (.new hzn) (c6 m2 hzn) (.tup (SqT.of aK) ((l.append l').mono (.new hzn))) h3
  | _=>exact Xi h2
 | @ls q xs ds sq l=>
  cases p2 with
  | @ls q' ys es sq' l'=>exact .inr (.inr (.inr (.inr ⟨q,q',xs,ys,rfl,rfl,sq.sq,sq'.sq,by rw[l.length,l'.length];exact big h2.1,λz hz=>.inr (gq m2 (l.append l') h2.2 k hz)⟩)))
  | _=>exact Xi h2
 | _=>cases p2<;>exact Xi h2
abbrev OTr:=ST->Mu->(Option Int->Mu->Prop)->Prop
def ONo:OTr:=λ_ μ Q=>Q none μ
def ij (T:ETr):OTr:=λρ μ Q=>T ρ μ λx μ1=>kI x λi=>Q (some i) μ1
def Wn (K:Xa)(t:TO)(T:OTr):Prop:=∀ σ H ρ μ (Q:Option Int->Mu->Prop) (Q':Option Int->Hp->Prop),Rl K σ H ρ μ->T ρ μ Q->(∀ i H' μ',Tk H H'->bL K H' μ'->Q i μ'->Q' i H')->t σ H Q'
structure LO (X:Cx) (o:Option XJ) (T:OTr):Prop where
 ex:∃ t,PO X o t/\Wn X.K t T
theorem h9:LO X none ONo:=⟨_,Nk,λσ H ρ μ Q Q' rl h k=>k none H μ (.refl H) rl.mu h⟩
theorem dU (h:LE X e T):LO X (some e) (ij T):=by
 obtain ⟨t,p,s⟩:=h.ex
 refine ⟨_,M4 p,λσ H ρ μ Q Q' rl h k=>s σ H ρ μ _ _ rl h λv H1 d μ1 t1 m1 p1 h1=>?_⟩
 cases p1 with
 | int i=>exact ⟨i,rfl,k _ H1 μ1 t1 m1 h1⟩
 | _=>exact Xi h1
def cutD {α:Type}(xs:List α)(lo hi:Option Int):List α:=(xs.drop (HT.sIx xs.length 0 lo)).take (HT.sIx xs.length xs.length hi - HT.sIx xs.length 0 lo)
theorem Al {α:Type}{xs:List α}{lo hi:Option Int}(h:HT.sIx xs.length 0 lo=0/\HT.sIx xs.length xs.length hi=xs.length):cutD xs lo hi=xs:=by
 unfold cutD;rw[h.1,h.2];simp
theorem DpL.take {K:Xa}{H:Hp}:∀ {vs:List V} {ds:List D} (n:Nat),DpL K H vs ds->DpL K H (vs.take n) (ds.take n)
 | _,_,0,_=>.nil
 | _,_,_+1,.nil=>.nil
 | _,_,n+1,.cons h l=>.cons h (DpL.take n l)
theorem DpL.drop {K:Xa}{H:Hp}:∀ {vs:List V} {ds:List D} (n:Nat),DpL K H vs ds->DpL K H (vs.drop n) (ds.drop n)
 | _,_,0,l=>l
 | _,_,_+1,.nil=>.nil
 | _,_,n+1,.cons _ l=>DpL.drop n l
theorem DpL.cut {K:Xa}{H:Hp}{vs:List V}{ds:List D}(lo hi:Option Int)(l:DpL K H vs ds):DpL K H (zp vs lo hi) (cutD ds lo hi):=by
 unfold zp cutD;rw[l.length];exact (l.drop _).take _
theorem xg {prog:XO}{w:X0}{A:X8}{E:Xe->Xg->Prop}{s:Xg}{t sl:Addr}{items:Array Xe}{vl vu:Xe}{lo hi:Option Int}{Q:Xe->Xg->Prop}(ht:zeH s.heap t items)(hs:s.heap.IsSliceOf sl vl vu .none)(pl:IsPart vl lo)(pu:IsPart vu hi)
  (hw:HT.sIx items.size 0 lo=0/\HT.sIx items.size items.size hi=items.size) (h:Q (.ref t) s):Xy (XF prog w) A (zbl (.ref t) (.ref sl)) Q E s:=by
 obtain ⟨os,hos,hcs,hds⟩:=id hs
 have hTs:s.TypeIs (.ref sl) "slice" := ⟨os,hos,hcs⟩
 unfold zbl
 try with_reducible refine ZX ?_
 first | refine Xb (Xj ?_) | skip
 refine Xb (zdR ht.typeIs (by decide) ?_)
 refine Xb (Yj (name:=OF "__getitem__") ht.typeIs Yg (YK Yg ht.typeIs zc9 ?_ (zdz _ _)))
 show Xy _ _ (Z9 (.ref t) >>= _) _ _ s
 refine Xb (tupleItemsOf_ ht ?_)
 refine Xb <| wpAny_typeOf hTs ?_
 rw[if_pos (by decide)]
 refine Xb (HT.hX hs pl pu ?_)
 rw[hw.1,hw.2]
 refine (show Xy _ _ (if (((0:Nat):Int) == 0&&(1:Int) == 1&&(items.size - 0) == items.size)=true then _ else _) _ _ s from ?_)
 rw[if_pos (by simp)]
 unfold zfd
 refine Xb (Xb (wpAny_typeOf ht.typeIs (Xj ?_)))
 rw[if_pos (by decide)]
 first
  | exact Xb (Zy (Xb (Xj (Xj ⟨_,rfl,Xj h⟩))))
  | exact Xb (Zy (Xj ⟨_,rfl,Xj h⟩))
  | exact Xb (Xb (Zy (Xj (Xj ⟨_,rfl,Xj h⟩))))
def Vu (K:Xa):V->Option Int->Option Int->Hp->VK->Prop:=λx lo hi H Q=>∃ a xs,x=.ref a/\SqT K H a xs/\(HT.sIx xs.length 0 lo=0/\HT.sIx xs.length xs.length hi=xs.length)/\Q (.ref a) H
theorem HA:SlR X (Vu X.K):=λpins s σ H x v vl vu lo hi sl Q I rx hs pl pu ⟨q,xs,e,hx,hw,h⟩=>by
 subst e
 cases rx
 obtain ⟨its,r,ht,_⟩:=I.tuple hx
 have hlen:its.toArray.size=xs.length:=by rw[Xz];exact r.length.symm
 exact ⟨"tuple", _,Yg.lookup,ht.typeIs,xg ht hs pl pu (by rw[hlen];exact hw) ⟨.ref q,H,I,rfl,h⟩⟩
def rSl:D->Option Int->Option Int->Mu->DK->Prop:=λx lo hi μ Q=>match x with
 | .tup xs=>Q (.tup (cutD xs lo hi)) μ
 | .ls xs=>Q (.ls (cutD xs lo hi)) μ
 | .obj a=>kL μ a λxs=>Q (.ls (cutD xs lo hi)) μ
 | _=>False
def TSl (a:ETr)(lo hi:OTr):ETr:=λρ μ Q=>a ρ μ λx μ1=>lo ρ μ1 λl μ2=>hi ρ μ2 λh μ3=>rSl x l h μ3 Q
theorem gF {lo hi:Option XJ}{Tl Th:OTr}{p2:Pos}(ha:LE X a Ta)(hl:LO X lo Tl)(hh:LO X hi Th):LE X (.Subscript a (.Slice lo hi none p2) pos) (TSl Ta Tl Th):=by
 obtain ⟨ta,pa,sa⟩:=ha.ex
 obtain ⟨tl,pl,sl⟩:=hl.ex
 obtain ⟨th,ph,sh⟩:=hh.ex
 refine ⟨_,Cq (Ie (SlR.or HA (SlR.or Qy N6)) pa pl ph),λσ H ρ μ Q Q' rl h k=>sa σ H ρ μ _ _ rl h λx H1 dx μ1 t1 m1 p1 h1=>sl σ H1 ρ μ1 _ _ (rl.go t1 m1) h1 λi H2 μ2 t2 m2 h2=>sh σ H2 ρ μ2 _ _ (rl.go (t1.trans t2) m2) h2 λj H3 μ3 t3 m3 h3=>?_⟩
 have p1:=p1.mono (t2.trans t3)
 have k:=k.go (t1.trans (t2.trans t3))
 cases p1 with
 | @tup q xs ds sq l=>
  by_cases hw:HT.sIx xs.length 0 i=0/\HT.sIx xs.length xs.length j=xs.length
  ·refine .inl ⟨q,xs,rfl,sq,hw,.inl (k _ H3 _ μ3 (.refl H3) m3 (.tup sq l) ?_)⟩
   rw[l.length] at hw
   have h3:Q (.tup (cutD ds i j)) μ3:=h3
   rw[Al hw] at h3;exact h3
  ·exact .inr (.inl ⟨q,xs,rfl,sq,hw,λz hz=>.inl (k _ _ _ μ3 (.new hz) (c6 m3 hz) (.tup (SqT.of aK) ((l.cut i j).mono (.new hz))) h3)⟩)
 | @ls q xs ds sq l=>exact .inr (.inr ⟨q,xs,rfl,sq.sq,λz hz=>.inr (gq m3 (l.cut i j) h3 k hz)⟩)
 | obj q=>
  obtain ⟨ds,e0,h4⟩:=bP h3
  obtain ⟨xs,ex,l⟩:=m3 q _ e0
  exact .inr (.inr ⟨q,xs,rfl,SqL.of ex,λz hz=>.inr (gq m3 (l.cut i j) h4 k hz)⟩)
 | _=>exact Xi h3
theorem oN {α:Type}(xs:List α)(k:Nat):cutD xs none (some (k:Int))=xs.take k:=by
 unfold cutD
 rw[HT.yL,HT.CZ,List.drop_zero,Nat.sub_zero]
 rcases zfw k xs.length with h | h
 ·rw[zeT h]
 ·rw[zeB h,List.take_length,ZM h]
theorem ur {α:Type}(xs:List α)(k:Nat):cutD xs (some (k:Int)) none=xs.drop k:=by
 unfold cutD
 rw[HT.yL,HT.CZ]
 rcases zfw k xs.length with h | h
 ·rw[zeT h,ZM (by rw[zaY];lia)]
 ·rw[zeB h,ZE,zcj h];simp
end
end
section
open PySem.Spec PyProof.Rows L2
theorem iE:∀ {us:List Xe} {ns:List Int},zay us ns->Vals (ns.map V.int) us
 | _,_,.nil=>.nil
 | _,_,.cons n t h=>.cons ⟨t,rfl⟩ (iE h)
def RC (K:Xa):List V->Hp->VK->Prop:=λxs H Q=>∃ (p:Addr) (ns:List Int),xs=[.ref p]/\SqL K H p (ns.map V.int)/\ns.length < 64/\∀ ns':List Int,ns'.Perm ns->ns'.Pairwise (·<=·)->∀ z,H z=none->Q (.ref z) (L2.upd H z (.lst (ns'.map V.int)))
theorem Ah {X:Cx}:bV X (.builtin "sorted") (RC X.K):=λpins s σ H xs us Q I rx ⟨p,ns,e1,sq,hl,q⟩=>by
 subst e1
 obtain ⟨u,rfl,ru⟩:=vals1 rx
 cases ru
 obtain ⟨its,rv,pl,hz⟩:=I.list sq
 have hi:zay its ns:=intsAre_of rv
 have hlen:its.length < 64:=by rw[hi.length];exact hl
 refine sorted_ints pl.isList hi hlen λout ns' a1 a2 a3=>?_
 obtain ⟨n,en⟩:=sortedAll_at s.heap its out
 refine ⟨.ref _,_,I.laid (t':=s.toks) (o:=.lst (ns'.map V.int)) (λb o e=>sortedAll_old e) (zcM _) ?_,rfl,q ns' a2 a3 _ (I.hok.fresh (zcM _))⟩
 have z1:ns'.length=ns.length:=a2.length_eq
 exact ⟨by rw[Xc,z1];exact zaK (XG hl (by decide)),out.toList,n,iE a1,by simpa[zbz] using en⟩
theorem DpL.ints_of {K:Xa}{H:Hp}:∀ {xs:List V} {ns:List Int},DpL K H xs (ns.map .int)->xs=ns.map V.int
 | _,[],.nil=>rfl
 | _,n::r,.cons h l=>by cases h;rw[DpL.ints_of l];rfl
end
section
open PySem.Spec PyProof.Rows L2
theorem _root_.L2.Inv.frz {X:Cx}{pins:List (Addr×Obj)}{σ:L2.St}{H:Hp}{s:Xg}{c:Addr}{xs:List V}(I1:Inv X pins σ H s)(ec:H c=some (.lst xs)):∃ o,Inv X pins σ (L2.upd H c (.frz o (.lst xs))) s:=by
 obtain ⟨z,its,n,rv,hg⟩:=I1.hok c _ ec
 have nl:∀ d o,H d=some o->(∀ ys,o≠.lst ys)->d≠c:=λd o e1 e2 w=>by subst w;rw[ec] at e1;cases e1;exact e2 _ rfl
 refine ⟨_,I1.un (h':=s.heap) (t':=s.toks) (H':=L2.upd H c (.frz { cls:=.type "list", data:=.seq its.toArray n } (.lst xs))) ⟨λd o e _ _ _=>e,λd o e _ _ _=>⟨o.slots,e⟩,λd o e w _=>?_,λd o e _=>⟨o,e⟩,λd ys e=>?_,λd o u e=>?_,λd ps e=>⟨#[],?_⟩⟩ (λd u e=>?_)⟩
 ·rw[aJ (λz=>by subst z;rw[ec] at w;cases w)];exact w
 ·rw[aJ (nl d _ e (λ_=>nofun))];exact e
 ·rw[aJ (nl d _ e (λ_=>nofun))];exact e
 ·rw[aJ (nl d _ e (λ_=>nofun)),e];simp
 ·by_cases hd:d=c
  ·subst hd
   rw[aK] at e;cases e
   exact ⟨hg,z,its,n,rv,hg⟩
  ·rw[aJ hd] at e
   refine (I1.hok d u e).nX (λk w _ q=>q) (λk q=>?_) λk ys q=>?_
   ·rw[aJ (nl k _ q (λ_=>nofun))];exact q
   ·rw[aJ (nl k _ q (λ_=>nofun))];exact q
theorem C2 {X:Cx}{tg iter elt:XJ}{ifs:List XJ}{scope:Scope}{pos spos py:Pos}{y:Str}{iy:Nat}{wi:TI}{g:TG}{tt:TT}{te:TE}{Nc:List Str}{n:Nat}{caps:List Nat}
  (hxe:X.xe=λ_ _=>False) (hcalm:X.calm=true) (hi:PI X tg iter wi)
  (hbody:∀ (cl:List (Str×Addr)) (C:Addr) (s₀:Xg) (H₀:Hp) (ex:List Addr),PG (ba X scope Nc cl C s₀ H₀ ex) tg g/\xR (ba X scope Nc cl C s₀ H₀ ex) ifs tt/\PE (ba X scope Nc cl C s₀ H₀ ex) elt te)
  (hfree:∀ y∈scope.names,y.2=.free->X.env.kindOf y.1=some .cell) (hcell:∀ y∈scope.names,y.2≠.cell) (fS:scope.kind=.function)
  (hnames:∀ y∈scope.names,y.2=.local->scope.names.lookup y.1=some .local) (hlen:Nc.length=n+caps.length)
  (hcap:∀ (j k:Nat),caps[j]? = some k->∃ x,Nc[n+j]? = some x/\X.N[k]? = some x/\scope.names.lookup x=some .free)
  (pgy:PG X (.Name y py) (lO iy))
  (hsw:Zq (.ListComp elt [⟨tg,iter,ifs,0⟩] scope pos) (some (.Name y py)) spos.line X.env=pure true)
  (hs:∀ x,X6 iter X.env x=pure x:=by intro _;rfl) :
  PS X (.Assign [.Name y py] (.ListComp elt [⟨tg,iter,ifs,0⟩] scope pos) spos) (J7 (Fh (kf wi g tt te n caps)) (lO iy)):=
 xC (Z:=Fh) hxe hcalm hi hbody hfree hcell fS hnames hlen hcap pgy hsw (λσ H Q h=>⟨_,h,λpins D H5 s5 I5 ⟨a,xs,ea,eH,q⟩=>by
  cases ea
  obtain ⟨o,I6⟩:=I5.frz eH
  exact ⟨_,λb hb=>by rw[aJ (λz=>by rw[z,eH] at hb;cases hb)];exact hb,I6,q o⟩⟩) hs
theorem HQ {K:Xa}{wi:TI}{It':ATr}{G:GTr}{Tt:TTr}{Te:ETr}{n:Nat}{caps:List Nat}(si:Rx K wi It'):Sim K (Fh (kf wi (lV K n G) (liftT K Tt) (lC K Te) n caps)) (bQ It' G Tt Te n caps):=by
 intro σ H ρ μ Q Q' rl h k
 refine si σ H ρ μ _ _ rl h λJ H1 ds μ1 t1 m1 Y h1 D hD=>?_
 have hp:=h1 D (m1.free hD)
 have tD:Tk H1 (L2.upd H1 D (.lst [])):=.new hD
 have mD:bL K (L2.upd H1 D (.lst [])) (up μ1 D (.lst [])):=λa o e=>by
  by_cases ha:a=D
  ·subst ha
   rw[ay] at e;cases e
   exact ⟨[],aK,.nil⟩
  ·rw[aE ha] at e
   exact c6 m1 hD a o e
 refine ⟨λi m ys H2=>m=ds.length - i/\i<=ds.length/\Tk H1 H2/\∃ μ2,bL K H2 μ2/\fj D G Tt Te (eL ρ n caps) (λμ'=>kL μ' D λzs=>Q (.ls zs) (dn μ' D)) (ds.drop i) μ2,
  ⟨ds.length,by simp,Yu _,tD,_,mD,by simpa using hp⟩,?_⟩
 rintro i m ys H2 ⟨rfl,hi,t12,μ2,m2,h2⟩
 by_cases hlt:i < ds.length
 ·refine .inr ⟨Y.go i H2 t12 hlt,λys' H'=>Tk H1 H'/\∃ μ',bL K H' μ'/\fj D G Tt Te (eL ρ n caps) (λμ'=>kL μ' D λzs=>Q (.ls zs) (dn μ' D)) (ds.drop (i+1)) μ',λys' H' ⟨t',μ',m',h'⟩=>⟨ds.length - (i+1),by lia,rfl,hlt,t',μ',m',h'⟩,λx H3 y=>?_⟩
  obtain ⟨t23,⟨d,ed,pd⟩,mk⟩:=Y.yld i H2 x H3 t12 hlt y
  have e:ds.drop i=d::ds.drop (i+1):=by
   refine (YX hlt).trans ?_
   congr 1
   rw[Xx hlt] at ed
   exact X5 ed
  rw[e] at h2
  have t13:=t12.trans t23
  have r3:Rl K (j9 σ n caps) H3 (eL ρ n caps) μ2:=oZ (rl.go (t1.trans t13) (mk _ m2)) n caps
  refine ⟨_,_,d,_,r3,pd,h2,λσ4 H4 ρ4 μ4 t4 r4 kp h4=>⟨⟨kp.1.symm,λj v ej=>?_⟩,_,_,_,r4,h4,λb H5 μ5 t5 m5 h5=>?_⟩⟩
  ·by_cases hj:n<=j
   ·rw[kp.2 j hj];exact ej
   ·obtain ⟨j',k',e1,_⟩:=jF ej
    lia
  ·have t15:=t13.trans (t4.trans t5)
   cases b with
   | false=>exact qi ⟨t15,μ5,m5,h5⟩
   | true=>
    refine pF ⟨_,_,_,r4.go t5 m5,h5,λv H6 d6 μ6 t6 m6 p6 h6=>?_⟩
    obtain ⟨zs,ez,lz,h7⟩:=bP h6
    obtain ⟨xs,ex,lx⟩:=m6 D _ ez
    have t67:Tk H6 (L2.upd H6 D (.lst (xs++[v]))):=.upd (λys z=>by rw[ex] at z;cases z) λo' u z=>by rw[ex] at z;cases z
    refine ⟨xs,ex,by rw[lx.length];exact XG lz (by decide),(t15.trans t6).trans t67,up μ6 D (.lst (zs++[d6])),λa o ea=>?_,h7⟩
    by_cases ha:a=D
    ·subst ha
     rw[ay] at ea;cases ea
     exact ⟨_,aK,(lx.append (.cons p6 .nil)).mono t67⟩
    ·rw[aE ha] at ea
     exact (m6 a _ ea).ne t67 ha
 ·have e:i=ds.length:=by lia
  subst e
  rw[ZE] at h2
  obtain ⟨zs,ez,hq⟩:=bP (show kL μ2 D λzs=>Q (.ls zs) (dn μ2 D) from h2)
  obtain ⟨xs,ex,lx⟩:=m2 D _ ez
  refine .inl ⟨Y.stop _ H2 t12 (Xq _),D,xs,rfl,ex,λo=>?_⟩
  have t2f:Tk H2 (L2.upd H2 D (.frz o (.lst xs))):=.upd (λys z=>by rw[ex] at z;cases z) λo' u z=>by rw[ex] at z;cases z
  refine k _ _ _ (dn μ2 D) ((t1.trans t12).trans t2f) (λa o' ea=>?_) (.ls (.inl ⟨o,aK⟩) (lx.mono t2f)) hq
  have ha:a≠D:=λz=>by subst z;unfold dn at ea;rw[if_pos rfl] at ea;cases ea
  have ea':μ2 a=some o':=by unfold dn at ea;rw[if_neg ha] at ea;exact ea
  exact (m2 a _ ea').ne t2f ha
theorem fP {X:Cx}{tg elt iter:XJ}{Te:ETr}{Tt:TTr}{pos spos py:Pos}{y:Str}{It':ATr}{G:GTr}{ifs:List XJ}{scope fsc:Scope}(iy:Nat)(hN:X.N.Nodup)(XN Nc:List Str)(n:Nat)(caps:List Nat)(hxe:X.xe=λ_ _=>False)(hcalm:X.calm=true)(hi:LI X tg iter It')
  (hbody:∀ (cl:List (Str×Addr)) (C:Addr) (s₀:Xg) (H₀:Hp) (ex:List Addr),LGc (ba X scope Nc cl C s₀ H₀ ex) n tg G/\yn (ba X scope Nc cl C s₀ H₀ ex) ifs Tt/\LE (ba X scope Nc cl C s₀ H₀ ex) elt Te)
  (hsc:X.env.scope=fsc) (hXN:X.N=XN) (hok:gO fsc.names XN scope Nc n caps=true)
  (hiy:X.N[iy]? = some y:=by rfl) (hx:Loc X.env.scope y:=by first | exact zaQ rfl | exact zaR rfl) (hf:X.fn y=true∨X.env.scope.names.lookup y=some .local:=by first | exact .inl rfl | exact .inr rfl | assumption)
  (hsw:Zq (.ListComp elt [⟨tg,iter,ifs,0⟩] scope pos) (some (.Name y py)) spos.line X.env=pure true:=by rfl)
  (hs:∀ x,X6 iter X.env x=pure x:=by intro _;rfl) :
  LS X (.Assign [.Name y py] (.ListComp elt [⟨tg,iter,ifs,0⟩] scope pos) spos) (aO (bQ It' G Tt Te n caps) (av iy)):=by
 unfold gO at hok
 simp only[XY,zaj] at hok
 obtain ⟨⟨⟨h1,h2⟩,h3⟩,h4⟩:=hok
 obtain ⟨wi,pi,si⟩:=hi.ex
 refine ⟨_,C2 (g:=lV X.K n G) (tt:=liftT X.K Tt) (te:=lC X.K Te) hxe hcalm pi (λcl C s₀ H₀ ex=>let ⟨h1,h2,h3⟩:=hbody cl C s₀ H₀ ex;⟨h1.pe,h2.pe,h3.pe⟩) (λy hy hf=>?_) (λy hy hf=>?_) (by simpa using h2) (λy hy hf=>?_) (by simpa using h3) (λj k hj=>?_) (iU hN hiy hx hf) hsw hs,λσ H ρ μ E E' rl h k=>HQ si σ H ρ μ _ _ rl h λv H' d μ' t' m' p' h'=>hU iy σ H' ρ μ' v d _ _ (rl.go t' m') p' h' (k.go t').nx⟩
 ·have:=(h1 y hy).1.1
  show X.env.scope.names.lookup y.1=_
  rw[hsc]
  simpa[hf] using this
 ·have:=(h1 y hy).1.2
  simp[hf] at this
 ·have:=(h1 y hy).2
  simpa[hf] using this
 ·have hl:j < caps.length:=(XR.mp hj).1
  have:=h4 j (Ys.mpr hl)
  rw[hj] at this
  dsimp only at this
  rw[hXN]
  cases e:XN[k]? with
  | none=>rw[e] at this;cases this
  | some x=>
   rw[e] at this
   dsimp only at this
   rw[XY] at this
   exact ⟨x,by simpa using this.1,rfl,by simpa using this.2⟩
end
section
open PySem.Spec PyProof.Rows L2
section
variable {X:Cx} {ea:XJ} {es:List XJ} {ek:Nat} {ep p pos:Pos}
def ko (ds:List D):List D:=(XX ds.length).zipWith (λi d=>.tup [.int (i:Nat),d]) ds
def U0 (t:ATr):ATr:=λρ μ Q=>t ρ μ λvs μ1=>match vs with
 | [.ls ds]=>Q (ko ds) μ1
 | _=>False
theorem uh (ds:List D)(i:Nat):(ko ds)[i]? = (ds[i]?).map λd=>.tup [.int (i:Nat),d]:=by
 unfold ko
 rw[zcC]
 by_cases h:i < ds.length
 ·rw[zdb h,Xx h];rfl
 ·rw[zam.mpr (by simpa using h),zam.mpr (by simpa using h)];rfl
theorem uF (ds:List D):(ko ds).length=ds.length:=by unfold ko;simp
variable {eb:XJ} {tg:XJ} {Ta Tb:ETr}
end
end
section
open PySem.Spec PyProof PyProof.Rows L2
theorem eP:∀ {us:List Xe} {ns:List Int},zay us ns->∃ ps:List (Int×Tok),us=ps.map (λp=>zbo p.1 p.2)/\ps.map zd3=ns
 | _,_,.nil=>⟨[],⟨rfl,rfl⟩⟩
 | _,_,.cons n t h=>by
  obtain ⟨ps,e1,e2⟩:=eP h
  exact ⟨(n,t)::ps,by rw[e1];rfl,by rw[← e2];rfl⟩
theorem iS (ps:List (Int×Tok))(i:Nat):zcP ps.toArray i=((ps.map zd3)[i]?).getD 0:=by
 unfold zcP
 simp only[List.getElem?_toArray,Yp]
theorem Eu {X:Cx}(hc:X.calm=true):bV X (.builtin "max") (λxs H Q=>∃ (p:Addr) (ns:List Int),xs=[.ref p]/\SqL X.K H p (ns.map V.int)/\ns≠[]/\∀ M,M∈ns->(∀ a∈ns,a<=M)->Q (.int M) H):=λpins s σ H xs us Q I rx ⟨p,ns,e1,sq,ne,q⟩=>by
 subst e1
 obtain ⟨u,rfl,ru⟩:=vals1 rx
 cases ru
 obtain ⟨its,rv,pl,_⟩:=I.list sq
 obtain ⟨ps,rfl,rfl⟩:=eP (intsAre_of rv)
 have hn:0 < ps.length:=by cases ps with | nil=>exact absurd rfl ne | cons=>simp
 have il:s.heap.IsList p (zav ps.toArray):=by
  have:=pl.isList
  simpa[zav] using this
 refine max_intList (I.ok.hd hc) il (by simpa using hn) λv h' tk hv hk=>?_
 rcases zeM hv with ⟨t,rfl⟩
 obtain ⟨b1,b2⟩:=argBest_gt (zcP ps.toArray) (ps.toArray.size - 1)
 generalize zaz (λi j=>decide (zcP ps.toArray i > zcP ps.toArray j)) (ps.toArray.size - 1)=k at hv b1 b2
 have hs:ps.toArray.size=ps.length:=by simp
 rw[hs] at b1 b2
 have hk':k < (ps.map zd3).length:=by rw[Xc];lia
 refine ⟨.int _,H,I.kept hk,⟨t,rfl⟩,q _ ?_ λa ha=>?_⟩
 ·rw[iS,Xx hk']
  exact YM hk'
 ·obtain ⟨j,hj,rfl⟩:=Zd ha
  have:=b2 j (by rw[Xc] at hj;lia)
  rw[iS ps j,Xx hj] at this
  exact this
def Kf:FSp:=λds μ Q=>match ds with
 | [.ls xs]=>∃ ns:List Int,(xs=ns.map .int/\ns≠[])/\∀ M,M∈ns->(∀ a∈ns,a<=M)->Q (.int M) μ
 | _=>False
theorem GF {K:Xa}:kc K (λxs H Q=>∃ (p:Addr) (ns:List Int),xs=[.ref p]/\SqL K H p (ns.map V.int)/\ns≠[]/\∀ M,M∈ns->(∀ a∈ns,a<=M)->Q (.int M) H) Kf:=λH μ xs ds Q Q' m p h k=>by
 unfold Kf at h
 split at h
 ·obtain ⟨ns,⟨rfl,ne⟩,h⟩:=h
  cases p with | cons p1 p2=>
  cases p2
  cases p1 with
  | @ls q xs ds sq l=>
   have ex:=l.ints_of
   subst ex
   exact ⟨q,ns,rfl,sq.sq,ne,λM h1 h2=>k _ H _ μ (.refl H) m (.int _) (h M h1 h2)⟩
 ·exact h.elim
section
variable {X:Cx} {a b:XJ} {Ta Tb:ETr} {pos:Pos}
end
end
theorem vB (i j:Int)(μ Q):aT (.int i) (.int j) μ Q=Q (.int (i+j)) μ:=rfl
theorem vk (i j:Str)(μ Q):aT (.str i) (.str j) μ Q=(i.length+j.length<=1000000/\Q (.str (i++j)) μ):=rfl
theorem vo (a b:List D)(μ Q):aT (.tup a) (.tup b) μ Q=(a.length+b.length<=1000000/\Q (.tup (a++b)) μ):=rfl
theorem wx (a b:List D)(μ Q):aT (.ls a) (.ls b) μ Q=(a.length+b.length<=1000000/\Q (.ls (a++b)) μ):=rfl
theorem rX (a:List D)(μ Q):bz [.tup a] μ Q=Q (.tup a) μ:=rfl
theorem p9 (a:List D)(μ Q):bz [.ls a] μ Q=Q (.tup a) μ:=rfl
theorem ro (a:Addr)(μ Q):bz [.obj a] μ Q=kL μ a λxs=>Q (.tup xs) μ:=rfl
theorem rZ (a:List D)(μ Q):jB [.tup a] μ Q=Q (.ls a) μ:=rfl
theorem rg (a:List D)(μ Q):jB [.ls a] μ Q=Q (.ls a) μ:=rfl
theorem qg (a:Addr)(μ Q):jB [.obj a] μ Q=kL μ a λxs=>Q (.ls xs) μ:=rfl
theorem pT (a:List D)(μ Q):ji [.tup a] μ Q = ∀ p,μ p=none->Q (.obj p) (up μ p (.lst a)):=rfl
theorem pE (a:List D)(μ Q):ji [.ls a] μ Q = ∀ p,μ p=none->Q (.obj p) (up μ p (.lst a)):=rfl
theorem qX (a:Addr)(μ Q):ji [.obj a] μ Q=kL μ a λxs=>∀ p,μ p=none->Q (.obj p) (up μ p (.lst xs)):=rfl
theorem IU (a:List D)(lo hi)(μ Q):rSl (.tup a) lo hi μ Q=Q (.tup (cutD a lo hi)) μ:=rfl
theorem IJ (a:List D)(lo hi)(μ Q):rSl (.ls a) lo hi μ Q=Q (.ls (cutD a lo hi)) μ:=rfl
theorem FJ (a:Addr)(lo hi)(μ Q):rSl (.obj a) lo hi μ Q=kL μ a λxs=>Q (.ls (cutD xs lo hi)) μ:=rfl
theorem J6 (n:Bool)(x:D)(a:List D)(μ Q):L3.rIn n x (.tup a) μ Q=((iW x=true/\a.all iW=true)/\Q (.bl (if n then !inD x a else inD x a)) μ):=rfl
theorem Im (n:Bool)(x:D)(a:List D)(μ Q):L3.rIn n x (.ls a) μ Q=((iW x=true/\a.all iW=true)/\Q (.bl (if n then !inD x a else inD x a)) μ):=rfl
theorem JA (n:Bool)(x:D)(a:Addr)(μ Q):L3.rIn n x (.obj a) μ Q=kL μ a λxs=>(iW x=true/\xs.all iW=true)/\Q (.bl (if n then !inD x xs else inD x xs)) μ:=rfl
theorem BL (a:Addr)(μ Q):dI [.obj a] μ Q=kL μ a λxs=>Q (.int xs.length) μ:=rfl
theorem AZ (x:Str)(μ Q):dI [.str x] μ Q=(x.length<=1000000/\Q (.int x.length) μ):=rfl
theorem JD (μ Q):rIs .non .non μ Q=Q (.bl true) μ:=rfl
theorem JN (i:Int)(μ Q):rIs (.int i) .non μ Q=Q (.bl false) μ:=rfl
theorem Jt (i:List D)(μ Q):rIs (.tup i) .non μ Q=Q (.bl false) μ:=rfl
theorem sx (μ Q):jv .non .non μ Q=Q (.bl false) μ:=rfl
theorem pP (i:Int)(μ Q):jv (.int i) .non μ Q=Q (.bl true) μ:=rfl
theorem pJ (i:List D)(μ Q):jv (.tup i) .non μ Q=Q (.bl true) μ:=rfl
theorem Aq (c:String)(i:List D)(μ Q):fW c (.ls i) μ Q=Q (.bl (eB "list" c)) μ:=rfl
theorem AL (c:String)(i:Str)(μ Q):fW c (.str i) μ Q=Q (.bl (eB "str" c)) μ:=rfl
theorem BB (c:String)(μ Q):fW c .non μ Q=Q (.bl (eB "NoneType" c)) μ:=rfl
theorem bU (k:Nat)(ds:List D):atD ds (k:Int)=ds[k]?:=by
 unfold atD L2.atI L2.ixN
 rw[if_pos (zaD k)]
 by_cases h:k < ds.length
 ·rw[if_pos (by lia)];simp
 ·rw[if_neg (by lia)];simp;lia
theorem zJ (ds:List D):atD ds 0=ds[0]?:=bU 0 ds
theorem zH (ds:List D):atD ds 1=ds[1]?:=bU 1 ds
theorem CK (ds:List D):atD ds 2=ds[2]?:=bU 2 ds
theorem Cz (ds:List D):atD ds 3=ds[3]?:=bU 3 ds
theorem CB (ds:List D):atD ds 4=ds[4]?:=bU 4 ds
theorem DN (ds:List D):atD ds 5=ds[5]?:=bU 5 ds
theorem Lu (n k:Nat):L2.ixN n (k:Int)=if k < n then some k else none:=by
 unfold L2.ixN
 rw[if_pos (zaD k)]
 by_cases h:k < n
 ·rw[if_pos (by lia),if_pos h];simp
 ·rw[if_neg (by lia),if_neg h]
theorem fk:eB "int" "int" = true:=by decide
theorem fu:eB "int" "bool" = false:=by decide
theorem fD:eB "bool" "bool" = true:=by decide
theorem fN:eB "bool" "int" = true:=by decide
theorem ft:eB "tuple" "tuple" = true:=by decide
theorem fm:eB "int" "tuple" = false:=by decide
theorem fB:eB "bool" "tuple" = false:=by decide
theorem fm0 {a n:Int}(h:0 < n):0<=a.fmod n:=Int.fmod_nonneg_of_pos a h
theorem fm1 {a n:Int}(h:0 < n):a.fmod n < n:=Int.fmod_lt_of_pos a h
theorem HJ (A B:Prop):kIf true A B=A:=rfl
theorem Il (A B:Prop):kIf false A B=B:=rfl
theorem HD (p:Prop) [Decidable p] (A B:Prop):kIf (decide p) A B=if p then A else B:=by by_cases h:p<;>simp[h,kIf]
theorem Io (c:Bool)(A B:Prop):kIf (!c) A B=kIf c B A:=by cases c<;>rfl
theorem IG (c:Bool)(f):kB (.bl c) f=f c:=rfl
theorem Bh (c:Int)(f):kI (.int c) f=f c:=rfl
theorem oT (c:D)(f):kO (some c) f=f c:=rfl
theorem BE (c:List D)(f):kS (.tup c) f=f c:=rfl
theorem HM (c:List D)(f):kS (.ls c) f=f c:=rfl
theorem AX (a b:D)(f):k2 [a,b] f=f a b:=rfl
theorem wc (c:Nat)(f):kN (some c) f=f c:=rfl
theorem DF (μ:Mu)(a:Addr)(ds:List D)(f):kL (up μ a (.lst ds)) a f=f ds:=by unfold kL;rw[ay]
theorem Uq {μ:Mu}{a:Addr}{ds:List D}(h:μ a=some (.lst ds))(f):kL μ a f=f ds:=by unfold kL;rw[h]
theorem qC (a:Addr)(n:Int)(y:D)(μ:Mu)(f):UT (.obj a) (.int n) y μ f=kL μ a λds=>kN (L2.ixN ds.length n) λj=>f (up μ a (.lst (ds.set j y))):=rfl
theorem Cf (i j:Int)(μ Q):gM (.int i) (.int j) μ Q=Q (.int (i - j)) μ:=rfl
theorem BZ (i j:Int)(μ Q):gL (.int i) (.int j) μ Q=(MulOk i j/\Q (.int (i*j)) μ):=rfl
theorem AB (i j:Int)(μ Q):nY (.int i) (.int j) μ Q=(jK j/\Q (.int (i.fdiv j)) μ):=rfl
theorem Ad (i j:Int)(μ Q):mJ (.int i) (.int j) μ Q=(j≠0/\Q (.int (i.fmod j)) μ):=rfl
theorem Ci (i j:Int)(μ Q):La (.int i) (.int j) μ Q=(yQ i j/\Q (.int (i ^ j.toNat)) μ):=rfl
theorem A8 (i:Int)(μ Q):EZ (.int i) μ Q=Q (.int (-i)) μ:=rfl
theorem Jr (i j:Int)(μ Q):rLt (.int i) (.int j) μ Q=Q (.bl (decide (i < j))) μ:=rfl
theorem Kq (i j:Int)(μ Q):rLe (.int i) (.int j) μ Q=Q (.bl (decide (i<=j))) μ:=rfl
theorem Iz (i j:Int)(μ Q):rGt (.int i) (.int j) μ Q=Q (.bl (decide (j < i))) μ:=rfl
theorem JC (i j:Int)(μ Q):rGe (.int i) (.int j) μ Q=Q (.bl (decide (j<=i))) μ:=rfl
theorem Ig (x y:D)(μ Q):L3.rEq x y μ Q=((okD 40 x=true/\okD 40 y=true)/\Q (.bl (eqD x y)) μ):=rfl
theorem Hj (x y:D)(μ Q):L3.rNe x y μ Q=((okD 40 x=true/\okD 40 y=true)/\Q (.bl (!eqD x y)) μ):=rfl
theorem rh (ds:List D)(i:Int)(μ Q):L3.rIx (.tup ds) (.int i) μ Q=kO (atD ds i) λd=>Q d μ:=rfl
theorem yb (ds:List D)(i:Int)(μ Q):L3.rIx (.ls ds) (.int i) μ Q=kO (atD ds i) λd=>Q d μ:=rfl
theorem Kg (a:Addr)(i:Int)(μ Q):L3.rIx (.obj a) (.int i) μ Q=kL μ a λds=>kO (atD ds i) λd=>Q d μ:=rfl
theorem Bw (c:String)(i:Int)(μ Q):fW c (.int i) μ Q=Q (.bl (eB "int" c)) μ:=rfl
theorem Ap (c:String)(i:Bool)(μ Q):fW c (.bl i) μ Q=Q (.bl (eB "bool" c)) μ:=rfl
theorem AW (c:String)(i:List D)(μ Q):fW c (.tup i) μ Q=Q (.bl (eB "tuple" c)) μ:=rfl
theorem AO (i:Int)(μ Q):Ho [.int i] μ Q=Q (.int (if i < 0 then -i else i)) μ:=rfl
theorem Bk (i j:Int)(μ Q):rW [.int i,.int j] μ Q=Q (.int (if j > i then j else i)) μ:=rfl
theorem AU (i j:Int)(μ Q):yV [.int i,.int j] μ Q=Q (.int (if j < i then j else i)) μ:=rfl
theorem Bj (i:Int)(μ Q):D8 [.int i] μ Q=Q (.int i) μ:=rfl
theorem Af (i:Bool)(μ Q):D8 [.bl i] μ Q=Q (.int (if i then 1 else 0)) μ:=rfl
theorem BD (i:List D)(μ Q):dI [.tup i] μ Q=Q (.int i.length) μ:=rfl
theorem Ck (i:List D)(μ Q):dI [.ls i] μ Q=Q (.int i.length) μ:=rfl
local macro_rules | `(tactic| walk_at "rd")=>zzS "L3.ah L3.TC L3.ak L3.TUn L3.kr L3.GK L3.Ks L3.TB L3.wN L3.TOr L3.ES L3.kM L3.Ao L3.au L3.af L3.bC L3.gK L3.jo L3.aw L3.bM L3.aC L3.AI L3.Iy L3.dZ L3.aZ L3.Ik L3.dq L3.av L3.aO L3.E8 L3.Az L3.jC L3.iQ L3.dG L3.HJ L3.Il L3.HD L3.Io L3.IG L3.Bh L3.oT L3.BE L3.HM L3.AX L3.wc L3.DF L3.qC L3.vB L3.vk L3.vo L3.wx L3.jn L3.iH L3.tM L3.rX L3.p9 L3.ro L3.rZ L3.rg L3.qg L3.pT L3.pE L3.qX L3.TSl L3.ONo L3.ij L3.IU L3.IJ L3.FJ L3.J6 L3.Im L3.JA L3.BL L3.AZ L3.JD L3.JN L3.Jt L3.sx L3.pP L3.pJ L3.Aq L3.AL L3.BB L3.Cf L3.BZ L3.AB L3.Ad L3.Ci L3.A8 L3.Jr L3.Kq L3.Iz L3.JC L3.Ig L3.Hj L3.rh L3.yb L3.Kg L3.Bw L3.Ap L3.AW L3.AO L3.Bk L3.AU L3.Bj L3.Af L3.BD L3.Ck L3.lk L3.ini zd4 Y6 YQ zeN zfH zb0 YE zck zdn zdo L3.zJ L3.zH L3.CK L3.Cz L3.CB L3.DN zaH zaI L3.ay zd5 zb1 if_true if_false true_and and_true za5 zcQ zcR zb2 za8 zcs decide_eq_true_eq Zk ite_false ite_true ne_eq not_false_eq_true zct zdp zdq zdr zds zdt zd6 L3.okD L3.cH L3.eqD L3.kb zdu zbR zdv L3.fk L3.fu L3.fD L3.fN L3.ft L3.fm L3.fB"
def Box (μ:Mu)(b:Addr):Prop:=∃ g s c:Int,μ b=some (.lst [.int g,.int s,.int c])/\0<=s/\s < 2147483647
structure qB (b:Addr) (μ μ':Mu):Prop where
 box:Box μ' b
 oth:∀ a,a≠b->μ' a=μ a
theorem qB.trans {b:Addr}{μ μ1 μ2:Mu}(x:qB b μ μ1)(y:qB b μ1 μ2):qB b μ μ2:=⟨y.box,λa h=>(y.oth a h).trans (x.oth a h)⟩
theorem F8 (x y:Int):Ya y (x.fmod y)=Ya x y:=by
 rw[Int.fmod_def,Int.gcd_sub_mul_left_right,zcl]
theorem HV (a:Int):(if a < 0 then -a else a)=(a.natAbs:Int):=by
 split<;>lia
def mz (i:Nat):ST->Mu->Nat:=λρ _=>match lk ρ i with
 | some (.int z)=>z.toNat
 | _=>0
structure Fr (p q:Int):Prop where
 q0:0 < q
 q1:q < 100000000000
 p0:-100000000000 < p
 p1:p < 100000000000
 g:Ya p q=1
theorem ip {a b:Int}(h:0 < b):a.fdiv b=a / b:=Int.fdiv_eq_ediv_of_nonneg a (zd7 h)
def gR:FSp:=λds μ Q=>kcL ds λxs ds=>kcN ds ((∃ ns:List Int,xs=ns.map .int/\ns.length<=63)/\∀ μ',Q (.bl true) μ')
theorem vS:zz_l gR 1:=by walk_at "&L"
theorem mX (ns:List Int)(h:ns.length<=63)(μ:Mu):gR [.ls (ns.map .int)] μ (λd _=>d=.bl true):=⟨⟨ns,rfl,h⟩,λ_=>rfl⟩
local macro_rules | `(tactic| walk_at "rd")=>zzS "L3.ah L3.TC L3.ak L3.TUn L3.kr L3.GK L3.Ks L3.TB L3.wN L3.TOr L3.ES L3.kM L3.Ao L3.au L3.af L3.bC L3.gK L3.jo L3.aw L3.bM L3.aC L3.AI L3.Iy L3.dZ L3.aZ L3.Ik L3.dq L3.av L3.aO L3.E8 L3.Az L3.jC L3.iQ L3.dG L3.bQ L3.fj L3.eL L3.dW L3.TZ L3.ILs L3.HJ L3.Il L3.HD L3.Io L3.IG L3.Bh L3.oT L3.BE L3.HM L3.AX L3.wc L3.DF L3.qC L3.vB L3.vk L3.vo L3.wx L3.jn L3.iH L3.tM L3.rX L3.p9 L3.ro L3.rZ L3.rg L3.qg L3.pT L3.pE L3.qX L3.TSl L3.ONo L3.ij L3.IU L3.IJ L3.FJ L3.J6 L3.Im L3.JA L3.BL L3.AZ L3.JD L3.JN L3.Jt L3.sx L3.pP L3.pJ L3.Aq L3.AL L3.BB L3.Cf L3.BZ L3.AB L3.Ad L3.Ci L3.A8 L3.Jr L3.Kq L3.Iz L3.JC L3.Ig L3.Hj L3.rh L3.yb L3.Kg L3.Bw L3.Ap L3.AW L3.AO L3.Bk L3.AU L3.Bj L3.Af L3.BD L3.Ck L3.lk L3.ini zd4 Y6 YQ zeN zfH zb0 YE zck zdn zdo L3.zJ L3.zH L3.CK L3.Cz L3.CB L3.DN zaH zaI L3.ay L3.iw zd5 zb1 if_true if_false true_and and_true za5 zcQ zcR zb2 za8 zcs decide_eq_true_eq Zk ite_false ite_true ne_eq not_false_eq_true zct zdp zdq zdr zds zdt zd6 L3.okD L3.cH L3.eqD L3.kb zdu zbR zdv L3.fk L3.fu L3.fD L3.fN L3.ft L3.fm L3.fB"
structure IsPart (a b p q:Int):Prop where
 q0:0 < q
 g:Ya p q=1
 e:p*b=a*q
 pa:p.natAbs<=a.natAbs
 qb:q.natAbs<=b.natAbs
theorem pM {g c:Int}(hg:0 < g):c.natAbs<=(g*c).natAbs:=by
 rw[zfe]
 exact Nat.le_mul_of_pos_left _ (by lia)
theorem CT {a b:Int}(hb:b≠0):IsPart a b (a.fdiv (if b < 0 then -(Ya a b:Int) else Ya a b)) (b.fdiv (if b < 0 then -(Ya a b:Int) else Ya a b)):=by
 have gp:0 < Ya a b:=ZT a hb
 have gz:0 < (Ya a b:Int):=by lia
 obtain ⟨c,hc⟩:=zeC a b
 obtain ⟨d,hd⟩:=zd8 a b
 have g1:=zbD gp
 have e1:a / (Ya a b:Int)=c:=Ze (by lia) hc
 have e2:b / (Ya a b:Int)=d:=Ze (by lia) hd
 rw[e1,e2] at g1
 generalize (Ya a b:Int)=g at *
 clear e1 e2 gp
 subst hc hd
 have p1:=pM (c:=c) gz
 have p2:=pM (c:=d) gz
 split
 ·rename_i hneg
  have d0:d < 0:=by
   rcases zaS d 0 with h | h | h
   ·exact h
   ·subst h;lia
   ·have:=YN gz h;lia
  have x1:(g*c).fdiv (-g) = -c:=by rw[show g*c = -g * -c by rw[zeU]];exact Zz _ (by lia)
  have x2:(g*d).fdiv (-g) = -d:=by rw[show g*d = -g * -d by rw[zeU]];exact Zz _ (by lia)
  rw[x1,x2]
  refine ⟨by lia,by rw[Int.neg_gcd,Int.gcd_neg];exact g1,?_,by lia,by lia⟩
  rw[Int.neg_mul,Int.mul_neg,zd9,zfn]
 ·rename_i hneg
  have d0:0 < d:=by
   rcases zaS d 0 with h | h | h
   ·have:=zan gz h;lia
   ·subst h;lia
   ·exact h
  have x1:(g*c).fdiv g=c:=Zz _ (by lia)
  have x2:(g*d).fdiv g=d:=Zz _ (by lia)
  rw[x1,x2]
  refine ⟨d0,g1,?_,by lia,by lia⟩
  rw[zd9,zfn]
theorem N5 {p q p' q':Int}(q0:0 < q)(q0':0 < q')(g:Ya p q=1)(g':Ya p' q'=1)(e:p*q'=p'*q):p=p'/\q=q':=by
 have h1:q ∣ q':=by
  have:q ∣ p*q':=⟨p',by rw[e,YF]⟩
  have h:=Zf.mpr this
  rw[zcl,g] at h
  simpa using h
 have h2:q' ∣ q:=by
  have:q' ∣ p'*q:=⟨p,by rw[← e,YF]⟩
  have h:=Zf.mpr this
  rw[zcl,g'] at h
  simpa using h
 have e3:q=q':=Int.dvd_antisymm (by lia) (by lia) h1 h2
 subst e3
 exact ⟨Zm (by lia) e,rfl⟩
theorem IsPart.same {a b p q a' b' p' q':Int}(h:IsPart a b p q)(h':IsPart a' b' p' q')(hb:b≠0)(hb':b'≠0)(e:a*b'=a'*b):p=p'/\q=q':=by
 refine N5 h.q0 h'.q0 h.g h'.g ?_
 have e1:=h.e
 have e2:=h'.e
 have x:(p*q')*(b*b')=(p'*q)*(b*b'):=by
  calc (p*q')*(b*b')=(p*b)*(q'*b'):=by ac_rfl
   _=(a*q)*(q'*b'):=by rw[e1]
   _=(a*b')*(q*q'):=by ac_rfl
   _=(a'*b)*(q*q'):=by rw[e]
   _=(a'*q')*(q*b):=by ac_rfl
   _=(p'*b')*(q*b):=by rw[e2]
   _=(p'*q)*(b*b'):=by ac_rfl
 exact Zm (Int.mul_ne_zero hb hb') x
def fJ:FSp:=λds μ Q=>kcI ds λa ds=>kcI ds λb ds=>kcN ds (Q (.int (Ya a b)) μ)
theorem tJ:zz_l fJ 2:=by walk_at "&II"
def nD:STr:=by walk_at "~4"
theorem va:zz_q fJ nD 5:=by
 intro ds μ Q k
 replace k:=ecI k
 obtain ⟨a,ds,rfl,k⟩:=k
 replace k:=ecI k
 obtain ⟨b,ds,rfl,k⟩:=k
 replace k:=ecN k
 obtain ⟨rfl,k⟩:=k
 unfold nD
 walk_at "rd"
 refine ⟨λρ μ'=>μ'=μ/\∃ (x y:Int) (z:Option D),ρ=[some (.int a),some (.int b),some (.int x),some (.int y),z]/\0<=x/\0<=y/\Ya x y=Ya a b,mz 3,⟨rfl,_,_,_,rfl,?_,?_,?_⟩,?_⟩
 ·split<;>lia
 ·split<;>lia
 ·rw[HV,HV];unfold Ya;rw[zdF,zdF]
 ·rintro ρ _ ⟨rfl,x,y,z,rfl,x0,y0,e⟩
  walk_at "rd"
  split
  ·rename_i hy
   refine ⟨by lia,⟨_,_,_,rfl,y0,fm0 hy,?_⟩,?_⟩
   ·rw[F8];exact e
   ·have:=fm1 (a:=x) hy
    have:=fm0 (a:=x) hy
    simp only[mz,lk]
    lia
  ·rename_i hy
   have hy0:y=0:=by lia
   subst hy0
   rw[Int.gcd_zero_right] at e
   have hx:x=(Ya a b:Int):=by lia
   subst hx
   exact ⟨_,.refl _,k⟩
def gw:FSp:=λds μ Q=>kcI ds λa ds=>kcI ds λb ds=>kcN ds ((b≠0/\j7 b)/\∀ p q,IsPart a b p q->Q (.tup [.int p,.int q]) μ)
theorem FX:zz_l gw 2:=by walk_at "&II"
def Kb:STr:=by walk_at "~5"
theorem M5:zz_q gw Kb 3:=by
 walk_at "^ Ia Ib"
 obtain ⟨⟨hb,hm⟩,k⟩:=h
 have P:=k _ _ (CT (a:=a) hb)
 have gp:0 < Ya a b:=ZT a hb
 have gl:Ya a b<=b.natAbs:=Int.gcd_le_natAbs_right a hb
 unfold Kb
 walk_at "rd"
 show (if b < 0 then _ else _)
 split
 ·rename_i hn
  rw[if_pos hn] at P
  have dv:jK (-(Ya a b:Int)):=by (simp only[L3.jK,L3.MulOk,L3.S64,L3.j7,L3.yQ] at *;lia)
  exact ⟨dv,dv,_,.refl _,P⟩
 ·rename_i hn
  rw[if_neg hn] at P
  have dv:jK (Ya a b:Int):=by (simp only[L3.jK,L3.MulOk,L3.S64,L3.j7,L3.yQ] at *;lia)
  exact ⟨dv,dv,_,.refl _,P⟩
structure FrB (lo hi p q:Int):Prop where
 q0:0 < q
 q1:q<=10000002
 g:Ya p q=1
 ge:lo*q<=p
 le:p<=hi*q
structure FrA (lo hi p q:Int):Prop extends FrB lo hi p q where
 ab:lo*q < p
structure FrL (hi p q:Int):Prop extends FrB 0 hi p q where
 ab:0 < p
 be:p < hi*q
theorem tY {a b:Int}(b0:0 < b):∃ g p q:Int,0 < g/\a=g*p/\b=g*q/\a.fdiv (Ya a b)=p/\b.fdiv (Ya a b)=q/\0 < q/\q<=b/\Ya p q=1:=by
 have gp:0 < Ya a b:=ZT a (by lia)
 have gz:0 < (Ya a b:Int):=by lia
 obtain ⟨c,hc⟩:=zeC a b
 obtain ⟨d,hd⟩:=zd8 a b
 have g1:=zbD gp
 have e1:a / (Ya a b:Int)=c:=Ze (by lia) hc
 have e2:b / (Ya a b:Int)=d:=Ze (by lia) hd
 rw[e1,e2] at g1
 refine ⟨_,c,d,gz,hc,hd,by rw[ip gz];exact e1,by rw[ip gz];exact e2,?_,?_,g1⟩
 all_goals generalize (Ya a b:Int)=g at *
 ·rcases zaS d 0 with h | h | h
  ·have:=zan gz h;lia
  ·subst h;lia
  ·exact h
 ·have d0:0 < d:=by
   rcases zaS d 0 with h | h | h
   ·have:=zan gz h;lia
   ·subst h;lia
   ·exact h
  have h:=XD (show (1:Int)<=g by lia) (show (0:Int)<=d by lia)
  lia
theorem sP:(OF "still" = OF "step")=False:=eq_false (by decide +kernel)
theorem qy:(OF "still" = OF "swell")=False:=eq_false (by decide +kernel)
theorem sV:(OF "still" = OF "heed")=False:=eq_false (by decide +kernel)
theorem sR:(OF "still" = OF "calm")=False:=eq_false (by decide +kernel)
theorem tu:(OF "step" = OF "still")=False:=eq_false (by decide +kernel)
theorem tE:(OF "step" = OF "swell")=False:=eq_false (by decide +kernel)
theorem vh:(OF "step" = OF "heed")=False:=eq_false (by decide +kernel)
theorem wA:(OF "step" = OF "calm")=False:=eq_false (by decide +kernel)
theorem rC:(OF "swell" = OF "still")=False:=eq_false (by decide +kernel)
theorem sO:(OF "swell" = OF "step")=False:=eq_false (by decide +kernel)
theorem tH:(OF "swell" = OF "heed")=False:=eq_false (by decide +kernel)
theorem sC:(OF "swell" = OF "calm")=False:=eq_false (by decide +kernel)
theorem sH:(OF "heed" = OF "still")=False:=eq_false (by decide +kernel)
theorem uX:(OF "heed" = OF "step")=False:=eq_false (by decide +kernel)
theorem sU:(OF "heed" = OF "swell")=False:=eq_false (by decide +kernel)
theorem wq:(OF "heed" = OF "calm")=False:=eq_false (by decide +kernel)
theorem tL:(OF "calm" = OF "still")=False:=eq_false (by decide +kernel)
theorem wo:(OF "calm" = OF "step")=False:=eq_false (by decide +kernel)
theorem sJ:(OF "calm" = OF "swell")=False:=eq_false (by decide +kernel)
theorem uW:(OF "calm" = OF "heed")=False:=eq_false (by decide +kernel)
theorem uP:Xn (OF "still")=true:=by decide +kernel
theorem xB:Xn (OF "step")=true:=by decide +kernel
theorem uQ:Xn (OF "swell")=true:=by decide +kernel
theorem xh:Xn (OF "heed")=true:=by decide +kernel
theorem yU:Xn (OF "calm")=true:=by decide +kernel
abbrev fr (p q:Int):D:=.tup [.int p,.int q]
theorem cp (i:Decidable (OF "still" = OF "step")):@decide (OF "still" = OF "step") i=false:=by cases i with | isTrue h=>exact absurd h (by rw[sP];exact not_false) | isFalse _=>rfl
theorem bT (i:Decidable (OF "still" = OF "swell")):@decide (OF "still" = OF "swell") i=false:=by cases i with | isTrue h=>exact absurd h (by rw[qy];exact not_false) | isFalse _=>rfl
theorem cq (i:Decidable (OF "still" = OF "heed")):@decide (OF "still" = OF "heed") i=false:=by cases i with | isTrue h=>exact absurd h (by rw[sV];exact not_false) | isFalse _=>rfl
theorem cx (i:Decidable (OF "still" = OF "calm")):@decide (OF "still" = OF "calm") i=false:=by cases i with | isTrue h=>exact absurd h (by rw[sR];exact not_false) | isFalse _=>rfl
theorem cu (i:Decidable (OF "step" = OF "still")):@decide (OF "step" = OF "still") i=false:=by cases i with | isTrue h=>exact absurd h (by rw[tu];exact not_false) | isFalse _=>rfl
theorem cw (i:Decidable (OF "step" = OF "swell")):@decide (OF "step" = OF "swell") i=false:=by cases i with | isTrue h=>exact absurd h (by rw[tE];exact not_false) | isFalse _=>rfl
theorem cU (i:Decidable (OF "step" = OF "heed")):@decide (OF "step" = OF "heed") i=false:=by cases i with | isTrue h=>exact absurd h (by rw[vh];exact not_false) | isFalse _=>rfl
theorem cL (i:Decidable (OF "step" = OF "calm")):@decide (OF "step" = OF "calm") i=false:=by cases i with | isTrue h=>exact absurd h (by rw[wA];exact not_false) | isFalse _=>rfl
theorem bR (i:Decidable (OF "swell" = OF "still")):@decide (OF "swell" = OF "still") i=false:=by cases i with | isTrue h=>exact absurd h (by rw[rC];exact not_false) | isFalse _=>rfl
theorem ck (i:Decidable (OF "swell" = OF "step")):@decide (OF "swell" = OF "step") i=false:=by cases i with | isTrue h=>exact absurd h (by rw[sO];exact not_false) | isFalse _=>rfl
theorem cy (i:Decidable (OF "swell" = OF "heed")):@decide (OF "swell" = OF "heed") i=false:=by cases i with | isTrue h=>exact absurd h (by rw[tH];exact not_false) | isFalse _=>rfl
theorem cA (i:Decidable (OF "swell" = OF "calm")):@decide (OF "swell" = OF "calm") i=false:=by cases i with | isTrue h=>exact absurd h (by rw[sC];exact not_false) | isFalse _=>rfl
theorem cC (i:Decidable (OF "heed" = OF "still")):@decide (OF "heed" = OF "still") i=false:=by cases i with | isTrue h=>exact absurd h (by rw[sH];exact not_false) | isFalse _=>rfl
theorem cR (i:Decidable (OF "heed" = OF "step")):@decide (OF "heed" = OF "step") i=false:=by cases i with | isTrue h=>exact absurd h (by rw[uX];exact not_false) | isFalse _=>rfl
theorem cj (i:Decidable (OF "heed" = OF "swell")):@decide (OF "heed" = OF "swell") i=false:=by cases i with | isTrue h=>exact absurd h (by rw[sU];exact not_false) | isFalse _=>rfl
theorem cT (i:Decidable (OF "heed" = OF "calm")):@decide (OF "heed" = OF "calm") i=false:=by cases i with | isTrue h=>exact absurd h (by rw[wq];exact not_false) | isFalse _=>rfl
theorem cz (i:Decidable (OF "calm" = OF "still")):@decide (OF "calm" = OF "still") i=false:=by cases i with | isTrue h=>exact absurd h (by rw[tL];exact not_false) | isFalse _=>rfl
theorem cW (i:Decidable (OF "calm" = OF "step")):@decide (OF "calm" = OF "step") i=false:=by cases i with | isTrue h=>exact absurd h (by rw[wo];exact not_false) | isFalse _=>rfl
theorem cv (i:Decidable (OF "calm" = OF "swell")):@decide (OF "calm" = OF "swell") i=false:=by cases i with | isTrue h=>exact absurd h (by rw[sJ];exact not_false) | isFalse _=>rfl
theorem cP (i:Decidable (OF "calm" = OF "heed")):@decide (OF "calm" = OF "heed") i=false:=by cases i with | isTrue h=>exact absurd h (by rw[uW];exact not_false) | isFalse _=>rfl
theorem iJ (a:Str)(i:Decidable (a=a)):@decide (a=a) i=true:=by cases i with | isTrue _=>rfl | isFalse h=>exact absurd rfl h
def kLs (x:D)(f:List D->Prop):Prop:=match x with
 | .ls ds=>f ds
 | _=>False
def fb (sp:FSp)(ds:List D)(μ:Mu)(Q:DK):Prop:=sp ds μ Q
def LEN (ds:List D)(P:Prop):Prop:=ds.length<=1000000/\P
theorem RY (d:D)(r:ST)(μ:Mu)(Q:DK):ah 0 (some d::r) μ Q=Q d μ:=propext Xf
theorem N1 (x0:Option D)(r:ST)(d:D)(μ:Mu)(k:ST->Mu->Prop):av 0 d (x0::r) μ k=k (some d::r) μ:=propext Xf
theorem QY (x0:Option D)(d:D)(r:ST)(μ:Mu)(Q:DK):ah 1 (x0::some d::r) μ Q=Q d μ:=propext Xf
theorem N9 (x0 x1:Option D)(r:ST)(d:D)(μ:Mu)(k:ST->Mu->Prop):av 1 d (x0::x1::r) μ k=k (x0::some d::r) μ:=propext Xf
theorem QI (x0 x1:Option D)(d:D)(r:ST)(μ:Mu)(Q:DK):ah 2 (x0::x1::some d::r) μ Q=Q d μ:=propext Xf
theorem KA (x0 x1 x2:Option D)(r:ST)(d:D)(μ:Mu)(k:ST->Mu->Prop):av 2 d (x0::x1::x2::r) μ k=k (x0::x1::some d::r) μ:=propext Xf
theorem QO (x0 x1 x2:Option D)(d:D)(r:ST)(μ:Mu)(Q:DK):ah 3 (x0::x1::x2::some d::r) μ Q=Q d μ:=propext Xf
theorem Of (x0 x1 x2 x3:Option D)(r:ST)(d:D)(μ:Mu)(k:ST->Mu->Prop):av 3 d (x0::x1::x2::x3::r) μ k=k (x0::x1::x2::some d::r) μ:=propext Xf
theorem Sk (x0 x1 x2 x3:Option D)(d:D)(r:ST)(μ:Mu)(Q:DK):ah 4 (x0::x1::x2::x3::some d::r) μ Q=Q d μ:=propext Xf
theorem NZ (x0 x1 x2 x3 x4:Option D)(r:ST)(d:D)(μ:Mu)(k:ST->Mu->Prop):av 4 d (x0::x1::x2::x3::x4::r) μ k=k (x0::x1::x2::x3::some d::r) μ:=propext Xf
theorem SH (x0 x1 x2 x3 x4:Option D)(d:D)(r:ST)(μ:Mu)(Q:DK):ah 5 (x0::x1::x2::x3::x4::some d::r) μ Q=Q d μ:=propext Xf
theorem KI (x0 x1 x2 x3 x4 x5:Option D)(r:ST)(d:D)(μ:Mu)(k:ST->Mu->Prop):av 5 d (x0::x1::x2::x3::x4::x5::r) μ k=k (x0::x1::x2::x3::x4::some d::r) μ:=propext Xf
theorem Sb (x0 x1 x2 x3 x4 x5:Option D)(d:D)(r:ST)(μ:Mu)(Q:DK):ah 6 (x0::x1::x2::x3::x4::x5::some d::r) μ Q=Q d μ:=propext Xf
theorem M7 (x0 x1 x2 x3 x4 x5 x6:Option D)(r:ST)(d:D)(μ:Mu)(k:ST->Mu->Prop):av 6 d (x0::x1::x2::x3::x4::x5::x6::r) μ k=k (x0::x1::x2::x3::x4::x5::some d::r) μ:=propext Xf
theorem Rp (x0 x1 x2 x3 x4 x5 x6:Option D)(d:D)(r:ST)(μ:Mu)(Q:DK):ah 7 (x0::x1::x2::x3::x4::x5::x6::some d::r) μ Q=Q d μ:=propext Xf
theorem K8 (x0 x1 x2 x3 x4 x5 x6 x7:Option D)(r:ST)(d:D)(μ:Mu)(k:ST->Mu->Prop):av 7 d (x0::x1::x2::x3::x4::x5::x6::x7::r) μ k=k (x0::x1::x2::x3::x4::x5::x6::some d::r) μ:=propext Xf
theorem RE (x0 x1 x2 x3 x4 x5 x6 x7:Option D)(d:D)(r:ST)(μ:Mu)(Q:DK):ah 8 (x0::x1::x2::x3::x4::x5::x6::x7::some d::r) μ Q=Q d μ:=propext Xf
theorem MG (x0 x1 x2 x3 x4 x5 x6 x7 x8:Option D)(r:ST)(d:D)(μ:Mu)(k:ST->Mu->Prop):av 8 d (x0::x1::x2::x3::x4::x5::x6::x7::x8::r) μ k=k (x0::x1::x2::x3::x4::x5::x6::x7::some d::r) μ:=propext Xf
theorem R7 (x0 x1 x2 x3 x4 x5 x6 x7 x8:Option D)(d:D)(r:ST)(μ:Mu)(Q:DK):ah 9 (x0::x1::x2::x3::x4::x5::x6::x7::x8::some d::r) μ Q=Q d μ:=propext Xf
theorem MD (x0 x1 x2 x3 x4 x5 x6 x7 x8 x9:Option D)(r:ST)(d:D)(μ:Mu)(k:ST->Mu->Prop):av 9 d (x0::x1::x2::x3::x4::x5::x6::x7::x8::x9::r) μ k=k (x0::x1::x2::x3::x4::x5::x6::x7::x8::some d::r) μ:=propext Xf
theorem MP (x0 x1 x2 x3 x4 x5 x6 x7 x8 x9:Option D)(d:D)(r:ST)(μ:Mu)(Q:DK):ah 10 (x0::x1::x2::x3::x4::x5::x6::x7::x8::x9::some d::r) μ Q=Q d μ:=propext Xf
theorem Kr (x0 x1 x2 x3 x4 x5 x6 x7 x8 x9 x10:Option D)(r:ST)(d:D)(μ:Mu)(k:ST->Mu->Prop):av 10 d (x0::x1::x2::x3::x4::x5::x6::x7::x8::x9::x10::r) μ k=k (x0::x1::x2::x3::x4::x5::x6::x7::x8::x9::some d::r) μ:=propext Xf
theorem Mb (x0 x1 x2 x3 x4 x5 x6 x7 x8 x9 x10:Option D)(d:D)(r:ST)(μ:Mu)(Q:DK):ah 11 (x0::x1::x2::x3::x4::x5::x6::x7::x8::x9::x10::some d::r) μ Q=Q d μ:=propext Xf
theorem IZ (x0 x1 x2 x3 x4 x5 x6 x7 x8 x9 x10 x11:Option D)(r:ST)(d:D)(μ:Mu)(k:ST->Mu->Prop):av 11 d (x0::x1::x2::x3::x4::x5::x6::x7::x8::x9::x10::x11::r) μ k=k (x0::x1::x2::x3::x4::x5::x6::x7::x8::x9::x10::some d::r) μ:=propext Xf
theorem Na (x0 x1 x2 x3 x4 x5 x6 x7 x8 x9 x10 x11:Option D)(d:D)(r:ST)(μ:Mu)(Q:DK):ah 12 (x0::x1::x2::x3::x4::x5::x6::x7::x8::x9::x10::x11::some d::r) μ Q=Q d μ:=propext Xf
theorem FT (x0 x1 x2 x3 x4 x5 x6 x7 x8 x9 x10 x11 x12:Option D)(r:ST)(d:D)(μ:Mu)(k:ST->Mu->Prop):av 12 d (x0::x1::x2::x3::x4::x5::x6::x7::x8::x9::x10::x11::x12::r) μ k=k (x0::x1::x2::x3::x4::x5::x6::x7::x8::x9::x10::x11::some d::r) μ:=propext Xf
theorem Ob (x0 x1 x2 x3 x4 x5 x6 x7 x8 x9 x10 x11 x12:Option D)(d:D)(r:ST)(μ:Mu)(Q:DK):ah 13 (x0::x1::x2::x3::x4::x5::x6::x7::x8::x9::x10::x11::x12::some d::r) μ Q=Q d μ:=propext Xf
theorem FW (x0 x1 x2 x3 x4 x5 x6 x7 x8 x9 x10 x11 x12 x13:Option D)(r:ST)(d:D)(μ:Mu)(k:ST->Mu->Prop):av 13 d (x0::x1::x2::x3::x4::x5::x6::x7::x8::x9::x10::x11::x12::x13::r) μ k=k (x0::x1::x2::x3::x4::x5::x6::x7::x8::x9::x10::x11::x12::some d::r) μ:=propext Xf
theorem K4 (x0 x1 x2 x3 x4 x5 x6 x7 x8 x9 x10 x11 x12 x13:Option D)(d:D)(r:ST)(μ:Mu)(Q:DK):ah 14 (x0::x1::x2::x3::x4::x5::x6::x7::x8::x9::x10::x11::x12::x13::some d::r) μ Q=Q d μ:=propext Xf
theorem IC (x0 x1 x2 x3 x4 x5 x6 x7 x8 x9 x10 x11 x12 x13 x14:Option D)(r:ST)(d:D)(μ:Mu)(k:ST->Mu->Prop):av 14 d (x0::x1::x2::x3::x4::x5::x6::x7::x8::x9::x10::x11::x12::x13::x14::r) μ k=k (x0::x1::x2::x3::x4::x5::x6::x7::x8::x9::x10::x11::x12::x13::some d::r) μ:=propext Xf
theorem KY (x0 x1 x2 x3 x4 x5 x6 x7 x8 x9 x10 x11 x12 x13 x14:Option D)(d:D)(r:ST)(μ:Mu)(Q:DK):ah 15 (x0::x1::x2::x3::x4::x5::x6::x7::x8::x9::x10::x11::x12::x13::x14::some d::r) μ Q=Q d μ:=propext Xf
theorem Gj (x0 x1 x2 x3 x4 x5 x6 x7 x8 x9 x10 x11 x12 x13 x14 x15:Option D)(r:ST)(d:D)(μ:Mu)(k:ST->Mu->Prop):av 15 d (x0::x1::x2::x3::x4::x5::x6::x7::x8::x9::x10::x11::x12::x13::x14::x15::r) μ k=k (x0::x1::x2::x3::x4::x5::x6::x7::x8::x9::x10::x11::x12::x13::x14::some d::r) μ:=propext Xf
theorem KO (x0 x1 x2 x3 x4 x5 x6 x7 x8 x9 x10 x11 x12 x13 x14 x15:Option D)(d:D)(r:ST)(μ:Mu)(Q:DK):ah 16 (x0::x1::x2::x3::x4::x5::x6::x7::x8::x9::x10::x11::x12::x13::x14::x15::some d::r) μ Q=Q d μ:=propext Xf
theorem IP (x0 x1 x2 x3 x4 x5 x6 x7 x8 x9 x10 x11 x12 x13 x14 x15 x16:Option D)(r:ST)(d:D)(μ:Mu)(k:ST->Mu->Prop):av 16 d (x0::x1::x2::x3::x4::x5::x6::x7::x8::x9::x10::x11::x12::x13::x14::x15::x16::r) μ k=k (x0::x1::x2::x3::x4::x5::x6::x7::x8::x9::x10::x11::x12::x13::x14::x15::some d::r) μ:=propext Xf
theorem NG (x0 x1 x2 x3 x4 x5 x6 x7 x8 x9 x10 x11 x12 x13 x14 x15 x16:Option D)(d:D)(r:ST)(μ:Mu)(Q:DK):ah 17 (x0::x1::x2::x3::x4::x5::x6::x7::x8::x9::x10::x11::x12::x13::x14::x15::x16::some d::r) μ Q=Q d μ:=propext Xf
theorem Ib (x0 x1 x2 x3 x4 x5 x6 x7 x8 x9 x10 x11 x12 x13 x14 x15 x16 x17:Option D)(r:ST)(d:D)(μ:Mu)(k:ST->Mu->Prop):av 17 d (x0::x1::x2::x3::x4::x5::x6::x7::x8::x9::x10::x11::x12::x13::x14::x15::x16::x17::r) μ k=k (x0::x1::x2::x3::x4::x5::x6::x7::x8::x9::x10::x11::x12::x13::x14::x15::x16::some d::r) μ:=propext Xf
theorem VX (d:D)(ρ:ST)(μ:Mu)(Q:DK):TC d ρ μ Q=Q d μ:=propext Xf
theorem P9 (r:DR2)(a b:ETr)(ρ:ST)(μ:Mu)(Q:DK):ak r a b ρ μ Q=a ρ μ λx μ1=>b ρ μ1 λy μ2=>r x y μ2 Q:=propext Xf
theorem TY (r:DR)(a:ETr)(ρ:ST)(μ:Mu)(Q:DK):TUn r a ρ μ Q=a ρ μ λx μ1=>r x μ1 Q:=propext Xf
theorem Kz (a b:ETr)(ρ:ST)(μ:Mu)(Q:DK):kr a b ρ μ Q=a ρ μ λx μ1=>kB x λc=>kIf c (b ρ μ1 Q) (Q (.bl false) μ1):=propext Xf
theorem WQ (t:ETr)(ρ:ST)(μ:Mu)(Q:Bool->Mu->Prop):TB t ρ μ Q=t ρ μ λx μ1=>kB x λc=>Q c μ1:=propext Xf
theorem Qp (t u:TTr)(ρ:ST)(μ:Mu)(Q:Bool->Mu->Prop):wN t u ρ μ Q=t ρ μ λc μ1=>kIf c (u ρ μ1 Q) (Q false μ1):=propext Xf
theorem Tx (t u:TTr)(ρ:ST)(μ:Mu)(Q:Bool->Mu->Prop):TOr t u ρ μ Q=t ρ μ λc μ1=>kIf c (Q true μ1) (u ρ μ1 Q):=propext Xf
theorem QS (t:TTr)(ρ:ST)(μ:Mu)(Q:Bool->Mu->Prop):ES t ρ μ Q=t ρ μ λc μ1=>Q (!c) μ1:=propext Xf
theorem Pp (c:TTr)(a b:ETr)(ρ:ST)(μ:Mu)(Q:DK):kM c a b ρ μ Q=c ρ μ λk μ1=>kIf k (a ρ μ1 Q) (b ρ μ1 Q):=propext Xf
theorem SS (ρ:ST)(μ:Mu)(Q:List D->Mu->Prop):au ρ μ Q=Q [] μ:=propext Xf
theorem ME (a:ETr)(r:ATr)(ρ:ST)(μ:Mu)(Q:List D->Mu->Prop):af a r ρ μ Q=a ρ μ λx μ1=>r ρ μ1 λxs μ2=>Q (x::xs) μ2:=propext Xf
theorem QP (t:ATr)(ρ:ST)(μ:Mu)(Q:DK):bC t ρ μ Q=t ρ μ λds μ1=>LEN ds (Q (.tup ds) μ1):=propext Xf
theorem R8 (t:ATr)(ρ:ST)(μ:Mu)(Q:DK):gK t ρ μ Q=t ρ μ λds μ1=>LEN ds (Q (.ls ds) μ1):=propext Xf
theorem RJ (t:ATr)(ρ:ST)(μ:Mu)(Q:DK):jo t ρ μ Q=t ρ μ λds μ1=>LEN ds (∀ p,μ1 p=none->Q (.obj p) (up μ1 p (.lst ds))):=propext Xf
theorem Nn (sp:FSp)(t:ATr)(ρ:ST)(μ:Mu)(Q:DK):aw sp t ρ μ Q=t ρ μ λds μ1=>fb sp ds μ1 Q:=propext Xf
theorem N7 (nx:ST->Mu->Prop)(rt:DK)(bk ct:ST->Mu->Prop)(ρ:ST)(μ:Mu):bM ⟨nx,rt,bk,ct⟩ ρ μ=nx ρ μ:=propext Xf
theorem Sm (t u:STr)(nx:ST->Mu->Prop)(rt:DK)(bk ct:ST->Mu->Prop)(ρ:ST)(μ:Mu):aC t u ⟨nx,rt,bk,ct⟩ ρ μ=t ⟨u ⟨nx,rt,bk,ct⟩,rt,bk,ct⟩ ρ μ:=propext Xf
theorem N3 (e:ETr)(nx:ST->Mu->Prop)(rt:DK)(bk ct:ST->Mu->Prop)(ρ:ST)(μ:Mu):dZ e ⟨nx,rt,bk,ct⟩ ρ μ=e ρ μ λ_ μ1=>nx ρ μ1:=propext Xf
theorem QN (e:ETr)(nx:ST->Mu->Prop)(rt:DK)(bk ct:ST->Mu->Prop)(ρ:ST)(μ:Mu):aZ e ⟨nx,rt,bk,ct⟩ ρ μ=e ρ μ rt:=propext Xf
theorem Sw (c:TTr)(t u:STr)(nx:ST->Mu->Prop)(rt:DK)(bk ct:ST->Mu->Prop)(ρ:ST)(μ:Mu):dq c t u ⟨nx,rt,bk,ct⟩ ρ μ=c ρ μ λb μ1=>kIf b (t ⟨nx,rt,bk,ct⟩ ρ μ1) (u ⟨nx,rt,bk,ct⟩ ρ μ1):=propext Xf
theorem Rz (e:ETr)(g:GTr)(nx:ST->Mu->Prop)(rt:DK)(bk ct:ST->Mu->Prop)(ρ:ST)(μ:Mu):aO e g ⟨nx,rt,bk,ct⟩ ρ μ=e ρ μ λd μ1=>g d ρ μ1 nx:=propext Xf
theorem Qz (i j:Nat)(a:ATr)(nx:ST->Mu->Prop)(rt:DK)(bk ct:ST->Mu->Prop)(ρ:ST)(μ:Mu):E8 i j a ⟨nx,rt,bk,ct⟩ ρ μ=a ρ μ λds μ1=>k2 ds λv w=>av i v ρ μ1 λρ2 μ2=>av j w ρ2 μ2 nx:=propext Xf
theorem PR (it:ATr)(g:GTr)(b:STr)(nx:ST->Mu->Prop)(rt:DK)(bk ct:ST->Mu->Prop)(ρ:ST)(μ:Mu):jC it g b ⟨nx,rt,bk,ct⟩ ρ μ=it ρ μ λds μ1=>forR g b ⟨nx,rt,bk,ct⟩ ds ρ μ1:=propext Xf
theorem Ep (a:ETr)(ρ:ST)(μ:Mu)(Q:List D->Mu->Prop):iQ a ρ μ Q=a ρ μ λx μ1=>kI x λj=>(-4611686018427387904<=j/\j < 4611686018427387904)/\Q (c5 0 j.toNat) μ1:=propext Xf
theorem jS (a:ETr)(ρ:ST)(μ:Mu)(Q:List D->Mu->Prop):U0 (af a au) ρ μ Q=a ρ μ λx μ1=>kLs x λds=>Q (ko ds) μ1:=propext (Iff.of_eq (congrArg (a ρ μ) (funext λx=>funext λμ1=>by cases x<;>rfl)))
theorem RM (a:ETr)(ρ:ST)(μ:Mu)(Q:DK):tM a ρ μ Q=a ρ μ λx μ1=>kObj x λb=>kL μ1 b λds=>Q (.ls ds) (dn μ1 b):=propext Xf
theorem Qe (To Te:ETr)(ρ:ST)(μ:Mu)(Q:DK):jn To Te ρ μ Q=To ρ μ λx μ1=>kObj x λa=>kL μ1 a λ_=>Te ρ μ1 λy μ2=>kL μ2 a λds=>ds.length < 1000000/\Q .non (up μ2 a (.lst (ds++[y]))):=propext Xf
theorem UZ (a:ETr)(lo hi:OTr)(ρ:ST)(μ:Mu)(Q:DK):TSl a lo hi ρ μ Q=a ρ μ λx μ1=>lo ρ μ1 λl μ2=>hi ρ μ2 λh μ3=>rSl x l h μ3 Q:=propext Xf
theorem Uz (ρ:ST)(μ:Mu)(Q:Option Int->Mu->Prop):ONo ρ μ Q=Q none μ:=propext Xf
theorem Sh (T:ETr)(ρ:ST)(μ:Mu)(Q:Option Int->Mu->Prop):ij T ρ μ Q=T ρ μ λx μ1=>kI x λi=>Q (some i) μ1:=propext Xf
theorem SN (i0 i1:Nat)(d0 d1:D)(ρ:ST)(μ:Mu)(k:ST->Mu->Prop):fg [i0,i1] (.tup [d0,d1]) ρ μ k=av i0 d0 ρ μ λρ1 _=>av i1 d1 ρ1 μ λρ2 _=>k ρ2 μ:=by simp[fg,kR,av]
theorem Qo (i0 i1 i2:Nat)(d0 d1 d2:D)(ρ:ST)(μ:Mu)(k:ST->Mu->Prop):fg [i0,i1,i2] (.tup [d0,d1,d2]) ρ μ k=av i0 d0 ρ μ λρ1 _=>av i1 d1 ρ1 μ λρ2 _=>av i2 d2 ρ2 μ λρ3 _=>k ρ3 μ:=by simp[fg,kR,av]
theorem T5 (P:Prop):LEN [] P=P:=by simp[LEN]
theorem Tp (x0:D)(P:Prop):LEN [x0] P=P:=by simp[LEN]
theorem TJ (x0 x1:D)(P:Prop):LEN [x0,x1] P=P:=by simp[LEN]
theorem UD (x0 x1 x2:D)(P:Prop):LEN [x0,x1,x2] P=P:=by simp[LEN]
theorem Ve (x0 x1 x2 x3:D)(P:Prop):LEN [x0,x1,x2,x3] P=P:=by simp[LEN]
theorem T6 (x0 x1 x2 x3 x4:D)(P:Prop):LEN [x0,x1,x2,x3,x4] P=P:=by simp[LEN]
theorem Vi (x0 x1 x2 x3 x4 x5:D)(P:Prop):LEN [x0,x1,x2,x3,x4,x5] P=P:=by simp[LEN]
theorem UL (x0 x1 x2 x3 x4 x5 x6 x7:D)(P:Prop):LEN [x0,x1,x2,x3,x4,x5,x6,x7] P=P:=by simp[LEN]
theorem PY (x0 x1 x2 x3 x4 x5 x6 x7 x8 x9 x10:D)(P:Prop):LEN [x0,x1,x2,x3,x4,x5,x6,x7,x8,x9,x10] P=P:=by simp[LEN]
theorem RI (x0:D)(r:List D)(μ:Mu)(Q:DK):L3.rIx (.tup (x0::r)) (.int 0) μ Q=Q x0 μ:=by rw[rh];exact congrArg (λo=>kO o λd=>Q d μ) (bU 0 _)
theorem PV (x0:D)(r:List D)(μ:Mu)(Q:DK):L3.rIx (.ls (x0::r)) (.int 0) μ Q=Q x0 μ:=by rw[yb];exact congrArg (λo=>kO o λd=>Q d μ) (bU 0 _)
theorem Sz (x0 x1:D)(r:List D)(μ:Mu)(Q:DK):L3.rIx (.tup (x0::x1::r)) (.int 1) μ Q=Q x1 μ:=by rw[rh];exact congrArg (λo=>kO o λd=>Q d μ) (bU 1 _)
theorem Po (x0 x1:D)(r:List D)(μ:Mu)(Q:DK):L3.rIx (.ls (x0::x1::r)) (.int 1) μ Q=Q x1 μ:=by rw[yb];exact congrArg (λo=>kO o λd=>Q d μ) (bU 1 _)
theorem R0 (x0 x1 x2:D)(r:List D)(μ:Mu)(Q:DK):L3.rIx (.tup (x0::x1::x2::r)) (.int 2) μ Q=Q x2 μ:=by rw[rh];exact congrArg (λo=>kO o λd=>Q d μ) (bU 2 _)
theorem QE (x0 x1 x2 x3:D)(r:List D)(μ:Mu)(Q:DK):L3.rIx (.tup (x0::x1::x2::x3::r)) (.int 3) μ Q=Q x3 μ:=by rw[rh];exact congrArg (λo=>kO o λd=>Q d μ) (bU 3 _)
theorem mG (i j:Int)(μ:Mu)(Q:DK):L3.rEq (.int i) (.int j) μ Q=Q (.bl (decide (i=j))) μ:=propext ⟨λh=>h.2,λh=>⟨⟨rfl,rfl⟩,h⟩⟩
theorem my (i j:Int)(μ:Mu)(Q:DK):L3.rNe (.int i) (.int j) μ Q=Q (.bl (!decide (i=j))) μ:=propext ⟨λh=>h.2,λh=>⟨⟨rfl,rfl⟩,h⟩⟩
theorem QD (i j:Str)(μ:Mu)(Q:DK):L3.rEq (.str i) (.str j) μ Q=((Xn i=true/\Xn j=true)/\Q (.bl (decide (i=j))) μ):=propext Xf
theorem mi (i j:Bool)(μ:Mu)(Q:DK):L3.rEq (.bl i) (.bl j) μ Q=Q (.bl (i == j)) μ:=propext ⟨λh=>h.2,λh=>⟨⟨rfl,rfl⟩,h⟩⟩
theorem mU (i j:Bool)(μ:Mu)(Q:DK):L3.rNe (.bl i) (.bl j) μ Q=Q (.bl (!(i == j))) μ:=propext ⟨λh=>h.2,λh=>⟨⟨rfl,rfl⟩,h⟩⟩
theorem QZ (i j:Int)(μ:Mu)(Q:DK):fb rW [.int i,.int j] μ Q=Q (.int (max i j)) μ:=by show Q (.int (if j > i then j else i)) μ=_;congr 2;lia
theorem R6 (i j:Int)(μ:Mu)(Q:DK):fb yV [.int i,.int j] μ Q=Q (.int (min i j)) μ:=by show Q (.int (if j < i then j else i)) μ=_;congr 2;lia
theorem RG (i:Bool)(μ:Mu)(Q:DK):fb D8 [.bl i] μ Q=Q (.int (if i then 1 else 0)) μ:=propext Xf
theorem IQ (a:List D)(μ:Mu)(Q:DK):fb bz [.tup a] μ Q=Q (.tup a) μ:=propext Xf
theorem HK (a:List D)(μ:Mu)(Q:DK):fb bz [.ls a] μ Q=Q (.tup a) μ:=propext Xf
theorem JV (a:Addr)(μ:Mu)(Q:DK):fb bz [.obj a] μ Q=kL μ a λxs=>Q (.tup xs) μ:=propext Xf
theorem JF (a:List D)(μ:Mu)(Q:DK):fb jB [.ls a] μ Q=Q (.ls a) μ:=propext Xf
theorem F7 (a:List D)(μ:Mu)(Q:DK):fb ji [.tup a] μ Q = ∀ p,μ p=none->Q (.obj p) (up μ p (.lst a)):=propext Xf
theorem Qu (a:Addr)(μ:Mu)(Q:DK):fb dI [.obj a] μ Q=kL μ a λxs=>Q (.int xs.length) μ:=propext Xf
theorem Rj (x:Str)(μ:Mu)(Q:DK):fb dI [.str x] μ Q=(x.length<=1000000/\Q (.int x.length) μ):=propext Xf
theorem mC (a:List D)(μ:Mu)(Q:DK):fb dI [.tup a] μ Q=Q (.int a.length) μ:=propext Xf
theorem mO (a:List D)(μ:Mu)(Q:DK):fb dI [.ls a] μ Q=Q (.int a.length) μ:=propext Xf
theorem EI (n:Nat)(i:Int):okD n (.int i)=true:=by cases n<;>rfl
theorem EM (n:Nat)(i:Bool):okD n (.bl i)=true:=by cases n<;>rfl
theorem EU (n:Nat):okD n .non=true:=by cases n<;>rfl
theorem AH (n:Nat)(x:Str):okD n (.str x)=Xn x:=by cases n<;>rfl
theorem DY (n:Nat)(ds:List D):okD (n+1) (.tup ds)=cH n ds:=rfl
theorem Ex (n:Nat)(ds:List D):okD (n+1) (.ls ds)=cH n ds:=rfl
theorem j5 (n:Nat):cH n []=true:=rfl
theorem fQ (n:Nat)(d:D)(r:List D):cH n (d::r)=(okD n d&&cH n r):=rfl
theorem uv (i j:Int):eqD (.int i) (.int j)=decide (i=j):=rfl
theorem nk (i j:Str):eqD (.str i) (.str j)=decide (i=j):=rfl
theorem tU (i j:Bool):eqD (.bl i) (.bl j)=(i == j):=rfl
theorem tO (a b:List D):eqD (.tup a) (.tup b)=kb a b:=rfl
theorem tP (a b:List D):eqD (.ls a) (.ls b)=kb a b:=rfl
theorem tX  : eqD .non .non=true:=rfl
theorem jP  : kb [] []=true:=rfl
theorem gY (a b:D)(r s:List D):kb (a::r) (b::s)=(eqD a b&&kb r s):=rfl
theorem mQ (b:D)(s:List D):kb [] (b::s)=false:=rfl
theorem mN (b:D)(s:List D):kb (b::s) []=false:=rfl
theorem Nd (A B:Prop):kIf true A B=A:=propext Xf
theorem L7 (A B:Prop):kIf false A B=B:=propext Xf
theorem M8 (c:Bool)(f):kB (.bl c) f=f c:=propext Xf
theorem FH (c:Int)(f):kI (.int c) f=f c:=propext Xf
theorem tR (c:D)(f):kO (some c) f=f c:=propext Xf
theorem Jk (c:List D)(f):kS (.tup c) f=f c:=propext Xf
theorem Mr (c:List D)(f):kS (.ls c) f=f c:=propext Xf
theorem GO (a b:D)(f):k2 [a,b] f=f a b:=propext Xf
theorem FC (c:Nat)(f):kN (some c) f=f c:=propext Xf
theorem Eo (i j:Int)(μ Q):aT (.int i) (.int j) μ Q=Q (.int (i+j)) μ:=propext Xf
theorem Fs (a b:List D)(μ Q):aT (.tup a) (.tup b) μ Q=(a.length+b.length<=1000000/\Q (.tup (a++b)) μ):=propext Xf
theorem Ff (a b:List D)(μ Q):aT (.ls a) (.ls b) μ Q=(a.length+b.length<=1000000/\Q (.ls (a++b)) μ):=propext Xf
theorem Ga (i j:Int)(μ Q):gM (.int i) (.int j) μ Q=Q (.int (i - j)) μ:=propext Xf
theorem Jp (i j:Int)(μ Q):gL (.int i) (.int j) μ Q=(MulOk i j/\Q (.int (i*j)) μ):=propext Xf
theorem Hq (i j:Int)(μ Q):nY (.int i) (.int j) μ Q=(jK j/\Q (.int (i.fdiv j)) μ):=propext Xf
theorem JK (i j:Int)(μ Q):mJ (.int i) (.int j) μ Q=(j≠0/\Q (.int (i.fmod j)) μ):=propext Xf
theorem Jl (i j:Int)(μ Q):La (.int i) (.int j) μ Q=(yQ i j/\Q (.int (i ^ j.toNat)) μ):=propext Xf
theorem G5 (i:Int)(μ Q):EZ (.int i) μ Q=Q (.int (-i)) μ:=propext Xf
theorem LX (i j:Int)(μ Q):rLt (.int i) (.int j) μ Q=Q (.bl (decide (i < j))) μ:=propext Xf
theorem Mz (i j:Int)(μ Q):rGt (.int i) (.int j) μ Q=Q (.bl (decide (j < i))) μ:=propext Xf
theorem Mh (i j:Int)(μ Q):rGe (.int i) (.int j) μ Q=Q (.bl (decide (j<=i))) μ:=propext Xf
theorem HC (c:String)(i:Int)(μ Q):fW c (.int i) μ Q=Q (.bl (eB "int" c)) μ:=propext Xf
theorem Jo (c:String)(i:List D)(μ Q):fW c (.tup i) μ Q=Q (.bl (eB "tuple" c)) μ:=propext Xf
theorem Ji (c:String)(i:List D)(μ Q):fW c (.ls i) μ Q=Q (.bl (eB "list" c)) μ:=propext Xf
theorem Kl (c:String)(i:Str)(μ Q):fW c (.str i) μ Q=Q (.bl (eB "str" c)) μ:=propext Xf
theorem Kv (c:String)(μ Q):fW c .non μ Q=Q (.bl (eB "NoneType" c)) μ:=propext Xf
theorem Nz (μ Q):rIs .non .non μ Q=Q (.bl true) μ:=propext Xf
theorem KS (i:Int)(μ Q):rIs (.int i) .non μ Q=Q (.bl false) μ:=propext Xf
theorem NR (i:List D)(μ Q):rIs (.tup i) .non μ Q=Q (.bl false) μ:=propext Xf
theorem Bf (μ Q):jv .non .non μ Q=Q (.bl false) μ:=propext Xf
theorem LM (a:List D)(lo hi)(μ Q):rSl (.tup a) lo hi μ Q=Q (.tup (cutD a lo hi)) μ:=propext Xf
theorem NI (a:List D)(lo hi)(μ Q):rSl (.ls a) lo hi μ Q=Q (.ls (cutD a lo hi)) μ:=propext Xf
theorem jX (ds:List D)(i:Int)(μ Q):L3.rIx (.tup ds) (.int i) μ Q=kO (atD ds i) λd=>Q d μ:=propext Xf
theorem jT (ds:List D)(i:Int)(μ Q):L3.rIx (.ls ds) (.int i) μ Q=kO (atD ds i) λd=>Q d μ:=propext Xf
theorem jU (x y:D)(μ Q):L3.rEq x y μ Q=((okD 40 x=true/\okD 40 y=true)/\Q (.bl (eqD x y)) μ):=propext Xf
theorem jR (x y:D)(μ Q):L3.rNe x y μ Q=((okD 40 x=true/\okD 40 y=true)/\Q (.bl (!eqD x y)) μ):=propext Xf
theorem kif {p:Prop} [Decidable p] {A B:Prop}(h1:p->A)(h2:¬ p->B):kIf (decide p) A B:=by
 by_cases h:p
 ·rw[decide_eq_true h];exact h1 h
 ·rw[decide_eq_false h];exact h2 h
theorem UM {p:Prop} [Decidable p] {A B:Prop}(h1:¬ p->A)(h2:p->B):kIf (!decide p) A B:=by
 by_cases h:p
 ·rw[decide_eq_true h];exact h2 h
 ·rw[decide_eq_false h];exact h1 h
theorem C9 {p:Prop} [Decidable p] {A B:Prop}(h:p)(hA:A):kIf (decide p) A B:=by rw[decide_eq_true h];exact hA
theorem FK {p:Prop} [Decidable p] {A B:Prop}(h:¬ p)(hB:B):kIf (decide p) A B:=by rw[decide_eq_false h];exact hB
theorem Uw {c:Bool}{A B:Prop}(h1:c=true->A)(h2:c=false->B):kIf c A B:=by
 cases c
 ·exact h2 rfl
 ·exact h1 rfl
theorem l7 {o:Option D}{d:D}{f:D->Prop}(e:o=some d)(h:f d):kO o f:=by rw[e];exact h
theorem aY {μ:Mu}{a:Addr}{ds:List D}{f:List D->Prop}(e:μ a=some (.lst ds))(h:f ds):kL μ a f:=by rw[Uq e];exact h
section
open PySem.Spec PyProof.Rows L2
def OS (kvs:List (Str×D))(s:Str):Option D:=(kvs.find? λkv=>decide (kv.1=s)).map (·.2)
def DP (K:Xa):List zel->List (Str×D)->Prop
 | [],[]=>True
 | e::es,(x,d)::r=>(∃ t,e.key=.str x t)/\(∃ v,RelV v e.val/\∀ H,Dp K H v d)/\DP K es r
 | _,_=>False
theorem yi (s x:Str)(t:Tok):ZW s (.str x t)=decide (x=s):=by
 by_cases h:x=s
 ·subst h;simp[ZW]
 ·rw[decide_eq_false h];simp[ZW];first | exact h | exact λz=>h z.symm
theorem DP.find {K:Xa}(s:Str):∀ {es:List zel} {kvs:List (Str×D)},DP K es kvs->
  match OS kvs s with
  | none=>(es.find? λe=>ZW s e.key)=none
  | some d=>∃ e v,(es.find? λe=>ZW s e.key)=some e/\RelV v e.val/\∀ H,Dp K H v d
 | [],[],_=>rfl
 | e::es,(x,d)::r,h=>by
  obtain ⟨⟨t,ht⟩,⟨v,rv,pv⟩,hr⟩:=h
  have ih:=DP.find s hr
  unfold OS at ih ⊢
  rw[X1,X1,ht,yi]
  by_cases hx:x=s
  ·simp only[decide_eq_true hx,zeV]
   exact ⟨e,v,rfl,rv,pv⟩
  ·simp only[decide_eq_false hx]
   exact ih
 | [],_::_,h=>Xi h
 | _::_,[],h=>Xi h
section
variable {X:Cx} {a b c e:XJ} {Ta Tb Te:ETr} {pos gpos:Pos} {x:Str} {kvs:List (Str×D)}
end
section
variable {X:Cx} {a b:XJ} {Ta Tb:ETr} {pos:Pos}
end
end
section
open PySem.Spec PyProof.Rows L2
def aX {κ:Type} [DecidableEq κ] (kvs:List (κ×D))(k:κ):Option D:=(kvs.find? λkv=>decide (kv.1=k)).map (·.2)
def putD {κ:Type} [DecidableEq κ] (kvs:List (κ×D))(k:κ)(v:D):List (κ×D):=
 if (kvs.any λkv=>decide (kv.1=k))=true then kvs.map (λkv=>if kv.1=k then (kv.1,v) else kv) else kvs++[(k,v)]
def we (x:D)(f:Key->Prop):Prop:=match x with
 | .int i=>f (.inl i)
 | .str s=>f (.inr s)
 | _=>False
theorem DpK.nil {κ:Type}{K:Xa}{H:Hp}:DpK (κ:=κ) K H [] []:=⟨rfl,.nil⟩
theorem DpK.cons {κ:Type}{K:Xa}{H:Hp}{k:κ}{v:V}{d:D}{xs:List (κ×V)}{kvs:List (κ×D)}(h:Dp K H v d)(r:DpK K H xs kvs):DpK K H ((k,v)::xs) ((k,d)::kvs):=
 ⟨by simp[r.1],.cons h r.2⟩
theorem DpK.ind {κ:Type}{K:Xa}{H:Hp}{P:List (κ×V)->List (κ×D)->Prop}(h0:P [] [])(h1:∀ k v d xs kvs,Dp K H v d->DpK K H xs kvs->P xs kvs->P ((k,v)::xs) ((k,d)::kvs)) :
  ∀ {xs:List (κ×V)} {kvs:List (κ×D)},DpK K H xs kvs->P xs kvs
 | [],[],_=>h0
 | [],_::_,h=>by cases h.1
 | _::_,[],h=>by cases h.1
 | (k,v)::xs,(k',d)::kvs,h=>by
  obtain ⟨h2,h3⟩:=h
  simp only[Xm,ZU] at h2
  obtain ⟨rfl,h2⟩:=h2
  cases h3 with
  | cons p l=>exact h1 k v d xs kvs p ⟨h2,l⟩ (DpK.ind h0 h1 ⟨h2,l⟩)
theorem DpK.look {κ:Type} [DecidableEq κ] {K:Xa}{H:Hp}{xs:List (κ×V)}{kvs:List (κ×D)}(h:DpK K H xs kvs)(k:κ) :
  (aX kvs k=none/\f9 xs k=none)∨∃ v d,aX kvs k=some d/\f9 xs k=some v/\Dp K H v d:=by
 refine DpK.ind (P:=λxs kvs=>(aX kvs k=none/\f9 xs k=none)∨∃ v d,aX kvs k=some d/\f9 xs k=some v/\Dp K H v d) (.inl ⟨rfl,rfl⟩) (λj v d xs kvs p _ ih=>?_) h
 by_cases e:j=k
 ·refine .inr ⟨v,d,?_,lI (p:=(j,v)) e,p⟩
  unfold aX;rw[X1];simp[e]
 ·have e1:aX ((j,d)::kvs) k=aX kvs k:=by unfold aX;rw[X1];simp[e]
  rw[e1,kT (p:=(j,v)) e]
  exact ih
theorem DpK.any {κ:Type} [DecidableEq κ] {K:Xa}{H:Hp}{xs:List (κ×V)}{kvs:List (κ×D)}(h:DpK K H xs kvs)(k:κ):(xs.any λkv=>decide (kv.1=k))=kvs.any λkv=>decide (kv.1=k):=by
 refine DpK.ind (P:=λxs kvs=>(xs.any λkv=>decide (kv.1=k))=kvs.any λkv=>decide (kv.1=k)) rfl (λj v d xs kvs p _ ih=>?_) h
 rw[ZY,ZY,ih]
theorem DpK.put {κ:Type} [DecidableEq κ] {K:Xa}{H:Hp}{xs:List (κ×V)}{kvs:List (κ×D)}(h:DpK K H xs kvs)(k:κ){v:V}{d:D}(p:Dp K H v d):DpK K H (putK xs k v) (putD kvs k d):=by
 unfold putK putD
 rw[h.any k]
 split
 ·refine DpK.ind (P:=λxs kvs=>DpK K H (xs.map λkv=>if kv.1=k then (kv.1,v) else kv) (kvs.map λkv=>if kv.1=k then (kv.1,d) else kv)) .nil (λj v' d' xs kvs p' _ ih=>?_) h
  rw[Xm,Xm]
  by_cases e:j=k
  ·rw[if_pos e,if_pos e];exact .cons p ih
  ·rw[if_neg e,if_neg e];exact .cons p' ih
 ·refine DpK.ind (P:=λxs kvs=>DpK K H (xs++[(k,v)]) (kvs++[(k,d)])) (.cons p .nil) (λj v' d' xs kvs p' _ ih=>?_) h
  exact .cons p' ih
theorem DpK.length {κ:Type}{K:Xa}{H:Hp}{xs:List (κ×V)}{kvs:List (κ×D)}(h:DpK K H xs kvs):xs.length=kvs.length:=by
 have:=h.2.length
 simpa using this
theorem pW {K:Xa}{H:Hp}{y:V}{dy:D}{f:Key->Prop}(p:Dp K H y dy)(h:we dy f):∃ k,y=kV k/\f k:=by
 cases p with
 | int i=>exact ⟨.inl i,rfl,h⟩
 | str s=>exact ⟨.inr s,rfl,h⟩
 | _=>exact Xi h
theorem eu {K:Xa}{H:Hp}{x:V}{dx:D}{f:Addr->Prop}(p:Dp K H x dx)(h:kObj dx f):∃ a,x=.ref a/\f a:=by
 cases p with
 | obj a=>exact ⟨a,rfl,h⟩
 | _=>exact Xi h
theorem wb {H:Hp}{q:Addr}{u:HO}{xs:List (Key×V)}(ex:H q=some (.dK xs)):Tk H (L2.upd H q u):=
 .upd (λys z=>by rw[ex] at z;cases z) λo' w z=>by rw[ex] at z;cases z
theorem Ia {K:Xa}{H:Hp}{μ:Mu}{q:Addr}{xs ys:List (Key×V)}{ds:List (Key×D)}(m:bL K H μ)(ex:H q=some (.dK xs))(l:DpK K H ys ds):bL K (L2.upd H q (.dK ys)) (up μ q (.dct ds)):=λz y ez=>by
 by_cases zq:z=q
 ·subst zq
  rw[ay] at ez;cases ez
  exact ⟨ys,aK,l.mono (wb ex)⟩
 ·rw[aE zq] at ez
  exact (m z _ ez).ne (wb ex) zq
theorem vF {K:Xa}{H:Hp}{μ:Mu}{q:Addr}{ys:List (Key×V)}{ds:List (Key×D)}(m:bL K H μ)(hq:H q=none)(l:DpK K H ys ds):bL K (L2.upd H q (.dK ys)) (up μ q (.dct ds)):=λz y ez=>by
 by_cases zq:z=q
 ·subst zq
  rw[ay] at ez;cases ez
  exact ⟨ys,aK,l.mono (.new hq)⟩
 ·rw[aE zq] at ez
  exact c6 m hq z y ez
section
variable {X:Cx} {o i a b c e value:XJ} {To Ti Ta Tb Te:ETr} {pos tpos:Pos}
theorem hu1 (hu:X.A.units+64 < cLine):X.A.units+1 < cLine:=by lia
def eG (To Ti:ETr):ETr:=λρ μ Q=>To ρ μ λx μ1=>Ti ρ μ1 λy μ2=>kObj x λa=>kD μ2 a λkvs=>we y λk=>kO (aX kvs k) λd=>Q d μ2
theorem cD (hu:X.A.units+64 < cLine)(ho:LE X o To)(hi:LE X i Ti)(hs:Mg i:=by intro _ _;rfl):LE X (.Subscript o i pos) (eG To Ti):=by
 obtain ⟨to,po,so⟩:=ho.ex
 obtain ⟨ti,pi,si⟩:=hi.ex
 refine ⟨_,Nu (hu1 hu) po pi hs,λσ H ρ μ Q Q' rl h k=>so σ H ρ μ _ _ rl h λx H1 dx μ1 t1 m1 p1 h1=>si σ H1 ρ μ1 _ _ (rl.go t1 m1) h1 λy H2 dy μ2 t2 m2 p2 h2=>?_⟩
 obtain ⟨q,rfl,h2⟩:=eu p1 h2
 obtain ⟨kvs,e0,h2⟩:=vm h2
 obtain ⟨kk,rfl,h2⟩:=pW p2 h2
 obtain ⟨d,e1,h2⟩:=kC h2
 obtain ⟨xs,ex,l⟩:=m2 q _ e0
 rcases l.look kk with ⟨z,_⟩ | ⟨v,d',z,ev,pv⟩
 ·rw[z] at e1;cases e1
 ·rw[z] at e1;cases e1
  exact ⟨q,v,rfl,by rw[← ev];exact rL.k ex,k _ H2 _ μ2 (t1.trans t2) m2 pv h2⟩
def LZ (neg:Bool)(Ti To:ETr):ETr:=λρ μ Q=>Ti ρ μ λy μ1=>To ρ μ1 λx μ2=>kObj x λa=>kD μ2 a λkvs=>we y λk=>Q (.bl (if neg then !(aX kvs k).isSome else (aX kvs k).isSome)) μ2
theorem zl {K:Xa}{H:Hp}{xs:List (Key×V)}{kvs:List (Key×D)}(l:DpK K H xs kvs)(k:Key):(f9 xs k).isSome=(aX kvs k).isSome:=by
 rcases l.look k with ⟨a,b⟩ | ⟨v,d,a,b,_⟩ <;> rw[a,b]<;>rfl
theorem Bo {ti to:TE}{K:Xa}(si:Sim K ti Ti)(so:Sim K to To):Sim K (C5 ti to) (LZ true Ti To):=λσ H ρ μ Q Q' rl h k=>
 si σ H ρ μ _ _ rl h λy H1 dy μ1 t1 m1 p1 h1=>so σ H1 ρ μ1 _ _ (rl.go t1 m1) h1 λx H2 dx μ2 t2 m2 p2 h2=>by
  obtain ⟨q,rfl,h2⟩:=eu p2 h2
  obtain ⟨kvs,e0,h2⟩:=vm h2
  obtain ⟨kk,rfl,h2⟩:=pW p1 h2
  obtain ⟨xs,ex,l⟩:=m2 q _ e0
  exact ⟨q,_,rfl,rL.k ex,k _ H2 _ μ2 (t1.trans t2) m2 (.bl _) (by rw[zl l];exact h2)⟩
def nj (To Ti Te:ETr):STr:=λE ρ μ=>Te ρ μ λv μ1=>To ρ μ1 λx μ2=>Ti ρ μ2 λy μ3=>kObj x λa=>kD μ3 a λkvs=>we y λk=>kvs.length < 1000000/\E.nx ρ (up μ3 a (.dct (putD kvs k v)))
theorem j3 (hu:X.A.units+64 < cLine)(ho:LE X o To)(hi:LE X i Ti)(he:LE X value Te)(hs:Zq value (some (.Subscript o i tpos)) pos.line X.env=pure false:=by rfl) :
  LS X (.Assign [.Subscript o i tpos] value pos) (nj To Ti Te):=by
 obtain ⟨to,po,so⟩:=ho.ex
 obtain ⟨ti,pi,si⟩:=hi.ex
 obtain ⟨te,pe,se⟩:=he.ex
 refine ⟨_,ML (hu1 hu) po pi pe hs,λσ H ρ μ E E' rl h k=>se σ H ρ μ _ _ rl h λv H1 dv μ1 t1 m1 p1 h1=>so σ H1 ρ μ1 _ _ (rl.go t1 m1) h1 λx H2 dx μ2 t2 m2 p2 h2=>
  si σ H2 ρ μ2 _ _ (rl.go (t1.trans t2) m2) h2 λy H3 dy μ3 t3 m3 p3 h3=>?_⟩
 obtain ⟨q,rfl,h3⟩:=eu p2 h3
 obtain ⟨kvs,e0,h3⟩:=vm h3
 obtain ⟨kk,rfl,h3⟩:=pW p3 h3
 obtain ⟨xs,ex,l⟩:=m3 q _ e0
 have t4:Tk H3 (L2.upd H3 q (.dK (putK xs kk v))):=wb ex
 have t14:=t1.trans (t2.trans (t3.trans t4))
 refine ⟨q,_,rfl,BP.k ex (by rw[l.length];exact XG h3.1 (by decide)),k.nx _ _ ρ _ t14 (rl.go t14 (Ia m3 ex (l.put kk (p1.mono (t2.trans t3))))) h3.2⟩
def MY (f:Int->Int->Int)(i:Nat)(Te:ETr):STr:=λE ρ μ=>kO (lk ρ i) λd=>kI d λm=>Te ρ μ λw μ1=>kI w λn=>av i (.int (f m n)) ρ μ1 E.nx
theorem LY {te:TE}{K:Xa}{f:Int->Int->Int}{j:Nat}(se:Sim K te Te):My K (UC j te (ipI f)) (MY f j Te):=λσ H ρ μ E E' rl h k=>by
 obtain ⟨d,e1,h⟩:=kC h
 obtain ⟨v,ev,pv⟩:=rl.loc j d e1
 cases pv with
 | int m=>
  refine ⟨.int m,ev,se σ H ρ μ _ _ rl h λw H1 dw μ1 t1 m1 p1 h1=>?_⟩
  cases p1 with
  | int n=>exact ⟨m,n,rfl,rfl,k.nx _ _ _ _ t1 ((rl.go t1 m1).set (.int _) j) h1⟩
  | _=>exact Xi h1
 | _=>exact Xi h
theorem FF (j:Nat){x:Str}(hN:X.N.Nodup)(he:LE X e Te)(hi:X.N[j]? = some x:=by rfl)(hx:Loc X.env.scope x:=by first | exact zaQ rfl | exact zaR rfl)(hf:X.fn x=true∨X.env.scope.names.lookup x=some .local:=by first | exact .inl rfl | exact .inr rfl | assumption) :
  LS X (.AugAssign (.Name x tpos) .Add e pos) (MY (λm n=>m+n) j Te):=by
 obtain ⟨te,pe,se⟩:=he.ex
 exact ⟨_,RK hN hi hx pe Q8 hf,LY se⟩
theorem MM:LE X (.Dict [] [] pos) (λρ μ Q=>∀ p,μ p=none->Q (.obj p) (up μ p (.dct []))):=
 ⟨_,Kj,λσ H ρ μ Q Q' rl h k p hp=>k _ _ _ _ (.new hp) (vF rl.mu hp .nil) (.obj p) (h p (rl.mu.free hp))⟩
def W0 (K:Xa)(trs:List (TE×TE))(ks:List Key)(T:ATr):Prop:=∀ σ H ρ μ (Q:List D->Mu->Prop) (Q':List (V×V)->Hp->Prop),Rl K σ H ρ μ->T ρ μ Q->
 (∀ vs H' ds μ',Tk H H'->bL K H' μ'->vs.length=ks.length->DpL K H' vs ds->Q ds μ'->Q' ((ks.map kV).zip vs) H')->vZ trs σ H Q'
structure LPs (X:Cx) (pos:Pos) (keys:List (Option XJ)) (values:List XJ) (ks:List Key) (T:ATr):Prop where
 ex:∃ trs,PPs X pos keys values trs/\W0 X.K trs ks T
theorem MC:LPs X pos [] [] [] au:=⟨[],Oj,λσ H ρ μ Q Q' rl h k=>k [] H [] μ (.refl H) rl.mu rfl .nil h⟩
theorem lK {s:Str}{j}{p:Pos}{ks:List (Option XJ)}{vs:List XJ}{kk:List Key}{At:ATr}(hv:LE X value Te)(hr:LPs X pos ks vs kk At):LPs X pos (some (.Constant (.str s) j p)::ks) (value::vs) (.inr s::kk) (af Te At):=by
 obtain ⟨te,pe,se⟩:=hv.ex
 obtain ⟨trs,pr,sr⟩:=hr.ex
 refine ⟨_,Jb Gu pe pr,λσ H ρ μ Q Q' rl h k=>?_⟩
 refine se σ H ρ μ _ _ rl h λy H1 dy μ1 t1 m1 p1 h1=>sr σ H1 ρ μ1 _ _ (rl.go t1 m1) h1 λvs H2 ds μ2 t2 m2 hl p2 h2=>?_
 exact k (y::vs) H2 (dy::ds) μ2 (t1.trans t2) m2 (by simp[hl]) (.cons (p1.mono t2) p2) h2
def GL (ks:List Key)(At:ATr):ETr:=λρ μ Q=>∀ p,μ p=none->At ρ (up μ p (.dct [])) λds μ2=>kD μ2 p λkvs=>kvs=[]/\Q (.obj p) (up μ2 p (.dct (ks.zip ds)))
theorem G2 {acc:List (Key×V)}{k:Key}{v:V}(h:f9 acc k=some v):k∈acc.map (·.1):=by
 unfold f9 at h
 obtain ⟨p,hp,_⟩:=zcg.mp h
 have h1:=Yv hp
 have h2:=zbi hp
 exact Xh.mpr ⟨p,h1,of_decide_eq_true h2⟩
theorem pS:∀ (kvs acc:List (Key×V)),((acc++kvs).map (·.1)).Nodup->dS acc kvs=acc++kvs
 | [],acc,_=>by simp[dS]
 | p::r,acc,h=>by
  have hn:f9 acc p.1=none:=by
   cases e:f9 acc p.1 with
   | none=>rfl
   | some v=>
    exfalso
    have:=G2 e
    rw[XE,Xm] at h
    exact (zbI.mp h).2.2 _ this _ Xl rfl
  show dS (putK acc p.1 p.2) r=_
  rw[Ir p.2 hn]
  rw[pS r (acc++[(p.1,p.2)]) (by simpa using h)]
  simp
theorem w6:∀ (ks:List Key) (vs:List V),(ks.map kV).zip vs=(ks.zip vs).map λkv=>(kV kv.1,kv.2)
 | [],_=>by simp
 | _::_,[]=>by simp
 | k::ks,v::vs=>by simp[w6 ks vs]
theorem DpK.zip {K:Xa}{H:Hp}:∀ {ks:List Key} {vs:List V} {ds:List D},DpL K H vs ds->DpK K H (ks.zip vs) (ks.zip ds)
 | [],_,_,_=>by simp;exact .nil
 | _::_,_,_,.nil=>by simp;exact .nil
 | k::ks,_,_,.cons p l=>.cons p (DpK.zip l)
theorem Nw {keys:List (Option XJ)}{values:List XJ}{ks:List Key}{At:ATr}(h:LPs X pos keys values ks At)(hall:keys.all (·.isSome)=true:=by rfl)(hl:keys.length=values.length:=by rfl)(h0:keys≠[]:=by nofun)
  (h15:keys.length<=15:=by decide) (hk:keys.length=ks.length:=by rfl) (hn:ks.Nodup:=by decide):LE X (.Dict keys values pos) (GL ks At):=by
 obtain ⟨trs,pr,sr⟩:=h.ex
 refine ⟨_,Mo pr hall hl h0 h15,λσ H ρ μ Q Q' rl h k p hp=>?_⟩
 refine sr σ _ ρ _ _ _ (rl.go (.new hp) (vF rl.mu hp .nil)) (h p (rl.mu.free hp)) λvs H2 ds μ2 t2 m2 hvl p2 h2=>?_
 obtain ⟨kvs,e0,rfl,h2⟩:=vm h2
 obtain ⟨xs,ex,l⟩:=m2 p _ e0
 have:xs=[]:=by have:=l.length;cases xs with | nil=>rfl | cons=>simp at this
 subst this
 refine ⟨ex,ks.zip vs,w6 ks vs,by rw[List.length_zip];lia,?_⟩
 have e:dS [] (ks.zip vs)=ks.zip vs:=by
  have:=pS (ks.zip vs) [] (by rw[YE,List.map_fst_zip (by lia)];exact hn)
  simpa using this
 rw[e]
 exact k _ _ _ _ ((Tk.new hp).trans (t2.trans (wb ex))) (Ia m2 ex (.zip p2)) (.obj p) h2
end
end
section
open PySem.Spec PyProof.Rows L2
theorem E4:ze5 (.type "list") (OF "keys")=pure none:=am_miss_of_fast (by kernel_rfl)
theorem Pj {prog:XO}{w:X0}{A:X8}{E:Xe->Xg->Prop}{s:Xg}{a:Addr}{o:Obj}{xs:Array Xe}{k:Nat}{Q:Option Xe->Xg->Prop}
  (hx:s.heap.get? a=some o) (hc:o.cls=.type "list") (hdat:o.data=.seq xs k) (hd:o.dict=none) (hA:A.handled=none)
  (h:∀ h' tk,(∀ b ob,s.heap.get? b=some ob->h'.get? b=some ob)->Q none { s with heap:=h',toks:=tk }) :
  Xy (XF prog w) A (getAttr? (.ref a) "keys") Q E s:=by
 obtain ⟨c,dct,dat,sl⟩:=o
 simp only at hc hdat hd
 subst hc hdat hd
 obtain ⟨hp,g,d,tk,os⟩:=s
 have hT:∀ tk',(⟨hp,g,d,tk',os⟩:Xg).TypeIs (.ref a) "list" := λ_=>⟨_,hx,rfl⟩
 have f1:=sub_AttributeError
 have f3:=zaw.lookup
 have f4:=zaw.bind (.ref a)
 have f5:=am_list_getattr_none
 unfold getAttr? getAttrBy? getAttrBy
 repeat (any_goals (first | assumption | exact hT _ | ((with_reducible show Xy _ _ (zcB (Value.builtin "list.__getattribute__") _ _) _ _ _);refine zbw zaw (hT _) am_entry_list_getattribute (F.args_list_getattribute_2 _ _) (meets_getattribute_miss_list a xs k sl (OF "keys") _ E4 (by decide +kernel) (by decide +kernel)) ⟨hx,hA,λh' tk' e hx'=>?_⟩) | wp_step))
 obtain ⟨t',u',he⟩:=hx'.there
 show Xy _ _ (zdG _ _ _ _ _ _ _) _ _ _
 unfold zdG
 repeat (any_goals (first | assumption | wp_step))
 exact h _ _ hx'.keeps
theorem lR:plainId "dict.update.loop" = true:=by decide +kernel
theorem xM:entryFor table "dict.update.loop" = some za4.«dict.update.loop»:=entryFor_of_fast (by kernel_rfl)
inductive fq {prog:XO} {w:X0} {κ:Type} [DecidableEq κ] (knd:KeyKind prog w κ) (h:Heap):List Xe->List (κ×Xe)->Prop
 | nil:fq knd h [] []
 | cons {a:Addr} {u v:Xe} {k:κ} {us:List Xe} {r:List (κ×Xe)}:zeH h a #[u,v]->knd.is k u=true->fq knd h us r->fq knd h (.ref a::us) ((k,v)::r)
section
variable {prog:XO} {w:X0} {κ:Type} [DecidableEq κ] {knd:KeyKind prog w κ}
theorem fq.keeps {h h':Heap}(kp:∀ b o,h.get? b=some o->o.cls=.type "tuple" -> h'.get? b=some o):∀ {us:List Xe} {r:List (κ×Xe)},fq knd h us r->fq knd h' us r
 | _,_,.nil=>.nil
 | _,_,.cons t k r=>.cons (by obtain ⟨o,e,c,n,d⟩:=t;exact ⟨o,kp _ o e c,c,n,d⟩) k (r.keeps kp)
theorem zN {A:X8}{R:zeq->Xg->Prop}{d it l:Addr}{items:Array Xe}(hA:A.handled=none)(n1:d≠it)(n2:l≠it)(n3:l≠d) :
  ∀ (us:List Xe) (r:List (κ×Xe)) (i:Nat) (kvs:List (κ×Xe)) (s:Xg),items.toList.drop i=us->fq knd s.heap us r->s.heap.IsListIter it l i->s.heap.IsList l items->s.heap.DictOf knd d kvs->kvs.length+r.length<=sizeLine->
   (∀ h' tk,h'.DictOf knd d (merged kvs r)->(∀ b o,b≠it->b≠d->s.heap.get? b=some o->h'.get? b=some o)->R (.ok (.ret .none)) { s with heap:=h',toks:=tk })->
   Xy (XF prog w) A.in1 (za4.«dict.update.loop» ⟨[.ref d,.ref it,zbr i,.none],[]⟩) (λfin s'=>match fin with | .done f=>R (.ok f) s' | .again c'=>c'.quiet=true/\Z3 (XF prog w) A c' R s') (λe s'=>R (.error e) s') s
 | [],r,i,kvs,s,hd,P,hit,hl,hm,hz,h=>by
  cases P
  have hx:items[i]? = none:=by
   have:items.toList.length<=i:=by
    have:=congrArg Y6 hd
    simp at this;simp;lia
   simpa using this
  show Xy _ _ (zaB (.ref it) >>= _) _ _ _
  refine Xb (zcA (by exact hA) hit hl hx λh' k=>?_)
  show Xy _ _ (zfo d [] >>= _) _ _ _
  refine Xb (Xj (Xj ?_))
  refine h h' s.toks ?_ λb o hb _ e=>k b o hb e
  obtain ⟨o,es,ep,ho,rest⟩:=hm
  exact ⟨o,es,ep,k d o n1 ho,rest⟩
 | u::us,r,i,kvs,s,hd,P,hit,hl,hm,hz,h=>by
  cases P with
  | @cons a ku v k _ r tp hk P=>
  have hx:items[i]? = some (.ref a):=by
   have:items.toList[i]? = some (.ref a):=by
    have:=congrArg (λl=>l[0]?) hd
    simpa using this
   simpa using this
  have hd':items.toList.drop (i+1)=us:=by
   have:=congrArg List.tail hd
   simpa using this
  show Xy _ _ (zaB (.ref it) >>= _) _ _ _
  refine Xb (zca hit hl hx λh1 it1 k1=>?_)
  have ne_it:∀ b o,s.heap.get? b=some o->o.cls≠.type "list_iterator" -> b≠it:=λb o e c z=>by
   subst z
   obtain ⟨o',e',c',_⟩:=hit
   rw[e] at e';cases e';exact c c'
  have tp1:zeH h1 a #[ku,v]:=by
   obtain ⟨o,e,c,n,dd⟩:=tp
   exact ⟨o,(k1.2 a (ne_it a o e (by rw[c];decide))).trans e,c,n,dd⟩
  obtain ⟨o,e,c,n,dd⟩:=tp1
  have hm1:h1.DictOf knd d kvs:=by
   obtain ⟨o,es,ep,ho,rest⟩:=hm
   exact ⟨o,es,ep,(k1.2 d n1).trans ho,rest⟩
  have hl1:h1.IsList l items:=by
   obtain ⟨o,e,c,n,dd⟩:=hl
   exact ⟨o,(k1.2 l n2).trans e,c,n,dd⟩
  dsimp only
  refine Xb (ZX ?_)
  refine Xb (zad ?_)
  unfold zfx
  refine Xb (wpAny_typeOf (T := "tuple") ⟨o,e,c⟩ ?_)
  rw[if_pos (by decide)]
  refine Xb (Ym e dd (Xj ?_))
  show Xy _ _ (zdM [ku,v] (dictSet d ku v)) _ _ _
  refine ZX (wpAny_dictSet_pairs (hsz:=by have:=hz;simp at this;lia) hk hm1 λh2 hm2 k2=>?_)
  refine Xj ?_
  refine ⟨ZA lR _,zcu xM ?_⟩
  rw[za9 lR _]
  have kp:∀ b o,b≠it->b≠d->s.heap.get? b=some o->h2.get? b=some o:=λb o b1 b2 q=>(k2.2 b b2).trans ((k1.2 b b1).trans q)
  have ci:((i:Int)+1)=((i+1:Nat):Int):=by push_cast;rfl
  have nd:∀ b o,s.heap.get? b=some o->o.cls≠.type "dict" -> b≠d:=λb o q c z=>by
   subst z
   obtain ⟨o',_,_,e',ex,_⟩:=hm
   rw[q] at e';cases e';exact c ex.1
  show Xy _ _ (za4.«dict.update.loop» ⟨[.ref d,.ref it,zbr ((i:Int)+1),.none],[]⟩) _ _ _
  rw[ci]
  refine zN hA n1 n2 n3 us r (i+1) (stored kvs k v) _ hd' (P.keeps λb o q c=>kp b o (ne_it b o q (by rw[c];decide)) (nd b o q (by rw[c];decide)) q) ?_ ?_ hm2 ?_ ?_
  ·obtain ⟨o,e,c⟩:=it1
   exact ⟨o,(k2.2 it (XA n1)).trans e,c⟩
  ·obtain ⟨o,e,c⟩:=hl1
   exact ⟨o,(k2.2 l n3).trans e,c⟩
  ·have:=stored_length_le kvs k v
   simp at hz;lia
  ·intro h' tk hm' kp'
   exact h h' tk hm' λb o b1 b2 q=>kp' b o b1 b2 (kp b o b1 b2 q)
end
end
section
open PySem.Spec PyProof.Rows L2
section
variable {prog:XO} {w:X0} {κ:Type} [DecidableEq κ] {knd:KeyKind prog w κ}
theorem oJ {A:X8}{E:Xe->Xg->Prop}{s:Xg}{l:Addr}{o:Obj}{items:Array Xe}{k:Nat}{r:List (κ×Xe)}{Q:Xe->Xg->Prop}(hA:A.handled=none)
  (hx:s.heap.get? l=some o) (hc:o.cls=.type "list") (hdat:o.data=.seq items k) (hd:o.dict=none) (P:fq knd s.heap items.toList r) (hz:r.length<=sizeLine)
  (h:∀ h' tk,h'.DictOf knd s.heap.objs.size (merged [] r)->(∀ b o,s.heap.get? b=some o->h'.get? b=some o)->Q (.ref s.heap.objs.size) { s with heap:=h',toks:=tk }) :
  Xy (XF prog w) A (zcB (.type "dict") [.ref l]) Q E s:=by
 refine callType_codes (Q₁:=λobj s₁=>obj=.ref s.heap.objs.size/\s₁={ s with heap:=s.heap.push { cls:=.type "dict", data:=.dict #[] } }) F.kt_called_dict (F.kt_typeCall_dict_1 _) F.entry_dict_init (kt_code_dict_new _ ⟨rfl,rfl⟩) ?_
 rintro obj s₁ ⟨rfl,rfl⟩
 have MQ:(s.heap.push { cls:=.type "dict", data:=.dict #[] }).DictOf knd s.heap.objs.size []:=zeR s.heap
 have hx1:(s.heap.push { cls:=.type "dict", data:=.dict #[] }).get? l=some o:=Xd _ hx
 have ll:l < s.heap.objs.size:=Xs hx
 refine ⟨MQ.typeIs,F.args_dict_init_2 _ _,?_⟩
 unfold za4.«dict.__init__»
 refine Xb ?_
 unfold zfp
 refine Xb (wpAny_notOrdered_dict MQ.typeIs ?_)
 show Xy _ _ (pure (s.heap.objs.size,[XQ l])) _ _ _
 refine Xj ?_
 show Xy _ _ (zb3 "dict.__init__" s.heap.objs.size (.ref l) [] .none) _ _ _
 unfold zb3
 refine Xb (wpAny_typeOf (T := "list") ⟨o,hx1,hc⟩ ?_)
 rw[if_pos (by decide)]
 refine Xb (Pj hx1 hc hdat hd hA λh1 tk1 kp1=>?_)
 rw[if_pos (by decide)]
 refine Xb (Zy ?_)
 have hx2:h1.get? l=some o:=kp1 _ _ hx1
 have hl2:h1.IsList l items:=⟨o,hx2,hc,k,hdat⟩
 have lt1:s.heap.objs.size < h1.objs.size:=by
  obtain ⟨o',es,ep,ho,_⟩:=MQ
  exact Xs (kp1 _ _ ho)
 refine Xb (Z2 hl2 ?_)
 refine Xb (Xj (Xj ?_))
 refine ⟨ZA lR _,zcu xM ?_⟩
 rw[za9 lR _]
 have kp2:∀ b o,s.heap.get? b=some o->(h1.push { cls:=.type "list_iterator", data:=.fields #[.ref l,.int 0 0] }).get? b=some o:=λb o q=>Xd _ (kp1 _ _ (Xd _ q))
 refine zN (A:=A.in1) (knd:=knd) (it:=h1.objs.size) (d:=s.heap.objs.size) (l:=l) (items:=items) (R:=wants (λr s₂=>r=Zb/\Q (XQ s.heap.objs.size) s₂) E) hA (XI lt1) (XI (zdU ll lt1)) (XI ll) items.toList r 0 [] _ rfl ?_ ?_ ?_ ?_ (by simpa using hz) ?_
 ·exact P.keeps λb o q _=>kp2 b o q
 ·exact ⟨_,Xw _ rfl,rfl,rfl⟩
 ·exact ⟨o,Xd _ hx2,hc,k,hdat⟩
 ·obtain ⟨o',es,ep,ho,rest⟩:=MQ
  exact ⟨o',es,ep,Xd _ (kp1 _ _ ho),rest⟩
 ·intro h' tk hm' kp'
  refine ⟨rfl,h h' tk hm' λb o q=>?_⟩
  have hb:b < s.heap.objs.size:=Xs q
  exact kp' b o (XI (zdU hb lt1)) (XI hb) (kp2 b o q)
end
def dK:Key->D
 | .inl i=>.int i
 | .inr s=>.str s
def AV (kv:Key×D):D:=.tup [dK kv.1,kv.2]
def iK (kvs more:List (Key×D)):List (Key×D):=more.foldl (λacc kv=>putD acc kv.1 kv.2) kvs
inductive ff (K:Xa) (H:Hp):List V->List (Key×V)->Prop
 | nil:ff K H [] []
 | cons {a:Addr} {k:Key} {v:V} {ys:List V} {r:List (Key×V)}:SqT K H a [kV k,v]->ff K H ys r->ff K H (.ref a::ys) ((k,v)::r)
theorem ff.at {X:Cx}{pins:List (Addr×Obj)}{σ:L2.St}{H:Hp}{s:Xg}(I:Inv X pins σ H s):∀ {ys:List V} {kvs:List (Key×V)} {us:List Xe},ff X.K H ys kvs->Vals ys us->∃ r,fq (cc X.prog X.w) s.heap us r/\KV kvs r
 | _,_,_,.nil,.nil=>⟨[],.nil,.nil⟩
 | _,_,_,@ff.cons _ _ a k v ys r sq h,.cons ru rs=>by
  cases (show _=XQ a from ru)
  obtain ⟨r,p,q⟩:=h.at I rs
  obtain ⟨its,vs,it,_⟩:=I.tuple sq
  cases vs with | @cons _ u1 _ _ r1 vs=>cases vs with | @cons _ u2 _ _ r2 vs=>
  cases vs
  exact ⟨(k,u2)::r,.cons it (t9 r1) p,.cons ⟨rfl,r2⟩ q⟩
theorem rQ {X:Cx}(hc:X.calm=true):bV X (.type "dict") (λxs H Q=>∃ l ys kvs,xs=[.ref l]/\SqL X.K H l ys/\ff X.K H ys kvs/\kvs.length<=sizeLine/\∀ p,H p=none->Q (.ref p) (L2.upd H p (.dK (dS [] kvs)))):=by
 intro pins s σ H xs us Q I rx h
 obtain ⟨l,ys,kvs,rfl,sq,pv,hz,q⟩:=h
 obtain ⟨u,rfl,ru⟩:=vals1 rx
 cases (show u=XQ l from ru)
 obtain ⟨its,vs,pl,_⟩:=I.list sq
 obtain ⟨o,n,e,c,hd,hdat⟩:=pl
 obtain ⟨r,pr,kv⟩:=pv.at I vs
 refine oJ (knd:=cc X.prog X.w) (I.ok.hd hc) e c hdat hd (r:=r) (by simpa using pr) (by rw[← kv.length];exact hz) λh' tk dd kp=>?_
 have hl:(dS [] kvs).length<=sizeLine:=by have:=gH kvs [];simp at this;lia
 exact ⟨.ref s.heap.objs.size,_,I.laid (a:=s.heap.objs.size) (o:=.dK (dS [] kvs)) kp (Xq _) (BG hl (beq_eq_false_iff_ne.mpr (XA (XI I.big))) (KV.merge kv .nil) dd),rfl,q _ (I.hok.fresh (Xq _))⟩
def yR:FSp:=λds μ Q=>match ds with
 | [.ls xs]=>∃ kvs:List (Key×D),xs=kvs.map AV/\kvs.length<=1000000/\∀ p,μ p=none->Q (.obj p) (up μ p (.dct (iK [] kvs)))
 | _=>False
theorem Pf {K:Xa}{H:Hp}{v:V}{k:Key}(h:Dp K H v (dK k)):v=kV k:=by
 cases k with
 | inl i=>cases h;rfl
 | inr s=>cases h;rfl
theorem ff.of {K:Xa}{H:Hp}:∀ {kvs:List (Key×D)} {xs:List V},DpL K H xs (kvs.map AV)->∃ r,ff K H xs r/\DpK K H r kvs
 | [],_,h=>by cases h;exact ⟨[],.nil,.nil⟩
 | kv::kvs,_,h=>by
  obtain ⟨k,d⟩:=kv
  cases h with
  | cons p l=>
   obtain ⟨r,h1,h2⟩:=ff.of l
   cases p with
   | tup sq lp=>
    cases lp with | cons p1 lp=>cases lp with | cons p2 lp=>
    cases lp
    cases Pf p1
    exact ⟨(k,_)::r,.cons sq h1,.cons p2 h2⟩
theorem DpK.merge {K:Xa}{H:Hp}{xs:List (Key×V)}{kvs:List (Key×D)}(h:DpK K H xs kvs):∀ {axs:List (Key×V)} {akvs:List (Key×D)},DpK K H axs akvs->DpK K H (dS axs xs) (iK akvs kvs):=
 DpK.ind (P:=λxs kvs=>∀ {axs:List (Key×V)} {akvs:List (Key×D)},DpK K H axs akvs->DpK K H (dS axs xs) (iK akvs kvs)) (λh=>h) (λk v d xs kvs p _ ih axs akvs ha=>ih (ha.put k p)) h
theorem wY {K:Xa}:kc K (λxs H Q=>∃ l ys kvs,xs=[.ref l]/\SqL K H l ys/\ff K H ys kvs/\kvs.length<=sizeLine/\∀ p,H p=none->Q (.ref p) (L2.upd H p (.dK (dS [] kvs)))) yR:=λH μ xs ds Q Q' m p h k=>by
 unfold yR at h
 split at h
 ·obtain ⟨kvs,rfl,hl,h⟩:=h
  cases p with | cons p1 p2=>
  cases p2
  cases p1 with
  | ls q l=>
   obtain ⟨r,h1,h2⟩:=ff.of l
   exact ⟨_,_,r,rfl,q.sq,h1,by rw[h2.length];exact big hl,λz hz=>k _ _ _ _ (.new hz) (vF m hz (h2.merge .nil)) (.obj z) (h z (m.free hz))⟩
 ·exact Xi h
end
section
open PySem.Spec PyProof.Rows L2
theorem Dd (K:Xa){t:String}(ht:t∈tys):∀ (cs:List String),(∀ c∈cs,c∈xi)->zff K (.type t) (cs.map .type)=some (cs.any λc=>eB t c)
 | [],_=>rfl
 | c::cs,h=>by
  have e:=DE K t ht c (h c Xl)
  have ih:=Dd K ht cs λx hx=>h x (Xp _ hx)
  rw[Xm,ZY]
  unfold zff
  rw[e]
  cases eB t c with
  | true=>rfl
  | false=>rw[zdl];exact ih
def Hm (K:Xa):List V->Hp->VK->Prop:=λxs H Q=>∃ x d t p,∃ cs:List String,xs=[x,.ref p]/\SqT K H p (cs.map V.ty)/\Dp K H x d/\tyD d=some t/\(∀ c∈cs,c∈xi)/\Q (.bl (cs.any λc=>eB t c)) H
theorem DS:∀ {cs:List String} {us:List Xe},Vals (cs.map V.ty) us->us=cs.map .type
 | [],_,h=>by cases h;rfl
 | c::cs,_,h=>by
  cases h with
  | cons r h=>rw[DS h,Xm];congr 1
theorem D6 {X:Cx}:bV X (.builtin "isinstance") (Hm X.K):=λpins s σ H xs us Q I rx ⟨x,d,t,p,cs,ex,sq,px,et,hc,q⟩=>by
 subst ex
 cases rx with | @cons _ u _ _ r1 r2=>cases r2 with | cons r2 r3=>
 cases r3
 cases (show _=XQ p from r2)
 obtain ⟨its,rv,⟨o,ho,hcl,n,hd⟩,_⟩:=I.tuple sq
 have ei:=DS rv
 subst ei
 have htp:s.heap.get? p=some ⟨.type "tuple", o.dict,.seq (cs.map zdw).toArray n,o.slots⟩:=by
  rw[ho];obtain ⟨c,dd,dt,sl⟩:=o;simp only at hcl hd;subst hcl hd;rfl
 have e:=Dd X.K (GY et) cs hc
 have fin:∀ tk,EP X pins σ Q (.bool (cs.any λc=>eB t c)) { s with toks:=tk }:=λtk=>⟨.bl _,H,I.tok tk,rfl,q⟩
 cases px with
 | non=>cases et;cases (show u=Zb from r1);exact ZV zdZ I.kIn YR htp e (λz=>nomatch z) fin
 | bl y=>cases et;cases (show u=zbp y from r1);exact ZV zd0 I.kIn YR htp e (λz=>nomatch z) fin
 | int i=>cases et;obtain ⟨t,z⟩:=(show ∃ t,u=zbo i t from r1);cases z;exact ZV zeu I.kIn YR htp e (λz=>nomatch z) fin
 | str y=>cases et;obtain ⟨t,z⟩:=(show ∃ t,u=zbV y t from r1);cases z;exact ZV zew I.kIn YR htp e (λz=>nomatch z) fin
 | ty _=>cases et
 | obj _=>cases et
 | @tup a xs ds sq l=>
  cases et
  cases (show u=XQ a from r1)
  obtain ⟨its,_,⟨o,h1,h2,_⟩,_⟩:=I.tuple sq
  exact ZV zdC I.kIn ⟨o,h1,h2⟩ htp e (λz=>nomatch z) fin
 | @ls a xs ds sq l=>
  cases et
  cases (show u=XQ a from r1)
  obtain ⟨its,_,⟨o,n,h1,h2,_⟩,_⟩:=I.list sq.sq
  exact ZV zd1 I.kIn ⟨o,h1,h2⟩ htp e (λz=>nomatch z) fin
def DD (cs:List String):FSp:=λds μ Q=>match ds with
 | [x,.tup ts]=>(ts=cs.map .ty/\∀ c∈cs,c∈xi)/\(match tyD x with
  | some t=>Q (.bl (cs.any λc=>eB t c)) μ
  | none=>False)
 | _=>False
theorem Hb {K:Xa}{H:Hp}:∀ {cs:List String} {xs:List V},DpL K H xs (cs.map .ty)->xs=cs.map V.ty
 | [],_,h=>by cases h;rfl
 | c::cs,_,h=>by
  cases h with
  | cons p l=>cases p;rw[Hb l,Xm]
theorem J5 {K:Xa}(cs:List String):kc K (Hm K) (DD cs):=λH μ xs ds Q Q' m p h k=>by
 unfold DD at h
 split at h
 ·obtain ⟨⟨rfl,hc⟩,h⟩:=h
  cases p with | cons p1 p2=>cases p2 with | cons p2 p3=>
  cases p3
  cases p2 with
  | tup sq l=>
   cases Hb l
   split at h
   ·rename_i t et
    exact ⟨_,_,t,_,cs,rfl,sq,p1,et,hc,k _ H _ μ (.refl H) m (.bl _) h⟩
   ·exact Xi h
 ·exact Xi h
section
variable {X:Cx} {o i a b c e value:XJ} {To Ti Ta Tb Te:ETr} {pos tpos apos cpos:Pos}
def Pw (To Ti:ETr):ETr:=λρ μ Q=>To ρ μ λx μ1=>kObj x λa=>kL μ1 a λ_=>Ti ρ μ1 λy μ2=>kI y λj=>(-9223372036854775808<=j/\j < 9223372036854775808)/\kL μ2 a λds=>kN (L2.ixN ds.length j) λk=>kO ds[k]? λd=>Q d (up μ2 a (.lst (ds.eraseIdx k)))
theorem JE {n k:Nat}{j:Int}(h:L2.ixN n j=some k):zc5 j n=some k:=by
 unfold L2.ixN at h
 unfold zc5
 split at h
 ·split at h
  ·cases h
   rename_i h1 h2
   simp[show ¬ (j < 0) by lia,h1,h2]
  ·cases h
 ·split at h
  ·cases h
   rename_i h1 h2
   simp[show j < 0 by lia]
   lia
  ·cases h
theorem DpL.erase {K:Xa}{H:Hp}:∀ {vs:List V} {ds:List D} (i:Nat),DpL K H vs ds->DpL K H (vs.eraseIdx i) (ds.eraseIdx i)
 | _,_,_,.nil=>by simp;exact .nil
 | _,_,0,.cons _ l=>l
 | _,_,i+1,.cons q l=>.cons q (DpL.erase i l)
theorem Ry (ho:LE X o To)(hi:LE X i Ti)
  (hbase:zat o "pop" X.env (Yr o X.env)=Yr o X.env:=by rfl)
  (hfew:((YI cpos (Xt [i] X.env)).all (λx=>!x.1)&&(zbs cpos (Z6 [] X.env)).all (λx=>x.1.isSome)
   && decide (([i]:List XJ).length+([]:List zag).length+(if ([]:List zag).isEmpty then 0 else 1) < 30))=true:=by rfl)
  (hline:(apos.endLine == cpos.line)=true:=by rfl) (hs:Xt [i] X.env=(false,Yr i X.env)::Xt [] X.env:=by rfl) (hplain:(YI cpos (Xt [] X.env)).any (·.1)=false:=by rfl) :
  LE X (.Call (.Attribute o "pop" apos) [i] [] cpos) (Pw To Ti):=by
 obtain ⟨to,po,so⟩:=ho.ex
 obtain ⟨ti,pi,si⟩:=hi.ex
 refine ⟨_,Dh ZF PySem.F.slot_list_pop PySem.F.type_list_pop Jg po (eA pi iT hs) hbase hfew hline hs hplain,λσ H ρ μ Q Q' rl h k=>so σ H ρ μ _ _ rl h λx H1 dx μ1 t1 m1 p1 h1=>?_⟩
 obtain ⟨q,rfl,h1⟩:=eu p1 h1
 obtain ⟨ds0,e0,h1⟩:=bP h1
 obtain ⟨xs0,ex0,_⟩:=m1 q _ e0
 refine ⟨.inl ⟨rfl,_,SqL.of ex0⟩,si σ H1 ρ μ1 _ _ (rl.go t1 m1) h1 λy H2 dy μ2 t2 m2 p2 h2=>?_⟩
 cases p2 with
 | int j=>
  obtain ⟨hr,h2⟩:=h2
  obtain ⟨ds,e2,h3⟩:=bP (show kL μ2 q _ from h2)
  obtain ⟨kk,e3,h3⟩:=Hu h3
  obtain ⟨d,e4,h3⟩:=kC h3
  obtain ⟨xs,ex,l⟩:=m2 q _ e2
  obtain ⟨v,ev,pv⟩:=l.get e4
  have e3':L2.ixN xs.length j=some kk:=by rw[l.length];exact e3
  exact ⟨q,xs,j,kk,v,rfl,rfl,ex,by lia,by lia,JE e3',ev,k _ _ _ _ ((t1.trans t2).trans (kF ex)) (G9 m2 ex (l.erase kk)) (pv.mono (kF ex)) h3⟩
 | _=>exact Xi h2
end
noncomputable def r6 (h:Heap) (dx:PyData) (y:Xe):Bool:=@decide (∃ d as,zdX h y d as/\ze9 d=true/\YS d dx=true) (ZG _)
theorem Nf {h:Heap}{dx d:PyData}{y:Xe}{as:List Addr}(r:zdX h y d as)(hd:d.canLay0=true):r6 h dx y=YS d dx:=by
 unfold r6
 cases e:YS d dx with
 | true=>exact @decide_eq_true _ (ZG _) ⟨d,as,r,hd,e⟩
 | false=>
  refine @decide_eq_false _ (ZG _) ?_
  rintro ⟨d',as',r',hd',e'⟩
  cases zdH _ _ _ _ _ hd r r'
  rw[e] at e';cases e'
theorem CP {n:Nat}:∀ {ds:List D} {d:D},cH n ds=true->d∈ds->okD n d=true
 | x::r,d,h,hm=>by
  have h':okD n x=true/\cH n r=true:=YL.mp h
  rcases Xr.mp hm with rfl | hm
  ·exact h'.1
  ·exact CP h'.2 hm
section
variable {X:Cx} {pins:List (Addr×Obj)} {σ:L2.St} {H:Hp} {s:Xg}
theorem item_at (I:Inv X pins σ H s){vs:List V}{ds:List D}{us:List Xe}(l:DpL X.K H vs ds)(r:Vals vs us)(ok:cH 38 ds=true){dy:D}{y:Xe}{bs:List Addr}(oy:okD 38 dy=true)(ry:zdX s.heap y (toP dy) bs)(hu:X.A.units+64 < cLine)
  {m:Nat} {u:Xe} (hm:us[m]? = some u):∃ d,ds[m]? = some d/\r6 s.heap (toP dy) u=eqD d dy/\zfg X.A.in1 s u y (r6 s.heap (toP dy) u):=by
 have hlt:m < vs.length:=by rw[r.length];exact (XR.mp hm).1
 obtain ⟨u',e1,rv⟩:=r.get (Xx hlt)
 rw[hm] at e1;cases e1
 obtain ⟨d,ed,pd⟩:=l.get' (Xx hlt)
 have od:=CP ok (Z8 ed)
 obtain ⟨as,ra⟩:=eC I pd od rv
 obtain ⟨l1,d1⟩:=fO 38 d od
 obtain ⟨l2,d2⟩:=fO 38 dy oy
 have e:=Nf (dx:=toP dy) ra l1
 refine ⟨d,ed,by rw[e,oR 38 38 d dy od oy],?_⟩
 rw[e]
 exact zeD _ _ _ s _ _ _ _ ra ry l1 l2 (by have:=zbf (toP d).depth (toP dy).depth;rw[zb4];lia)
end
def FE (ds:List D)(x:D):Option Nat:=ds.findIdx? λy=>eqD y x
theorem IA {X:Cx}(hu:X.A.units+64 < cLine):MtM X "list.index" (λx vs H Q=>∃ p xs y ds dy,∃ j:Nat,x=.ref p/\vs=[y]/\SqL X.K H p xs/\DpL X.K H xs ds/\Dp X.K H y dy/\cH 38 ds=true/\okD 38 dy=true/\FE ds dy=some j/\j < 1000000/\Q (.int j) H):=by
 intro pins s σ H x vs v us Q I rx rv h
 obtain ⟨p,xs,y,ds,dy,j,rfl,rfl,sq,l,py,ok,oy,hj,hj2,q⟩:=h
 cases (show v=XQ p from rx)
 obtain ⟨u,rfl,ru⟩:=rv.one
 obtain ⟨its,r,⟨o,n,e,c,hd,hdat⟩,_⟩:=I.list sq
 obtain ⟨bs,rb⟩:=eC I py oy ru
 have he:s.heap.get? p=some ⟨.type "list", none,.seq its.toArray n,o.slots⟩:=by
  rw[e];obtain ⟨c',dd,dt,sl⟩:=o;simp only at c hd hdat;subst c hd hdat;rfl
 unfold FE at hj
 rw[zaJ] at hj
 obtain ⟨h1,h2,h3⟩:=hj
 have hl:ds.length=its.length:=by rw[← l.length,r.length]
 have at':∀ m (hm:m < its.toArray.size),∃ d,ds[m]? = some d/\r6 s.heap (toP dy) its.toArray[m]=eqD d dy/\zfg X.A.in1 s its.toArray[m] u (r6 s.heap (toP dy) its.toArray[m]):=λm hm=>
  item_at I l r ok oy rb hu (by simp at hm ⊢)
 refine zbw F.slot_list_index ⟨_,he,rfl⟩ F.entry_list_index (F.args_list_index_2 _ _) (SeqAt.list_indexAt p its.toArray n none o.slots u (r6 s.heap (toP dy)) j (by simp;lia) (by lia) ?_ ?_) ⟨he,λw hw=>?_,?_⟩
 ·obtain ⟨d,e1,e2,_⟩:=at' j (by simp;lia)
  rw[e2]
  rw[Xx h1] at e1;cases e1
  exact h2
 ·intro m hm hlt
  obtain ⟨d,e1,e2,_⟩:=at' m hm
  rw[e2]
  have hm':m < ds.length:=by simp at hm;lia
  rw[Xx hm'] at e1;cases e1
  have:=h3 m hlt
  simpa using this
 ·obtain ⟨m,hm,rfl⟩:=zcD.mp hw
  obtain ⟨d,_,_,e3⟩:=at' m hm
  exact e3
 ·exact ⟨.int j,H,I.tok _,⟨_,rfl⟩,q⟩
section
variable {X:Cx} {o i a b c e value:XJ} {To Ti Ta Tb Te:ETr} {pos tpos apos cpos:Pos}
def Ei (μ:Mu)(x:D)(f:List D->Prop):Prop:=match x with
 | .ls ds=>f ds
 | .obj a=>kL μ a f
 | _=>False
theorem yM {K:Xa}{H:Hp}{μ:Mu}{x:V}{dx:D}{f:List D->Prop}(m:bL K H μ)(p:Dp K H x dx)(h:Ei μ dx f):∃ q xs ds,x=.ref q/\SqL K H q xs/\DpL K H xs ds/\f ds:=by
 cases p with
 | ls sq l=>exact ⟨_,_,_,rfl,sq.sq,l,h⟩
 | obj q=>
  obtain ⟨ds,e0,h⟩:=bP h
  obtain ⟨xs,ex,l⟩:=m q _ e0
  exact ⟨q,xs,ds,rfl,SqL.of ex,l,h⟩
 | _=>exact Xi h
def AQ (To Ti:ETr):ETr:=λρ μ Q=>To ρ μ λx μ1=>Ei μ1 x λ_=>Ti ρ μ1 λy μ2=>Ei μ2 x λds=>(cH 38 ds=true/\okD 38 y=true)/\kN (FE ds y) λj=>j < 1000000/\Q (.int j) μ2
theorem JY (hu:X.A.units+64 < cLine)(ho:LE X o To)(hi:LE X i Ti)
  (hbase:zat o "index" X.env (Yr o X.env)=Yr o X.env:=by rfl)
  (hfew:((YI cpos (Xt [i] X.env)).all (λx=>!x.1)&&(zbs cpos (Z6 [] X.env)).all (λx=>x.1.isSome)
   && decide (([i]:List XJ).length+([]:List zag).length+(if ([]:List zag).isEmpty then 0 else 1) < 30))=true:=by rfl)
  (hline:(apos.endLine == cpos.line)=true:=by rfl) (hs:Xt [i] X.env=(false,Yr i X.env)::Xt [] X.env:=by rfl) (hplain:(YI cpos (Xt [] X.env)).any (·.1)=false:=by rfl) :
  LE X (.Call (.Attribute o "index" apos) [i] [] cpos) (AQ To Ti):=by
 obtain ⟨to,po,so⟩:=ho.ex
 obtain ⟨ti,pi,si⟩:=hi.ex
 refine ⟨_,Dh ZF PySem.F.slot_list_index PySem.F.type_list_index (IA hu) po (eA pi iT hs) hbase hfew hline hs hplain,λσ H ρ μ Q Q' rl h k=>so σ H ρ μ _ _ rl h λx H1 dx μ1 t1 m1 p1 h1=>?_⟩
 obtain ⟨q,xs0,ds0,rfl,sq0,l0,h1⟩:=yM m1 p1 h1
 refine ⟨.inl ⟨rfl,_,sq0⟩,si σ H1 ρ μ1 _ _ (rl.go t1 m1) h1 λy H2 dy μ2 t2 m2 p2 h2=>?_⟩
 obtain ⟨q',xs,ds,eq,sq,l,h2⟩:=yM m2 (p1.mono t2) h2
 cases eq
 obtain ⟨⟨o1,o2⟩,h2⟩:=h2
 obtain ⟨j,ej,hj,h2⟩:=Hu h2
 exact ⟨q,xs,y,ds,dy,j,rfl,rfl,sq,l,p2,o1,o2,ej,hj,k _ H2 _ μ2 (t1.trans t2) m2 (.int _) h2⟩
def inG (x:D)(ds:List D):Bool:=ds.any λy=>eqD y x
def OV (K:Xa)(neg:Bool):L2.R2:=λx y H Q=>∃ p xs ds dx,y=.ref p/\(SqL K H p xs∨SqT K H p xs)/\DpL K H xs ds/\Dp K H x dx/\cH 38 ds=true/\okD 38 dx=true/\Q (.bl (if neg then !inG dx ds else inG dx ds)) H
theorem IW {pins:List (Addr×Obj)}{σ:L2.St}{H:Hp}{s:Xg}(I:Inv X pins σ H s)(hu:X.A.units+64 < cLine){vs:List V}{ds:List D}{us:List Xe}(l:DpL X.K H vs ds)(r:Vals vs us)(ok:cH 38 ds=true){dy:D}{y:Xe}{bs:List Addr}(oy:okD 38 dy=true)(ry:zdX s.heap y (toP dy) bs) :
  (∀ w,w∈us.toArray->zfg X.A.in1 s w y (r6 s.heap (toP dy) w))/\us.toArray.any (r6 s.heap (toP dy))=inG dy ds:=by
 have hl:ds.length=us.length:=by rw[← l.length,r.length]
 constructor
 ·intro w hw
  obtain ⟨m,hm,rfl⟩:=zcD.mp hw
  obtain ⟨d,_,_,e3⟩:=item_at I l r ok oy ry hu (m:=m) (u:=us.toArray[m]) (by simp at hm ⊢)
  exact e3
 ·unfold inG
  rw[show us.toArray.any (r6 s.heap (toP dy))=us.any (r6 s.heap (toP dy)) by simp]
  rw[zcv,zaZ,zaZ]
  constructor
  ·rintro ⟨w,hw,e⟩
   obtain ⟨m,hm,rfl⟩:=zcS.mp hw
   obtain ⟨d,e1,e2,_⟩:=item_at I l r ok oy ry hu (m:=m) (u:=us[m]) (by simp)
   exact ⟨d,Z8 e1,by rw[← e2];exact e⟩
  ·rintro ⟨d,hd,e⟩
   obtain ⟨m,hm,rfl⟩:=zcS.mp hd
   obtain ⟨d',e1,e2,_⟩:=item_at I l r ok oy ry hu (m:=m) (u:=us[m]'(by lia)) (by simp)
   rw[Xx hm] at e1;cases e1
   exact ⟨us[m]'(by lia),YM _,by rw[e2];exact e⟩
theorem Qc (hu:X.A.units+64 < cLine):OpR X (Y8 .In) (OV X.K false):=by
 intro pins s σ H x y v u Q I rx ry h
 obtain ⟨p,xs,ds,dx,rfl,hq,l,px,o1,o2,q⟩:=h
 cases (show u=XQ p from ry)
 obtain ⟨bs,rb⟩:=eC I px o2 rx
 rcases hq with hq | hq
 ·obtain ⟨its,r,pl,hz⟩:=I.list hq
  obtain ⟨h1,h2⟩:=IW I hu l r o1 o2 rb
  exact SeqAt.in_listAt _ pl.isList h1 ⟨.bl _,H,I,rfl,by rw[h2];exact q⟩
 ·obtain ⟨its,r,pl,hz⟩:=I.tuple hq
  obtain ⟨h1,h2⟩:=IW I hu l r o1 o2 rb
  exact SeqAt.in_tupleAt _ pl h1 ⟨.bl _,H,I,rfl,by rw[h2];exact q⟩
def Eh (μ:Mu)(x:D)(f:List D->Prop):Prop:=match x with
 | .tup ds=>f ds
 | .ls ds=>f ds
 | .obj a=>kL μ a f
 | _=>False
def K1 (neg:Bool):DR2:=λx y μ Q=>Eh μ y λds=>(cH 38 ds=true/\okD 38 x=true)/\Q (.bl (if neg then !inG x ds else inG x ds)) μ
theorem KP {K:Xa}(neg:Bool):gE K (OV K neg) (K1 neg):=λH μ x y dx dy Q Q' m px py h k=>by
 cases py with
 | tup sq l=>exact ⟨_,_,_,dx,rfl,.inr sq,l,px,h.1.1,h.1.2,k _ H _ μ (.refl H) m (.bl _) h.2⟩
 | ls sq l=>exact ⟨_,_,_,dx,rfl,.inl sq.sq,l,px,h.1.1,h.1.2,k _ H _ μ (.refl H) m (.bl _) h.2⟩
 | obj q=>
  obtain ⟨ds,e0,h⟩:=bP (show kL μ q _ from h)
  obtain ⟨xs,ex,l⟩:=m q _ e0
  exact ⟨_,_,_,dx,rfl,.inl (SqL.of ex),l,px,h.1.1,h.1.2,k _ H _ μ (.refl H) m (.bl _) h.2⟩
 | _=>exact Xi h
theorem Ri (hu:X.A.units+64 < cLine)(ha:LE X a Ta)(hb:LE X b Tb)(hm:YA .In b=false:=by rfl):LT X (.Compare a [.In] [b] pos) (TB (ak (K1 false) Ta Tb)):=fE (Qc hu) (KP false) ha hb hm
end
end
section
open PySem.Spec PyProof.Rows L2
def R9 (K:Xa)(n:Nat)(t:TGs)(is:List Nat):Prop:=∀ σ H ρ μ vs ds (k:ST->Mu->Prop) (k':L2.St->Hp->Prop),Rl K σ H ρ μ->DpL K H vs ds->ds.length=is.length->k (kR ρ is ds) μ->OO K n σ H k k'->t vs σ H k'
structure NJ (X:Cx) (n:Nat) (es:List XJ) (is:List Nat):Prop where
 ex:∃ t,PGs X es t/\R9 X.K n t is
section
variable {X:Cx} {e tg:XJ} {es:List XJ} {is:List Nat} {pos:Pos} {x:Str} {n:Nat}
theorem eU:NJ X n [] []:=⟨_,CH,λσ H ρ μ vs ds k k' rl l hl h q=>by
 cases ds with
 | nil=>cases l;exact ⟨rfl,q _ _ _ _ (.refl H) rl ⟨rfl,λ_ _=>rfl⟩ h⟩
 | cons=>cases hl⟩
theorem bF (i:Nat)(hN:X.N.Nodup)(h2:NJ X n es is)(hin:i < n:=by decide)(hi:X.N[i]? = some x:=by rfl)(hx:Loc X.env.scope x:=by first | exact zaQ rfl | exact zaR rfl)(hf:X.fn x=true∨X.env.scope.names.lookup x=some .local:=by first | exact .inr rfl | exact .inl rfl | assumption)
  (hs:(YO (.Name x pos::es) X.env).map (·.2)=zcI (.Name x pos) X.env::(YO es X.env).map (·.2):=by rfl):NJ X n (.Name x pos::es) (i::is):=by
 obtain ⟨t,pt,st⟩:=h2.ex
 refine ⟨_,zD (iU hN hi hx hf) pt hs,λσ H ρ μ vs ds k k' rl l hl h q=>?_⟩
 cases l with
 | nil=>cases hl
 | @cons v d vs ds p l=>
  refine ⟨v,vs,rfl,st _ H _ μ vs ds k k' (rl.set p i) l (by simpa using hl) h λσ' H' ρ' μ' t' r' hk kk=>q σ' H' ρ' μ' t' r' ⟨?_,λj hj=>?_⟩ kk⟩
  ·rw[hk.1];simp
  ·rw[hk.2 j hj,Zt (by lia)]
theorem gG {k:Nat}(hc:X.calm=true)(h:NJ X n es is)(hn:(YO es X.env).length=is.length:=by rfl)(hst:(YO es X.env).findIdx? (·.1)=none:=by rfl):LGc X n (.Tuple es k pos) (fg is):=by
 obtain ⟨t,pt,st⟩:=h.ex
 refine ⟨λpins s σ H v u k' I r ⟨ρ,μ,d,k,rl,p,h,post⟩=>HF hc pt hn hst pins s σ H v u k' I r ?_⟩
 cases p with
 | @tup a xs ds sq l=>exact ⟨a,xs,rfl,sq,by rw[l.length];exact h.1,st σ H ρ μ xs ds k k' rl l h.1 h.2 post⟩
 | _=>exact Xi h
end
section
variable {X:Cx} {o i a b c e value:XJ} {To Ti Ta Tb Te:ETr} {pos tpos apos cpos:Pos}
theorem E1 (l:Addr)(its:Array Xe)(n:Nat)(q:Addr)(its2:Array Xe)(n2:Nat)(sl:Array (Option Xe))(h0:¬ (!its.isEmpty&&YB (its.size+its2.size))=true)(h1:its.size<=sizeLine)(h2:its.size+its2.size<=sizeLine+1) :
  Meets (za4.«list.extend» ⟨[.ref l,.ref q],[]⟩) (λ_ R s=>s.heap.get? l=some { cls:=.type "list", dict:=none,data:=.seq its n,slots:=#[] }/\s.heap.get? q=some { cls:=.type "list", dict:=none,data:=.seq its2 n2,slots:=sl }/\
   R (.ok (.ret Zb)) { s with heap:=s.heap.update l (zce λx=>x++its2) }):=
 .of_wp λprog w A R s h=>by
  obtain ⟨hp,g,d,tk,os⟩:=s
  obtain ⟨hl,hb,h⟩:=h
  have z1:=zcm
  have z2:=za0
  have z3:=zbj
  have z4:=zba
  have z5:=zbb
  have hz':(its++its2).size<=sizeLine+1:=by rw[zea];lia
  wp_walk using (zaA hl rfl (hz:=h1) (_hz':=hz')),zbk hl,zbk hb
  exact ⟨_,rfl,h⟩
def Vc (K:Xa):V->List V->Hp->VK->Prop:=λx vs H Q=>∃ l b xs zs,x=.ref l/\vs=[.ref b]/\H l=some (.lst xs)/\SqL K H b zs/\xs.length+zs.length<=sizeLine/\Q .non (L2.upd H l (.lst (xs++zs)))
theorem Qg:MtM X "list.extend" (Vc X.K):=by
 intro pins s σ H x vs v us Q I rx rv h
 obtain ⟨l,q,xs,zs,rfl,rfl,hH,hB,hz,qq⟩:=h
 cases (show v=XQ l from rx)
 obtain ⟨u,rfl,ru⟩:=rv.one
 cases (show u=XQ q from ru)
 obtain ⟨z,its,n,r,hl,e⟩:=I.Ly hH
 obtain ⟨its2,r2,⟨o,n2,e2,c2,d2,dat2⟩,_⟩:=I.list hB
 have e2':s.heap.get? q=some ⟨.type "list", none,.seq its2.toArray n2,o.slots⟩:=by
  rw[e2];obtain ⟨c',dd,dt,sl⟩:=o;simp only at c2 d2 dat2;subst c2 d2 dat2;rfl
 have hl2:=r2.length
 have hs2:its.toArray.size+its2.toArray.size<=sizeLine:=by rw[Xz,Xz];lia
 have F3:¬ (!its.toArray.isEmpty&&YB (its.toArray.size+its2.toArray.size))=true:=by
  rw[zh hs2,zcT];decide
 refine zbw zdI ⟨_,e,rfl⟩ zdc (zcU _ _) (E1 l its.toArray n q its2.toArray n2 o.slots F3 (by lia) (by lia)) ⟨e,e2',?_⟩
 refine ⟨.non,_,I.Np (its':=its++its2) hH e (by simp) (r.append r2) ?_,rfl,qq⟩
 rw[Xo];lia
end
section
variable {P:XO} {w:X0} {K:Xa} {mg:Str->Option Xe} {base:Heap}
theorem Vp {k:Nat}{f:Addr}{fd:XB}{ps:List Str}{x qual:Str}{st:Stmt}{N:List Str}(F:Fun K x qual st f fd)(S:aF N ps (ao st)):i4 P w K mg base CX0 (k+1) f fd ps (lift K λ_ _ _=>False):=by
 refine F.ok S (λvs H Q E h=>?_) (λcdv A outer s H vs Q E hroom h=>?_)
 ·obtain ⟨ds,μ,QQ,l,m,h1,k⟩:=h;exact h1.elim
 ·obtain ⟨ds,μ,QQ,l,m,h1,k⟩:=h;exact h1.elim
end
end
section
open PySem.Spec PyProof.Rows L2
section
variable {X:Cx} {tg a ea eb:XJ} {Ta:ETr} {es:List XJ} {ek:Nat} {ep p pos:Pos}
def V7 (K:Xa)(tl:TE):TI:=λσ H R=>tl σ H λx H1=>∃ q,x=.ref q/\(((∃ xs,SqL K H1 q xs)/\R (Itl K q) H1)∨((∃ xs,SqT K H1 q xs)/\R (Itt K q) H1))
theorem Sj {tl:TE}(hl:PE X a tl):PI X tg a (V7 X.K tl):=by
 intro pins s σ H R I h
 refine thn (hl pins s σ H _ I h) λv s1 ⟨x,H1,I1,r1,q,ex,qq⟩=>?_
 subst ex
 cases (show v=XQ q from r1)
 have fp:∀ b∈[s1.heap.objs.size],_:=λb hb=>by
  have e:b=s1.heap.objs.size:=by simpa using hb
  subst e
  exact I1.EA (Xq _) (I1.hok.fresh (Xq _))
 rcases qq with ⟨⟨xs,sq⟩,qq⟩ | ⟨⟨xs,sq⟩,qq⟩
 ·obtain ⟨its,rv,pl,hz⟩:=I1.list sq
  exact Z2 pl.isList ⟨s1.heap.objs.size,[s1.heap.objs.size],_,_,H1,rfl,I1.kept (t':=s1.toks) (λb o e=>Xd _ e),uE q _,⟨_,Xw _ rfl,rfl,rfl⟩,fp,qq⟩
 ·obtain ⟨its,rv,pl,hz⟩:=I1.tuple sq
  exact zdE (show s1.heap.IsTuple q its.toArray from pl) ⟨s1.heap.objs.size,[s1.heap.objs.size],_,_,H1,rfl,I1.kept (t':=s1.toks) (λb o e=>Xd _ e),AG q _,⟨_,Xw _ rfl,rfl,rfl⟩,fp,qq⟩
theorem bG (ha:LE X a Ta):LI X tg a (dG Ta):=by
 obtain ⟨ta,pa,sa⟩:=ha.ex
 refine ⟨_,Sj pa,λσ H ρ μ Q R rl h k=>sa σ H ρ μ _ _ rl h λx H1 d μ1 t1 m1 p1 h1=>?_⟩
 cases p1 with
 | @tup p xs ds q l=>exact ⟨p,rfl,.inr ⟨⟨xs,q⟩,k _ H1 ds μ1 t1 m1 (FR q l) h1⟩⟩
 | @ls p xs ds q l=>exact ⟨p,rfl,.inl ⟨⟨xs,q.sq⟩,k _ H1 ds μ1 t1 m1 (Md q l) h1⟩⟩
 | _=>exact Xi h1
def Up (K:Xa)(t:TA):TI:=λσ H R=>t σ H λvs H1=>∃ (ta tb:Bool) (a b:Addr),vs=[.ref a,.ref b]/\(∃ xs,Sq ta K H1 a xs)/\(∃ ys,Sq tb K H1 b ys)/\R (Itz ta tb K a b) H1
theorem NP {t:TA}(hg:Gl X "zip")(hm:X.mg "zip" = none)(ha:PA X [ea,eb] t)(hs:Xt [ea,eb] X.env=[(false,Yr ea X.env),(false,Yr eb X.env)]:=by rfl)(hs2:Xt [eb] X.env=[(false,Yr eb X.env)]:=by rfl) :
  PI X (.Tuple es ek ep) (.Call (.Name "zip" p) [ea,eb] [] pos) (Up X.K t):=by
 intro pins s σ H R I h
 refine Call_ (iA I hg hm boot_zip (Yo (thn (ha pos pins s σ H _ I h) λus s1 h1=>?_) (by rw[hs,hs2]) (by rw[hs2];rfl)))
 obtain ⟨vs,H1,I1,r1,ta,tb,a,b,e,⟨xs,qa⟩,⟨ys,qb⟩,q⟩:=h1
 subst e
 cases r1 with | cons r rr=>cases rr with | cons r' rr=>
 cases rr
 cases (show _=XQ a from r)
 cases (show _=XQ b from r')
 obtain ⟨ia,ra,sa⟩:=Inv.sq I1 qa
 obtain ⟨ib,rb,sb⟩:=Inv.sq I1 qb
 have alt:a < s1.heap.objs.size:=by cases ta<;>(obtain ⟨o,e,_⟩:=sa;exact Xs e)
 have blt:b < s1.heap.objs.size:=by cases tb<;>(obtain ⟨o,e,_⟩:=sb;exact Xs e)
 refine D0 sa sb λg S kp=>zeA S.zz ⟨s1.heap.objs.size+4,[s1.heap.objs.size+4,s1.heap.objs.size+2,s1.heap.objs.size+3,s1.heap.objs.size,s1.heap.objs.size+1],_,_,H1,rfl,I1.kept (t':=s1.toks) kp,Hg (TK _ _ _ alt blt),S,λc hc=>?_,q⟩
 exact I1.EA (OX _ _ hc) (I1.hok.fresh (OX _ _ hc))
def lg (t:ATr):ATr:=λρ μ Q=>t ρ μ λvs μ1=>k2 vs λx y=>kS x λds=>kS y λes=>Q (X3 (λd e=>.tup [d,e]) ds es) μ1
theorem Au {K:Xa}{H:Hp}{v:V}{x:D}{f:List D->Prop}(p:Dp K H v x)(h:kS x f):∃ (tp:Bool) (a:Addr) (xs:List V) (ds:List D),v=.ref a/\SqX tp K H a xs/\DpL K H xs ds/\kQ tp x f:=by
 cases p with
 | @tup a xs ds q l=>exact ⟨true,a,xs,ds,rfl,q,l,h⟩
 | @ls a xs ds q l=>exact ⟨false,a,xs,ds,rfl,q,l,h⟩
 | _=>exact Xi h
theorem iL {At:ATr}(hg:Gl X "zip")(hm:X.mg "zip" = none)(ha:LA X [ea,eb] At)
  (hs:Xt [ea,eb] X.env=[(false,Yr ea X.env),(false,Yr eb X.env)]:=by rfl) (hs2:Xt [eb] X.env=[(false,Yr eb X.env)]:=by rfl) :
  LI X (.Tuple es ek ep) (.Call (.Name "zip" p) [ea,eb] [] pos) (lg At):=by
 obtain ⟨t,pt,st⟩:=ha.ex
 refine ⟨_,NP hg hm pt hs hs2,λσ H ρ μ Q R rl h k=>st σ H ρ μ _ _ rl h λvs H1 ds μ1 t1 m1 p1 h1=>?_⟩
 unfold L3.k2 at h1
 split at h1
 case h_2=>exact Xi h1
 cases p1 with | cons pa p2=>cases p2 with | cons pb p3=>
 cases p3
 obtain ⟨ta,a,xs,dx,rfl,qa,la,h2⟩:=Au pa h1
 obtain ⟨a',xs',dx',ea',qa',la',h2⟩:=Bl pa h2
 cases ea'
 obtain ⟨tb,b,ys,dy,rfl,qb,lb,h3⟩:=Au pb h2
 obtain ⟨b',ys',dy',eb',qb',lb',h3⟩:=Bl pb h3
 cases eb'
 refine ⟨ta,tb,a,b,rfl,⟨xs',qa'.sq⟩,⟨ys',qb'.sq⟩,k _ H1 _ μ1 t1 m1 ⟨λi H' tk hi=>?_,λi H' v H'' tk hi yv=>?_,λi H' tk hi=>?_⟩ h3⟩
 ·have l1:=la'.length
  have l2:=lb'.length
  rw[Yy] at hi
  exact ⟨xs',ys',xs'[i],ys'[i],tk.sq qa',tk.sq qb',by simp[show i < xs'.length by lia],by simp[show i < ys'.length by lia]⟩
 ·obtain ⟨x,y,q,fx,fy,rfl,fr,rfl⟩:=yv
  obtain ⟨d,ed,pd⟩:=la'.get' (fx _ (tk.sq qa'))
  obtain ⟨e,ee,pe⟩:=lb'.get' (fy _ (tk.sq qb'))
  have tn:Tk H' (L2.upd H' q (.tup [x,y])):=.new fr
  exact ⟨tn,⟨.tup [d,e],by simp[zcC,ed,ee],.tup (SqT.of aK) (.cons ((pd.mono tk).mono tn) (.cons ((pe.mono tk).mono tn) .nil))⟩,λμ' m'=>c6 m' fr⟩
 ·have l1:=la'.length
  have l2:=lb'.length
  rw[Yy] at hi
  exact ⟨xs',ys',tk.sq qa',tk.sq qb',by lia⟩
variable {i o:XJ} {Ti To:ETr}
end
end
section
open PySem.Spec PyProof.Rows L2
def ltS (x y:Str):Bool:=decide (x.cps.toList < y.cps.toList)
section
variable {X:Cx} {e a b:XJ} {x:Str} {p pos:Pos} {At:ATr} {Ta Tb:ETr}
def Ox (f:Str->Str->Bool):DR2:=λx y μ Q=>match x,y with
 | .str i,.str j=>Q (.bl (f i j)) μ
 | _,_=>False
theorem Sl:OpR X (Y8 .Gt) (λx y H Q=>∃ i j,x=.str i/\y=.str j/\Q (.bl (ltS j i)) H):=by
 intro pins s σ H x y v u Q I rx ry h
 obtain ⟨i,j,rfl,rfl,q⟩:=h
 obtain ⟨t,rfl⟩:=rx
 obtain ⟨t',rfl⟩:=ry
 exact PySem.P.gt_str ⟨.bl _,H,I,rfl,q⟩
theorem FU {K:Xa}(f:Str->Str->Bool):gE K (λx y H Q=>∃ i j,x=.str i/\y=.str j/\Q (.bl (f i j)) H) (Ox f):=λH μ x y dx dy Q Q' m px py h k=>by
 cases px with
 | str i=>cases py with
  | str j=>exact ⟨i,j,rfl,rfl,k _ H _ μ (.refl H) m (.bl _) h⟩
  | _=>exact Xi h
 | _=>cases py<;>exact Xi h
def RO:DR2:=Ox λi j=>ltS j i
theorem Rm (ha:LE X a Ta)(hb:LE X b Tb):LT X (.Compare a [.Gt] [b] pos) (TB (ak RO Ta Tb)):=fE Sl (FU _) ha hb (fU _)
end
end
section
open PySem.Spec PyProof.Rows L2
def kK (C:Mu->Prop)(p:Addr)(G:GTr)(tt:TTr)(te:ETr)(ρc:ST)(K:Mu->Prop):List D->Mu->Prop
 | [],μ=>C μ/\K μ
 | d::r,μ=>C μ/\G d ρc μ λρ1 μ1=>tt ρ1 μ1 λb μ2=>kIf b (te ρ1 μ2 λy μ3=>kL μ3 p λzs=>zs.length < 1000000/\kK C p G tt te ρc K r (up μ3 p (.lst (zs++[y])))) (kK C p G tt te ρc K r μ2)
def gS (To:ETr)(G:GTr)(tt:TTr)(te:ETr)(n:Nat)(caps:List Nat):ETr:=λρ μ Q=>To ρ μ λx μ1=>kObj x λa=>kL μ1 a λds=>∀ p,μ1 p=none->
 kK (λμ=>μ a=some (.lst ds)) p G tt te (eL ρ n caps) (λμ'=>kL μ' p λzs=>Q (.ls zs) (dn μ' p)) ds (up μ1 p (.lst []))
theorem uf {K:Xa}{ta:TE}{To:ETr}{G:GTr}{Tt:TTr}{Te:ETr}{n:Nat}{caps:List Nat}(sa:Sim K ta To):Sim K (Fh (kf (OY K ta) (lV K n G) (liftT K Tt) (lC K Te) n caps)) (gS To G Tt Te n caps):=by
 intro σ H ρ μ Q Q' rl h k
 refine sa σ H ρ μ _ _ rl h λx H1 dx μ1 t1 m1 px hx=>?_
 obtain ⟨q,rfl,hx⟩:=eu px hx
 obtain ⟨ds,eq0,h1⟩:=bP hx
 obtain ⟨xs0,exs0,l0⟩:=m1 q _ eq0
 refine ⟨q,rfl,⟨_,SqL.of exs0⟩,λD hD=>?_⟩
 have hp:=h1 D (m1.free hD)
 have tD:Tk H1 (L2.upd H1 D (.lst [])):=.new hD
 have mD:bL K (L2.upd H1 D (.lst [])) (up μ1 D (.lst [])):=λa o e=>by
  by_cases ha:a=D
  ·subst ha
   rw[ay] at e;cases e
   exact ⟨[],aK,.nil⟩
  ·rw[aE ha] at e
   exact c6 m1 hD a o e
 refine ⟨λi m ys H2=>m=ds.length - i/\i<=ds.length/\Tk H1 H2/\∃ μ2,bL K H2 μ2/\kK (λμ=>μ q=some (.lst ds)) D G Tt Te (eL ρ n caps) (λμ'=>kL μ' D λzs=>Q (.ls zs) (dn μ' D)) (ds.drop i) μ2,
  ⟨ds.length,by simp,Yu _,tD,_,mD,by simpa using hp⟩,?_⟩
 rintro i m ys H2 ⟨rfl,hi,t12,μ2,m2,h2⟩
 have hg:μ2 q=some (.lst ds):=by
  cases hdr:ds.drop i with
  | nil=>rw[hdr] at h2;exact h2.1
  | cons=>rw[hdr] at h2;exact h2.1
 obtain ⟨xs2,ex2,l2⟩:=m2 q _ hg
 have ll:=l2.length
 by_cases hlt:i < ds.length
 ·refine .inr ⟨⟨xs2,xs2[i]'(by lia),SqL.of ex2,Xx (by lia)⟩,λys' H'=>Tk H1 H'/\∃ μ',bL K H' μ'/\kK (λμ=>μ q=some (.lst ds)) D G Tt Te (eL ρ n caps) (λμ'=>kL μ' D λzs=>Q (.ls zs) (dn μ' D)) (ds.drop (i+1)) μ',λys' H' ⟨t',μ',m',h'⟩=>⟨ds.length - (i+1),by lia,rfl,hlt,t',μ',m',h'⟩,λx H3 y=>?_⟩
  obtain ⟨rfl,y⟩:=y
  have exi:=y xs2 (SqL.of ex2)
  obtain ⟨d,ed,pd⟩:=l2.get' exi
  have e:ds.drop i=d::ds.drop (i+1):=by
   refine (YX hlt).trans ?_
   congr 1
   rw[Xx hlt] at ed
   exact X5 ed
  rw[e] at h2
  have t13:=t12
  have r3:Rl K (j9 σ n caps) H3 (eL ρ n caps) μ2:=oZ (rl.go (t1.trans t13) m2) n caps
  refine ⟨_,_,d,_,r3,pd,h2.2,λσ4 H4 ρ4 μ4 t4 r4 kp h4=>⟨⟨kp.1.symm,λj v ej=>?_⟩,_,_,_,r4,h4,λb H5 μ5 t5 m5 h5=>?_⟩⟩
  ·by_cases hj:n<=j
   ·rw[kp.2 j hj];exact ej
   ·obtain ⟨j',k',e1,_⟩:=jF ej
    lia
  ·have t15:=t13.trans (t4.trans t5)
   cases b with
   | false=>exact qi ⟨t15,μ5,m5,h5⟩
   | true=>
    refine pF ⟨_,_,_,r4.go t5 m5,h5,λv H6 d6 μ6 t6 m6 p6 h6=>?_⟩
    obtain ⟨zs,ez,lz,h7⟩:=bP h6
    obtain ⟨xs,ex,lx⟩:=m6 D _ ez
    have t67:Tk H6 (L2.upd H6 D (.lst (xs++[v]))):=.upd (λys z=>by rw[ex] at z;cases z) λo' u z=>by rw[ex] at z;cases z
    refine ⟨xs,ex,by rw[lx.length];exact XG lz (by decide),(t15.trans t6).trans t67,up μ6 D (.lst (zs++[d6])),λa o ea=>?_,h7⟩
    by_cases ha:a=D
    ·subst ha
     rw[ay] at ea;cases ea
     exact ⟨_,aK,(lx.append (.cons p6 .nil)).mono t67⟩
    ·rw[aE ha] at ea
     exact (m6 a _ ea).ne t67 ha
 ·have e:i=ds.length:=by lia
  subst e
  rw[ZE] at h2
  obtain ⟨zs,ez,hq⟩:=bP (show kL μ2 D λzs=>Q (.ls zs) (dn μ2 D) from h2.2)
  obtain ⟨xs,ex,lx⟩:=m2 D _ ez
  refine .inl ⟨⟨xs2,SqL.of ex2,by lia⟩,D,xs,rfl,ex,λo=>?_⟩
  have t2f:Tk H2 (L2.upd H2 D (.frz o (.lst xs))):=.upd (λys z=>by rw[ex] at z;cases z) λo' u z=>by rw[ex] at z;cases z
  refine k _ _ _ (dn μ2 D) ((t1.trans t12).trans t2f) (λa o' ea=>?_) (.ls (.inl ⟨o,aK⟩) (lx.mono t2f)) hq
  have ha:a≠D:=λz=>by subst z;unfold dn at ea;rw[if_pos rfl] at ea;cases ea
  have ea':μ2 a=some o':=by unfold dn at ea;rw[if_neg ha] at ea;exact ea
  exact (m2 a _ ea').ne t2f ha
theorem mR {X:Cx}{tg elt iter:XJ}{Te:ETr}{Tt:TTr}{pos spos py:Pos}{y:Str}{To:ETr}{G:GTr}{ifs:List XJ}{scope fsc:Scope}(iy:Nat)(hN:X.N.Nodup)(XN Nc:List Str)(n:Nat)(caps:List Nat)(hxe:X.xe=λ_ _=>False)(hcalm:X.calm=true)(hi:LE X iter To)
  (hbody:∀ (cl:List (Str×Addr)) (C:Addr) (s₀:Xg) (H₀:Hp) (ex:List Addr),LGc (ba X scope Nc cl C s₀ H₀ ex) n tg G/\yn (ba X scope Nc cl C s₀ H₀ ex) ifs Tt/\LE (ba X scope Nc cl C s₀ H₀ ex) elt Te)
  (hsc:X.env.scope=fsc) (hXN:X.N=XN) (hok:gO fsc.names XN scope Nc n caps=true)
  (hiy:X.N[iy]? = some y:=by rfl) (hx:Loc X.env.scope y:=by first | exact zaQ rfl | exact zaR rfl) (hf:X.fn y=true∨X.env.scope.names.lookup y=some .local:=by first | exact .inl rfl | exact .inr rfl | assumption)
  (hsw:Zq (.ListComp elt [⟨tg,iter,ifs,0⟩] scope pos) (some (.Name y py)) spos.line X.env=pure true:=by rfl)
  (hs:∀ x,X6 iter X.env x=pure x:=by intro _;rfl) :
  LS X (.Assign [.Name y py] (.ListComp elt [⟨tg,iter,ifs,0⟩] scope pos) spos) (aO (gS To G Tt Te n caps) (av iy)):=by
 unfold gO at hok
 simp only[XY,zaj] at hok
 obtain ⟨⟨⟨h1,h2⟩,h3⟩,h4⟩:=hok
 obtain ⟨ta,pa,sa⟩:=hi.ex
 refine ⟨_,C2 (g:=lV X.K n G) (tt:=liftT X.K Tt) (te:=lC X.K Te) hxe hcalm (Dz pa) (λcl C s₀ H₀ ex=>let ⟨h1,h2,h3⟩:=hbody cl C s₀ H₀ ex;⟨h1.pe,h2.pe,h3.pe⟩) (λy hy hf=>?_) (λy hy hf=>?_) (by simpa using h2) (λy hy hf=>?_) (by simpa using h3) (λj k hj=>?_) (iU hN hiy hx hf) hsw hs,λσ H ρ μ E E' rl h k=>uf sa σ H ρ μ _ _ rl h λv H' d μ' t' m' p' h'=>hU iy σ H' ρ μ' v d _ _ (rl.go t' m') p' h' (k.go t').nx⟩
 ·have:=(h1 y hy).1.1
  show X.env.scope.names.lookup y.1=_
  rw[hsc]
  simpa[hf] using this
 ·have:=(h1 y hy).1.2
  simp[hf] at this
 ·have:=(h1 y hy).2
  simpa[hf] using this
 ·have hl:j < caps.length:=(XR.mp hj).1
  have:=h4 j (Ys.mpr hl)
  rw[hj] at this
  dsimp only at this
  rw[hXN]
  cases e:XN[k]? with
  | none=>rw[e] at this;cases this
  | some x=>
   rw[e] at this
   dsimp only at this
   rw[XY] at this
   exact ⟨x,by simpa using this.1,rfl,by simpa using this.2⟩
theorem mL {X:Cx}{tg elt iter:XJ}{Te:ETr}{Tt:TTr}{pos:Pos}{To:ETr}{G:GTr}{ifs:List XJ}{scope fsc:Scope}(XN Nc:List Str)(n:Nat)(caps:List Nat)(hxe:X.xe=λ_ _=>False)(hcalm:X.calm=true)(hi:LE X iter To)
  (hbody:∀ (cl:List (Str×Addr)) (C:Addr) (s₀:Xg) (H₀:Hp) (ex:List Addr),LGc (ba X scope Nc cl C s₀ H₀ ex) n tg G/\yn (ba X scope Nc cl C s₀ H₀ ex) ifs Tt/\LE (ba X scope Nc cl C s₀ H₀ ex) elt Te)
  (hsc:X.env.scope=fsc) (hXN:X.N=XN) (hok:gO fsc.names XN scope Nc n caps=true)
  (hs:∀ x,X6 iter X.env x=pure x:=by intro _;rfl) :
  LE X (.ListComp elt [⟨tg,iter,ifs,0⟩] scope pos) (gS To G Tt Te n caps):=by
 unfold gO at hok
 simp only[XY,zaj] at hok
 obtain ⟨⟨⟨h1,h2⟩,h3⟩,h4⟩:=hok
 obtain ⟨ta,pa,sa⟩:=hi.ex
 refine ⟨_,kG (Dj (g:=lV X.K n G) (tt:=liftT X.K Tt) (te:=lC X.K Te) hxe hcalm (Dz pa) (λcl C s₀ H₀ ex=>let ⟨h1,h2,h3⟩:=hbody cl C s₀ H₀ ex;⟨h1.pe,h2.pe,h3.pe⟩) (λy hy hf=>?_) (λy hy hf=>?_) (by simpa using h2) (λy hy hf=>?_) (by simpa using h3) (λj k hj=>?_) hs),uf sa⟩
 ·have:=(h1 y hy).1.1
  show X.env.scope.names.lookup y.1=_
  rw[hsc]
  simpa[hf] using this
 ·have:=(h1 y hy).1.2
  simp[hf] at this
 ·have:=(h1 y hy).2
  simpa[hf] using this
 ·have hl:j < caps.length:=(XR.mp hj).1
  have:=h4 j (Ys.mpr hl)
  rw[hj] at this
  dsimp only at this
  rw[hXN]
  cases e:XN[k]? with
  | none=>rw[e] at this;cases this
  | some x=>
   rw[e] at this
   dsimp only at this
   rw[XY] at this
   exact ⟨x,by simpa using this.1,rfl,by simpa using this.2⟩
end
theorem LN (a b:ETr)(ρ:ST)(μ:Mu)(Q:DK):eG a b ρ μ Q=a ρ μ λx μ1=>b ρ μ1 λy μ2=>kObj x λa=>kD μ2 a λkvs=>we y λk=>kO (aX kvs k) λd=>Q d μ2:=propext Xf
theorem Ru (n:Bool)(a b:ETr)(ρ:ST)(μ:Mu)(Q:DK):LZ n a b ρ μ Q=a ρ μ λy μ1=>b ρ μ1 λx μ2=>kObj x λa=>kD μ2 a λkvs=>we y λk=>Q (.bl (if n then !(aX kvs k).isSome else (aX kvs k).isSome)) μ2:=propext Xf
theorem Lb (a b e:ETr)(nx:ST->Mu->Prop)(rt:DK)(bk ct:ST->Mu->Prop)(ρ:ST)(μ:Mu):nj a b e ⟨nx,rt,bk,ct⟩ ρ μ=e ρ μ λv μ1=>a ρ μ1 λx μ2=>b ρ μ2 λy μ3=>kObj x λa=>kD μ3 a λkvs=>we y λk=>kvs.length < 1000000/\nx ρ (up μ3 a (.dct (putD kvs k v))):=propext Xf
theorem RQ (f:Int->Int->Int)(i:Nat)(e:ETr)(nx:ST->Mu->Prop)(rt:DK)(bk ct:ST->Mu->Prop)(ρ:ST)(μ:Mu):MY f i e ⟨nx,rt,bk,ct⟩ ρ μ=ah i ρ μ λd _=>kI d λm=>e ρ μ λw μ1=>kI w λn=>av i (.int (f m n)) ρ μ1 nx:=propext Xf
theorem K0 (ks:List L2.Key)(t:ATr)(ρ:ST)(μ:Mu)(Q:DK):GL ks t ρ μ Q = ∀ p,μ p=none->t ρ (up μ p (.dct [])) λds μ2=>kD μ2 p λkvs=>kvs=[]/\Q (.obj p) (up μ2 p (.dct (ks.zip ds))):=propext Xf
theorem P1 (a b:ETr)(ρ:ST)(μ:Mu)(Q:DK):Pw a b ρ μ Q=a ρ μ λx μ1=>kObj x λa=>kL μ1 a λ_=>b ρ μ1 λy μ2=>kI y λj=>(-9223372036854775808<=j/\j < 9223372036854775808)/\kL μ2 a λds=>kN (L2.ixN ds.length j) λk=>kO ds[k]? λd=>Q d (up μ2 a (.lst (ds.eraseIdx k))):=propext Xf
theorem Iq (a b:ETr)(ρ:ST)(μ:Mu)(Q:DK):AQ a b ρ μ Q=a ρ μ λx μ1=>Ei μ1 x λ_=>b ρ μ1 λy μ2=>Ei μ2 x λds=>(cH 38 ds=true/\okD 38 y=true)/\kN (FE ds y) λj=>j < 1000000/\Q (.int j) μ2:=propext Xf
theorem PJ (a:ETr)(ρ:ST)(μ:Mu)(Q:List D->Mu->Prop):dG a ρ μ Q=a ρ μ λx μ1=>kS x λds=>Q ds μ1:=propext Xf
theorem Nl (t:ATr)(ρ:ST)(μ:Mu)(Q:List D->Mu->Prop):lg t ρ μ Q=t ρ μ λvs μ1=>k2 vs λx y=>kS x λds=>kS y λes=>Q (X3 (λd e=>.tup [d,e]) ds es) μ1:=propext Xf
theorem RB (n:Bool)(x:D)(ds:List D)(μ:Mu)(Q:DK):K1 n x (.ls ds) μ Q=((cH 38 ds=true/\okD 38 x=true)/\Q (.bl (if n then !inG x ds else inG x ds)) μ):=propext Xf
theorem Q2 (μ:Mu)(ds:List D)(f:List D->Prop):Ei μ (.ls ds) f=f ds:=propext Xf
theorem SO (i:Int)(f:L2.Key->Prop):we (.int i) f=f (.inl i):=propext Xf
theorem P2 (s:Str)(f:L2.Key->Prop):we (.str s) f=f (.inr s):=propext Xf
theorem O4 {μ:Mu}{a:Addr}{ds:List (L2.Key×D)}(h:μ a=some (.dct ds))(f):kD μ a f=f ds:=by unfold kD;rw[h]
theorem UK (μ:Mu)(a:Addr)(ds:List (L2.Key×D))(f:List (L2.Key×D)->Prop):kD (up μ a (.dct ds)) a f=f ds:=O4 ay f
theorem lG {μ:Mu}{a:Addr}{ds:List (L2.Key×D)}{f:List (L2.Key×D)->Prop}(e:μ a=some (.dct ds))(h:f ds):kD μ a f:=by rw[O4 e];exact h
theorem Oi (cs:List String)(x:D)(ts:List D)(μ:Mu)(Q:DK):fb (DD cs) [x,.tup ts] μ Q=((ts=cs.map .ty/\∀ c∈cs,c∈xi)/\(match tyD x with | some t=>Q (.bl (cs.any λc=>eB t c)) μ | none=>False)):=propext Xf
theorem KD (xs:List D)(μ:Mu)(Q:DK):fb yR [.ls xs] μ Q=(∃ kvs:List (L2.Key×D),xs=kvs.map AV/\kvs.length<=1000000/\∀ p,μ p=none->Q (.obj p) (up μ p (.dct (iK [] kvs)))):=propext Xf
theorem Pl (i j:Str)(μ:Mu)(Q:DK):RO (.str i) (.str j) μ Q=Q (.bl (ltS j i)) μ:=propext Xf
theorem IsPart.of_eq {a b c d x y:Int}(h:IsPart a b x y)(hb:0 < b)(hd:0 < d)(e:a*d=c*b):IsPart c d x y:=by
 have xd:x*d=c*y:=by
  refine Zm (a:=b) (by lia) ?_
  calc x*d*b=(x*b)*d:=by ac_rfl
   _=(a*y)*d:=by rw[h.e]
   _=(a*d)*y:=by ac_rfl
   _=(c*b)*y:=by rw[e]
   _=c*y*b:=by ac_rfl
 have y0:=h.q0
 have dx:x ∣ c:=by
  have:x ∣ y*c:=⟨d,by rw[YF y c];exact xd.symm⟩
  have h':=Zf.mpr this
  rw[h.g] at h'
  simpa using h'
 have dy:y ∣ d:=by
  have:y ∣ x*d:=⟨c,by rw[xd,YF]⟩
  have h':=Zf.mpr this
  rw[zcl,h.g] at h'
  simpa using h'
 refine ⟨h.q0,h.g,xd,?_,za6 (by lia) (zcE.mpr dy)⟩
 by_cases hc:c=0
 ·subst hc
  have:x=0:=by
   rcases Int.mul_eq_zero.mp (show x*d=0 by rw[xd,Int.zero_mul]) with z | z
   ·exact z
   ·lia
  rw[this];exact Xq _
 ·exact za6 (by lia) (zcE.mpr dx)
structure Vl (d:D) (a b:Int):Prop where
 ex:∃ p q,d=fr p q/\IsPart a b p q
 b0:0 < b
theorem Vl.of_eq {d:D}{a b a' b':Int}(h:Vl d a b)(hb:0 < b')(e:a*b'=a'*b):Vl d a' b':=by
 obtain ⟨⟨p,q,rfl,P⟩,b0⟩:=h
 exact ⟨⟨p,q,rfl,P.of_eq b0 hb e⟩,hb⟩
theorem Vl.uniq {d d':D}{a b:Int}(h:Vl d a b)(h':Vl d' a b):d=d':=by
 obtain ⟨⟨p,q,rfl,P⟩,b0⟩:=h
 obtain ⟨⟨p',q',rfl,P'⟩,_⟩:=h'
 obtain ⟨rfl,rfl⟩:=P.same P' (by lia) (by lia) rfl
 rfl
theorem Ql (a:Int){b:Int}(b0:0 < b):Vl (.tup [.int (a.fdiv (Ya a b)),.int (b.fdiv (Ya a b))]) a b:=by
 have h:=CT (a:=a) (b:=b) (by lia)
 rw[if_neg (by lia)] at h
 exact ⟨⟨_,_,rfl,h⟩,b0⟩
theorem iI {lo hi p q:Int}(h:FrB lo hi p q):Vl (fr p q) p q:=⟨⟨p,q,rfl,h.q0,h.g,rfl,Xq _,Xq _⟩,h.q0⟩
theorem CJ {a b x y:Int}(h:IsPart a b x y)(b0:0 < b):Vl (fr x y) a b:=⟨⟨x,y,rfl,h⟩,b0⟩
theorem OK {p q a b:Int}(g:Int)(q0:0 < q)(b0:0 < b)(e:p*b=a*q):p*g / q=a*g / b:=by
 calc p*g / q=(p*g)*b / (q*b):=(YG _ _ b0).symm
  _=(a*g)*q / (b*q):=by rw[show p*g*b=(p*b)*g by ac_rfl,e,YF q b,show a*q*g=a*g*q by ac_rfl]
  _=a*g / b:=YG _ _ q0
theorem RD {p q a b:Int}(q0:0 < q)(b0:0 < b)(e:p*b=a*q):p / q=a / b:=by
 have:=OK 1 q0 b0 e
 simpa using this
theorem Vo {p q r s a b c e:Int}(q0:0 < q)(s0:0 < s)(b0:0 < b)(e0:0 < e)(h1:p*b=a*q)(h2:r*e=c*s):(p*s < r*q)↔(a*e < c*b):=by
 have k1:(p*s)*(b*e)=(a*e)*(q*s):=by
  calc (p*s)*(b*e)=(p*b)*(s*e):=by ac_rfl
   _=(a*q)*(s*e):=by rw[h1]
   _=(a*e)*(q*s):=by ac_rfl
 have k2:(r*q)*(b*e)=(c*b)*(q*s):=by
  calc (r*q)*(b*e)=(r*e)*(q*b):=by ac_rfl
   _=(c*s)*(q*b):=by rw[h2]
   _=(c*b)*(q*s):=by ac_rfl
 have be:0 < b*e:=YN b0 e0
 have qs:0 < q*s:=YN q0 s0
 constructor
 ·intro h
  have:=Z5 h be
  rw[k1,k2] at this
  exact zbA this (zd7 qs)
 ·intro h
  have:=Z5 h qs
  rw[← k1,← k2] at this
  exact zbA this (zd7 be)
def Le (a A:Int):Prop:=-A<=a/\a<=A
theorem Le.mono {a A B:Int}(h:Le a A)(hb:A<=B):Le a B:=⟨by have:=h.1;lia,by have:=h.2;lia⟩
theorem Le.of {a A:Int}(h0:0<=a)(h1:a<=A):Le a A:=⟨by lia,h1⟩
theorem Le.add {a b A B:Int}(h:Le a A)(k:Le b B):Le (a+b) (A+B):=⟨by have:=h.1;have:=k.1;lia,by have:=h.2;have:=k.2;lia⟩
theorem Le.sub {a b A B:Int}(h:Le a A)(k:Le b B):Le (a - b) (A+B):=⟨by have:=h.1;have:=k.2;lia,by have:=h.2;have:=k.1;lia⟩
theorem Le.neg {a A:Int}(h:Le a A):Le (-a) A:=⟨by have:=h.2;lia,by have:=h.1;lia⟩
theorem Le.abs {a A:Int}(h:Le a A):(a.natAbs:Int)<=A:=by have:=h.1;have:=h.2;lia
theorem Le.Jd {a A:Int}(h:(a.natAbs:Int)<=A):Le a A:=⟨by lia,by lia⟩
theorem Le.mul {a b A B:Int}(h:Le a A)(k:Le b B):Le (a*b) (A*B):=by
 refine .Jd ?_
 rw[zfe,zeW]
 have a0:(0:Int)<=(a.natAbs:Int):=zaD _
 have b0:(0:Int)<=(b.natAbs:Int):=zaD _
 exact Int.mul_le_mul h.abs k.abs b0 (Int.le_trans a0 h.abs)
abbrev Bd (a:Int):Prop:=Le a 1000000000000000000000000000000
theorem Bd.m {a:Int}(h:Bd a):j7 a:=by have:=h.1;have:=h.2;unfold j7;lia
theorem Bd.mm {a b:Int}(h:Bd a)(k:Bd b):j7 (a*b):=by
 have:=(h.mul k).1;have:=(h.mul k).2
 unfold j7;lia
theorem Bd.mul {a b:Int}(h:Bd a)(k:Bd b):MulOk a b:=.inr ⟨h.m,k.m⟩
theorem IsPart.bp {a b x y:Int}(h:IsPart a b x y)(ha:Bd a):Bd x:=.Jd (by have:=h.pa;have:=ha.abs;lia)
theorem IsPart.bq {a b x y:Int}(h:IsPart a b x y)(hb:Bd b):Bd y:=.Jd (by have:=h.qb;have:=hb.abs;lia)
inductive Wd | still | step | swell | heed | calm
 deriving DecidableEq
structure RN where
 wd:Wd
 p:Int
 q:Int
 x:Int
 y:Int
 a:Int
 b:Int
 l:Int
 h:Int
 r:Int
 s:Int
def Wd.str:Wd->Str
 | .still=>OF "still"
 | .step=>OF "step"
 | .swell=>OF "swell"
 | .heed=>OF "heed"
 | .calm=>OF "calm"
def RN.toD (R:RN):D:=match R.wd with
 | .still=>.tup [.str "still", fr R.p R.q]
 | .step=>.tup [.str "step", fr R.p R.q,fr R.x R.y,fr R.a R.b,fr R.r R.s]
 | .swell=>.tup [.str "swell", fr R.p R.q,fr R.x R.y,fr R.a R.b,fr R.r R.s]
 | .heed=>.tup [.str "heed", fr R.p R.q,fr R.x R.y,fr R.a R.b,fr R.r R.s]
 | .calm=>.tup [.str "calm", fr R.p R.q,fr R.x R.y,.int R.l,.int R.h,fr R.r R.s]
structure RN.Ok (R:RN):Prop where
 w:FrB 1 60 R.p R.q
 t:FrB 1 60 R.r R.s
 wt:R.p*R.s<=R.r*R.q
 u:FrA 0 60 R.x R.y
 u1:R.wd=.swell->R.y < R.x
 g:FrA 0 1 R.a R.b
 d1:R.wd=.step∨R.wd=.swell->R.a < R.b
 l0:0<=R.l
 lh:R.l<=R.h
 h1:R.h<=60
 st:R.wd=.still->R.r=R.p/\R.s=R.q
theorem ND {lo hi:Int}(h0:lo < 1)(h1:1<=hi):FrA lo hi 1 1:=⟨⟨by decide,by decide,by decide,by lia,by lia⟩,by lia⟩
structure Hd where
 good:Int
 mark:Int
 bB:Int
 wt:Int
structure Hd.Ok (h:Hd):Prop where
 g0:0<=h.good
 g1:h.good<=1000000
 m0:0<=h.mark
 m1:h.mark<=1000000
 l0:0<=h.bB
 l1:h.bB<=1000000
 w0:0<=h.wt
def Hd.toD (h:Hd):D:=.tup [.int h.good,.int h.mark,.int h.bB,.int h.wt]
def Hd.bad (h:Hd):Int:=h.mark+h.bB
def Hd.many (h:Hd):Int:=h.good+h.bad
def RN.idle (R:RN)(h:Hd):Prop:=R.wd=.still∨h.good+h.mark+h.bB=0
instance (R:RN) (h:Hd):Decidable (R.idle h):=by unfold RN.idle;infer_instance
def RN.cap (R:RN)(g:Int):Int:=R.r*g / R.s
def RN.shr (R:RN)(g S:Int)(h:Hd):Int:=if R.wd=.heed then (S*R.b*h.many+R.a*(h.bad*g - S*h.many)) / (R.b*h.many) else S
def RN.fac (R:RN)(g S:Int)(h:Hd):Option (Int×Int):=match R.wd with
 | .still=>none
 | .calm=>if 0 < h.bB then some (1,2) else none
 | .heed=>if h.bad=0 then none else some (2*g - S,2*g)
 | .swell=>if h.bad=0 then some (R.x,R.y) else some (R.a,R.b)
 | .step=>if h.bad=0 then none else some (R.a,R.b)
def RN.mvd (R:RN)(g W:Int)(h:Hd):Int:=if R.wd=.calm then (if h.wt < R.l then W*R.y+g*R.x else if R.h < h.wt then W*R.y - g*R.x else W*R.y) else W*R.y+g*R.x
def RN.mv (R:RN)(g W S:Int)(h:Hd):Int:=match R.fac g S h with
 | some f=>W*f.1 / f.2
 | none=>R.mvd g W h / R.y
def RN.clip (R:RN)(g z:Int):Int:=min (max z g) (R.cap g)
def RN.beh (R:RN)(g W S:Int)(h:Hd):Int×Int:=if R.idle h then (W,S) else (R.clip g (R.mv g W (R.shr g S h) h),R.shr g S h)
theorem HN {R:RN}(k:R.Ok){g:Int}(g0:0 < g):g<=R.cap g:=by
 unfold RN.cap
 rw[YU k.t.q0]
 have:=XD k.t.ge (show 0<=g by lia)
 have e:g*R.s=1*R.s*g:=by rw[zcV,YF]
 lia
theorem G4 {R:RN}(k:R.Ok){g:Int}(g0:0 < g):R.cap g<=60*g:=by
 unfold RN.cap
 refine ZZ k.t.q0 ?_
 have:=XD k.t.le (show 0<=g by lia)
 have e:60*g*R.s=60*R.s*g:=by ac_rfl
 lia
theorem F9 {R:RN}(k:R.Ok){g S:Int}{h:Hd}(H:h.Ok)(hn:¬ R.idle h)(g0:0 < g)(S0:0<=S)(S1:S<=g):0<=R.shr g S h/\R.shr g S h<=g:=by
 unfold RN.shr
 split
 ·rename_i hw
  have m0:0 < h.many:=by
   unfold RN.idle at hn
   unfold Hd.many Hd.bad
   have:=H.g0;have:=H.m0;have:=H.l0
   have:¬ (h.good+h.mark+h.bB=0):=λz=>hn (.inr z)
   lia
  have bb:h.bad<=h.many:=by unfold Hd.many;have:=H.g0;lia
  have b0:0<=h.bad:=by unfold Hd.bad;have:=H.m0;have:=H.l0;lia
  have q0:=k.g.q0
  have a0:0 < R.a:=by have:=k.g.ab;lia
  have ab:R.a<=R.b:=by have:=k.g.le;lia
  have Y:0 < R.b*h.many:=YN q0 m0
  have e:S*R.b*h.many+R.a*(h.bad*g - S*h.many)=(R.b - R.a)*(S*h.many)+R.a*(h.bad*g):=by
   rw[Int.mul_sub,zcW,show S*R.b*h.many=R.b*(S*h.many) by ac_rfl];lia
  have z1:0<=(R.b - R.a)*(S*h.many):=zaT (by lia) (zaT S0 (by lia))
  have z2:0<=R.a*(h.bad*g):=zaT (by lia) (zaT b0 (by lia))
  have z3:(R.b - R.a)*(S*h.many)<=(R.b - R.a)*(g*h.many):=zbc (XD S1 (by lia)) (by lia)
  have z4:R.a*(h.bad*g)<=R.a*(h.many*g):=zbc (XD bb (by lia)) (by lia)
  have e2:(R.b - R.a)*(g*h.many)+R.a*(h.many*g)=g*(R.b*h.many):=by
   rw[zcW,show R.b*(g*h.many)=g*(R.b*h.many) by ac_rfl,show R.a*(h.many*g)=R.a*(g*h.many) by ac_rfl];lia
  rw[e]
  exact ⟨Int.ediv_nonneg (by lia) (by lia),ZZ Y (by lia)⟩
 ·exact ⟨S0,S1⟩
local macro_rules | `(tactic| walk_at "rd")=>zzS "L3.ah L3.TC L3.ak L3.TUn L3.kr L3.GK L3.Ks L3.TB L3.wN L3.TOr L3.ES L3.kM L3.Ao L3.au L3.af L3.bC L3.gK L3.jo L3.aw L3.bM L3.aC L3.AI L3.Iy L3.dZ L3.aZ L3.Ik L3.dq L3.av L3.aO L3.E8 L3.Az L3.jC L3.iQ L3.dG L3.bQ L3.fj L3.eL L3.dW L3.TZ L3.ILs L3.HJ L3.Il L3.HD L3.Io L3.IG L3.Bh L3.oT L3.BE L3.HM L3.AX L3.wc L3.DF L3.qC L3.vB L3.vk L3.vo L3.wx L3.jn L3.iH L3.tM L3.rX L3.p9 L3.ro L3.rZ L3.rg L3.qg L3.pT L3.pE L3.qX L3.TSl L3.ONo L3.ij L3.IU L3.IJ L3.FJ L3.J6 L3.Im L3.JA L3.BL L3.AZ L3.JD L3.JN L3.Jt L3.sx L3.pP L3.pJ L3.Aq L3.AL L3.BB L3.Cf L3.BZ L3.AB L3.Ad L3.Ci L3.A8 L3.Jr L3.Kq L3.Iz L3.JC L3.Ig L3.Hj L3.rh L3.yb L3.Kg L3.Bw L3.Ap L3.AW L3.AO L3.Bk L3.AU L3.Bj L3.Af L3.BD L3.Ck L3.lk L3.ini zd4 Y6 YQ zeN zfH zb0 YE zck zdn zdo L3.zJ L3.zH L3.CK L3.Cz L3.CB L3.DN zaH zaI L3.ay L3.iw zd5 zb1 if_true if_false true_and and_true za5 zcQ zcR zb2 za8 zcs decide_eq_true_eq Zk ite_false ite_true ne_eq not_false_eq_true zct zdp zdq zdr zds zdt zd6 L3.okD L3.cH L3.eqD L3.kb zdu zbR zdv L3.fg L3.kR decide_true decide_false Bool.or_true zfk zfu zdl zcT ze2 and_self L3.cp L3.bT L3.cq L3.cx L3.cu L3.cw L3.cU L3.cL L3.bR L3.ck L3.cy L3.cA L3.cC L3.cR L3.cj L3.cT L3.cz L3.cW L3.cv L3.cP L3.iJ L3.uP L3.xB L3.uQ L3.xh L3.yU L3.fk L3.fu L3.fD L3.fN L3.ft L3.fm L3.fB"
def jV:FSp:=λds μ Q=>kcA ds λd1 ds=>kcA ds λd2 ds=>kcN ds (∃ a b c e,((Vl d1 a b/\Vl d2 c e)/\Bd a/\Bd b/\Bd c/\Bd e)/\∀ z,Vl z (a*e+c*b) (b*e)->Q z μ)
theorem IM:zz_l jV 2:=by walk_at "&AA"
def Gb:STr:=by walk_at "~6"
theorem Mj:zz_q jV Gb 2:=by
 walk_at "^ Ad1 Ad2"
 unfold Gb
 walk_at "rd"
 obtain ⟨a,b,c,e,⟨⟨V1,V2⟩,Ba,Bb,Bc,Be⟩,k⟩:=h
 obtain ⟨⟨p,q,rfl,P⟩,b0⟩:=V1
 obtain ⟨⟨r,s,rfl,S⟩,e0⟩:=V2
 have q0:=P.q0
 have s0:=S.q0
 have be:0 < b*e:=YN b0 e0
 have qs:0 < q*s:=YN q0 s0
 have Bp:=P.bp Ba
 have Bq:=P.bq Bb
 have Br:=S.bp Bc
 have Bs:=S.bq Be
 walk_at "rd"
 refine ⟨Bp.mul Bs,Br.mul Bq,Bq.mul Bs,⟨by lia,Bq.mm Bs⟩,λx y Pt=>⟨_,.refl _,k _ ⟨⟨x,y,rfl,Pt.of_eq qs be ?_⟩,be⟩⟩⟩
 calc (p*s+r*q)*(b*e)=(p*b)*(s*e)+(r*e)*(q*b):=by rw[zcX];congr 1<;>ac_rfl
  _=(a*q)*(s*e)+(c*s)*(q*b):=by rw[P.e,S.e]
  _=(a*e+c*b)*(q*s):=by rw[zcX];congr 1<;>ac_rfl
def hE:FSp:=λds μ Q=>kcA ds λd1 ds=>kcA ds λd2 ds=>kcN ds (∃ a b c e,((Vl d1 a b/\Vl d2 c e)/\Bd a/\Bd b/\Bd c/\Bd e)/\∀ z,Vl z (a*e - c*b) (b*e)->Q z μ)
theorem FG:zz_l hE 2:=by walk_at "&AA"
def Di:STr:=by walk_at "~7"
theorem GH:zz_q hE Di 2:=by
 walk_at "^ Ad1 Ad2"
 unfold Di
 walk_at "rd"
 obtain ⟨a,b,c,e,⟨⟨V1,V2⟩,Ba,Bb,Bc,Be⟩,k⟩:=h
 obtain ⟨⟨p,q,rfl,P⟩,b0⟩:=V1
 obtain ⟨⟨r,s,rfl,S⟩,e0⟩:=V2
 have q0:=P.q0
 have s0:=S.q0
 have be:0 < b*e:=YN b0 e0
 have qs:0 < q*s:=YN q0 s0
 have Bp:=P.bp Ba
 have Bq:=P.bq Bb
 have Br:=S.bp Bc
 have Bs:=S.bq Be
 walk_at "rd"
 refine ⟨Bp.mul Bs,Br.mul Bq,Bq.mul Bs,⟨by lia,Bq.mm Bs⟩,λx y Pt=>⟨_,.refl _,k _ ⟨⟨x,y,rfl,Pt.of_eq qs be ?_⟩,be⟩⟩⟩
 calc (p*s - r*q)*(b*e)=(p*b)*(s*e) - (r*e)*(q*b):=by rw[zcW];congr 1<;>ac_rfl
  _=(a*q)*(s*e) - (c*s)*(q*b):=by rw[P.e,S.e]
  _=(a*e - c*b)*(q*s):=by rw[zcW];congr 1<;>ac_rfl
def ir:FSp:=λds μ Q=>kcA ds λd1 ds=>kcA ds λd2 ds=>kcN ds (∃ a b c e,((Vl d1 a b/\Vl d2 c e)/\Bd a/\Bd b/\Bd c/\Bd e)/\∀ z,Vl z (a*c) (b*e)->Q z μ)
theorem ED:zz_l ir 2:=by walk_at "&AA"
def CF:STr:=by walk_at "~8"
theorem J4:zz_q ir CF 2:=by
 walk_at "^ Ad1 Ad2"
 unfold CF
 walk_at "rd"
 obtain ⟨a,b,c,e,⟨⟨V1,V2⟩,Ba,Bb,Bc,Be⟩,k⟩:=h
 obtain ⟨⟨p,q,rfl,P⟩,b0⟩:=V1
 obtain ⟨⟨r,s,rfl,S⟩,e0⟩:=V2
 have q0:=P.q0
 have s0:=S.q0
 have be:0 < b*e:=YN b0 e0
 have qs:0 < q*s:=YN q0 s0
 have Bp:=P.bp Ba
 have Bq:=P.bq Bb
 have Br:=S.bp Bc
 have Bs:=S.bq Be
 walk_at "rd"
 refine ⟨Bp.mul Br,Bq.mul Bs,⟨by lia,Bq.mm Bs⟩,λx y Pt=>⟨_,.refl _,k _ ⟨⟨x,y,rfl,Pt.of_eq qs be ?_⟩,be⟩⟩⟩
 calc (p*r)*(b*e)=(p*b)*(r*e):=by ac_rfl
  _=(a*q)*(c*s):=by rw[P.e,S.e]
  _=(a*c)*(q*s):=by ac_rfl
def lH:FSp:=λds μ Q=>kcA ds λd1 ds=>kcA ds λd2 ds=>kcN ds (∃ a b c e,((Vl d1 a b/\Vl d2 c e)/\Bd a/\Bd b/\Bd c/\Bd e)/\Q (.bl (decide (a*e < c*b))) μ)
theorem J9:zz_l lH 2:=by walk_at "&AA"
def I0:STr:=by walk_at "~9"
theorem MR:zz_q lH I0 2:=by
 walk_at "^ Ad1 Ad2"
 unfold I0
 walk_at "rd"
 obtain ⟨a,b,c,e,⟨⟨V1,V2⟩,Ba,Bb,Bc,Be⟩,k⟩:=h
 obtain ⟨⟨p,q,rfl,P⟩,b0⟩:=V1
 obtain ⟨⟨r,s,rfl,S⟩,e0⟩:=V2
 walk_at "rd"
 refine ⟨(P.bp Ba).mul (S.bq Be),(S.bp Bc).mul (P.bq Bb),_,.refl _,?_⟩
 rw[show decide (p*s < r*q)=decide (a*e < c*b) from decide_eq_decide.mpr (Vo P.q0 S.q0 b0 e0 P.e S.e)]
 exact k
def gi:FSp:=λds μ Q=>kcA ds λd1 ds=>kcN ds (∃ a b,(Vl d1 a b/\Bd b)/\Q (.int (a / b)) μ)
theorem vx:zz_l gi 1:=by walk_at "&A"
def qh:STr:=by walk_at "~10"
theorem y4:zz_q gi qh 1:=by
 walk_at "^ Ad1"
 unfold qh
 walk_at "rd"
 obtain ⟨a,b,⟨⟨⟨p,q,rfl,P⟩,b0⟩,Bb⟩,k⟩:=h
 have q0:=P.q0
 walk_at "rd"
 rw[ip q0,RD q0 b0 P.e]
 exact ⟨⟨by lia,(P.bq Bb).m⟩,_,.refl _,k⟩
def eM:FSp:=λds μ Q=>kcA ds λd1 ds=>kcI ds λg ds=>kcN ds (∃ a b,(Vl d1 a b/\Bd a/\Bd b/\0 < g/\g<=1000000)/\∀ z,Vl z (a*g / b) g->Q z μ)
theorem Ae:zz_l eM 2:=by walk_at "&AI"
def yX:STr:=by walk_at "~11"
theorem Fv:zz_q eM yX 2:=by
 walk_at "^ Ad1 Ig"
 unfold yX
 walk_at "rd"
 obtain ⟨a,b,⟨⟨⟨p,q,rfl,P⟩,b0⟩,Ba,Bb,g0,g1⟩,k⟩:=h
 have q0:=P.q0
 walk_at "rd"
 rw[ip q0,OK g q0 b0 P.e]
 exact ⟨.inl (.inr (by unfold S64;lia)),⟨by lia,(P.bq Bb).m⟩,⟨by lia,by unfold j7;lia⟩,λx y Pt=>⟨_,.refl _,k _ (CJ Pt g0)⟩⟩
theorem Jw {xs:List D}{d:D}(h:xs[xs.length - 1]? = some d)(h0:xs≠[]):atD xs ((xs.length:Int) - 1)=some d:=by
 have:0 < xs.length:=zdd.mpr h0
 have e:((xs.length:Int) - 1)=((xs.length - 1:Nat):Int):=by lia
 rw[e,bU,h]
theorem Hl {xs:List D}{d:D}(h:xs[xs.length - 1]? = some d)(h0:xs≠[]):atD xs (-1)=some d:=by
 have:0 < xs.length:=zdd.mpr h0
 unfold atD L2.atI L2.ixN
 rw[if_neg (by decide),if_pos (by lia)]
 have e:(-1+(xs.length:Int)).toNat=xs.length - 1:=by lia
 show xs[(-1+(xs.length:Int)).toNat]? = some d
 rw[e];exact h
theorem RN.tup (R:RN)(hst:R.wd=.still->R.r=R.p/\R.s=R.q):∃ xs,R.toD=.tup xs/\xs[0]? = some (.str R.wd.str)/\xs[1]? = some (fr R.p R.q)/\xs[xs.length - 1]? = some (fr R.r R.s)/\xs≠[]:=by
 obtain ⟨wd,p,q,x,y,a,b,l,h,r,s⟩:=R
 cases wd
 ·obtain ⟨e1,e2⟩:=hst rfl
  dsimp only at e1 e2
  subst e1 e2
  exact ⟨_,rfl,rfl,rfl,rfl,nofun⟩
 all_goals exact ⟨_,rfl,rfl,rfl,rfl,nofun⟩
def g9:FSp:=λds μ Q=>kcA ds λd ds=>kcN ds (∃ R:RN,(R.Ok/\d=R.toD)/\Q (fr R.r R.s) μ)
theorem BO:zz_l g9 1:=by walk_at "&A"
def zu:STr:=by walk_at "~12"
theorem Fq:zz_q g9 zu 1:=by
 walk_at "^ Ad"
 unfold zu
 walk_at "rd"
 obtain ⟨R,⟨K,rfl⟩,k⟩:=h
 obtain ⟨xs,e,_,_,e3,e4⟩:=R.tup K.st
 rw[e]
 walk_at "rd"
 rw[Jw e3 e4]
 exact ⟨_,.refl _,k⟩
def iG:FSp:=λds μ Q=>kcA ds λd ds=>kcA ds λe ds=>kcN ds (∃ (R:RN) (h:Hd),(d=R.toD/\e=h.toD)/\Q (.bl (decide (R.idle h))) μ)
theorem xJ:zz_l iG 2:=by walk_at "&AA"
def uu:STr:=by walk_at "~13"
theorem A1:zz_q iG uu 2:=by
 walk_at "^ Ad Ae"
 unfold uu
 walk_at "rd"
 obtain ⟨R,h,⟨rfl,rfl⟩,k⟩:=h
 obtain ⟨wd,p,q,x,y,a,b,l,hh,r,s⟩:=R
 obtain ⟨good,mark,bB,wt⟩:=h
 unfold RN.idle at k
 cases wd
 all_goals
  simp only[RN.toD,Hd.toD,fr]
  walk_at "rd"
  refine ⟨_,.refl _,?_⟩
  simpa using k
def Gd (g:Int):Prop:=1<=g/\g<=60
theorem Hn {R:RN}{h:Hd}(H:h.Ok)(hn:¬ R.idle h):0 < h.many/\h.many<=3000000:=by
 have:=H.g0;have:=H.m0;have:=H.l0;have:=H.g1;have:=H.m1;have:=H.l1
 have:¬ (h.good+h.mark+h.bB=0):=λz=>hn (.inr z)
 unfold Hd.many Hd.bad
 lia
theorem FrB.bd {lo hi p q:Int}(h:FrB lo hi p q)(l0:0<=lo)(h1:hi<=60):Le p 600000120/\Le q 10000002:=by
 have:=h.q0;have:=h.q1
 have e1:=h.ge;have e2:=h.le
 have a1:0<=lo*q:=zaT l0 (by lia)
 have a2:hi*q<=60*q:=XD h1 (by lia)
 exact ⟨.of (by lia) (by lia),.of (by lia) (by lia)⟩
theorem Bz {R:RN}{g S:Int}{h:Hd}(hw:R.wd=.heed)(g0:0 < g)(Y:0 < R.b*h.many):(S*(R.b*(h.many*g))+R.a*(h.bad*g - S*h.many)*g)*g / (g*(R.b*(h.many*g)))=R.shr g S h:=by
 unfold RN.shr
 rw[if_pos hw]
 have e1:(S*(R.b*(h.many*g))+R.a*(h.bad*g - S*h.many)*g)*g=(S*R.b*h.many+R.a*(h.bad*g - S*h.many))*(g*g):=by
  rw[zcX,zcX];congr 1<;>ac_rfl
 have e2:g*(R.b*(h.many*g))=(R.b*h.many)*(g*g):=by ac_rfl
 rw[e1,e2]
 exact YG _ _ (YN g0 g0)
def dQ:FSp:=λds μ Q=>kcA ds λd ds=>kcI ds λg ds=>kcA ds λsd ds=>kcA ds λe ds=>kcN ds (∃ (R:RN) (S:Int) (h:Hd),((d=R.toD/\e=h.toD)/\R.Ok/\h.Ok/\Gd g/\Vl sd S g/\(0<=S/\S<=g)/\¬ R.idle h)/\∀ z,Vl z (R.shr g S h) g->Q z μ)
theorem mF:zz_l dQ 4:=by walk_at "&AIAA"
def i9:STr:=by walk_at "~14"
theorem oo:zz_q dQ i9 6:=by
 walk_at "^ Ad Ig Asd Ae"
 unfold i9
 walk_at "rd"
 obtain ⟨R,S,h,⟨⟨rfl,rfl⟩,K,H,⟨g0,g1⟩,VS,⟨S0,S1⟩,hn⟩,k⟩:=h
 obtain ⟨m0,m1⟩:=Hn H hn
 have hb0:=H.m0;have hb1:=H.m1;have hc0:=H.l0;have hc1:=H.l1;have hg0:=H.g0;have hg1:=H.g1
 have GB:=K.g.toFrB.bd (by decide) (by decide)
 have gp:=K.g.q0
 obtain ⟨wd,p,q,x,y,a,b,l,hh,r,s⟩:=R
 cases wd
 case heed=>
  have sh:=λY=>Bz (R:=⟨.heed,p,q,x,y,a,b,l,hh,r,s⟩) (g:=g) (S:=S) (h:=h) rfl (by lia) Y
  have k':=k
  generalize RN.shr ⟨.heed,p,q,x,y,a,b,l,hh,r,s⟩ g S h=Z at sh k'
  dsimp only at sh GB gp
  obtain ⟨good,mark,bB,wt⟩:=h
  simp only[Hd.many,Hd.bad] at sh m0 m1
  dsimp only at m0 m1 hb0 hb1 hc0 hc1 hg0 hg1
  simp only[RN.toD,Hd.toD,fr]
  walk_at "rd"
  have L1:Le (mark+bB) 2000000:=.of (by lia) (by lia)
  have L2:Le (good+(mark+bB)) 3000000:=.of (by lia) (by lia)
  have LS:Le S 60:=.of S0 (by lia)
  have Lg:Le g 60:=.of (by lia) g1
  have e1:=L1.mul Lg
  have e2:=LS.mul L2
  have e3:=L2.mul Lg
  have e4:=e1.sub e2
  have e5:=GB.1.mul e4
  have e6:=GB.2.mul e3
  have mg:0 < (good+(mark+bB))*g:=YN m0 (by lia)
  refine ⟨⟨by lia,Bd.m (L2.mono (by decide))⟩,λu v Pt=>⟨_,_,_,_,⟨⟨CJ Pt m0,VS⟩,L1.mono (by decide),L2.mono (by decide),LS.mono (by decide),Lg.mono (by decide)⟩,λz1 V1=>?_⟩⟩
  refine ⟨a,b,_,_,⟨⟨iI K.g.toFrB,V1⟩,GB.1.mono (by decide),GB.2.mono (by decide),e4.mono (by decide),e3.mono (by decide)⟩,λz2 V2=>?_⟩
  walk_at "rd"
  refine ⟨_,_,_,_,⟨⟨VS,V2⟩,LS.mono (by decide),Lg.mono (by decide),e5.mono (by decide),e6.mono (by decide)⟩,λz3 V3=>?_⟩
  refine ⟨_,_,⟨V3,((LS.mul e6).add (e5.mul Lg)).mono (by decide),(Lg.mul e6).mono (by decide),by lia,by lia⟩,λz V=>⟨_,.refl _,k' z ?_⟩⟩
  rw[sh (YN gp m0)] at V
  exact V
 all_goals
  simp only[RN.toD,Hd.toD,fr]
  walk_at "rd"
  refine ⟨_,.refl _,k _ ?_⟩
  exact VS
def fv:FSp:=λds μ Q=>kcA ds λd ds=>kcA ds λsd ds=>kcA ds λe ds=>kcN ds (∃ (R:RN) (g S:Int) (h:Hd),((d=R.toD/\e=h.toD)/\R.Ok/\h.Ok/\Gd g/\Vl sd S g/\(0<=S/\S<=g)/\¬ R.idle h)/\(R.fac g S h=none->Q .non μ)/\∀ f,R.fac g S h=some f->∀ z,Vl z f.1 f.2->Q z μ)
theorem tw:zz_l fv 3:=by walk_at "&AAA"
def nR:STr:=by walk_at "~15"
theorem wM:zz_q fv nR 3:=by
 walk_at "^ Ad Asd Ae"
 unfold nR
 walk_at "rd"
 obtain ⟨R,g,S,h,⟨⟨rfl,rfl⟩,K,H,⟨g0,g1⟩,VS,⟨S0,S1⟩,hn⟩,k1,k2⟩:=h
 have hb0:=H.m0;have hb1:=H.m1;have hc0:=H.l0;have hc1:=H.l1;have hg0:=H.g0;have hg1:=H.g1
 have VG:=iI K.g.toFrB
 have VU:=iI K.u.toFrB
 have LS:Le S 60:=.of S0 (by lia)
 have Lg:Le g 60:=.of (by lia) g1
 have V12:Vl (fr 1 2) 1 2:=iI (lo:=0) (hi:=1) ⟨by decide,by decide,by decide,by decide,by decide⟩
 have V11:Vl (fr 1 1) 1 1:=iI (ND (lo:=0) (hi:=1) (by decide) (by decide)).toFrB
 obtain ⟨wd,p,q,x,y,a,b,l,hh,r,s⟩:=R
 obtain ⟨good,mark,bB,wt⟩:=h
 dsimp only at hb0 hb1 hc0 hc1 hg0 hg1 VG VU
 simp only[RN.fac,Hd.bad] at k1 k2
 cases wd
 case still=>exact absurd (zaQ rfl) hn
 case calm=>
  simp only[RN.toD,Hd.toD,fr]
  walk_at "rd"
  split
  ·rename_i hl
   exact ⟨_,.refl _,k2 (1,2) (if_pos hl) _ V12⟩
  ·rename_i hl
   exact ⟨_,.refl _,k1 (if_neg hl)⟩
 case heed=>
  simp only[RN.toD,Hd.toD,fr]
  walk_at "rd"
  split
  ·rename_i hl
   exact ⟨_,.refl _,k1 (if_pos hl)⟩
  ·rename_i hl
   refine ⟨1,2,S,g,⟨⟨V12,VS⟩,.of (by decide) (by decide),.of (by decide) (by decide),LS.mono (by decide),Lg.mono (by decide)⟩,λz1 V1=>?_⟩
   refine ⟨1,1,_,_,⟨⟨V11,V1⟩,.of (by decide) (by decide),.of (by decide) (by decide),?_,?_⟩,λz2 V2=>⟨_,.refl _,k2 (2*g - S,2*g) (if_neg hl) _ ?_⟩⟩
   ·rw[zcV];exact LS.mono (by decide)
   ·exact .of (by lia) (by lia)
   ·simpa using V2
 case step=>
  simp only[RN.toD,Hd.toD,fr]
  walk_at "rd"
  split
  ·rename_i hl
   exact ⟨_,.refl _,k1 (if_pos hl)⟩
  ·rename_i hl
   exact ⟨_,.refl _,k2 (a,b) (if_neg hl) _ VG⟩
 case swell=>
  simp only[RN.toD,Hd.toD,fr]
  walk_at "rd"
  split
  ·rename_i hl
   exact ⟨_,.refl _,k2 (x,y) (if_pos hl) _ VU⟩
  ·rename_i hl
   exact ⟨_,.refl _,k2 (a,b) (if_neg hl) _ VG⟩
def lS:FSp:=λds μ Q=>kcA ds λd ds=>kcA ds λwd ds=>kcA ds λe ds=>kcN ds (∃ (R:RN) (g W:Int) (h:Hd),((d=R.toD/\e=h.toD)/\R.Ok/\Gd g/\Vl wd W g/\Le W 1000000/\¬ R.idle h)/\∀ z,Vl z (R.mvd g W h) (g*R.y)->Q z μ)
theorem Er:zz_l lS 3:=by walk_at "&AAA"
def Cs:STr:=by walk_at "~16"
theorem Iw:zz_q lS Cs 3:=by
 walk_at "^ Ad Awd Ae"
 unfold Cs
 walk_at "rd"
 obtain ⟨R,g,W,h,⟨⟨rfl,rfl⟩,K,⟨g0,g1⟩,VW,LW,hn⟩,k⟩:=h
 have VU:=iI K.u.toFrB
 have UB:=K.u.toFrB.bd (by decide) (by decide)
 have y0:=K.u.q0
 have Lg:Le g 60:=.of (by lia) g1
 obtain ⟨wd',p,q,x,y,a,b,l,hh,r,s⟩:=R
 obtain ⟨good,mark,bB,wt⟩:=h
 dsimp only at VU UB y0
 simp only[RN.mvd] at k
 have up:∀ Q':DK,(∀ z,Vl z (W*y+g*x) (g*y)->Q' z μ)->jV [wd,fr x y] μ Q':=λQ' kk=>
  ⟨W,g,x,y,⟨⟨VW,VU⟩,LW.mono (by decide),Lg.mono (by decide),UB.1.mono (by decide),UB.2.mono (by decide)⟩,λz V=>kk z (by rw[YF g x];exact V)⟩
 cases wd'
 case still=>exact absurd (zaQ rfl) hn
 case calm=>
  simp only[if_true] at k
  simp only[RN.toD,Hd.toD,fr]
  walk_at "rd"
  split
  ·rename_i hl
   rw[if_pos hl] at k
   exact up _ λz V=>⟨_,.refl _,k z V⟩
  ·rename_i hl
   rw[if_neg hl] at k
   split
   ·rename_i hm
    rw[if_pos hm] at k
    exact ⟨W,g,x,y,⟨⟨VW,VU⟩,LW.mono (by decide),Lg.mono (by decide),UB.1.mono (by decide),UB.2.mono (by decide)⟩,λz V=>⟨_,.refl _,k z (by rw[YF g x];exact V)⟩⟩
   ·rename_i hm
    rw[if_neg hm] at k
    exact ⟨_,.refl _,k _ (VW.of_eq (YN (by lia) y0) (by ac_rfl))⟩
 all_goals
  simp only[reduceCtorEq,if_false] at k
  simp only[RN.toD,Hd.toD,fr]
  walk_at "rd"
  exact up _ λz V=>⟨_,.refl _,k z V⟩
def ma:FSp:=λds μ Q=>kcA ds λd ds=>kcI ds λg ds=>kcA ds λwd ds=>kcN ds (∃ (R:RN) (N M:Int),(d=R.toD/\R.Ok/\Gd g/\Vl wd N M/\Bd N/\Bd M)/\∀ z,Vl z (R.clip g (N*g / M)) g->Q z μ)
theorem Jz:zz_l ma 3:=by walk_at "&AIA"
def JI:STr:=by walk_at "~17"
theorem KR:zz_q ma JI 3:=by
 walk_at "^ Ad Ig Awd"
 unfold JI
 walk_at "rd"
 obtain ⟨R,N,M,⟨rfl,K,⟨g0,g1⟩,V,BN,BM⟩,k⟩:=h
 have M0:=V.b0
 have V11:Vl (fr 1 1) 1 1:=iI (ND (lo:=0) (hi:=1) (by decide) (by decide)).toFrB
 have TB:=K.t.bd (by decide) (by decide)
 have VT:=iI K.t
 have s0:=K.t.q0
 have cg:=HN K (g:=g) (by lia)
 refine ⟨N,M,1,1,⟨⟨V,V11⟩,BN,BM,.of (by decide) (by decide),.of (by decide) (by decide)⟩,?_⟩
 walk_at "rd"
 rw[Int.mul_one,zcV]
 have key:∀ z,Vl z (R.clip g (N*g / M)) g->RT Q z μ:=λz V=>⟨_,.refl _,k z V⟩
 unfold RN.clip at key
 split
 ·rename_i hl
  have f:N*g / M < g:=by
   rw[Int.ediv_lt_iff_lt_mul M0,YF g M]
   exact Z5 hl (by lia)
  rw[show min (max (N*g / M) g) (R.cap g)=g by lia] at key
  exact key _ (V11.of_eq (by lia) (by lia))
 ·rename_i hl
  refine ⟨R,⟨K,rfl⟩,R.r,R.s,N,M,⟨⟨VT,V⟩,TB.1.mono (by decide),TB.2.mono (by decide),BN,BM⟩,?_⟩
  walk_at "rd"
  have f1:g<=N*g / M:=by
   rw[YU M0,YF g M]
   exact XD (by lia) (by lia)
  split
  ·rename_i ht
   have f2:R.cap g<=N*g / M:=by
    unfold RN.cap
    rw[YU M0]
    have d:=zcw (R.r*g) (show R.s≠0 by lia)
    have e1:R.r*g / R.s*M*R.s<=N*g*R.s:=by
     calc R.r*g / R.s*M*R.s=(R.r*g / R.s*R.s)*M:=by ac_rfl
      _<=(R.r*g)*M:=XD d (by lia)
      _=(R.r*M)*g:=by ac_rfl
      _<=(N*R.s)*g:=XD (by lia) (by lia)
      _=N*g*R.s:=by ac_rfl
    exact zae e1 s0
   rw[show min (max (N*g / M) g) (R.cap g)=R.cap g by lia] at key
   exact ⟨R,⟨K,rfl⟩,R.r,R.s,⟨VT,TB.1.mono (by decide),TB.2.mono (by decide),by lia,by lia⟩,λz V=>key z V⟩
  ·rename_i ht
   have f2:N*g / M<=R.cap g:=by
    unfold RN.cap
    rw[YU s0]
    have d:=zcw (N*g) (show M≠0 by lia)
    have e1:N*g / M*R.s*M<=R.r*g*M:=by
     calc N*g / M*R.s*M=(N*g / M*M)*R.s:=by ac_rfl
      _<=(N*g)*R.s:=XD d (by lia)
      _=(N*R.s)*g:=by ac_rfl
      _<=(R.r*M)*g:=XD (by lia) (by lia)
      _=R.r*g*M:=by ac_rfl
    exact zae e1 M0
   rw[show min (max (N*g / M) g) (R.cap g)=N*g / M by lia] at key
   exact ⟨N,M,⟨V,BN,BM,by lia,by lia⟩,λz V=>key z V⟩
theorem RN.Sv {R:RN}(K:R.Ok){g S:Int}{h:Hd}(G:Gd g)(S0:0<=S)(S1:S<=g){f:Int×Int}(e:R.fac g S h=some f):0 < f.1/\0 < f.2/\Le f.1 600000120/\Le f.2 10000002:=by
 obtain ⟨g0,g1⟩:=G
 have UB:=K.u.toFrB.bd (by decide) (by decide)
 have GB:=K.g.toFrB.bd (by decide) (by decide)
 have h1:=K.u.q0;have h2:=K.u.ab;have h3:=K.g.q0;have h4:=K.g.ab
 unfold RN.fac at e
 split at e
 ·cases e
 ·split at e
  ·cases e;exact ⟨by decide,by decide,.of (by decide) (by decide),.of (by decide) (by decide)⟩
  ·cases e
 ·split at e
  ·cases e
  ·cases e;exact ⟨by show 0 < 2*g - S;lia,by show 0 < 2*g;lia,.of (by show 0<=2*g - S;lia) (by show 2*g - S<=_;lia),.of (by show 0<=2*g;lia) (by show 2*g<=_;lia)⟩
 ·split at e
  ·cases e;exact ⟨by show 0 < R.x;lia,h1,UB.1,UB.2⟩
  ·cases e;exact ⟨by show 0 < R.a;lia,h3,GB.1,GB.2⟩
 ·split at e
  ·cases e
  ·cases e;exact ⟨by show 0 < R.a;lia,h3,GB.1,GB.2⟩
theorem RN.SA {R:RN}(K:R.Ok){g W:Int}{h:Hd}(G:Gd g)(L:Le W 1000000):Bd (R.mvd g W h):=by
 obtain ⟨g0,g1⟩:=G
 have UB:=K.u.toFrB.bd (by decide) (by decide)
 have Lg:Le g 60:=.of (by lia) g1
 have e1:=L.mul UB.2
 have e2:=Lg.mul UB.1
 unfold RN.mvd
 split
 ·split
  ·exact (e1.add e2).mono (by decide)
  ·split
   ·exact (e1.sub e2).mono (by decide)
   ·exact e1.mono (by decide)
 ·exact (e1.add e2).mono (by decide)
def gh:FSp:=λds μ Q=>kcA ds λd ds=>kcI ds λg ds=>kcA ds λwd ds=>kcA ds λsd ds=>kcA ds λe ds=>kcN ds (∃ (R:RN) (W S:Int) (h:Hd),((d=R.toD/\e=h.toD)/\R.Ok/\h.Ok/\Gd g/\(Vl wd W g/\Le W 1000000)/\Vl sd S g/\(0<=S/\S<=g))/\∀ w z,Vl w (R.beh g W S h).1 g->Vl z (R.beh g W S h).2 g->Q (.tup [w,z]) μ)
theorem vi:zz_l gh 5:=by walk_at "&AIAAA"
def qI:STr:=by walk_at "~18"
theorem zQ:zz_q gh qI 7:=by
 walk_at "^ Ad Ig Awd Asd Ae"
 unfold qI
 walk_at "rd"
 obtain ⟨R,W,S,h,⟨⟨rfl,rfl⟩,K,H,G,⟨VW,LW⟩,VS,S0,S1⟩,k⟩:=h
 have g0:=G.1
 have g1:=G.2
 have Lg:Le g 60:=.of (by lia) g1
 refine ⟨R,h,⟨rfl,rfl⟩,?_⟩
 walk_at "rd"
 unfold RN.beh at k
 split
 ·rename_i hi
  rw[if_pos hi] at k
  exact ⟨_,.refl _,k _ _ VW VS⟩
 ·rename_i hi
  rw[if_neg hi] at k
  refine ⟨R,S,h,⟨⟨rfl,rfl⟩,K,H,G,VS,⟨S0,S1⟩,hi⟩,λz VZ=>?_⟩
  walk_at "rd"
  have sin:=F9 K H hi (by lia) S0 S1
  unfold RN.mv at k
  refine ⟨R,g,_,h,⟨⟨rfl,rfl⟩,K,H,G,VZ,sin,hi⟩,λhf=>?_,λf hf v VF=>?_⟩
  ·rw[hf] at k
   walk_at "rd"
   have y0:=K.u.q0
   refine ⟨R,g,W,h,⟨⟨rfl,rfl⟩,K,G,VW,LW,hi⟩,λw Vw=>?_⟩
   refine ⟨R,_,_,⟨rfl,K,G,Vw,RN.SA K G LW,?_⟩,λw2 Vw2=>?_⟩
   ·exact (Lg.mul (K.u.toFrB.bd (by decide) (by decide)).2).mono (by decide)
   ·walk_at "rd"
    refine ⟨_,.refl _,k _ _ ?_ VZ⟩
    rw[show R.mvd g W h*g / (g*R.y)=R.mvd g W h / R.y by rw[YF g R.y];exact YG _ _ (by lia)] at Vw2
    exact Vw2
  ·rw[hf] at k
   obtain ⟨f1,f2,F1,F2⟩:=RN.Sv K G sin.1 sin.2 hf
   obtain ⟨⟨p,q,rfl,P⟩,b0⟩:=id VF
   walk_at "rd"
   refine ⟨W,g,f.1,f.2,⟨⟨VW,VF⟩,LW.mono (by decide),Lg.mono (by decide),F1.mono (by decide),F2.mono (by decide)⟩,λw Vw=>?_⟩
   refine ⟨R,_,_,⟨rfl,K,G,Vw,(LW.mul F1).mono (by decide),(Lg.mul F2).mono (by decide)⟩,λw2 Vw2=>?_⟩
   walk_at "rd"
   refine ⟨_,.refl _,k _ _ ?_ VZ⟩
   rw[show W*f.1*g / (g*f.2)=W*f.1 / f.2 by rw[YF g f.2];exact YG _ _ (by lia)] at Vw2
   exact Vw2
def U5:=Jn @RY <| Jn @N1 <| Jn @QY <| Jn @N9 <| Jn @QI <| Jn @KA <| Jn @QO <| Jn @Of <| Jn @Sk <| Jn @NZ <| Jn @SH <| Jn @KI <| Jn @Sb <| Jn @M7 <| Jn @Rp <| Jn @K8 <| Jn @RE <| Jn @MG <| Jn @R7 <| Jn @MD <| Jn @MP <| Jn @Kr <| Jn @Mb <| Jn @IZ <| Jn @Na <| Jn @FT <| Jn @Ob <| Jn @FW <| Jn @K4 <| Jn @IC <| Jn @KY <| Jn @Gj <| Jn @KO <| Jn @IP <| Jn @NG <| Jn @Ib <| Jn @VX <| Jn @P9 <| Jn @TY <| Jn @Kz <| Jn @WQ <| Jn @Qp <| Jn @Tx <| Jn @QS <| Jn @Pp <| Jn @SS <| Jn @ME <| Jn @QP <| Jn @R8 <| Jn @RJ <| Jn @Nn <| Jn @N7 <| Jn @Sm <| Jn @N3 <| Jn @QN <| Jn @Sw <| Jn @Rz <| Jn @Qz <| Jn @PR <| Jn @Ep <| Jn @RM <| Jn @Qe <| Jn @UZ <| Jn @Uz <| Jn @Sh <| Jn @SN <| Jn @Qo <| Jn @T5 <| Jn @Tp <| Jn @TJ <| Jn @UD <| Jn @Ve <| Jn @T6 <| Jn @Vi <| Jn @UL <| Jn @PY <| Jn @RI <| Jn @PV <| Jn @Sz <| Jn @Po <| Jn @R0 <| Jn @QE <| Jn @Nd <| Jn @L7 <| Jn @M8 <| Jn @FH <| Jn @tR <| Jn @Jk <| Jn @Mr <| Jn @GO <| Jn @FC <| Jn @DF <| Jn @Eo <| Jn @Fs <| Jn @Ff <| Jn @Ga <| Jn @Jp <| Jn @Hq <| Jn @JK <| Jn @Jl <| Jn @G5 <| Jn @LX <| Jn @Mz <| Jn @Mh <| Jn @HC <| Jn @Jo <| Jn @Ji <| Jn @Kl <| Jn @Kv <| Jn @Nz <| Jn @KS <| Jn @NR <| Jn @Bf <| Jn @LM <| Jn @NI <| Jn @QD <| Jn @QZ <| Jn @R6 <| Jn @RG <| Jn @IQ <| Jn @HK <| Jn @JV <| Jn @JF <| Jn @F7 <| Jn @Qu <| @Rj
def D4:=Jn @uP <| Jn @xB <| Jn @uQ <| Jn @xh <| @yU
local macro_rules | `(tactic| walk_at "go")=>zzS "↓L3.U5 L3.D4 ↓L3.jS ↓L3.iH ↓L3.mG ↓L3.my ↓L3.mi ↓L3.mU L3.cp L3.bT L3.cq L3.cx L3.cu L3.cw L3.cU L3.cL L3.bR L3.ck L3.cy L3.cA L3.cC L3.cR L3.cj L3.cT L3.cz L3.cW L3.cv L3.cP L3.iJ L3.EI L3.EM L3.EU L3.AH L3.DY L3.Ex L3.j5 L3.fQ L3.uv L3.nk L3.tU L3.tO L3.tP L3.tX L3.jP L3.gY L3.mQ L3.mN L3.mC L3.mO L3.jX L3.jT L3.jU L3.jR true_and and_true and_self Bool.not_true Bool.not_false decide_true decide_false Bool.or_true Bool.or_false Bool.true_or Bool.false_or Bool.and_false Bool.false_and Bool.and_true Bool.true_and Int.reduceToNat Int.reducePow Int.reduceNeg Int.reduceSub Int.reduceAdd Int.reduceMul Int.reduceEq Int.reduceLT Int.reduceLE Int.reduceBEq L3.iw L3.fk L3.fu L3.fD L3.fN L3.ft L3.fm L3.fB if_true if_false Bool.false_eq_true reduceCtorEq decide_eq_true_eq"
local macro_rules | `(tactic| walk_at "ini")=>zzS "L3.ini List.map List.length List.replicate Nat.reduceSub Nat.reduceAdd Nat.sub_self List.cons_append List.nil_append List.append_nil"
theorem Cd {xs:List D}{P:D->Prop}(h:∀ d∈xs,P d){k:Int}(k0:0<=k)(k1:k < xs.length):∃ d,atD xs k=some d/\P d:=by
 obtain ⟨j,rfl⟩:=Yk k0
 rw[bU]
 have hj:j < xs.length:=by lia
 exact ⟨xs[j],by simp[hj],h _ (YM hj)⟩
def IsL (hi:Int)(d:D):Prop:=∃ p q,d=fr p q/\FrL hi p q
structure nZ (b p:Addr) (xs:List D) (μ μ':Mu):Prop where
 box:Box μ' b
 ne:p≠b
 new:μ p=none
 at':μ' p=some (.lst xs)
 oth:∀ a,a≠b->a≠p->μ' a=μ a
theorem nZ.mk' {b p:Addr}{xs:List D}{μ:Mu}(hB:Box μ b)(hp:μ p=none):nZ b p xs μ (up μ p (.lst xs)):=by
 have ne:p≠b:=λz=>by subst z;obtain ⟨_,_,_,e,_⟩:=hB;rw[hp] at e;cases e
 obtain ⟨g,s,c,e,h⟩:=hB
 exact ⟨⟨g,s,c,by rw[aE ne.symm];exact e,h⟩,ne,hp,ay,λa _ h=>aE h⟩
theorem nZ.go {b p:Addr}{xs:List D}{μ μ1 μ2:Mu}(h:nZ b p xs μ μ1)(B:qB b μ1 μ2):nZ b p xs μ μ2:=
 ⟨B.box,h.ne,h.new,by rw[B.oth p h.ne];exact h.at',λa h1 h2=>by rw[B.oth a h1];exact h.oth a h1 h2⟩
theorem nZ.set {b p:Addr}{xs ys:List D}{μ μ1:Mu}(h:nZ b p xs μ μ1):nZ b p ys μ (up μ1 p (.lst ys)):=by
 obtain ⟨g,s,c,e,hh⟩:=h.box
 exact ⟨⟨g,s,c,by rw[aE h.ne.symm];exact e,hh⟩,h.ne,h.new,ay,λa h1 h2=>by rw[aE h2];exact h.oth a h1 h2⟩
theorem RF (μ:Mu)(p:Addr):Sub (dn μ p) μ:=λa o e=>by
 unfold dn at e
 split at e
 ·cases e
 ·exact e
theorem nZ.fin {b p:Addr}{xs:List D}{μ μ1:Mu}(h:nZ b p xs μ μ1):qB b μ (dn μ1 p):=by
 obtain ⟨g,s,c,e,hh⟩:=h.box
 refine ⟨⟨g,s,c,?_,hh⟩,λa ha=>?_⟩
 ·unfold dn;rw[if_neg h.ne.symm];exact e
 ·unfold dn
  split
  ·rename_i z;subst z;exact h.new.symm
  ·rename_i z;exact h.oth a ha z
theorem nZ.rt {b p:Addr}{xs:List D}{μ μ1:Mu}{Q:DK}{d:D}(h:nZ b p xs μ μ1)(k:∀ μ',qB b μ μ'->Q d μ'):RT Q d μ1:=⟨_,RF μ1 p,k _ h.fin⟩
def RN.ap1 (R:RN)(g S far:Int)(h:Hd):Int×Int:=if R.idle h then (S,far) else
 (R.shr g S h,min (match R.fac g (R.shr g S h) h with
  | some f=>-((-(far*f.1)) / f.2)
  | none=>far) (R.cap g - g))
def RN.ap (R:RN)(g:Int):List Hd->Int->Int->Int
 | [],_,far=>far
 | h::r,S,far=>RN.ap R g r (R.ap1 g S far h).1 (R.ap1 g S far h).2
theorem ml {p:Addr}{G:GTr}{tt:TTr}{te:ETr}{ρc:ST}{K:Mu->Prop}(P:List D->Mu->Prop)(hnil:∀ μ,P [] μ->K μ)
  (hcons:∀ d r μ (N:Mu->Prop),P (d::r) μ->(∀ μ',P r μ'->N μ')->G d ρc μ λρ1 μ1=>tt ρ1 μ1 λb μ2=>kIf b (te ρ1 μ2 λy μ3=>kL μ3 p λzs=>zs.length < 1000000/\N (up μ3 p (.lst (zs++[y])))) (N μ2)) :
  ∀ (ds:List D) (μ:Mu),P ds μ->fj p G tt te ρc K ds μ
 | [],μ,h=>hnil μ h
 | d::r,μ,h=>hcons d r μ _ h λμ' q=>ml P hnil hcons r μ' q
theorem zM (d0:D)(r:List D)(f:D->Prop):kO (atD (d0::r) 0) f=f d0:=by rw[zJ];rfl
theorem yj (d0 d1:D)(r:List D)(f:D->Prop):kO (atD (d0::d1::r) 1) f=f d1:=by rw[zH];rfl
theorem ya (d0 d1 d2:D)(r:List D)(f:D->Prop):kO (atD (d0::d1::d2::r) 2) f=f d2:=by rw[CK];rfl
theorem zU (d0 d1 d2 d3:D)(r:List D)(f:D->Prop):kO (atD (d0::d1::d2::d3::r) 3) f=f d3:=by rw[Cz];rfl
theorem yg (d0 d1 d2 d3 d4:D)(r:List D)(f:D->Prop):kO (atD (d0::d1::d2::d3::d4::r) 4) f=f d4:=by rw[CB];rfl
theorem yY (d0 d1 d2 d3 d4 d5:D)(r:List D)(f:D->Prop):kO (atD (d0::d1::d2::d3::d4::d5::r) 5) f=f d5:=by rw[DN];rfl
def uU (G:GTr)(tt:TTr)(te:ETr)(ρc:ST)(ds:List D)(μ:Mu)(Q:DK):Prop:=∀ p,μ p=none->fj p G tt te ρc (λμ'=>kL μ' p λzs=>Q (.ls zs) (dn μ' p)) ds (up μ p (.lst []))
theorem NK (it:ATr)(G:GTr)(tt:TTr)(te:ETr)(n:Nat)(caps:List Nat)(ρ:ST)(μ:Mu)(Q:DK):bQ it G tt te n caps ρ μ Q=it ρ μ λds μ1=>uU G tt te (eL ρ n caps) ds μ1 Q:=propext Xf
theorem RU (ρ:ST)(μ:Mu)(Q:Bool->Mu->Prop):dW ρ μ Q=Q true μ:=propext Xf
section
variable {G:GTr} {tt:TTr} {te:ETr} {ρc:ST} {ds:List D} {μ:Mu} {Q:DK}
theorem wH (f:D->Option D)(hl:ds.length<=999999)
  (step:∀ d∈ds,∀ μ',Sub μ μ'->∀ (N:Option D->Mu->Prop),N (f d) μ'->G d ρc μ' λρ1 μ1=>tt ρ1 μ1 λb μ2=>kIf b (te ρ1 μ2 λy μ3=>N (some y) μ3) (N none μ2))
  (k:Q (.ls (ds.filterMap f)) μ):uU G tt te ρc ds μ Q:=by
 intro p hp
 refine ml (λr μ'=>∃ done,ds=done++r/\μ'=up μ p (.lst (done.filterMap f))) ?_ ?_ _ _ ⟨[],rfl,rfl⟩
 ·rintro μ' ⟨done,e,rfl⟩
  rw[XU] at e
  subst e
  refine aY ay ?_
  rw[ub hp];exact k
 ·rintro d r μ' N ⟨done,e,rfl⟩ hN
  have hd:d∈ds:=by rw[e];simp
  have e':ds=(done++[d])++r:=by rw[e];simp
  have lf:(done.filterMap f).length < 1000000:=by
   have h1:=Y4 f done
   have h2:ds.length=done.length+(d::r).length:=by rw[e,Xo]
   rw[XC] at h2;lia
  refine step d hd _ (Sub.new hp) (λoy μ3=>match oy with
   | some y=>kL μ3 p λzs=>zs.length < 1000000/\N (up μ3 p (.lst (zs++[y])))
   | none=>N μ3) ?_
  cases hf:f d with
  | none=>
   refine hN _ ⟨done++[d],e',?_⟩
   rw[Yh];simp[hf]
  | some y=>
   refine aY ay ⟨lf,hN _ ⟨done++[d],e',?_⟩⟩
   rw[Yh,iw];simp[hf]
theorem comp_map (f:D->D)(hl:ds.length<=999999)
  (step:∀ d∈ds,∀ μ',Sub μ μ'->∀ (N:DK),N (f d) μ'->G d ρc μ' λρ1 μ1=>te ρ1 μ1 N)
  (k:Q (.ls (ds.map f)) μ):uU G dW te ρc ds μ Q:=by
 refine wH (λd=>some (f d)) hl (λd hd μ' s N n=>?_) (by rw[show (λd=>some (f d))=some ∘ f from rfl,YY];exact k)
 exact step d hd μ' s (λy μ3=>N (some y) μ3) n
theorem Jx (I:List D->List D->Prop)(h0:I ds [])(hl:ds.length<=999999)
  (step:∀ d r zs μ',Sub μ μ'->I (d::r) zs->∀ (N:Option D->Mu->Prop),(∀ oy,I r (zs++oy.toList)->N oy μ')->G d ρc μ' λρ1 μ1=>tt ρ1 μ1 λb μ2=>kIf b (te ρ1 μ2 λy μ3=>N (some y) μ3) (N none μ2))
  (k:∀ zs,I [] zs->Q (.ls zs) μ):uU G tt te ρc ds μ Q:=by
 intro p hp
 refine ml (λr μ'=>∃ zs,I r zs/\zs.length+r.length<=ds.length/\μ'=up μ p (.lst zs)) ?_ ?_ _ _ ⟨[],h0,by simp,rfl⟩
 ·rintro μ' ⟨zs,hI,_,rfl⟩
  refine aY ay ?_
  rw[ub hp];exact k zs hI
 ·rintro d r μ' N ⟨zs,hI,hz,rfl⟩ hN
  rw[XC] at hz
  refine step d r zs _ (Sub.new hp) hI (λoy μ3=>match oy with
   | some y=>kL μ3 p λzs=>zs.length < 1000000/\N (up μ3 p (.lst (zs++[y])))
   | none=>N μ3) ?_
  intro oy hoy
  cases oy with
  | none=>exact hN _ ⟨zs,by simpa using hoy,by lia,rfl⟩
  | some y=>
   refine aY ay ⟨by lia,hN _ ⟨zs++[y],hoy,by rw[Xo];simp;lia,?_⟩⟩
   rw[iw]
theorem i8 {α:Type}(xs:List α)(t:α->D)(h:α->Option D)(hds:ds=xs.map t)(hl:xs.length<=999999)
  (step:∀ x∈xs,∀ μ',Sub μ μ'->∀ (N:Option D->Mu->Prop),N (h x) μ'->G (t x) ρc μ' λρ1 μ1=>tt ρ1 μ1 λb μ2=>kIf b (te ρ1 μ2 λy μ3=>N (some y) μ3) (N none μ2))
  (k:Q (.ls (xs.filterMap h)) μ):uU G tt te ρc ds μ Q:=by
 subst hds
 refine Jx (λr zs=>∃ a c,xs=a++c/\r=c.map t/\zs=a.filterMap h) ⟨[],xs,rfl,rfl,rfl⟩ (by simpa using hl) ?_ ?_
 ·rintro d r zs μ' sb ⟨a,c,e,er,rfl⟩ N hN
  cases c with
  | nil=>cases er
  | cons x c=>
  cases er
  refine step x (by rw[e];simp) μ' sb N (hN _ ⟨a++[x],c,by rw[e];simp,rfl,?_⟩)
  rw[Yh]
  cases hx:h x<;>simp[hx]
 ·rintro zs ⟨a,c,e,er,rfl⟩
  have:c=[]:=by cases c with | nil=>rfl | cons=>cases er
  subst this
  rw[XU] at e
  subst e;exact k
theorem bE {α:Type}(xs:List α)(t:α->D)(h:α->D)(hds:ds=xs.map t)(hl:xs.length<=999999)
  (step:∀ x∈xs,∀ μ',Sub μ μ'->∀ (N:DK),N (h x) μ'->G (t x) ρc μ' λρ1 μ1=>te ρ1 μ1 N)
  (k:Q (.ls (xs.map h)) μ):uU G dW te ρc ds μ Q:=by
 refine i8 xs t (λx=>some (h x)) hds hl (λx hx μ' s N n=>?_) (by rw[show (λx=>some (h x))=some ∘ h from rfl,YY];exact k)
 exact step x hx μ' s (λy μ3=>N (some y) μ3) n
def Dl (a:Addr)(full:List D)(G:GTr)(tt:TTr)(te:ETr)(ρc:ST)(ds:List D)(μ:Mu)(Q:DK):Prop:=∀ p,μ p=none->kK (λμ=>μ a=some (.lst full)) p G tt te ρc (λμ'=>kL μ' p λzs=>Q (.ls zs) (dn μ' p)) ds (up μ p (.lst []))
theorem Gg (To:ETr)(G:GTr)(tt:TTr)(te:ETr)(n:Nat)(caps:List Nat)(ρ:ST)(μ:Mu)(Q:DK):gS To G tt te n caps ρ μ Q=To ρ μ λx μ1=>kObj x λa=>kL μ1 a λds=>Dl a ds G tt te (eL ρ n caps) ds μ1 Q:=propext Xf
theorem kJ {C:Mu->Prop}{p:Addr}{ρc:ST}{K:Mu->Prop}(P:List D->Mu->Prop)(hC:∀ r μ,P r μ->C μ)(hnil:∀ μ,P [] μ->K μ)
  (hcons:∀ d r μ (N:Mu->Prop),P (d::r) μ->(∀ μ',P r μ'->N μ')->G d ρc μ λρ1 μ1=>tt ρ1 μ1 λb μ2=>kIf b (te ρ1 μ2 λy μ3=>kL μ3 p λzs=>zs.length < 1000000/\N (up μ3 p (.lst (zs++[y])))) (N μ2)) :
  ∀ (ds:List D) (μ:Mu),P ds μ->kK C p G tt te ρc K ds μ
 | [],μ,h=>⟨hC _ _ h,hnil μ h⟩
 | d::r,μ,h=>⟨hC _ _ h,hcons d r μ _ h λμ' q=>kJ P hC hnil hcons r μ' q⟩
theorem Gp {a:Addr}{full:List D}(hm:μ a=some (.lst full))(f:D->Option D)(hl:ds.length<=999999)
  (step:∀ d∈ds,∀ μ',Sub μ μ'->∀ (N:Option D->Mu->Prop),N (f d) μ'->G d ρc μ' λρ1 μ1=>tt ρ1 μ1 λb μ2=>kIf b (te ρ1 μ2 λy μ3=>N (some y) μ3) (N none μ2))
  (k:Q (.ls (ds.filterMap f)) μ):Dl a full G tt te ρc ds μ Q:=by
 intro p hp
 refine kJ (λr μ'=>∃ done,ds=done++r/\μ'=up μ p (.lst (done.filterMap f))) ?_ ?_ ?_ _ _ ⟨[],rfl,rfl⟩
 ·rintro r μ' ⟨done,_,rfl⟩
  exact Sub.new hp _ _ hm
 ·rintro μ' ⟨done,e,rfl⟩
  rw[XU] at e
  subst e
  refine aY ay ?_
  rw[ub hp];exact k
 ·rintro d r μ' N ⟨done,e,rfl⟩ hN
  have hd:d∈ds:=by rw[e];simp
  have e':ds=(done++[d])++r:=by rw[e];simp
  have lf:(done.filterMap f).length < 1000000:=by
   have h1:=Y4 f done
   have h2:ds.length=done.length+(d::r).length:=by rw[e,Xo]
   rw[XC] at h2;lia
  refine step d hd _ (Sub.new hp) (λoy μ3=>match oy with
   | some y=>kL μ3 p λzs=>zs.length < 1000000/\N (up μ3 p (.lst (zs++[y])))
   | none=>N μ3) ?_
  cases hf:f d with
  | none=>
   refine hN _ ⟨done++[d],e',?_⟩
   rw[Yh];simp[hf]
  | some y=>
   refine aY ay ⟨lf,hN _ ⟨done++[d],e',?_⟩⟩
   rw[Yh,iw];simp[hf]
theorem iq {α:Type}{a:Addr}(xs:List α)(t:α->D)(h:α->Option D)(hds:ds=xs.map t)(hm:μ a=some (.lst (xs.map t)))(hl:xs.length<=999999)
  (step:∀ x∈xs,∀ μ',Sub μ μ'->∀ (N:Option D->Mu->Prop),N (h x) μ'->G (t x) ρc μ' λρ1 μ1=>tt ρ1 μ1 λb μ2=>kIf b (te ρ1 μ2 λy μ3=>N (some y) μ3) (N none μ2))
  (k:Q (.ls (xs.filterMap h)) μ):Dl a (xs.map t) G tt te ρc ds μ Q:=by
 subst hds
 intro p hp
 refine kJ (λr μ'=>∃ b c,xs=b++c/\r=c.map t/\μ'=up μ p (.lst (b.filterMap h))) ?_ ?_ ?_ _ _ ⟨[],xs,rfl,rfl,rfl⟩
 ·rintro r μ' ⟨b,c,_,_,rfl⟩
  exact Sub.new hp _ _ hm
 ·rintro μ' ⟨b,c,e,er,rfl⟩
  have:c=[]:=by cases c with | nil=>rfl | cons=>cases er
  subst this
  rw[XU] at e
  subst e
  refine aY ay ?_
  rw[ub hp];exact k
 ·rintro d r μ' N ⟨b,c,e,er,rfl⟩ hN
  cases c with
  | nil=>cases er
  | cons x c=>
  cases er
  have e':xs=(b++[x])++c:=by rw[e];simp
  have lf:(b.filterMap h).length < 1000000:=by
   have h1:=Y4 h b
   have h2:xs.length=b.length+(x::c).length:=by rw[e,Xo]
   rw[XC] at h2;lia
  refine step x (by rw[e];simp) _ (Sub.new hp) (λoy μ3=>match oy with
   | some y=>kL μ3 p λzs=>zs.length < 1000000/\N (up μ3 p (.lst (zs++[y])))
   | none=>N μ3) ?_
  cases hf:h x with
  | none=>
   refine hN _ ⟨b++[x],c,e',rfl,?_⟩
   rw[Yh];simp[hf]
  | some y=>
   refine aY ay ⟨lf,hN _ ⟨b++[x],c,e',rfl,?_⟩⟩
   rw[Yh,iw];simp[hf]
theorem D1 {a:Addr}{full:List D}(hm:μ a=some (.lst full))(f:D->D)(hl:ds.length<=999999)
  (step:∀ d∈ds,∀ μ',Sub μ μ'->∀ (N:DK),N (f d) μ'->G d ρc μ' λρ1 μ1=>te ρ1 μ1 N)
  (k:Q (.ls (ds.map f)) μ):Dl a full G dW te ρc ds μ Q:=by
 refine Gp hm (λd=>some (f d)) hl (λd hd μ' s N n=>?_) (by rw[show (λd=>some (f d))=some ∘ f from rfl,YY];exact k)
 exact step d hd μ' s (λy μ3=>N (some y) μ3) n
end
def TF:=Jn @NK <| Jn @Gg <| Jn @RU <| Jn @LN <| Jn @Ru <| Jn @Lb <| Jn @RQ <| Jn @K0 <| Jn @P1 <| Jn @Iq <| Jn @PJ <| Jn @Nl <| Jn @RB <| Jn @Q2 <| Jn @SO <| Jn @P2 <| Jn @UK <| Jn @Oi <| Jn @KD <| Jn @Pl <| @U5
local macro_rules | `(tactic| walk_at "go")=>zzS "↓L3.TF L3.D4 ↓L3.zM ↓L3.yj ↓L3.ya ↓L3.zU ↓L3.yg ↓L3.yY ↓L3.jS ↓L3.iH ↓L3.mG ↓L3.my ↓L3.mi ↓L3.mU L3.cp L3.bT L3.cq L3.cx L3.cu L3.cw L3.cU L3.cL L3.bR L3.ck L3.cy L3.cA L3.cC L3.cR L3.cj L3.cT L3.cz L3.cW L3.cv L3.cP L3.iJ L3.eL List.map_cons List.map_nil List.replicate List.cons_append List.nil_append L3.lk L3.EI L3.EM L3.EU L3.AH L3.DY L3.Ex L3.j5 L3.fQ L3.uv L3.nk L3.tU L3.tO L3.tP L3.tX L3.jP L3.gY L3.mQ L3.mN L3.mC L3.mO L3.jX L3.jT L3.jU L3.jR true_and and_true and_self Bool.not_true Bool.not_false decide_true decide_false Bool.or_true Bool.or_false Bool.true_or Bool.false_or Bool.and_false Bool.false_and Bool.and_true Bool.true_and Int.reduceToNat Int.reducePow Int.reduceNeg Int.reduceSub Int.reduceAdd Int.reduceMul Int.reduceEq Int.reduceLT Int.reduceLE Int.reduceBEq L3.iw L3.fk L3.fu L3.fD L3.fN L3.ft L3.fm L3.fB if_true if_false Bool.false_eq_true reduceCtorEq decide_eq_true_eq"
abbrev ks (s:String):L2.Key:=.inr (OF s)
def i3 (cs:List Int)(a l g m s:Int):List (L2.Key×D):=[(ks "cells", .ls (cs.map .int)),(ks "at", .int a),(ks "left", .int l),(ks "given", .int g),(ks "many", .int m),(ks "seed", .int s)]
section
variable (cs:List Int) (a l g m s x:Int)
theorem Fm:aX (i3 cs a l g m s) (.inr (OF "cells"))=some (.ls (cs.map .int)):=rfl
theorem QA:aX (i3 cs a l g m s) (.inr (OF "at"))=some (.int a):=rfl
theorem Gr:aX (i3 cs a l g m s) (.inr (OF "left"))=some (.int l):=rfl
theorem EO:aX (i3 cs a l g m s) (.inr (OF "given"))=some (.int g):=rfl
theorem Gi:aX (i3 cs a l g m s) (.inr (OF "many"))=some (.int m):=rfl
theorem HS:aX (i3 cs a l g m s) (.inr (OF "seed"))=some (.int s):=rfl
theorem Pz:putD (i3 cs a l g m s) (.inr (OF "at")) (.int x)=i3 cs x l g m s:=rfl
theorem GI:putD (i3 cs a l g m s) (.inr (OF "left")) (.int x)=i3 cs a x g m s:=rfl
theorem D7:putD (i3 cs a l g m s) (.inr (OF "given")) (.int x)=i3 cs a l x m s:=rfl
theorem IS:putD (i3 cs a l g m s) (.inr (OF "many")) (.int x)=i3 cs a l g x s:=rfl
theorem GR:putD (i3 cs a l g m s) (.inr (OF "seed")) (.int x)=i3 cs a l g m x:=rfl
theorem NF:(i3 cs a l g m s).length < 1000000:=by show 6 < 1000000;decide
end
local macro_rules | `(tactic| walk_at "pot")=>zzS "L3.Fm L3.QA L3.Gr L3.EO L3.Gi L3.HS L3.Pz L3.GI L3.D7 L3.IS L3.GR L3.NF true_and L3.oT"
def Pot (μ:Mu)(b:Addr):Prop:=∃ (cs:List Int) (a l g m s:Int),μ b=some (.dct (i3 cs a l g m s))/\0<=a
structure nS (b:Addr) (μ μ':Mu):Prop where
 pot:Pot μ' b
 oth:∀ a,a≠b->μ' a=μ a
theorem nS.trans {b:Addr}{μ μ1 μ2:Mu}(x:nS b μ μ1)(y:nS b μ1 μ2):nS b μ μ2:=⟨y.pot,λa h=>(y.oth a h).trans (x.oth a h)⟩
theorem nS.ne {b p:Addr}{μ μ1:Mu}(x:nS b μ μ1)(h:p≠b):μ1 p=μ p:=x.oth p h
theorem Pot.ne {μ:Mu}{b p:Addr}(h:Pot μ b)(hp:μ p=none):p≠b:=λz=>by subst z;obtain ⟨_,_,_,_,_,_,e,_⟩:=h;rw[hp] at e;cases e
theorem Pot.up {μ:Mu}{b p:Addr}{o:MO}(h:Pot μ b)(hp:p≠b):Pot (up μ p o) b:=by
 obtain ⟨cs,a,l,g,m,s,e,h0⟩:=h
 exact ⟨cs,a,l,g,m,s,by rw[aE (XA hp)];exact e,h0⟩
def Kp (b:Addr)(μ μ':Mu):Prop:=∀ a o,a≠b->μ a=some o->μ' a=some o
theorem Kp.trans {b:Addr}{μ μ1 μ2:Mu}(x:Kp b μ μ1)(y:Kp b μ1 μ2):Kp b μ μ2:=λa o h e=>y a o h (x a o h e)
theorem nS.kp {b:Addr}{μ μ1:Mu}(x:nS b μ μ1):Kp b μ μ1:=λa o h e=>by rw[x.oth a h];exact e
theorem Kp.new {b p:Addr}{μ:Mu}{o:MO}(h:μ p=none):Kp b μ (up μ p o):=λa u _ e=>by rw[aE (λz=>by subst z;rw[h] at e;cases e)];exact e
theorem Kp.dn {b p:Addr}{μ μ1:Mu}(x:Kp b μ μ1)(h:μ p=none):Kp b μ (dn μ1 p):=λa u n e=>by unfold L3.dn;rw[if_neg (λz=>by subst z;rw[h] at e;cases e)];exact x a u n e
section
variable {G:GTr} {tt:TTr} {te:ETr} {ρc:ST} {ds:List D} {μ:Mu} {Q:DK} {b:Addr}
end
structure Lt where
 nm:Str
 nu:Int
 ag:Int
 hp:Int
 mr:Int
def Lt.toD (x:Lt):D:=.tup [.str x.nm,.int x.nu,.int x.ag,.int x.hp,.int x.mr]
abbrev ltD (ls:List Lt):List D:=ls.map Lt.toD
structure Lt.Ok (x:Lt):Prop where
 a0:0<=x.ag
 a1:x.ag < 30
 h0:0<=x.hp
 h1:x.hp < 6
 m0:0<=x.mr
 m1:x.mr<=1
structure Wy where
 nm:Str
 pc:Int
 rm:Int
 mr:Option Int
 tn:Bool
def cI:Option Int->D
 | none=>.non
 | some i=>.int i
def zr (b:Bool):Str:=if b then OF "turns" else OF "line"
def Wy.toD (x:Wy):D:=.tup [.str x.nm,.int x.pc,.int x.rm,cI x.mr,.str (zr x.tn)]
structure Wy.Ok (x:Wy):Prop where
 n:Xn x.nm=true
 p0:1<=x.pc
 p1:x.pc<=20
 r0:1<=x.rm
 r1:x.rm<=60
 m:∀ i,x.mr=some i->0<=i/\i<=60
mutual
def pl:Nat->D->Bool
 | _,.non=>true
 | _,.int _=>true
 | _,.str x=>Xn x
 | n+1,.tup ds=>decide (ds.length<=999999)&&pls n ds
 | n+1,.ls ds=>decide (ds.length<=999999)&&pls n ds
 | _,_=>false
def pls:Nat->List D->Bool
 | _,[]=>true
 | n,d::r=>pl n d&&pls n r
end
def jz (n:Nat):FSp:=λds μ Q=>match ds with
 | [x,y]=>(x=y/\pl n y=true)/\Q (.bl true) μ
 | _=>False
def jW:Nat->FSp
 | 0=>λ_ _ _=>False
 | n+1=>jz n
theorem BK:∀ n ds μ Q,jW n ds μ Q->ds.length=2:=by
 intro n ds μ Q h
 cases n with
 | zero=>exact h.elim
 | succ n=>
  have h:jz n ds μ Q:=h
  unfold jz at h
  split at h
  ·rfl
  ·exact h.elim
theorem DT {n:Nat}:∀ {ds:List D} {d:D},pls n ds=true->d∈ds->pl n d=true
 | x::r,d,h,hm=>by
  have h':pl n x=true/\pls n r=true:=by simpa[pls] using h
  rcases Xr.mp hm with rfl | hm
  ·exact h'.1
  ·exact DT h'.2 hm
theorem y9:∀ (ds:List D),X3 (λd e=>D.tup [d,e]) ds ds=ds.map λd=>.tup [d,d]
 | []=>rfl
 | d::r=>by simp[y9 r]
theorem CY {n:Nat}{ds:List D}{μ:Mu}{Q:DK}(hl:ds.length<=999999)(hp:pls n ds=true)(fin:RT Q (.bl true) μ) :
  uU (fg [0,1]) dW (aw (jW (n+1)) (af (ah 0) (af (ah 1) au))) [none,none] (X3 (λd e=>D.tup [d,e]) ds ds) μ λx μ1=>fb Mx [x] μ1 (RT Q):=by
 rw[y9]
 refine comp_map (λ_=>.bl true) (by simpa using hl) (λd hd μ' _ N n=>?_) ?_
 ·obtain ⟨x,hx,rfl⟩:=Xh.mp hd
  walk_at "go"
  exact ⟨⟨rfl,DT hp hx⟩,n⟩
 ·refine ⟨ds.map λ_=>true,by simp,?_⟩
  have:(ds.map λ_=>true).all id=true:=by simp
  rw[this]
  exact fin
abbrev CW:FSp:=jW 6
theorem Ds {x y:D}{μ:Mu}{Q:DK}(e:x=y)(h:pl 5 y=true)(k:Q (.bl true) μ):fb CW [x,y] μ Q:=⟨⟨e,h⟩,k⟩
def mZ (w:Wy)(x:Lt)(n:Nat):Lt:=match w.mr with
 | none=>x
 | some i=>if (n:Int) < i then x else { x with mr:=1 }
def bK (w:Wy)(p:List Lt×List Lt)(y:Lt):List Lt×List Lt:=if w.rm<=(p.1.length:Int) then (p.1,p.2++[y]) else (p.1++[mZ w y p.1.length],p.2)
def tk (w:Wy)(xs ys:List Lt):List Lt×List Lt:=ys.foldl (bK w) (xs,[])
theorem Sg (a b c d e:D):cutD [a,b,c,d,e] none (some 4)=[a,b,c,d]:=rfl
def eQ:FSp:=λds μ Q=>kcA ds λwd ds=>kcA ds λld ds=>kcI ds λn ds=>kcN ds (∃ (w:Wy) (x:Lt) (m:Nat),(wd=w.toD/\ld=x.toD/\n=m)/\Q (mZ w x m).toD μ)
theorem qj:zz_l eQ 3:=by walk_at "&AAI"
def kW:STr:=by walk_at "~19"
theorem sW:zz_q eQ kW 3:=by
 walk_at "^kW! Awd Ald In"
 obtain ⟨w,x,m,⟨rfl,rfl,rfl⟩,k⟩:=h
 simp only[Wy.toD]
 walk_at "go"
 unfold mZ at k
 cases hm:w.mr with
 | none=>
  rw[hm] at k
  simp only[cI]
  walk_at "go"
  exact ⟨_,.refl _,k⟩
 | some i=>
  rw[hm] at k
  simp only[cI]
  walk_at "go"
  refine kif (λh1=>⟨_,.refl _,?_⟩) λh1=>?_
  ·simp only[if_pos h1] at k;exact k
  ·simp only[if_neg h1] at k
   simp only[Lt.toD]
   walk_at "go"
   rw[Sg]
   walk_at "go"
   exact ⟨by show 5<=1000000;decide,_,.refl _,k⟩
def gx:FSp:=λds μ Q=>kcA ds λwd ds=>kcT ds λst ds=>kcT ds λle ds=>kcN ds (∃ (w:Wy) (xs ys:List Lt),(wd=w.toD/\st=ltD xs/\le=ltD ys/\xs.length+ys.length<=900000)/\Q (.tup [.tup (ltD (tk w xs ys).1),.tup (ltD (tk w xs ys).2)]) μ)
theorem wV:zz_l gx 3:=by walk_at "&ATT"
def qd:STr:=by walk_at "~20"
theorem xk:zz_q gx qd 6:=by
 walk_at "^qd! Awd Tst Tle"
 obtain ⟨w,xs,ys,⟨rfl,rfl,rfl,hl⟩,k⟩:=h
 intro p hp
 walk_at "go"
 intro q hq
 have qp:q≠p:=λz=>by subst z;rw[ay] at hq;cases hq
 have hqn:μ q=none:=by rw[aE qp] at hq;exact hq
 refine cJ (λr ρ μ'=>∃ (a b:List Lt) (rs:List Lt) (v5:Option D),r=ltD rs/\ρ=[some w.toD,some (.tup (ltD xs)),some (.tup (ltD ys)),some (.obj p),some (.obj q),v5]/\μ' p=some (.lst (ltD a))/\μ' q=some (.lst (ltD b))/\Sub μ μ'/\rs.foldl (bK w) (a,b)=tk w xs ys/\a.length+b.length+rs.length<=900000) ?_ ?_ _ _ _ ⟨xs,[],ys,_,rfl,rfl,by rw[aE (XA qp),ay],ay,(Sub.new hp).trans (Sub.new hq),rfl,by simpa using hl⟩
 ·rintro ρ μ' ⟨a,b,rs,v5,er,rfl,ep,eq,s,e,_⟩
  have:rs=[]:=by cases rs with | nil=>rfl | cons=>cases er
  subst this
  have e:(a,b)=tk w xs ys:=e
  rw[← e] at k
  walk_at "go"
  refine aY ep ?_
  walk_at "go"
  refine aY eq ?_
  exact ⟨_,s,k⟩
 ·rintro d r ρ μ' N ⟨a,b,rs,v5,er,rfl,ep,eq,s,e,hz⟩ hN
  cases rs with
  | nil=>cases er
  | cons y rs=>
  cases er
  rw[XC] at hz
  rw[YH] at e
  unfold bK at e
  simp only[Wy.toD]
  walk_at "go"
  refine aY ep ?_
  walk_at "go"
  rw[Xc]
  refine kif (λh1=>?_) λh1=>?_
  ·rw[if_pos h1] at e
   walk_at "go"
   refine aY eq ?_
   walk_at "go"
   refine aY eq ⟨by simp;lia,hN _ _ ⟨a,b++[y],rs,_,rfl,rfl,by rw[aE (XA qp)];exact ep,by rw[ay];simp[ltD],λz o h=>?_,e,by simp;lia⟩⟩
   rw[aE (λe=>by subst e;rw[hqn] at h;cases h)];exact s z o h
  ·rw[if_neg h1] at e
   walk_at "go"
   refine aY ep ?_
   walk_at "go"
   refine aY ep ?_
   rw[Xc]
   refine ⟨w,y,a.length,⟨rfl,rfl,rfl⟩,?_⟩
   walk_at "go"
   refine aY ep ⟨by simp;lia,hN _ _ ⟨a++[mZ w y a.length],b,rs,_,rfl,rfl,by rw[ay];simp[ltD],by rw[aE qp];exact eq,λz o h=>?_,e,by simp;lia⟩⟩
   rw[aE (λe=>by subst e;rw[hp] at h;cases h)];exact s z o h
theorem Wg (w:Wy)(μ:Mu)(Q:DK):L3.rIx w.toD (.int 0) μ Q=Q (.str w.nm) μ:=propext Xf
theorem VL (w:Wy)(μ:Mu)(Q:DK):L3.rIx w.toD (.int 1) μ Q=Q (.int w.pc) μ:=propext Xf
theorem V5 (w:Wy)(μ:Mu)(Q:DK):L3.rIx w.toD (.int 4) μ Q=Q (.str (zr w.tn)) μ:=propext Xf
theorem lt_0 (x:Lt)(μ:Mu)(Q:DK):L3.rIx x.toD (.int 0) μ Q=Q (.str x.nm) μ:=propext Xf
theorem W4 (x:Lt)(μ:Mu)(Q:DK):L3.rIx x.toD (.int 1) μ Q=Q (.int x.nu) μ:=propext Xf
theorem VH (x:Lt)(μ:Mu)(Q:DK):L3.rIx x.toD (.int 2) μ Q=Q (.int x.ag) μ:=propext Xf
theorem Wf (x:Lt)(μ:Mu)(Q:DK):L3.rIx x.toD (.int 3) μ Q=Q (.int x.hp) μ:=propext Xf
theorem VA (x:Lt)(μ:Mu)(Q:DK):L3.rIx x.toD (.int 4) μ Q=Q (.int x.mr) μ:=propext Xf
theorem VM (xs:List D){k:Int}(k0:0<=k):cutD xs none (some k)=xs.take k.toNat:=by
 have:=oN xs k.toNat
 rwa [zde k0] at this
theorem V4 (xs:List D){k:Int}(k0:0<=k):cutD xs (some k) none=xs.drop k.toNat:=by
 have:=ur xs k.toNat
 rwa [zde k0] at this
theorem Ml (ls:List Lt)(n:Nat):(ltD ls).take n=ltD (ls.take n):=by simp[ltD,zax]
theorem KU (ls:List Lt)(n:Nat):(ltD ls).drop n=ltD (ls.drop n):=by simp[ltD,zbS]
theorem oP {w:Wy}{a b:List Lt}{y:Lt}(h:w.rm<=(a.length:Int)):bK w (a,b) y=(a,b++[y]):=by unfold bK;rw[if_pos h]
theorem Dq {w:Wy}{a b:List Lt}{y:Lt}(h:¬ w.rm<=(a.length:Int)):bK w (a,b) y=(a++[mZ w y a.length],b):=by unfold bK;rw[if_neg h]
theorem vy:cI none=.non:=rfl
theorem wg (i:Int):cI (some i)=.int i:=rfl
theorem AS (w:Wy):∀ (ys:List Lt) (a b:List Lt),(ys.foldl (bK w) (a,b)).1.length+(ys.foldl (bK w) (a,b)).2.length=a.length+b.length+ys.length
 | [],a,b=>by simp
 | y::ys,a,b=>by
  rw[YH]
  by_cases h:w.rm<=(a.length:Int)
  ·rw[oP h,AS w ys];simp;lia
  ·rw[Dq h,AS w ys];simp;lia
theorem DV (w:Wy)(y:Lt)(n:Nat):(mZ w y n).nm=y.nm:=by
 unfold mZ
 split
 ·rfl
 ·split<;>rfl
theorem Kh (w:Wy)(P:Str->Prop):∀ (ys:List Lt) (a b:List Lt),(∀ x∈a,P x.nm)->(∀ x∈b,P x.nm)->(∀ x∈ys,P x.nm)->(∀ x∈(ys.foldl (bK w) (a,b)).1,P x.nm)/\∀ x∈(ys.foldl (bK w) (a,b)).2,P x.nm
 | [],a,b,h1,h2,_=>⟨h1,h2⟩
 | y::ys,a,b,h1,h2,h3=>by
  rw[YH]
  have hy:=h3 y Xl
  have hr:∀ x∈ys,P x.nm:=λx hx=>h3 x (Xp _ hx)
  by_cases h:w.rm<=(a.length:Int)
  ·rw[oP h]
   refine Kh w P ys _ _ h1 (λx hx=>?_) hr
   rcases Yi.mp hx with z | z
   ·exact h2 x z
   ·have:x=y:=by simpa using z
    subst this;exact hy
  ·rw[Dq h]
   refine Kh w P ys _ _ (λx hx=>?_) h2 hr
   rcases Yi.mp hx with z | z
   ·exact h1 x z
   ·have:x=mZ w y a.length:=by simpa using z
    subst this;rw[DV];exact hy
def Vf:=Jn @Wg <| Jn @VL <| Jn @V5 <| Jn @lt_0 <| Jn @W4 <| Jn @VH <| Jn @Wf <| Jn @VA <| @TF
local macro_rules | `(tactic| walk_at "go")=>zzS "↓L3.Vf L3.D4 ↓L3.zM ↓L3.yj ↓L3.ya ↓L3.zU ↓L3.yg ↓L3.yY ↓L3.jS ↓L3.iH ↓L3.mG ↓L3.my ↓L3.mi ↓L3.mU L3.cp L3.bT L3.cq L3.cx L3.cu L3.cw L3.cU L3.cL L3.bR L3.ck L3.cy L3.cA L3.cC L3.cR L3.cj L3.cT L3.cz L3.cW L3.cv L3.cP L3.iJ L3.vy L3.wg L3.eL List.map_cons List.map_nil List.replicate List.cons_append List.nil_append L3.lk L3.EI L3.EM L3.EU L3.AH L3.DY L3.Ex L3.j5 L3.fQ L3.uv L3.nk L3.tU L3.tO L3.tP L3.tX L3.jP L3.gY L3.mQ L3.mN L3.mC L3.mO L3.jX L3.jT L3.jU L3.jR true_and and_true and_self Bool.not_true Bool.not_false decide_true decide_false Bool.or_true Bool.or_false Bool.true_or Bool.false_or Bool.and_false Bool.false_and Bool.and_true Bool.true_and Int.reduceToNat Int.reducePow Int.reduceNeg Int.reduceSub Int.reduceAdd Int.reduceMul Int.reduceEq Int.reduceLT Int.reduceLE Int.reduceBEq L3.iw L3.fk L3.fu L3.fD L3.fN L3.ft L3.fm L3.fB if_true if_false Bool.false_eq_true reduceCtorEq decide_eq_true_eq"
def nz (ws os:List Str)(l:Str):Option Str:=match (ws.filter λw=>decide (w∈os)).filter λw=>ltS l w with
 | x::_=>some x
 | []=>(ws.filter λw=>decide (w∈os)).head?
theorem rE {ws os:List Str}{l n:Str}(h:nz ws os l=some n):n∈ws/\n∈os:=by
 unfold nz at h
 have hm:n∈ws.filter λw=>decide (w∈os):=by
  split at h
  ·rename_i x r e
   cases h
   have:n∈(ws.filter λw=>decide (w∈os)).filter λw=>ltS l w:=by rw[e];exact Xl
   exact (XZ.mp this).1
  ·exact List.mem_of_head? h
 have:=XZ.mp hm
 exact ⟨this.1,by simpa using this.2⟩
theorem rH {ws os:List Str}{l w:Str}(h1:w∈ws)(h2:w∈os):∃ n,nz ws os l=some n:=by
 have hm:w∈ws.filter λw=>decide (w∈os):=XZ.mpr ⟨h1,by simpa using h2⟩
 unfold nz
 split
 ·exact ⟨_,rfl⟩
 ·cases e:(ws.filter λw=>decide (w∈os)) with
  | nil=>rw[e] at hm;cases hm
  | cons x r=>exact ⟨x,rfl⟩
theorem K7 (w:Str)(os:List Str):inG (.str w) (os.map .str)=decide (w∈os):=by
 unfold inG
 rw[List.any_map]
 induction os with
 | nil=>simp
 | cons o r ih=>
  rw[ZY,ih]
  simp only[Function.comp_apply,nk]
  by_cases h:o=w
  ·simp[h]
  ·simp[h,XA h,eq_comm]
theorem Co {n:Nat}{os:List Str}(h:∀ o∈os,Xn o=true):cH n (os.map .str)=true:=by
 induction os with
 | nil=>rfl
 | cons o r ih=>
  rw[Xm,fQ,AH,h o Xl,ih λx hx=>h x (Xp _ hx)];rfl
theorem xO (os:List Str)(p:Str->Bool):(os.map D.str).filterMap (λd=>match d with
  | .str w=>if p w then some (D.str w) else none
  | _=>none)=(os.filter p).map D.str:=by
 induction os with
 | nil=>rfl
 | cons o r ih=>
  rw[Xm,YV,Zg]
  dsimp only
  cases p o with
  | true=>simp[ih]
  | false=>simp[ih]
def fI:FSp:=λds μ Q=>kcA ds λd ds=>kcL ds λos' ds=>kcS ds λl ds=>kcN ds (∃ (ws os:List Str) (n:Str),((d=.tup (ws.map .str)∨d=.ls (ws.map .str))/\os'=os.map .str/\(∀ w∈ws,Xn w=true)/\(∀ w∈os,Xn w=true)/\ws.length<=900000/\nz ws os l=some n)/\Q (.str n) μ)
theorem sX:zz_l fI 3:=by walk_at "&ALS"
def nV:STr:=by walk_at "~21"
theorem vI:zz_q fI nV 5:=by
 walk_at "^nV! Ad Los' Sl"
 obtain ⟨ws,os,n,⟨hd,rfl,h1,h2,hl,hn⟩,k⟩:=h
 have go:∀ d,d=.tup (ws.map .str)∨d=.ls (ws.map .str)->∀ f:List D->Prop,f (ws.map .str)->kS d f:=λd h f hf=>by rcases h with rfl | rfl<;>exact hf
 refine go d hd _ ?_
 refine wH (λd=>match d with
  | .str w=>if decide (w∈os) then some (.str w) else none
  | _=>none) (by rw[Xc];lia) (λd hd μ' _ N n=>?_) ?_
 ·obtain ⟨w,hw,rfl⟩:=Xh.mp hd
  walk_at "go"
  rw[Co h2,K7]
  have:=h1 w hw
  simp only[this,true_and]
  dsimp only at n
  refine kif (λh=>?_) λh=>?_
  ·rw[decide_eq_true h] at n;exact n
  ·rw[decide_eq_false h] at n;exact n
 ·rw[xO ws λw=>decide (w∈os)]
  generalize hth:(ws.filter λw=>decide (w∈os))=th at *
  have lth:th.length<=900000:=by rw[← hth];exact Yd (YZ _ _) hl
  walk_at "go"
  refine wH (λd=>match d with
   | .str w=>if ltS l w then some (.str w) else none
   | _=>none) (by rw[Xc];lia) (λd hd μ' _ N n=>?_) ?_
  ·obtain ⟨w,hw,rfl⟩:=Xh.mp hd
   walk_at "go"
   dsimp only at n
   refine Uw (λh=>?_) λh=>?_
   ·rw[h] at n;exact n
   ·rw[h] at n;exact n
  ·rw[xO th λw=>ltS l w]
   unfold nz at hn
   rw[hth] at hn
   walk_at "go"
   cases e:th.filter λw=>ltS l w with
   | nil=>
    rw[e] at hn
    have hn:th.head? = some n:=hn
    cases th with
    | nil=>cases hn
    | cons x r=>
    cases hn
    walk_at "go"
    show kIf false _ _
    walk_at "go"
    exact ⟨_,.refl _,k⟩
   | cons x r=>
    rw[e] at hn
    have hn:some x=some n:=hn
    cases hn
    walk_at "go"
    refine C9 (by simp) ?_
    exact ⟨_,.refl _,k⟩
def at1 (n:Str)(st:List Lt):Nat:=st.findIdx λx=>decide (x.nm=n)
def c7 (ws:List Str)(p:Int):Nat->List Lt->List Lt->Str->List Lt×List Lt×Str
 | 0,st,out,l=>(out,st,l)
 | f+1,st,out,l=>if 0 < st.length/\(out.length:Int) < p then (match nz ws (st.map Lt.nm) l with
   | some n=>(match st[at1 n st]? with
    | some x=>c7 ws p f (st.eraseIdx (at1 n st)) (out++[x]) n
    | none=>(out,st,l))
   | none=>(out,st,l)) else (out,st,l)
theorem J3 {n:Str}{st:List Lt}(h:n∈st.map Lt.nm):at1 n st < st.length:=by
 obtain ⟨x,hx,rfl⟩:=Xh.mp h
 exact List.findIdx_lt_length_of_exists ⟨x,hx,by simp⟩
theorem uq {α β:Type}(f:α->β):∀ (l:List α) (i:Nat),(l.map f).eraseIdx i=(l.eraseIdx i).map f
 | [],_=>by simp
 | _::_,0=>rfl
 | a::l,i+1=>by simp[uq f l i]
theorem Qh {n:Str}{st:List Lt}(h:n∈st.map Lt.nm):FE ((st.map Lt.nm).map .str) (.str n)=some (at1 n st):=by
 unfold FE
 have hl:=J3 h
 rw[zaJ]
 have e1:∀ m (hm:m < ((st.map Lt.nm).map D.str).length),eqD ((st.map Lt.nm).map D.str)[m] (.str n)=decide ((st[m]'(by simpa using hm)).nm=n):=by
  intro m hm
  simp[nk]
 refine ⟨by simpa using hl,?_,λj hj=>?_⟩
 ·rw[e1]
  have hl':(st.findIdx λx=>decide (x.nm=n)) < st.length:=hl
  have:=List.findIdx_getElem (xs:=st) (p:=λx=>decide (x.nm=n)) (w:=hl')
  exact this
 ·rw[e1]
  have:=List.not_of_lt_findIdx (xs:=st) (p:=λx=>decide (x.nm=n)) hj
  simpa using this
theorem pB {ws:List Str}{p:Int}{f:Nat}{st out:List Lt}{l:Str}(h:¬ (0 < st.length/\(out.length:Int) < p)):c7 ws p f st out l=(out,st,l):=by
 cases f with
 | zero=>rfl
 | succ f=>unfold c7;rw[if_neg h]
theorem yS {ws:List Str}{p:Int}{f:Nat}{st out:List Lt}{l n:Str}{x:Lt}(h:0 < st.length/\(out.length:Int) < p)(hn:nz ws (st.map Lt.nm) l=some n)(hx:st[at1 n st]? = some x) :
  c7 ws p (f+1) st out l=c7 ws p f (st.eraseIdx (at1 n st)) (out++[x]) n:=by
 conv=>lhs;unfold c7
 rw[if_pos h,hn]
 dsimp only
 rw[hx]
theorem MS {n k:Nat}(h:k < n):L2.ixN n (k:Int)=some k:=by rw[Lu,if_pos h]
def mS (ws:List Str)(st:List Lt):Prop:=∀ x∈st,x.nm∈ws
def dN:FSp:=λds μ Q=>kcA ds λwd ds=>kcA ds λd ds=>kcT ds λst' ds=>kcS ds λl ds=>kcN ds (∃ (w:Wy) (ws:List Str) (st:List Lt),(wd=w.toD/\(d=.tup (ws.map .str)∨d=.ls (ws.map .str))/\st'=ltD st/\(∀ x∈ws,Xn x=true)/\mS ws st/\ws.length<=900000/\st.length<=900000)/\
   Q (.tup [.tup (ltD (c7 ws w.pc st.length st [] l).1),.tup (ltD (c7 ws w.pc st.length st [] l).2.1),.str (c7 ws w.pc st.length st [] l).2.2]) μ)
theorem mj:zz_l dN 4:=by walk_at "&AATS"
def jD:STr:=by walk_at "~22"
theorem oa:zz_q dN jD 8:=by
 walk_at "^jD! Awd Ad Tst' Sl"
 obtain ⟨w,ws,st,⟨rfl,hd,rfl,hw,hs,hl1,hl2⟩,k⟩:=h
 intro p hp
 walk_at "go"
 intro q hq
 have qp:q≠p:=λz=>by subst z;rw[ay] at hq;cases hq
 have hqn:μ q=none:=by rw[aE qp] at hq;exact hq
 walk_at "go"
 refine ⟨λρ μ'=>∃ (a o:List Lt) (n:Str) (v7:Option D) (f:Nat),ρ=[some w.toD,some d,some (.tup (ltD st)),some (.str l),some (.obj p),some (.obj q),some (.str n),v7]/\μ' p=some (.lst (ltD a))/\μ' q=some (.lst (ltD o))/\Sub μ μ'/\c7 ws w.pc f a o n=c7 ws w.pc st.length st [] l/\a.length<=f/\a.length+o.length<=900000/\mS ws a,
  λ_ μ'=>match μ' p with
   | some (.lst ds)=>ds.length
   | _=>0,⟨st,[],l,_,st.length,rfl,by rw[aE (XA qp),ay],ay,(Sub.new hp).trans (Sub.new hq),rfl,Xq _,by simpa using hl2,hs⟩,?_⟩
 rintro ρ μ' ⟨a,o,n,v7,f,rfl,ep,eq,sb,e,hf,hz,ha⟩
 have fin:¬ (0 < a.length/\(o.length:Int) < w.pc)->RT Q (.tup [.tup (ltD o),.tup (ltD a),.str n]) μ':=λhn=>by
  rw[pB hn] at e
  rw[← e] at k
  exact ⟨_,sb,k⟩
 walk_at "go"
 refine aY ep ?_
 walk_at "go"
 rw[Xc]
 refine kif (λh1=>?_) λh1=>?_
 rotate_left
 ·refine aY eq ?_
  walk_at "go"
  refine aY ep ?_
  walk_at "go"
  exact fin λh=>h1 (by have:=h.1;lia)
 walk_at "go"
 refine aY eq ?_
 walk_at "go"
 rw[Xc]
 refine kif (λh2=>?_) λh2=>?_
 rotate_left
 ·refine aY eq ?_
  walk_at "go"
  refine aY ep ?_
  walk_at "go"
  exact fin λh=>h2 h.2
 walk_at "go"
 refine aY ep ?_
 refine D1 ep (λd=>match d with
  | .tup (x::_)=>x
  | _=>.non) (by rw[Xc];lia) (λd hd μ2 _ N n=>?_) ?_
 ·obtain ⟨x,hx,rfl⟩:=Xh.mp hd
  walk_at "go"
  exact n
 have em:(ltD a).map (λd=>match d with
  | .tup (x::_)=>x
  | _=>D.non)=(a.map Lt.nm).map .str:=by rw[Xk,Xk];rfl
 rw[em]
 walk_at "go"
 cases a with
 | nil=>simp at h1
 | cons x0 a0=>
 have h0:=ha x0 Xl
 obtain ⟨n2,hn2⟩:=rH (l:=n) h0 (show x0.nm∈(x0::a0).map Lt.nm from Xl)
 generalize hA:x0::a0=A at *
 have hos:∀ z∈A.map Lt.nm,Xn z=true:=λz hz=>by
  obtain ⟨y,hy,rfl⟩:=Xh.mp hz
  exact hw _ (ha y hy)
 refine ⟨ws,A.map Lt.nm,n2,⟨hd,rfl,hw,hos,hl1,hn2⟩,?_⟩
 walk_at "go"
 have hin:=rE hn2
 have hi:=J3 hin.2
 refine aY eq ?_
 walk_at "go"
 refine aY ep ?_
 walk_at "go"
 rw[Co hos,hw _ hin.1,Qh hin.2]
 simp only[true_and]
 walk_at "go"
 refine ⟨by lia,⟨by lia,by lia⟩,aY ep ?_⟩
 rw[Xc,MS hi]
 walk_at "go"
 obtain ⟨x,hx⟩:∃ x,A[at1 n2 A]? = some x:=⟨A[at1 n2 A],Xx hi⟩
 rw[Yp,hx]
 walk_at "go"
 refine aY (by rw[aE qp];exact eq) ⟨by simp;lia,?_⟩
 cases f with
 | zero=>lia
 | succ f=>
 rw[yS ⟨by lia,h2⟩ hn2 hx] at e
 have le:(A.eraseIdx (at1 n2 A)).length=A.length - 1:=List.length_eraseIdx_of_lt hi
 refine ⟨⟨A.eraseIdx (at1 n2 A),o++[x],n2,_,f,rfl,?_,?_,?_,e,by lia,by simp;lia,λy hy=>ha y (List.mem_of_mem_eraseIdx hy)⟩,?_⟩
 ·rw[aE (XA qp),ay,uq]
 ·rw[ay];simp[ltD]
 ·intro z u h
  rw[aE (λe=>by subst e;rw[hqn] at h;cases h),aE (λe=>by subst e;rw[hp] at h;cases h)]
  exact sb z u h
 ·rw[aE (XA qp),ay,ep]
  simp[List.length_eraseIdx,hi]
  lia
def bO (w:Wy)(ws:List Str)(st:List Lt)(l:Str):List Lt×List Lt×Str:=if w.tn then c7 ws w.pc st.length st [] l else (st.take w.pc.toNat,st.drop w.pc.toNat,OF "")
theorem Lf (b:Bool):Xn (zr b)=true:=by cases b<;>decide +kernel
theorem Hc:Xn (OF "turns")=true:=by decide +kernel
theorem Px (b:Bool):decide (zr b=OF "turns")=b:=by cases b<;>decide +kernel
def iD:FSp:=λds μ Q=>kcA ds λwd ds=>kcA ds λd ds=>kcT ds λst' ds=>kcS ds λl ds=>kcN ds (∃ (w:Wy) (ws:List Str) (st:List Lt),(wd=w.toD/\(w.tn=true->(d=.tup (ws.map .str)∨d=.ls (ws.map .str))/\(∀ x∈ws,Xn x=true)/\mS ws st/\ws.length<=900000)/\st'=ltD st/\st.length<=900000/\0<=w.pc)/\
   Q (.tup [.tup (ltD (bO w ws st l).1),.tup (ltD (bO w ws st l).2.1),.str (bO w ws st l).2.2]) μ)
theorem zk:zz_l iD 4:=by walk_at "&AATS"
def uz:STr:=by walk_at "~23"
theorem AY:zz_q iD uz 4:=by
 walk_at "^uz! Awd Ad Tst' Sl"
 obtain ⟨w,ws,st,⟨rfl,ht,rfl,hl,hp⟩,k⟩:=h
 walk_at "go"
 rw[Lf,Hc,Px]
 unfold bO at k
 refine ⟨⟨rfl,rfl⟩,?_⟩
 cases e:w.tn with
 | true=>
  rw[e,if_pos rfl] at k
  obtain ⟨h1,h2,h3,h4⟩:=ht e
  walk_at "go"
  exact ⟨w,ws,st,⟨rfl,h1,rfl,h2,h3,h4,hl⟩,_,.refl _,k⟩
 | false=>
  rw[e,if_neg (by decide)] at k
  walk_at "go"
  rw[VM _ hp,V4 _ hp,Ml,KU]
  exact ⟨_,.refl _,k⟩
abbrev wyD (ws:List Wy):List D:=ws.map Wy.toD
structure Sn where
 nm:Str
 rd:List Str
 bt:Int
 bg:Int
 mn:Option Int
 rl:RN
def Sn.toD (x:Sn):D:=.tup [.str x.nm,.tup (x.rd.map .str),.int x.bt,.int x.bg,cI x.mn,x.rl.toD]
abbrev snD (ss:List Sn):List D:=ss.map Sn.toD
structure Sn.Ok (wn:List Str) (m:Int) (x:Sn):Prop where
 n:Xn x.nm=true
 r0:x.rd≠[]
 r:x.rd.Sublist wn
 b0:1<=x.bt
 b1:x.bt<=8
 g0:0<=x.bg
 g1:x.bg<=1000000
 mm:∀ i,x.mn=some i->0<=i/\i<=1000000
 k:x.rl.Ok
 l:x.rl.r<=m*x.rl.s
structure Pn where
 g:Int
 ws:List Wy
 ss:List Sn
def Pn.toD (p:Pn):D:=.tup [.int p.g,.tup (wyD p.ws),.tup (snD p.ss)]
abbrev Pn.wn (p:Pn):List Str:=p.ws.map Wy.nm
abbrev Pn.sn (p:Pn):List Str:=p.ss.map Sn.nm
structure Pn.Ok (m:Int) (p:Pn):Prop where
 g:Gd p.g
 w0:0 < p.ws.length
 w1:p.ws.length<=6
 wd:p.wn.Nodup
 w:∀ x∈p.ws,x.Ok
 s1:p.ss.length<=8
 sd:p.sn.Pairwise λa b=>ltS a b=true
 s:∀ x∈p.ss,x.Ok p.wn m
def eE (a b:Int):D:=fr (a.fdiv (Ya a b)) (b.fdiv (Ya a b))
theorem Pg (a:Int){b:Int}(b0:0 < b):Vl (eE a b) a b:=Ql a b0
theorem JJ {d:D}{a b:Int}(h:Vl d a b):d=eE a b:=h.uniq (Pg a h.b0)
theorem PB {g:Int}(g0:0 < g):eE 0 g=fr 0 1:=by
 unfold eE
 rw[Int.gcd_zero_left,Int.zero_fdiv]
 have:((g.natAbs:Nat):Int)=g:=by lia
 rw[this,ip g0,Int.ediv_self (by lia)]
abbrev cM (ns:List Int):List D:=ns.map .int
structure Ws where
 cm:List Lt
 st:List Lt
 la:Str
def Ws.toD (x:Ws):D:=.tup [.tup (ltD x.cm),.tup (ltD x.st),.str x.la]
abbrev wsD (xs:List Ws):List D:=xs.map Ws.toD
structure Ss where
 nm:Str
 du:Option Int
 W:Int
 S:Int
 nx:Int
 lf:Option Int
 ag:List Int
 lo:List Int
 gd:Int
 mk':Int
 wt:Int
def Ss.toD (g:Int)(x:Ss):D:=.tup [.str x.nm,cI x.du,eE x.W g,eE x.S g,.int x.nx,cI x.lf,.tup (cM x.ag),.tup (cM x.lo),.int x.gd,.int x.mk',.int x.wt]
abbrev ssD (g:Int)(xs:List Ss):List D:=xs.map (Ss.toD g)
structure St' where
 ws:List Ws
 ss:List Ss
def St'.toD (g:Int)(x:St'):D:=.tup [.tup (wsD x.ws),.tup (ssD g x.ss)]
def Sn.beg (g:Int)(x:Sn):Ss:=⟨x.nm,some x.bg,x.rl.p*g / x.rl.q,0,0,x.mn,[],[],0,0,0⟩
def Pn.beg (p:Pn):St':=⟨p.ws.map λ_=>⟨[],[],OF ""⟩,p.ss.map (Sn.beg p.g)⟩
theorem VI (x:Sn)(μ:Mu)(Q:DK):L3.rIx x.toD (.int 0) μ Q=Q (.str x.nm) μ:=propext Xf
theorem Vy (x:Sn)(μ:Mu)(Q:DK):L3.rIx x.toD (.int 1) μ Q=Q (.tup (x.rd.map .str)) μ:=propext Xf
theorem WZ (x:Sn)(μ:Mu)(Q:DK):L3.rIx x.toD (.int 2) μ Q=Q (.int x.bt) μ:=propext Xf
theorem WD (x:Sn)(μ:Mu)(Q:DK):L3.rIx x.toD (.int 3) μ Q=Q (.int x.bg) μ:=propext Xf
theorem WO (x:Sn)(μ:Mu)(Q:DK):L3.rIx x.toD (.int 4) μ Q=Q (cI x.mn) μ:=propext Xf
theorem Vv (x:Sn)(μ:Mu)(Q:DK):L3.rIx x.toD (.int 5) μ Q=Q (x.rl.toD) μ:=propext Xf
theorem V6 (x:Pn)(μ:Mu)(Q:DK):L3.rIx x.toD (.int 0) μ Q=Q (.int x.g) μ:=propext Xf
theorem WS (x:Pn)(μ:Mu)(Q:DK):L3.rIx x.toD (.int 1) μ Q=Q (.tup (wyD x.ws)) μ:=propext Xf
theorem VP (x:Pn)(μ:Mu)(Q:DK):L3.rIx x.toD (.int 2) μ Q=Q (.tup (snD x.ss)) μ:=propext Xf
theorem VJ (x:Ws)(μ:Mu)(Q:DK):L3.rIx x.toD (.int 0) μ Q=Q (.tup (ltD x.cm)) μ:=propext Xf
theorem Wb (x:Ws)(μ:Mu)(Q:DK):L3.rIx x.toD (.int 1) μ Q=Q (.tup (ltD x.st)) μ:=propext Xf
theorem We (x:Ws)(μ:Mu)(Q:DK):L3.rIx x.toD (.int 2) μ Q=Q (.str x.la) μ:=propext Xf
theorem W2 (g:Int)(x:Ss)(μ:Mu)(Q:DK):L3.rIx (x.toD g) (.int 0) μ Q=Q (.str x.nm) μ:=propext Xf
theorem WM (g:Int)(x:Ss)(μ:Mu)(Q:DK):L3.rIx (x.toD g) (.int 1) μ Q=Q (cI x.du) μ:=propext Xf
theorem WT (g:Int)(x:Ss)(μ:Mu)(Q:DK):L3.rIx (x.toD g) (.int 2) μ Q=Q (eE x.W g) μ:=propext Xf
theorem W7 (g:Int)(x:Ss)(μ:Mu)(Q:DK):L3.rIx (x.toD g) (.int 3) μ Q=Q (eE x.S g) μ:=propext Xf
theorem Wa (g:Int)(x:Ss)(μ:Mu)(Q:DK):L3.rIx (x.toD g) (.int 4) μ Q=Q (.int x.nx) μ:=propext Xf
theorem Wc (g:Int)(x:Ss)(μ:Mu)(Q:DK):L3.rIx (x.toD g) (.int 5) μ Q=Q (cI x.lf) μ:=propext Xf
theorem Wh (g:Int)(x:Ss)(μ:Mu)(Q:DK):L3.rIx (x.toD g) (.int 6) μ Q=Q (.tup (cM x.ag)) μ:=propext Xf
theorem WR (g:Int)(x:Ss)(μ:Mu)(Q:DK):L3.rIx (x.toD g) (.int 7) μ Q=Q (.tup (cM x.lo)) μ:=propext Xf
theorem Wm (g:Int)(x:Ss)(μ:Mu)(Q:DK):L3.rIx (x.toD g) (.int 8) μ Q=Q (.int x.gd) μ:=propext Xf
theorem Wr (g:Int)(x:Ss)(μ:Mu)(Q:DK):L3.rIx (x.toD g) (.int 9) μ Q=Q (.int x.mk') μ:=propext Xf
theorem Ux (g:Int)(x:Ss)(μ:Mu)(Q:DK):L3.rIx (x.toD g) (.int 10) μ Q=Q (.int x.wt) μ:=propext Xf
theorem WV (g:Int)(x:St')(μ:Mu)(Q:DK):L3.rIx (x.toD g) (.int 0) μ Q=Q (.tup (wsD x.ws)) μ:=propext Xf
theorem V8 (g:Int)(x:St')(μ:Mu)(Q:DK):L3.rIx (x.toD g) (.int 1) μ Q=Q (.tup (ssD g x.ss)) μ:=propext Xf
def TX:=Jn @VI <| Jn @Vy <| Jn @WZ <| Jn @WD <| Jn @WO <| Jn @Vv <| Jn @V6 <| Jn @WS <| Jn @VP <| Jn @VJ <| Jn @Wb <| Jn @We <| Jn @W2 <| Jn @WM <| Jn @WT <| Jn @W7 <| Jn @Wa <| Jn @Wc <| Jn @Wh <| Jn @WR <| Jn @Wm <| Jn @Wr <| Jn @Ux <| Jn @WV <| Jn @V8 <| @Vf
local macro_rules | `(tactic| walk_at "go")=>zzS "↓L3.TX L3.D4 ↓L3.zM ↓L3.yj ↓L3.ya ↓L3.zU ↓L3.yg ↓L3.yY ↓L3.jS ↓L3.iH ↓L3.mG ↓L3.my ↓L3.mi ↓L3.mU L3.cp L3.bT L3.cq L3.cx L3.cu L3.cw L3.cU L3.cL L3.bR L3.ck L3.cy L3.cA L3.cC L3.cR L3.cj L3.cT L3.cz L3.cW L3.cv L3.cP L3.iJ L3.vy L3.wg L3.eL List.map_cons List.map_nil List.replicate List.cons_append List.nil_append L3.lk L3.EI L3.EM L3.EU L3.AH L3.DY L3.Ex L3.j5 L3.fQ L3.uv L3.nk L3.tU L3.tO L3.tP L3.tX L3.jP L3.gY L3.mQ L3.mN L3.mC L3.mO L3.jX L3.jT L3.jU L3.jR true_and and_true and_self Bool.not_true Bool.not_false decide_true decide_false Bool.or_true Bool.or_false Bool.true_or Bool.false_or Bool.and_false Bool.false_and Bool.and_true Bool.true_and Int.reduceToNat Int.reducePow Int.reduceNeg Int.reduceSub Int.reduceAdd Int.reduceMul Int.reduceEq Int.reduceLT Int.reduceLE Int.reduceBEq L3.iw L3.fk L3.fu L3.fD L3.fN L3.ft L3.fm L3.fB if_true if_false Bool.false_eq_true reduceCtorEq decide_eq_true_eq"
def gB:FSp:=λds μ Q=>kcA ds λd ds=>kcI ds λg ds=>kcN ds (∃ R:RN,(d=R.toD/\R.Ok/\Gd g)/\Q (.tup [eE (R.p*g / R.q) g,eE 0 g]) μ)
theorem wR:zz_l gB 2:=by walk_at "&AI"
def p8:STr:=by walk_at "~24"
theorem xH:zz_q gB p8 2:=by
 walk_at "^p8! Ad Ig"
 obtain ⟨R,⟨rfl,K,g0,g1⟩,k⟩:=h
 obtain ⟨xs,e,e0,e1,e3,e4⟩:=R.tup K.st
 have WB:=K.w.bd (by decide) (by decide)
 rw[e]
 walk_at "go"
 rw[zH,e1]
 walk_at "go"
 refine ⟨R.p,R.q,⟨iI K.w,WB.1.mono (by decide),WB.2.mono (by decide),by lia,by lia⟩,λw V=>?_⟩
 walk_at "go"
 rw[JJ V]
 rw[PB (show 0 < g by lia)] at k
 exact ⟨_,.refl _,k⟩
def dM:FSp:=λds μ Q=>kcI ds λg ds=>kcA ds λd ds=>kcN ds (∃ x:Sn,(d=x.toD/\x.rl.Ok/\Gd g)/\Q ((x.beg g).toD g) μ)
theorem mK:zz_l dM 2:=by walk_at "&IA"
def jI:STr:=by walk_at "~25"
theorem oh:zz_q dM jI 3:=by
 walk_at "^jI! Ig Ad"
 obtain ⟨x,⟨rfl,K,G⟩,k⟩:=h
 walk_at "go"
 refine ⟨x.rl,⟨rfl,K,G⟩,?_⟩
 walk_at "go"
 exact ⟨_,.refl _,k⟩
def lU:FSp:=λds μ Q=>kcA ds λd ds=>kcN ds (∃ p:Pn,(d=p.toD/\(∀ x∈p.ss,x.rl.Ok)/\Gd p.g/\p.ws.length<=900000/\p.ss.length<=900000)/\Q (p.beg.toD p.g) μ)
theorem D5:zz_l lU 1:=by walk_at "&A"
def Cw:STr:=by walk_at "~26"
theorem HH:zz_q lU Cw 2:=by
 walk_at "^Cw! Ad"
 obtain ⟨p,⟨rfl,K,G,l1,l2⟩,k⟩:=h
 walk_at "go"
 refine comp_map (λ_=>.tup [.tup [],.tup [],.str ""]) (by rw[Xc];lia) (λd hd μ' _ N n=>?_) ?_
 ·walk_at "go"
  exact n
 ·walk_at "go"
  refine bE p.ss Sn.toD (λx=>(x.beg p.g).toD p.g) rfl (by lia) (λx hx μ' _ N n=>?_) ?_
  ·walk_at "go"
   exact ⟨x,⟨rfl,K x hx,G⟩,n⟩
  ·walk_at "go"
   refine ⟨_,.refl _,?_⟩
   have e1:(wyD p.ws).map (λ_=>D.tup [.tup [],.tup [],.str ""])=wsD p.beg.ws:=by simp[Pn.beg,wsD,wyD,Ws.toD,zeb]
   have e2:p.ss.map (λx=>(x.beg p.g).toD p.g)=ssD p.g p.beg.ss:=by simp[Pn.beg,ssD,zeb]
   rw[e1,e2];exact k
section
open PySem.Spec PyProof.Rows L2
section
variable {prog:XO} {w:X0} {A:X8} {E:Xe->Xg->Prop} {s:Xg}
abbrev GS (a c:Int)(acc:Array Xe)(n:Nat):Prop:=ItemsOf (λi v=>∃ t,v=.int (a+i*c) t) acc n
abbrev Kept (s:Xg)(g:Heap):Prop:=∀ b o,s.heap.get? b=some o->g.get? b=some o
structure Rg (s:Xg) (r:Addr) (a b c:Int) (n:Nat):Prop where
 at':∃ t u v,IsRange s.heap r a b c t u v
 sm:zfI a b c=true
 sz:zaE a b c=n
 le:n<=1048576
theorem run_plain {id:String}{bi:za4}{args:Args}{R:zeq->Xg->Prop}(hp:plainId id=true)(he:entryFor table id=some bi)
  (h:Xy (XF prog w) A.in1 (bi args) (λfin s'=>match fin with | .done f=>R (.ok f) s' | .again c'=>c'.quiet=true/\Z3 (XF prog w) A c' R s') (λe s'=>R (.error e) s') s):Z3 (XF prog w) A (.builtin id args) R s:=
 zcu he (by rw[za9 hp];exact h)
theorem kz {R:zeq->Xg->Prop}{r:Addr}{a b c:Int}{n:Nat}(hh:A.handled=none)(G:Rg s r a b c n)
  (hR:∀ (g:Heap) (tk:Nat) (acc:Array Xe) (e:Nat),Kept s g->g.get? s.heap.objs.size=some { cls:=.type "list", dict:=none,data:=.seq acc e,slots:=#[] }->GS a c acc n->R (.ok (.ret (.ref s.heap.objs.size))) { s with heap:=g,toks:=tk }) :
  Z3 (XF prog w) A (.builtin "proto.collect" ⟨[.ref r],[]⟩) R s:=by
 obtain ⟨⟨t,u,v,hr⟩,sm,sz,le⟩:=G
 have l24:n<=2 ^ 24:=by lia
 have ext:=λh0=>wpAny_extend_range (prog:=prog) (w:=w) (A:=A) (R:=R) (s:={ s with heap:=s.heap.push { cls:=.type "list", data:=.seq #[] } }) hh (Xd _ hr) sm sz l24 s.heap.objs.size (.ref s.heap.objs.size) 0 h0 λg tk acc e kp new its=>
  hR g tk acc e (λb o q=>kp b o (XI (Xs q)) (Xd _ q)) new its
 exact run_plain F.plain_proto_collect F.entry_proto_collect (Xb (Ye (Xj ⟨ZA zec _,run_plain zec F.entry_list_iadd (ext (Xw _ rfl))⟩)))
theorem sS {Q:List Xe->Xg->Prop}{r:Addr}{a b c:Int}{n:Nat}(hh:A.handled=none)(G:Rg s r a b c n)
  (hQ:∀ (g:Heap) (tk:Nat) (acc:Array Xe),Kept s g->GS a c acc n->Q acc.toList { s with heap:=g,toks:=tk }):Xy (XF prog w) A (collect (.ref r)) Q E s:=by
 unfold collect
 exact Xb (wpAny_runValue (kz hh G λg tk acc e kp new its=>Xb (wpAny_load new (Xj (hQ g tk acc kp its)))))
theorem mI {Q:Xe->Xg->Prop}{r:Addr}{a b c:Int}{n:Nat}(hh:A.handled=none)(G:Rg s r a b c n)
  (hQ:∀ (g:Heap) (tk:Nat) (acc:Array Xe),Kept s g->GS a c acc n->Q (.ref g.objs.size) { s with heap:=g.push { cls:=.type "tuple", data:=.seq acc },toks:=tk }) :
  Xy (XF prog w) A (zcB (.type "tuple") [.ref r]) Q E s:=by
 have isr:s.TypeIs (.ref r) "range" := let ⟨t,u,v,hr⟩:=G.at';⟨_,hr,rfl⟩
 have fit:n<=sizeLine:=by have:=G.le;rw[zcJ];lia
 have made:Z3 (XF prog w) A.in1 (.call (.builtin "tuple.__new__") ⟨[.type "tuple", .ref r],[]⟩) (wants (λobj s₁=>s₁.TypeIs obj "tuple" /\ Q obj s₁) E) s:=by
  refine codeAny_of_tree (Xb (zeK (F.newCall_tuple_1 _) (Xj ⟨ZA zed _,run_plain zed F.entry_tuple_new ?_⟩)))
  have u1:=sub_tuple_self
  have u2:=init_tuple_lookup
  have u3:=madeHere_tuple
  wp_walk using wpAny_typeOf isr,sS (A:=A.in1.in1) hh G
  intro g tk acc kp its
  have whole:acc.toList.toArray=acc:=zcY
  have few:acc.toList.toArray.size<=sizeLine:=by rw[whole,its.1];exact fit
  have end':Xy (XF prog w) A.in1.in1 (Yn acc.toList.toArray) (λv s'=>wants (λobj s₁=>s₁.TypeIs obj "tuple" /\ Q obj s₁) E (.ok (.ret v)) s') (λe s'=>wants (λobj s₁=>s₁.TypeIs obj "tuple" /\ Q obj s₁) E (.error e) s') { s with heap:=g,toks:=tk }:=by
   unfold Yn;exact Ye (by rw[whole];exact ⟨⟨_,Xw _ rfl,rfl⟩,hQ g tk acc kp its⟩) few
  exact (show Xy _ _ (Yn acc.toList.toArray >>= λv=>ret v) _ _ _ from Xb (Yt end' (λv s' h=>Xj h) λ_ _ h=>h))
 exact callType_codes zcZ (F.typeCall_tuple_1 _) F.entry_object_init made λobj s₁ h₁=>⟨h₁.1,zc0 obj _,object_init_meets zcZ.init.lookup zcZ.made (by decide) prog w A.in1 _ s₁ ⟨h₁.1,rfl,h₁.2⟩⟩
end
section
variable {X:Cx} {ea eb:XJ} {Ta Tb:ETr} {p p2 pos rpos:Pos}
def Ud (t:TA):TE:=λσ H Q=>t σ H λvs H1=>∃ i j:Int,vs=[.int i,.int j]/\(-(2 ^ 62)<=i/\i < 2 ^ 62/\-(2 ^ 62)<=j/\j < 2 ^ 62/\(j - i).toNat<=1000000)/\∀ z,H1 z=none->Q (.ref z) (L2.upd H1 z (.tup ((XX (j - i).toNat).map λ(k:Nat)=>V.int (i+(k:Int)))))
theorem tF:∀ {us:List Xe} {vs:List V},us.length=vs.length->(∀ (j:Nat) u v,us[j]? = some u->vs[j]? = some v->RelV v u)->Vals vs us:=by
 intro us
 induction us with
 | nil=>
  intro vs hl _
  cases vs with
  | nil=>exact .nil
  | cons _ _=>cases hl
 | cons u us ih=>
  intro vs hl h
  cases vs with
  | nil=>cases hl
  | cons v vs=>exact .cons (h 0 u v rfl rfl) (ih (by simpa using hl) λj a b h1 h2=>h (j+1) a b h1 h2)
theorem MH {t:TA}(hc:X.calm=true)(hg:Gl X "tuple")(hm:X.mg "tuple" = none)(hgr:Gl X "range")(hmr:X.mg "range" = none)(ha:PA X [ea,eb] t)(hs:Xt [ea,eb] X.env=[(false,Yr ea X.env),(false,Yr eb X.env)]:=by rfl)(hs2:Xt [eb] X.env=[(false,Yr eb X.env)]:=by rfl)
  (hs0:Xt [.Call (.Name "range" p2) [ea,eb] [] rpos] X.env=(false,Yr (.Call (.Name "range" p2) [ea,eb] [] rpos) X.env)::Xt [] X.env:=by rfl) :
  PE X (.Call (.Name "tuple" p) [.Call (.Name "range" p2) [ea,eb] [] rpos] [] pos) (Ud t):=by
 intro pins s σ H Q I h
 refine Call_ (iA I hg hm boot_tuple (Yo ?_ hs0 rfl))
 rw[hs0]
 show Xy _ _ (spliced ((false,Yr _ X.env)::YI pos (Xt [] X.env))) _ _ s
 refine zdy (Call_ (iA I hgr hmr boot_range (Yo (thn (ha rpos pins s σ H _ I h) λus s1 ⟨vs,H1,I1,r1,q1⟩=>?_) (by rw[hs,hs2]) (by rw[hs2];rfl))))
 obtain ⟨i,j,e,⟨h1,h2,h3,h4,h5⟩,q⟩:=q1
 subst e
 cases r1 with | cons r rr=>cases rr with | cons r' rr=>
 cases rr
 obtain ⟨t1,rfl⟩:=r
 obtain ⟨t2,rfl⟩:=r'
 refine call_range_2 (zdO ?_)
 have e2:zaE i j 1=((j - i).toNat:Nat):=by rw[rangeSize_one];split<;>lia
 refine mI (n:=(j - i).toNat) (I1.ok.hd hc) ⟨⟨_,_,_,zfE ..⟩,small_one h1 h2 h3 h4,e2,by lia⟩ λh' tk acc hk hacc=>?_
 have I2:Inv X pins σ H1 { s1 with heap:=h',toks:=tk }:=I1.kept (t':=tk) λb o e=>hk b o (Xd _ e)
 refine ⟨.ref h'.objs.size,_,I2.laid (t':=tk) (o:=.tup ((XX (j - i).toNat).map λ(k:Nat)=>V.int (i+(k:Int)))) (λb o e=>Xd _ e) (Xq _) ⟨?_,acc.toList,tF ?_ λm u v hu hv=>?_,?_⟩,rfl,q _ (I2.hok.fresh (Xq _))⟩
 ·rw[Xc,zee];exact big (by lia)
 ·rw[Xc,zee,zao,hacc.1]
 ·have hu':acc[m]? = some u:=by simpa using hu
  obtain ⟨t3,rfl⟩:=hacc.2 m u hu'
  have hm:m < (j - i).toNat:=by
   have:=(Array.getElem?_eq_some_iff.mp hu').1
   exact hacc.1 ▸ this
  rw[Yp,zdb hm] at hv
  cases hv
  exact ⟨t3,by simp⟩
 ·rw[zcY];exact wu.new h' acc
def Ka (Ta Tb:ETr):ETr:=λρ μ Q=>Ta ρ μ λx μ1=>Tb ρ μ1 λy μ2=>kI x λi=>kI y λj=>((-4611686018427387904<=i/\i < 4611686018427387904)/\(-4611686018427387904<=j/\j < 4611686018427387904)/\(j - i).toNat<=1000000)/\Q (.tup (c5 i (j - i).toNat)) μ2
theorem EL {K:Xa}{H:Hp}(i:Int)(n:Nat):DpL K H ((XX n).map λ(k:Nat)=>V.int (i+(k:Int))) (c5 i n):=by
 unfold c5
 generalize XX n=l
 induction l with
 | nil=>exact .nil
 | cons a l ih=>exact .cons (.int _) ih
theorem K9 (hc:X.calm=true)(hg:Gl X "tuple")(hm:X.mg "tuple" = none)(hgr:Gl X "range")(hmr:X.mg "range" = none)(ha:LE X ea Ta)(hb:LE X eb Tb)(hs:Xt [ea,eb] X.env=[(false,Yr ea X.env),(false,Yr eb X.env)]:=by rfl)(hs2:Xt [eb] X.env=[(false,Yr eb X.env)]:=by rfl)
  (hs0:Xt [.Call (.Name "range" p2) [ea,eb] [] rpos] X.env=(false,Yr (.Call (.Name "range" p2) [ea,eb] [] rpos) X.env)::Xt [] X.env:=by rfl) :
  LE X (.Call (.Name "tuple" p) [.Call (.Name "range" p2) [ea,eb] [] rpos] [] pos) (Ka Ta Tb):=by
 obtain ⟨ta,pa,sa⟩:=ha.ex
 obtain ⟨tb,pb,sb⟩:=hb.ex
 refine ⟨_,MH hc hg hm hgr hmr (eA pa (eA pb iT hs2) (by rw[hs,hs2])) hs hs2 hs0,λσ H ρ μ Q Q' rl h k=>sa σ H ρ μ _ _ rl h λx H1 d μ1 t1 m1 p1 h1=>sb σ H1 ρ μ1 _ _ (rl.go t1 m1) h1 λy H2 d2 μ2 t2 m2 p2 h2=>?_⟩
 cases p1 with
 | int i=>
  cases p2 with
  | int j=>
   obtain ⟨⟨⟨h3,h4⟩,⟨h5,h6⟩,h7⟩,h8⟩:=h2
   refine ⟨i,j,rfl,⟨by simpa using h3,by simpa using h4,by simpa using h5,by simpa using h6,h7⟩,λz hz=>?_⟩
   have tn:Tk H2 (L2.upd H2 z (.tup ((XX (j - i).toNat).map λ(k:Nat)=>V.int (i+(k:Int))))):=.new hz
   exact k _ _ _ μ2 ((t1.trans t2).trans tn) (c6 m2 hz) (.tup (SqT.of aK) (EL i _)) h8
  | _=>exact Xi h2
 | _=>exact Xi h2
end
end
section
open PySem.Spec PyProof.Rows L2
section
variable {prog:XO} {w:X0} {A:X8} {E:Xe->Xg->Prop} {s:Xg}
theorem sortedHeap_at {g:Heap}{vs:List Xe}{out:Array Xe}{k:Nat}(e:(g.push (zbz "list" vs.toArray k)).get? g.objs.size=some (zbz "list" vs.toArray k)):(∃ n,(zfh (g.push (zbz "list" vs.toArray k)) g.objs.size vs out).get? g.objs.size=some (zbz "list" out n))/\∀ b o,g.get? b=some o->(zfh (g.push (zbz "list" vs.toArray k)) g.objs.size vs out).get? b=some o:=by
 have lt:g.objs.size < (g.push (zbz "list" vs.toArray k)).objs.size:=by rw[size_push'];lia
 unfold zfh
 constructor
 ·have e1:=get?_update_seq e λ_=>#[]
  have e2:∀ o1 o2:Obj,((((g.push (zbz "list" vs.toArray k)).update g.objs.size (zce λ_=>#[])).push o1).push o2).get? g.objs.size=_:=λo1 o2=>Xd _ (Xd _ e1)
  exact ⟨_,get?_update_seq (e2 _ _) λ_=>out⟩
 ·intro b o hb
  have nb:g.objs.size≠b:=XA (XI (Xs hb))
  exact (Yl _ _ nb).trans (Xd _ (Xd _ ((Yl _ _ nb).trans (Xd _ hb))))
theorem Cm {tp:Addr}{vs:List Xe}{ns:List Int}{Q:Xe->Xg->Prop}(hl:zeH s.heap tp vs.toArray)(hI:zay vs ns)(few:vs.length < 64)
  (h:∀ (g g1:Heap) (out:Array Xe) (n:Nat) (ns':List Int),Kept s g->(∀ b o,g.get? b=some o->g1.get? b=some o)->g1.get? g.objs.size=some (zbz "list" out n)->zay out.toList ns'->ns'.Perm ns->ns'.Pairwise (·<=·)->Q (.ref g.objs.size) { s with heap:=g1 }) :
  Xy (XF prog w) A (zcB (.builtin "sorted") [.ref tp]) Q E s:=by
 obtain ⟨ob,e1,e2,ne,e3⟩:=hl
 have fits:vs.toArray.size<=sizeLine:=by rw[Xz,zcJ];lia
 have rest:∀ g:Heap,(∀ b o,s.heap.get? b=some o->g.get? b=some o)->Xy (XF prog w) A.in1 (do let z ← newList vs;let _ ← zdM [z] (zcB (.builtin "list.sort") [z]);ret z) (λfin s'=>∃ v,fin=.done (.ret v)/\Q v s') E { s with heap:=g }:=λg kp=>by
  have at':(g.push (zbz "list" vs.toArray 0)).get? g.objs.size=some (zbz "list" vs.toArray 0):=Xw _ rfl
  have done:=λout ns' (a1:zay out.toList ns') (a2:ns'.Perm ns) (a3:ns'.Pairwise (·<=·))=>let ⟨⟨m,e⟩,old⟩:=sortedHeap_at (out:=out) at';h g _ out m ns' kp old e a1 a2 a3
  exact Xb (wpAny_newList (Xb (ZX (YK slot_list_sort ⟨_,at',rfl⟩ entry_list_sort (list_sort_tree at' hI few λout ns' a1 a2 a3=>⟨_,rfl,Xj ⟨_,rfl,done out ns' a1 a2 a3⟩⟩) (args_list_sort _)))))
 refine Calls.call_function_entry (b:=za4.«sorted») kind_sorted plain_sorted entry_sorted (args_sorted1 _) ?_
 show Xy _ _ (do checkCount "sorted" 1 1 1;let xs ← collect (.ref tp);let z ← newList xs;let _ ← zdM [z] (zcB (.builtin "list.sort") [z]);ret z) _ _ s
 exact Xb (Xj (Xb (wpAny_collect_seq tp (.inr rfl) e1 e2 e3 (λg kp=>rest g kp) fits)))
end
def Q9 (K:Xa):List V->Hp->VK->Prop:=λxs H Q=>∃ (p:Addr) (ns:List Int),xs=[.ref p]/\(SqL K H p (ns.map V.int)∨SqT K H p (ns.map V.int))/\ns.length < 64/\∀ ns':List Int,ns'.Perm ns->ns'.Pairwise (·<=·)->∀ z,H z=none->Q (.ref z) (L2.upd H z (.lst (ns'.map V.int)))
theorem zX {X:Cx}:bV X (.builtin "sorted") (Q9 X.K):=λpins s σ H xs us Q I rx ⟨p,ns,e1,sq,hl,q⟩=>by
 rcases sq with sq | sq
 ·exact Ah pins s σ H xs us Q I rx ⟨p,ns,e1,sq,hl,q⟩
 subst e1
 obtain ⟨u,rfl,ru⟩:=vals1 rx
 cases ru
 obtain ⟨its,rv,pl,hz⟩:=I.tuple sq
 have hi:zay its ns:=intsAre_of rv
 have hlen:its.length < 64:=by rw[hi.length];exact hl
 refine Cm pl hi hlen λg g1 out n ns' kp old e a1 a2 a3=>?_
 have I2:Inv X pins σ H { s with heap:=g }:=I.kept (t':=s.toks) kp
 refine ⟨.ref g.objs.size,_,I2.laid (t':=s.toks) (o:=.lst (ns'.map V.int)) old (Xq _) ?_,rfl,q ns' a2 a3 _ (I2.hok.fresh (Xq _))⟩
 have z1:ns'.length=ns.length:=a2.length_eq
 exact ⟨by rw[Xc,z1];exact zaK (XG hl (by decide)),out.toList,n,iE a1,by simpa[zbz] using e⟩
def rJ:FSp:=λds μ Q=>match ds with
 | [x]=>kS x λxs=>∃ ns:List Int,(xs=ns.map .int/\ns.length < 64)/\∀ ns':List Int,ns'.Perm ns->ns'.Pairwise (·<=·)->Q (.ls (ns'.map .int)) μ
 | _=>False
theorem yN {X:Cx}{e:XJ}{x:Str}{p pos:Pos}{At:ATr}(hg:Gl X x)(hm:X.mg x=none)(hv:YC x=some (.builtin "sorted"))(ha:LA X [e] At)(hn:x ≠ "__name__" := by decide)(hdb:(x == ("__debug__" : Str))=false:=by decide)
  (h1:Xt [e] X.env=(false,Yr e X.env)::Xt [] X.env:=by rfl) (h2:(YI pos (Xt [] X.env)).any (·.1)=false:=by rfl):LE X (.Call (.Name x p) [e] [] pos) (aw rJ At):=by
 obtain ⟨ta,pa,sa⟩:=ha.ex
 refine ⟨_,kG (qJ zX hg hm hv pa hn hdb h1 h2),λσ H ρ μ Q Q' rl h k=>sa σ H ρ μ _ _ rl h λxs H1 ds μ1 t1 m1 p1 h1=>?_⟩
 unfold rJ at h1
 split at h1
 ·cases p1 with | cons p1 p2=>
  cases p2
  cases p1 with
  | @ls q xs ds sq l=>
   obtain ⟨ns,⟨rfl,hl⟩,h2⟩:=h1
   have ex:=l.ints_of
   subst ex
   exact ⟨q,ns,rfl,.inl sq.sq,hl,λns' a2 a3 z hz=>gq m1 (DpL.ints ns') (h2 ns' a2 a3) (k.go t1) hz⟩
  | @tup q xs ds sq l=>
   obtain ⟨ns,⟨rfl,hl⟩,h2⟩:=h1
   have ex:=l.ints_of
   subst ex
   exact ⟨q,ns,rfl,.inr sq,hl,λns' a2 a3 z hz=>gq m1 (DpL.ints ns') (h2 ns' a2 a3) (k.go t1) hz⟩
  | _=>exact Xi h1
 ·exact h1.elim
theorem uw {X:Cx}(hc:X.calm=true):bV X (.builtin "sum") (λxs H Q=>∃ (p:Addr) (ns:List Int),xs=[.ref p]/\SqL X.K H p (ns.map V.int)/\Q (.int ns.sum) H):=λpins s σ H xs us Q I rx ⟨p,ns,e1,sq,q⟩=>by
 subst e1
 obtain ⟨u,rfl,ru⟩:=vals1 rx
 cases ru
 obtain ⟨its,rv,pl,_⟩:=I.list sq
 obtain ⟨ps,rfl,rfl⟩:=eP (intsAre_of rv)
 have il:s.heap.IsList p (zav ps.toArray):=by
  have:=pl.isList
  simpa[zav] using this
 refine sum_intListG (I.ok.hd hc) il λh' tk t' hk=>?_
 have e:preSum (zcP ps.toArray) ps.toArray.size=(ps.map zd3).sum:=by
  rw[preSum_eq,ZM (by simp)]
 rw[e]
 exact ⟨.int _,H,I.kept hk,⟨t',rfl⟩,q⟩
def xl:FSp:=λds μ Q=>match ds with
 | [.ls xs]=>∃ ns:List Int,xs=ns.map .int/\Q (.int ns.sum) μ
 | _=>False
theorem xV {K:Xa}:kc K (λxs H Q=>∃ (p:Addr) (ns:List Int),xs=[.ref p]/\SqL K H p (ns.map V.int)/\Q (.int ns.sum) H) xl:=λH μ xs ds Q Q' m p h k=>by
 unfold xl at h
 split at h
 ·obtain ⟨ns,rfl,h⟩:=h
  cases p with | cons p1 p2=>
  cases p2
  cases p1 with
  | @ls q xs ds sq l=>
   have ex:=l.ints_of
   subst ex
   exact ⟨q,ns,rfl,sq.sq,k _ H _ μ (.refl H) m (.int _) h⟩
 ·exact h.elim
end
section
open PySem.Spec PyProof.Rows L2
section
variable {prog:XO} {w:X0} {A:X8} {E:Xe->Xg->Prop} {s:Xg}
theorem HY {tp:Bool}{e it a:Addr}{i:Nat}{xs:Array Xe}{x old:Xe}{Q:Option Xe->Xg->Prop}(en:zcn s.heap e it i old)(li:gZ tp s.heap it a i)(se:fF tp s.heap a xs)(hx:xs[i]? = some x)(ne:e≠it)
  (q:∀ g,IsEnumOut g e it ((i:Int)+1) x s.heap.objs.size->gZ tp g it a (i+1)->g.get? s.heap.objs.size=some { cls:=.type "tuple", data:=.seq #[.int i s.toks,x] }->
   (∀ c o,c≠e->c≠it->s.heap.get? c=some o->g.get? c=some o)->Q (some (.ref s.heap.objs.size)) { s with heap:=g,toks:=s.toks+1 }):Xy (XF prog w) A (zaB (.ref e)) Q E s:=by
 have ty:s.TypeIs (.ref e) "enumerate" := ⟨_,en,rfl⟩
 unfold zaB
 refine Xb (zbP (Yj (name:=OF "__next__") ty Z0 (YK Z0 ty zco ?_ (zb5 _))))
 refine Xb (m:=zcN (.ref e) 2) (Yb en rfl (x:=.ref it) rfl (Xb (m:=XS (.ref it)) (pk li se hx λg1 li1 k1=>?_)))
 have en1:zcn g1 e it i old:=(k1.2 e ne).trans en
 refine Xb (m:=zcN (.ref e) 3) (Yb (s:={ s with heap:=g1 }) en1 rfl (x:=zbr i) rfl (Xb (m:=zcN (.ref e) 4) (Yb (s:={ s with heap:=g1 }) en1 rfl (x:=.none) rfl (Xb (m:=mkInt i) (zeO ?_)))))
 refine Xb (m:=setField (.ref e) 3 (zbr ((i:Int)+1))) (Yf en1 (by simp) λg2 en2 k2=>?_)
 have en2:zcn g2 e it ((i:Int)+1) old:=en2
 refine Xb (m:=setField (.ref e) 4 .none) (Yf en2 (by simp) λg3 en3 k3=>?_)
 have en3:zcn g3 e it ((i:Int)+1) old:=en3
 refine Xb (m:=newTuple [.int i s.toks,x]) (wpAny_newTuple ?_)
 have sz:g3.objs.size=s.heap.objs.size:=by rw[k3.1,k2.1,k1.1]
 have en4:zcn (g3.push { cls:=.type "tuple", data:=.seq #[.int i s.toks,x] }) e it ((i:Int)+1) old:=Xd _ en3
 have elt:e < g3.objs.size:=Xs en3
 refine Xb (m:=X4 (.ref e)) ?_
 delta X4
 refine Xb (Yb (s:={ s with heap:=g3.push { cls:=.type "tuple", data:=.seq #[.int i s.toks,x] },toks:=s.toks+1 }) en4 rfl (x:=.none) rfl (Xj ?_))
 simp only[if_true]
 refine Xb (Zy (Xb (Yb en4 rfl (x:=old) rfl (Xb (Yf en4 (by simp) λg5 en5 k5=>?_)))))
 have en5:zcn g5 e it ((i:Int)+1) x:=en5
 refine Xb (m:=Yx (.ref e) (.ref g3.objs.size)) ?_
 delta Yx
 refine Xb (Yf en5 (by simp) λg6 en6 k6=>?_)
 have en6:IsEnumOut g6 e it ((i:Int)+1) x g3.objs.size:=en6
 refine Yf en6 (by simp) λg7 en7 k7=>?_
 have en7:IsEnumOut g7 e it ((i:Int)+1) x g3.objs.size:=en7
 have up3:∀ c o,c≠e->g3.get? c=some o->g7.get? c=some o:=λc o c1 h=>(k7.2 c c1).trans ((k6.2 c c1).trans ((k5.2 c c1).trans (Xd _ h)))
 have new:g7.get? g3.objs.size=some { cls:=.type "tuple", data:=.seq #[.int i s.toks,x] }:=(k7.2 _ (ZK elt)).trans ((k6.2 _ (ZK elt)).trans ((k5.2 _ (ZK elt)).trans (Xw _ rfl)))
 rw[sz] at en7 new
 have fin:=q g7 en7 (li1.at λo h=>up3 it o (XA ne) ((k3.2 it (XA ne)).trans ((k2.2 it (XA ne)).trans h))) new λc o c1 c2 h=>up3 c o c1 ((k3.2 c c1).trans ((k2.2 c c1).trans ((k1.2 c c2).trans h)))
 rw[← sz] at fin
 exact Xb (zab (Xj ⟨_,rfl,Xj fin⟩))
theorem NW {tp:Bool}{e it a:Addr}{i:Nat}{xs:Array Xe}{old:Xe}{Q:Option Xe->Xg->Prop}(hh:A.handled=none)(en:zcn s.heap e it i old)(li:gZ tp s.heap it a i)(se:fF tp s.heap a xs)(hx:xs[i]? = none)
  (q:∀ g,zeJ it s.heap g->Q none { s with heap:=g }):Xy (XF prog w) A (zaB (.ref e)) Q E s:=by
 have ty:s.TypeIs (.ref e) "enumerate" := ⟨_,en,rfl⟩
 unfold zaB
 refine Xb (zbP (Yj (name:=OF "__next__") ty Z0 (YK Z0 ty zco ?_ (zb5 _))))
 refine Xb (m:=zcN (.ref e) 2) (Yb en rfl (x:=.ref it) rfl (Xb (m:=XS (.ref it)) (AJ hh li se hx λg z kp sz=>?_)))
 obtain ⟨o,ho,hc⟩:=sz
 exact Xb (wpAny_isInstance (T := "StopIteration") (b:=true) ⟨o,ho,hc⟩ isSubtype_stop (Xj (q _ kp)))
theorem G7 (tp:Bool)(a:Addr)(xs:Array Xe):Meets (za4.«enumerate.__new__» ⟨[.type "enumerate", .ref a],[]⟩) (λ_ R s=>fF tp s.heap a xs/\
   R (.ok (.ret (.ref (s.heap.push (itO tp a)).objs.size))) { s with heap:=(s.heap.push (itO tp a)).push { cls:=.type "enumerate", data:=.fields #[.none,.bool false,.ref s.heap.objs.size,zbr 0,.none,.none] } }):=
 .of_wp λprog w A R s h=>by
  rcases s with ⟨hp,g,d,tk,os⟩
  obtain ⟨h1,h⟩:=h
  have hs0:=sub_enumerate
  have H1:fF tp (zeL ⟨hp,g,d,tk,os⟩) a xs:=h1
  wp_walk
  refine wpAny_stack_any λstk=>Xj ?_
  split
  ·rename_i c _ _ _ _ _
   cases (c == zdw "enumerate")<;>(wp_walk using L4 H1;exact ⟨_,rfl,h⟩)
  ·wp_walk using L4 H1
   exact ⟨_,rfl,h⟩
theorem Aa {tp:Bool}{a:Addr}{xs:Array Xe}{Q:Xe->Xg->Prop}(h1:fF tp s.heap a xs)
  (q:∀ g,zcn g (s.heap.objs.size+1) s.heap.objs.size 0 .none->gZ tp g s.heap.objs.size a 0->(∀ c o,s.heap.get? c=some o->g.get? c=some o)->Q (.ref (s.heap.objs.size+1)) { s with heap:=g }) :
  Xy (XF prog w) A (zcB (.type "enumerate") [.ref a]) Q E s:=by
 refine callType_new F.called_enumerate (by decide) (F.typeCall_enumerate_1 _) (F.newCall_enumerate_1 _) (λobj=>zc0 obj _) F.entry_enumerate_new (G7 tp a xs) ⟨h1,?_⟩
 have s1:(s.heap.push (itO tp a)).objs.size=s.heap.objs.size+1:=zac ..
 have new:zcn ((s.heap.push (itO tp a)).push { cls:=.type "enumerate", data:=.fields #[.none,.bool false,.ref s.heap.objs.size,zbr 0,.none,.none] }) (s.heap.push (itO tp a)).objs.size s.heap.objs.size 0 .none:=Xw _ rfl
 refine ⟨⟨_,new,rfl⟩,?_⟩
 rw[s1] at new ⊢
 refine q _ new ?_ λc o h=>Xd _ (Xd _ h)
 have z:=Xd { cls:=.type "enumerate", data:=.fields #[.none,.bool false,.ref s.heap.objs.size,zbr 0,.none,.none] } (Xw s.heap (o:=itO tp a) (by cases tp<;>rfl))
 cases tp<;>exact ⟨_,z,rfl,rfl⟩
end
def Itn (tp:Bool)(K:Xa)(a:Addr):It:=
 ⟨λi H=>∃ xs x,Sq tp K H a xs/\xs[i]? = some x,
  λi H v H'=>∃ x p,(∀ xs,Sq tp K H a xs->xs[i]? = some x)/\v=.ref p/\H p=none/\H'=L2.upd H p (.tup [.int i,x]),
  λi H=>∃ xs,Sq tp K H a xs/\xs.length<=i⟩
structure NAt (tp:Bool) (h:Heap) (e it a:Addr) (k:Nat):Prop where
 en:∃ old,zcn h e it k old
 li:gZ tp h it a k
theorem Ij {P:XO}{w:X0}{K:Xa}{es:List XJ}{ek:Nat}{ep:Pos}{tp:Bool}{e it a:Addr}(n1:e≠it) :
  Turn P w K (.Tuple es ek ep) (Itn tp K a) [e,it] e (λk h=>NAt tp h e it a k) where
 mem:=by simp
 obj:=λk h S c hc=>by
  obtain ⟨⟨old,en⟩,li⟩:=S
  simp only[Xr,XW,or_false] at hc
  rcases hc with rfl | rfl
  ·exact ⟨_,en,λv y=>by cases y⟩
  ·obtain ⟨o,ho,vs,hd⟩:=li.ex;exact ⟨o,ho,λv y=>by rw[hd] at y;cases y⟩
 keep:=λk h g S kp=>by
  obtain ⟨⟨old,en⟩,li⟩:=S
  exact ⟨⟨old,kp e (by simp) _ en⟩,li.at λo q=>kp it (by simp) o q⟩
 item:=by
  intro X hP hw hK hc k pins s σ H E I hf S hg
  subst hP hw hK
  obtain ⟨xs,x,qa,ex⟩:=hg
  obtain ⟨⟨old,en⟩,li⟩:=S
  obtain ⟨ia,ra,sa⟩:=Inv.sq I qa
  obtain ⟨ux,hux,rx⟩:=ra.get ex
  have elt:e < s.heap.objs.size:=Xs en
  have fr:H s.heap.objs.size=none:=I.hok.fresh (Xq _)
  refine HY en li sa (x:=ux) (by simpa using hux) n1 λg eo li2 new al=>⟨_,rfl,wpAny_letOwnedTupleGo_enum eo λg2 en2 k2=>?_⟩
  have k2:zaf e g g2:=k2
  have all:∀ c o,c ∉ [e,it]->s.heap.get? c=some o->g2.get? c=some o:=λc o hc q=>by
   simp only[Xr,XW,or_false,not_or] at hc
   exact (k2.2 c hc.1).trans (al c o hc.1 hc.2 q)
  have new2:g2.get? s.heap.objs.size=some { cls:=.type "tuple", data:=.seq #[.int k s.toks,ux] }:=(k2.2 _ (ZK elt)).trans new
  have nfp:∀ c u,H c=some u->c ∉ [e,it]:=λc u q hc=>by rw[(hf c hc).1] at q;cases q
  refine ⟨.ref s.heap.objs.size,L2.upd H s.heap.objs.size (.tup [.int k,x]),?_,rfl,⟨x,_,λxs' q=>by rw[Inv.BY I q qa];exact ex,rfl,fr,rfl⟩,⟨⟨_,en2⟩,li2.at λo q=>(k2.2 it (XA n1)).trans q⟩,λc hc=>?_⟩
  ·refine L2.Inv.step (s:=s) (H:=H) (H':=L2.upd H s.heap.objs.size (.tup [.int k,x])) (g':=s.gens) (d':=s.drawn) (t':=s.toks+1) (h':=g2) (ch:=[e,it]) I (λc hc=>⟨(hf c hc).2.2.2.1,(hf c hc).2.1,(hf c hc).2.2.2.2.1,(hf c hc).2.2.2.2.2⟩) (λc o _ _ hc q _=>all c o hc q) (λc o _ _ hc q _=>⟨o.slots,all c o hc q⟩) (λc o hc q n=>?_) (λc o hc q=>⟨o,all c o hc q⟩)
    (λc xs q=>?_) (λc o u q=>?_) (λc ps q=>⟨#[],?_⟩) (λm hm=>?_) (λc u q=>?_) I.bare
   ·rw[aJ (XI (Xs q))];exact n
   ·rw[aJ (bo q fr)];exact q
   ·rw[aJ (bo q fr)];exact q
   ·rw[aJ (bo q fr),q];simp
   ·obtain ⟨o,es',ep',ho,r⟩:=hm
    exact ⟨o,es',ep',all _ o (λhc=>(hf _ hc).2.1 rfl) ho,r⟩
   ·by_cases hcT:c=s.heap.objs.size
    ·subst hcT
     rw[aK] at q;cases q
     exact ⟨by show 2<=sizeLine;decide,[.int k s.toks,ux],.cons ⟨s.toks,rfl⟩ (.cons rx .nil),⟨_,new2⟩⟩
    ·rw[aJ hcT] at q
     refine (I.hok c u q).nX (λc' v hc' z=>all c' v ?_ z) (λc' z=>by rw[aJ (bo z fr)];exact z) λc' xs z=>by rw[aJ (bo z fr)];exact z
     rcases hc' with rfl | hc'
     ·exact nfp _ _ q
     ·exact nfp _ _ hc'
  ·have hcl:c≠s.heap.objs.size:=by
    simp only[Xr,XW,or_false] at hc
    rcases hc with rfl | rfl
    ·exact XI elt
    ·obtain ⟨o,q,_⟩:=li.ex;exact XI (Xs q)
   rw[aJ hcl];exact (hf c hc).1
 done:=by
  intro X hP hw hK hc k pins s σ H E I hf S hg
  subst hP hw hK
  obtain ⟨xs,qa,he⟩:=hg
  obtain ⟨⟨old,en⟩,li⟩:=S
  obtain ⟨ia,ra,sa⟩:=Inv.sq I qa
  have la:=ra.length
  obtain ⟨f0,f1,f2,f3,f4,f5⟩:=hf it (by simp)
  exact NW (I.ok.hd hc) en li sa (by simp;lia) λg eb=>⟨rfl,I.turned (t':=s.toks) (λb o hb q=>eb b o hb q) f0 f1 f3 f4 f5⟩
 self:=λ_ _ _ _ _ S h=>by
  obtain ⟨⟨old,en⟩,_⟩:=S
  exact zef en h
def WE (K:Xa)(t:TA):TI:=λσ H R=>t σ H λvs H1=>∃ (tp:Bool) (a:Addr),vs=[.ref a]/\(∃ xs,Sq tp K H1 a xs)/\R (Itn tp K a) H1
section
variable {X:Cx} {ea:XJ} {es:List XJ} {ek:Nat} {ep p pos:Pos}
theorem QB {t:TA}(hg:Gl X "enumerate")(hm:X.mg "enumerate" = none)(ha:PA X [ea] t)(hs:Xt [ea] X.env=[(false,Yr ea X.env)]:=by rfl) :
  PI X (.Tuple es ek ep) (.Call (.Name "enumerate" p) [ea] [] pos) (WE X.K t):=by
 intro pins s σ H R I h
 refine Call_ (iA I hg hm boot_enumerate (Yo (thn (ha pos pins s σ H _ I h) λus s1 ⟨vs,H1,I1,r1,q1⟩=>?_) (by rw[hs];rfl) rfl))
 obtain ⟨tp,a,e,⟨xs,qa⟩,q⟩:=q1
 subst e
 cases r1 with | cons r rr=>
 cases rr
 cases (show _=XQ a from r)
 obtain ⟨ia,ra,sa⟩:=Inv.sq I1 qa
 refine Aa sa λg en li kp=>zef en ?_
 refine ⟨s1.heap.objs.size+1,[s1.heap.objs.size+1,s1.heap.objs.size],_,_,H1,rfl,I1.kept (t':=s1.toks) kp,Ij (tp:=tp) (a:=a) (Nat.succ_ne_self _),⟨⟨_,en⟩,li⟩,λc hc=>?_,q⟩
 have hc':s1.heap.objs.size<=c:=by
  simp only[Xr,XW,or_false] at hc
  rcases hc with rfl | rfl
  ·exact zcM _
  ·exact Xq _
 exact I1.EA hc' (I1.hok.fresh hc')
def Ja (t:ATr):ATr:=λρ μ Q=>t ρ μ λvs μ1=>match vs with
 | [x]=>kS x λds=>Q (ko ds) μ1
 | _=>False
theorem LQ {At:ATr}(hg:Gl X "enumerate")(hm:X.mg "enumerate" = none)(ha:LA X [ea] At)(hs:Xt [ea] X.env=[(false,Yr ea X.env)]:=by rfl) :
  LI X (.Tuple es ek ep) (.Call (.Name "enumerate" p) [ea] [] pos) (Ja At):=by
 obtain ⟨t,pt,st⟩:=ha.ex
 refine ⟨_,QB hg hm pt hs,λσ H ρ μ Q R rl h k=>st σ H ρ μ _ _ rl h λvs H1 ds μ1 t1 m1 p1 h1=>?_⟩
 split at h1
 case h_2=>exact Xi h1
 cases p1 with | cons pa p2=>
 cases p2
 obtain ⟨tp,a,xs,dx,rfl,qa,la,h2⟩:=Au pa h1
 obtain ⟨a',xs',dx',ea',qa',la',h2⟩:=Bl pa h2
 cases ea'
 refine ⟨tp,a,rfl,⟨xs',qa'.sq⟩,k _ H1 _ μ1 t1 m1 ⟨λi H' tk hi=>?_,λi H' v H'' tk hi yv=>?_,λi H' tk hi=>?_⟩ h2⟩
 ·have l1:=la'.length
  rw[uF] at hi
  exact ⟨xs',xs'[i],tk.sq qa',by simp[show i < xs'.length by lia]⟩
 ·obtain ⟨x,q,fx,rfl,fr,rfl⟩:=yv
  have ex:=fx _ (tk.sq qa')
  obtain ⟨d,ed,pd⟩:=la'.get' ex
  have tn:Tk H' (L2.upd H' q (.tup [.int i,x])):=.new fr
  exact ⟨tn,⟨.tup [.int i,d],by rw[uh,ed];rfl,.tup (SqT.of aK) (.cons (.int _) (.cons ((pd.mono tk).mono tn) .nil))⟩,λμ' m'=>c6 m' fr⟩
 ·rw[uF] at hi
  exact ⟨xs',tk.sq qa',by rw[la'.length];exact hi⟩
end
end
section
open PySem.Spec PyProof PyProof.Rows L2
section
variable {w:X0} {prog:XO} {A:X8} {E:Xe->Xg->Prop}
abbrev T4 (g:Heap)(b:Addr)(xs:Array Xe):Prop:=∃ n,g.get? b=some { cls:=.type "list", dict:=none,data:=.seq xs n,slots:=#[] }
section
variable {R:zeq->Xg->Prop} {I:Addr} {fp wr:List Addr} {n:Nat} {P:Nat->Xe->Prop} {St:Nat->Heap->Prop}
theorem KH (W:Walks prog w A.in1 I fp wr n P St){bt:Nat->Nat->Bool}(cm:CmpOf prog w A.in1 .Gt P bt){S:Addr}(hS:S ∉ fp)(kw:List (Str×Xe)) :
  ∀ (m:Nat) (j:Nat) (s:Xg) (vb:Xe),j+1+m=n->St (j+1) s.heap->P (zaz bt j) vb->T4 s.heap S #[vb,vb]->
  (∀ v g tk,P (zaz bt (n - 1)) v->(∀ c o,c ∉ wr->c≠S->s.heap.get? c=some o->g.get? c=some o)->R (.ok (.ret v)) { s with heap:=g,toks:=tk })->
  Z3 (XF prog w) A (.builtin "max.loop" ⟨[.ref I,.none,.ref S],kw⟩) R s:=by
 have sw:S ∉ wr:=λh=>hS (W.sub _ h)
 have nm:(toString "max" ++ toString ".loop" : String) = "max.loop" := by decide
 intro m
 induction m with
 | zero=>
  intro j s vb en st pb ⟨ep,at'⟩ fin
  refine run_plain Zh zb6 ?_
  show Xy (XF prog w) A.in1 (zc7 (.ref S) >>= _) _ _ s
  refine Xb (Ym at' rfl ?_)
  show Xy (XF prog w) A.in1 (tryCatch (zaB (.ref I)) _ >>= _) _ _ s
  refine Xb (zad (W.done s _ _ (by rw[← en];exact st) λg tk kp=>?_))
  have at1:=kp S _ sw at'
  show Xy (XF prog w) A.in1 (updateSeq S (λ_=>#[]) >>= _) _ _ _
  refine Xb ?_
  refine zaA at1 rfl ?_;refine Xb (zab (Xj ?_))
  exact fin vb _ tk (by rw[show n - 1=j by lia];exact pb) λc o c1 c2 e=>(Yl _ _ (XA c2)).trans (kp c o c1 e)
 | succ m ih=>
  intro j s vb en st pb ⟨ep,at'⟩ fin
  refine run_plain Zh zb6 ?_
  show Xy (XF prog w) A.in1 (zc7 (.ref S) >>= _) _ _ s
  refine Xb (Ym at' rfl ?_)
  show Xy (XF prog w) A.in1 (tryCatch (zaB (.ref I)) _ >>= _) _ _ s
  refine Xb (zad (W.item (j+1) s _ _ (by lia) st λv g tk pv st1 kp=>?_))
  have at1:=kp S _ sw at'
  show Xy (XF prog w) A.in1 (tryCatch (zdM [v,v] (richCompare .Gt v vb >>= _)) _ >>= _) _ _ _
  refine Xb (zad (ZX (Xb (cm (j+1) (zaz bt j) v vb _ _ _ pv pb ?_))))
  refine Xb (ZX (Y9 (Xb (zab (Xj ?_)))))
  cases better:bt (j+1) (zaz bt j) with
  | true=>
   rw[if_pos rfl]
   have bst:zaz bt (j+1)=j+1:=by rw[zaz,if_pos better]
   refine Xb ?_
   refine zaA at1 rfl ?_
   refine Xb (zab ?_)
   rw[nm]
   refine Xj ⟨ZA Zh _,ih (j+1) _ v (by lia) (W.frame _ _ _ st1 λc hc o e=>(Yl _ _ (λz:S=c=>hS (by rw[z];exact hc))).trans e) (by rw[bst];exact pv) ⟨_,zaW _ at1 rfl⟩ λv' g' tk' p' kp'=>?_⟩
   exact fin v' g' tk' p' λc o c1 c2 e=>kp' c o c1 c2 ((Yl _ _ (XA c2)).trans (kp c o c1 e))
  | false=>
   rw[if_neg ZJ]
   have bst:zaz bt (j+1)=zaz bt j:=by rw[zaz,if_neg (by rw[better];exact ZJ)]
   refine Xb (zab ?_)
   rw[nm]
   exact Xj ⟨ZA Zh _,ih (j+1) _ vb (by lia) st1 (by rw[bst];exact pb) ⟨_,at1⟩ λv' g' tk' p' kp'=>fin v' g' tk' p' λc o c1 c2 e=>kp' c o c1 c2 (kp c o c1 e)⟩
theorem Jy (W:Walks prog w A.in1 I fp wr n P St){bt:Nat->Nat->Bool}(cm:CmpOf prog w A.in1 .Gt P bt){S:Addr}(hS:S ∉ fp){s:Xg}{nm':Str}{d:Xe}(st:St 0 s.heap)(at0:T4 s.heap S #[])
  (f0:n=0->∀ g tk,(∀ c o,c ∉ wr->c≠S->s.heap.get? c=some o->g.get? c=some o)->R (.ok (.ret d)) { s with heap:=g,toks:=tk })
  (f1:∀ v g tk,0 < n->P (zaz bt (n - 1)) v->(∀ c o,c ∉ wr->c≠S->s.heap.get? c=some o->g.get? c=some o)->R (.ok (.ret v)) { s with heap:=g,toks:=tk }) :
  Z3 (XF prog w) A (.builtin "max.loop" ⟨[.ref I,.none,.ref S],[(nm',d)]⟩) R s:=by
 have sw:S ∉ wr:=λh=>hS (W.sub _ h)
 have nm:(toString "max" ++ toString ".loop" : String) = "max.loop" := by decide
 obtain ⟨ep,at'⟩:=at0
 refine run_plain Zh zb6 ?_
 show Xy (XF prog w) A.in1 (zc7 (.ref S) >>= _) _ _ s
 refine Xb (Ym at' rfl ?_)
 show Xy (XF prog w) A.in1 (tryCatch (zaB (.ref I)) _ >>= _) _ _ s
 rcases Nat.eq_zero_or_pos n with hn | hn
 ·refine Xb (zad (W.done s _ _ (by rw[hn];exact st) λg tk kp=>?_))
  show Xy (XF prog w) A.in1 (rule _ >>= _) _ _ _
  exact Xb (Zy (Xj (f0 hn g tk λc o c1 c2 e=>kp c o c1 e)))
 ·refine Xb (zad (W.item 0 s _ _ hn st λv g tk pv st1 kp=>?_))
  have at1:=kp S _ sw at'
  show Xy (XF prog w) A.in1 (updateSeq S (λ_=>#[v,v]) >>= _) _ _ _
  refine Xb ?_
  refine zaA at1 rfl ?_
  rw[nm]
  refine Xj ⟨ZA Zh _,KH W cm hS _ (n - 1) 0 _ v (by lia) (W.frame _ _ _ st1 λc hc o e=>(Yl _ _ (λz:S=c=>hS (by rw[z];exact hc))).trans e) pv ⟨_,zaW _ at1 rfl⟩ λv' g' tk' p' kp'=>?_⟩
  exact f1 v' g' tk' hn p' λc o c1 c2 e=>kp' c o c1 c2 ((Yl _ _ (XA c2)).trans (kp c o c1 e))
end
variable {s:Xg}
theorem D2 (a d:Xe):argsOk "max" ⟨[a],[(OF "default", d)]⟩:=by unfold argsOk;kernel_rfl
theorem Fb (d:Xe):zbn "max" ["key", "default"] 0 ⟨[],[(OF "default", d)]⟩=pure [none,some d]:=by kernel_rfl
theorem MX {id:String}{bi:za4}{a:Args}{Q:Xe->Xg->Prop}(hk:builtinKind id=none)(hp:plainId id=true)(hb:entryFor table id=some bi)(ha:argsOk id a)
  (h:Xy (XF prog w) A.in1 (bi a) (λfin s'=>match fin with
   | .done f=>(match (Except.ok f:zeq) with | .ok (.ret v)=>Q v s' | .ok _=>False | .error e=>E e s') | .again c'=>c'.quiet=true/\Z3 (XF prog w) A c' (λr s'=>match r with | .ok (.ret v)=>Q v s' | .ok _=>False | .error e=>E e s') s') E s):Xy (XF prog w) A (zcB (.builtin id) a.pos a.kw) Q E s:=by
 refine wpAny_call (codeAny_call_builtin hp hb ?_);simp only[checkBuiltinCall,hk]
 unfold argsOk at ha
 split<;>rename_i sg
 ·rw[sg] at ha
  have ha':Bind.checkArgs id _ a=pure ():=ha
  rw[show (⟨a.pos,a.kw⟩:Args)=a from rfl,ha']
  exact Xj h
 ·exact Xj h
theorem Ej {l:Addr}{xs:Array (Int×Tok)}{d:Xe}{Q:Xe->Xg->Prop}(hh:A.handled=none)(hl:s.heap.IsList l (zav xs))
  (f0:xs.size=0->∀ g tk,Kept s g->Q d { s with heap:=g,toks:=tk })
  (f1:∀ v g tk,0 < xs.size->(zav xs)[zaz (λi j=>decide (zcP xs i > zcP xs j)) (xs.size - 1)]? = some v->Kept s g->Q v { s with heap:=g,toks:=tk }) :
  Xy (XF prog w) A (zcB (.builtin "max") [.ref l] [(OF "default", d)]) Q E s:=by
 have nm:(toString "max" ++ toString ".loop" : String) = "max.loop" := by decide
 refine MX (a:=⟨[.ref l],[(OF "default", d)]⟩) F.kind_max F.plain_max F.entry_max (D2 _ _) ?_
 show Xy (XF prog w) A.in1 (zbn "max" ["key", "default"] 0 ⟨[],[(OF "default", d)]⟩ >>= _) _ _ s
 refine Xb (zeK (Fb d) ?_)
 refine Xb (Xj ?_)
 refine Xb (iter_intList hl λs₂ e st hfp hlI=>?_)
 subst e
 refine Xb (Ye ?_);rw[nm]
 have W:=zfL (prog:=prog) (w:=w) (A:=A.in1) hh _ l hlI (zav xs)
 have n1:(zav xs).size=xs.size:=by simp[zav]
 have S0:(s.heap.push { cls:=.type "list_iterator", data:=.fields #[.ref l,.int 0 0] }).objs.size ∉ [s.heap.objs.size,l]:=λhm=>Zx _ (hfp _ hm)
 have old:∀ g,(∀ c o,c ∉ [s.heap.objs.size]->c≠(s.heap.push { cls:=.type "list_iterator", data:=.fields #[.ref l,.int 0 0] }).objs.size->((s.heap.push { cls:=.type "list_iterator", data:=.fields #[.ref l,.int 0 0] }).push { cls:=.type "list", data:=.seq ([]:List Xe).toArray }).get? c=some o->g.get? c=some o)->Kept s g:=λg kp c o e=>by
  have lt:=Xs e
  exact kp c o (λh=>by rw[X9.mp h] at lt;exact Zx _ lt) (by rw[zac];exact XI (Nat.lt_succ_of_lt lt)) (Xd _ (Xd _ e))
 refine Xj ⟨ZA Zh _,Jy W (CmpOf.ints_gt (zcP xs) λ_ _=>zeM) S0 (W.frame _ _ _ st λc _ o e=>Xd _ e) ⟨_,Xw _ rfl⟩ (λz g tk kp=>?_) λv g tk hn pv kp=>?_⟩
 ·exact f0 (by rw[← n1];exact z) g tk (old g kp)
 ·rw[n1] at hn pv
  exact f1 v g tk hn pv (old g kp)
end
section
variable {X:Cx} {e d:XJ} {p pos kp:Pos} {Te Td:ETr}
def Vb (K:Xa)(xs:List V)(zs:List V)(H:Hp)(Q:VK):Prop:=∃ (p:Addr) (ns:List Int) (z:V),xs=[.ref p]/\zs=[z]/\SqL K H p (ns.map V.int)/\(ns=[]->Q z H)/\(ns≠[]->∀ M,M∈ns->(∀ a∈ns,a<=M)->Q (.int M) H)
theorem LF {t tk:TA}(hc:X.calm=true)(hg:Gl X "max")(hm:X.mg "max" = none)(ha:PA X [e] t)(hkw:PK X [⟨some (OF "default"),d,kp⟩] tk)(he:YI pos (Xt [e] X.env)=(false,Yr e X.env)::YI pos (Xt [] X.env):=by rfl)(hpl:(YI pos (Xt [e] X.env)).any (·.1)=false:=by rfl) :
  PE X (.Call (.Name "max" p) [e] [⟨some (OF "default"),d,kp⟩] pos) (λσ H Q=>t σ H λxs H1=>tk σ H1 λzs H2=>Vb X.K xs zs H2 Q):=by
 intro pins s σ H Q I h
 refine zaC (iA I hg hm (u:=.builtin "max") (by rfl) ?_)
 refine callWith_kw (thn (ha pos pins s σ H _ I h) λus s1 ⟨vs,H1,I1,r1,q1⟩=>thn (hkw pos pins s1 σ H1 _ I1 q1) λws s2 ⟨zs,H2,I2,rz,q2⟩=>?_) he hpl rfl rfl
 obtain ⟨q,ns,z,rfl,rfl,sq,k0,k1⟩:=q2
 obtain ⟨u,rfl,ru⟩:=vals1 r1
 cases ru
 obtain ⟨u,rfl,rz1⟩:=vals1 rz
 obtain ⟨its,rv,pl,_⟩:=I2.list sq
 obtain ⟨ps,rfl,rfl⟩:=eP (intsAre_of rv)
 have il:s2.heap.IsList q (zav ps.toArray):=by
  have:=pl.isList
  simpa[zav] using this
 have hs:ps.toArray.size=ps.length:=by simp
 refine Ej (I2.ok.hd hc) il (λz0 g tk kp=>?_) λv g tk hn hv hk=>?_
 ·exact ⟨z,H2,I2.kept kp,rz1,k0 (by rw[hs] at z0;cases ps with | nil=>rfl | cons=>cases z0)⟩
 ·rcases zeM hv with ⟨t,rfl⟩
  obtain ⟨b1,b2⟩:=argBest_gt (zcP ps.toArray) (ps.toArray.size - 1)
  generalize zaz (λi j=>decide (zcP ps.toArray i > zcP ps.toArray j)) (ps.toArray.size - 1)=m at hv b1 b2
  rw[hs] at b1 b2 hn
  have hk':m < (ps.map zd3).length:=by rw[Xc];lia
  refine ⟨.int _,H2,I2.kept hk,⟨t,rfl⟩,k1 (λz=>by rw[zdf.mp z] at hn;cases hn) _ ?_ λa ha=>?_⟩
  ·rw[iS,Xx hk']
   exact YM hk'
  ·obtain ⟨j,hj,rfl⟩:=Zd ha
   have:=b2 j (by rw[Xc] at hj;lia)
   rw[iS ps j,Xx hj] at this
   exact this
def DL (Te Td:ETr):ETr:=λρ μ Q=>Te ρ μ λx μ1=>Td ρ μ1 λy μ2=>match x with
 | .ls xs=>∃ ns:List Int,xs=ns.map .int/\(ns=[]->Q y μ2)/\(ns≠[]->∀ M,M∈ns->(∀ a∈ns,a<=M)->Q (.int M) μ2)
 | _=>False
theorem DA (hc:X.calm=true)(hg:Gl X "max")(hm:X.mg "max" = none)(ha:LE X e Te)(hd:LE X d Td)(h1:Xt [e] X.env=(false,Yr e X.env)::Xt [] X.env:=by rfl)(he:YI pos (Xt [e] X.env)=(false,Yr e X.env)::YI pos (Xt [] X.env):=by rfl)(hpl:(YI pos (Xt [e] X.env)).any (·.1)=false:=by rfl) :
  LE X (.Call (.Name "max" p) [e] [⟨some (OF "default"),d,kp⟩] pos) (DL Te Td):=by
 obtain ⟨te,pe,se⟩:=ha.ex
 obtain ⟨td,pd,sd⟩:=hd.ex
 refine ⟨_,LF hc hg hm (eA pe iT h1) (Ma pd SQ) he hpl,λσ H ρ μ Q Q' rl h k=>se σ H ρ μ _ _ rl h λx H1 dx μ1 t1 m1 p1 h1=>sd σ H1 ρ μ1 _ _ (rl.go t1 m1) h1 λy H2 dy μ2 t2 m2 p2 h2=>?_⟩
 cases (p1.mono t2) with
 | @ls q xs ds sq l=>
  obtain ⟨ns,rfl,k0,k1⟩:=h2
  have ex:=l.ints_of
  subst ex
  exact ⟨q,ns,y,rfl,rfl,sq.sq,λz=>k _ H2 _ μ2 (t1.trans t2) m2 p2 (k0 z),λz M h3 h4=>k _ H2 _ μ2 (t1.trans t2) m2 (.int _) (k1 z M h3 h4)⟩
 | _=>exact Xi h2
end
end
section
open PySem.Spec PyProof.Rows L2
def vf (It':ATr)(G:GTr)(tt:TTr)(te:ETr)(n:Nat)(caps:List Nat):ETr:=λρ μ Q=>It' ρ μ λds μ1=>∀ p,μ1 p=none->fj p G tt te (eL ρ n caps) (λμ'=>Q (.obj p) μ') ds (up μ1 p (.lst []))
theorem Gw {X:Cx}{tg iter elt:XJ}{ifs:List XJ}{scope:Scope}{pos spos py:Pos}{y:Str}{iy:Nat}{wi:TI}{g:TG}{tt:TT}{te:TE}{Nc:List Str}{n:Nat}{caps:List Nat}
  (hxe:X.xe=λ_ _=>False) (hcalm:X.calm=true) (hi:PI X tg iter wi)
  (hbody:∀ (cl:List (Str×Addr)) (C:Addr) (s₀:Xg) (H₀:Hp) (ex:List Addr),PG (ba X scope Nc cl C s₀ H₀ ex) tg g/\xR (ba X scope Nc cl C s₀ H₀ ex) ifs tt/\PE (ba X scope Nc cl C s₀ H₀ ex) elt te)
  (hfree:∀ y∈scope.names,y.2=.free->X.env.kindOf y.1=some .cell) (hcell:∀ y∈scope.names,y.2≠.cell) (fS:scope.kind=.function)
  (hnames:∀ y∈scope.names,y.2=.local->scope.names.lookup y.1=some .local) (hlen:Nc.length=n+caps.length)
  (hcap:∀ (j k:Nat),caps[j]? = some k->∃ x,Nc[n+j]? = some x/\X.N[k]? = some x/\scope.names.lookup x=some .free)
  (pgy:PG X (.Name y py) (lO iy))
  (hsw:Zq (.ListComp elt [⟨tg,iter,ifs,0⟩] scope pos) (some (.Name y py)) spos.line X.env=pure true)
  (hs:∀ x,X6 iter X.env x=pure x:=by intro _;rfl) :
  PS X (.Assign [.Name y py] (.ListComp elt [⟨tg,iter,ifs,0⟩] scope pos) spos) (J7 (kf wi g tt te n caps) (lO iy)):=
 xC (Z:=id) hxe hcalm hi hbody hfree hcell fS hnames hlen hcap pgy hsw (λσ H Q h=>⟨_,h,λpins D H5 s5 I5 q=>⟨H5,λ_ h=>h,I5,q⟩⟩) hs
theorem Es {K:Xa}{wi:TI}{It':ATr}{G:GTr}{Tt:TTr}{Te:ETr}{n:Nat}{caps:List Nat}(si:Rx K wi It'):Sim K (kf wi (lV K n G) (liftT K Tt) (lC K Te) n caps) (vf It' G Tt Te n caps):=by
 intro σ H ρ μ Q Q' rl h k
 refine si σ H ρ μ _ _ rl h λJ H1 ds μ1 t1 m1 Y h1 D hD=>?_
 have hp:=h1 D (m1.free hD)
 have tD:Tk H1 (L2.upd H1 D (.lst [])):=.new hD
 have mD:bL K (L2.upd H1 D (.lst [])) (up μ1 D (.lst [])):=λa o e=>by
  by_cases ha:a=D
  ·subst ha
   rw[ay] at e;cases e
   exact ⟨[],aK,.nil⟩
  ·rw[aE ha] at e
   exact c6 m1 hD a o e
 refine ⟨λi m ys H2=>m=ds.length - i/\i<=ds.length/\Tk H1 H2/\∃ μ2,bL K H2 μ2/\fj D G Tt Te (eL ρ n caps) (λμ'=>Q (.obj D) μ') (ds.drop i) μ2,
  ⟨ds.length,by simp,Yu _,tD,_,mD,by simpa using hp⟩,?_⟩
 rintro i m ys H2 ⟨rfl,hi,t12,μ2,m2,h2⟩
 by_cases hlt:i < ds.length
 ·refine .inr ⟨Y.go i H2 t12 hlt,λys' H'=>Tk H1 H'/\∃ μ',bL K H' μ'/\fj D G Tt Te (eL ρ n caps) (λμ'=>Q (.obj D) μ') (ds.drop (i+1)) μ',λys' H' ⟨t',μ',m',h'⟩=>⟨ds.length - (i+1),by lia,rfl,hlt,t',μ',m',h'⟩,λx H3 y=>?_⟩
  obtain ⟨t23,⟨d,ed,pd⟩,mk⟩:=Y.yld i H2 x H3 t12 hlt y
  have e:ds.drop i=d::ds.drop (i+1):=by
   refine (YX hlt).trans ?_
   congr 1
   rw[Xx hlt] at ed
   exact X5 ed
  rw[e] at h2
  have t13:=t12.trans t23
  have r3:Rl K (j9 σ n caps) H3 (eL ρ n caps) μ2:=oZ (rl.go (t1.trans t13) (mk _ m2)) n caps
  refine ⟨_,_,d,_,r3,pd,h2,λσ4 H4 ρ4 μ4 t4 r4 kp h4=>⟨⟨kp.1.symm,λj v ej=>?_⟩,_,_,_,r4,h4,λb H5 μ5 t5 m5 h5=>?_⟩⟩
  ·by_cases hj:n<=j
   ·rw[kp.2 j hj];exact ej
   ·obtain ⟨j',k',e1,_⟩:=jF ej
    lia
  ·have t15:=t13.trans (t4.trans t5)
   cases b with
   | false=>exact qi ⟨t15,μ5,m5,h5⟩
   | true=>
    refine pF ⟨_,_,_,r4.go t5 m5,h5,λv H6 d6 μ6 t6 m6 p6 h6=>?_⟩
    obtain ⟨zs,ez,lz,h7⟩:=bP h6
    obtain ⟨xs,ex,lx⟩:=m6 D _ ez
    have t67:Tk H6 (L2.upd H6 D (.lst (xs++[v]))):=.upd (λys z=>by rw[ex] at z;cases z) λo' u z=>by rw[ex] at z;cases z
    refine ⟨xs,ex,by rw[lx.length];exact XG lz (by decide),(t15.trans t6).trans t67,up μ6 D (.lst (zs++[d6])),λa o ea=>?_,h7⟩
    by_cases ha:a=D
    ·subst ha
     rw[ay] at ea;cases ea
     exact ⟨_,aK,(lx.append (.cons p6 .nil)).mono t67⟩
    ·rw[aE ha] at ea
     exact (m6 a _ ea).ne t67 ha
 ·have e:i=ds.length:=by lia
  subst e
  rw[ZE] at h2
  exact .inl ⟨Y.stop _ H2 t12 (Xq _),k _ _ _ μ2 (t1.trans t12) m2 (.obj _) h2⟩
theorem GA {X:Cx}{tg elt iter:XJ}{Te:ETr}{Tt:TTr}{pos spos py:Pos}{y:Str}{It':ATr}{G:GTr}{ifs:List XJ}{scope fsc:Scope}(iy:Nat)(hN:X.N.Nodup)(XN Nc:List Str)(n:Nat)(caps:List Nat)(hxe:X.xe=λ_ _=>False)(hcalm:X.calm=true)(hi:LI X tg iter It')
  (hbody:∀ (cl:List (Str×Addr)) (C:Addr) (s₀:Xg) (H₀:Hp) (ex:List Addr),LGc (ba X scope Nc cl C s₀ H₀ ex) n tg G/\yn (ba X scope Nc cl C s₀ H₀ ex) ifs Tt/\LE (ba X scope Nc cl C s₀ H₀ ex) elt Te)
  (hsc:X.env.scope=fsc) (hXN:X.N=XN) (hok:gO fsc.names XN scope Nc n caps=true)
  (hiy:X.N[iy]? = some y:=by rfl) (hx:Loc X.env.scope y:=by first | exact zaQ rfl | exact zaR rfl) (hf:X.fn y=true∨X.env.scope.names.lookup y=some .local:=by first | exact .inl rfl | exact .inr rfl | assumption)
  (hsw:Zq (.ListComp elt [⟨tg,iter,ifs,0⟩] scope pos) (some (.Name y py)) spos.line X.env=pure true:=by rfl)
  (hs:∀ x,X6 iter X.env x=pure x:=by intro _;rfl) :
  LS X (.Assign [.Name y py] (.ListComp elt [⟨tg,iter,ifs,0⟩] scope pos) spos) (aO (vf It' G Tt Te n caps) (av iy)):=by
 unfold gO at hok
 simp only[XY,zaj] at hok
 obtain ⟨⟨⟨h1,h2⟩,h3⟩,h4⟩:=hok
 obtain ⟨wi,pi,si⟩:=hi.ex
 refine ⟨_,Gw (g:=lV X.K n G) (tt:=liftT X.K Tt) (te:=lC X.K Te) hxe hcalm pi (λcl C s₀ H₀ ex=>let ⟨h1,h2,h3⟩:=hbody cl C s₀ H₀ ex;⟨h1.pe,h2.pe,h3.pe⟩) (λy hy hf=>?_) (λy hy hf=>?_) (by simpa using h2) (λy hy hf=>?_) (by simpa using h3) (λj k hj=>?_) (iU hN hiy hx hf) hsw hs,λσ H ρ μ E E' rl h k=>Es si σ H ρ μ _ _ rl h λv H' d μ' t' m' p' h'=>hU iy σ H' ρ μ' v d _ _ (rl.go t' m') p' h' (k.go t').nx⟩
 ·have:=(h1 y hy).1.1
  show X.env.scope.names.lookup y.1=_
  rw[hsc]
  simpa[hf] using this
 ·have:=(h1 y hy).1.2
  simp[hf] at this
 ·have:=(h1 y hy).2
  simpa[hf] using this
 ·have hl:j < caps.length:=(XR.mp hj).1
  have:=h4 j (Ys.mpr hl)
  rw[hj] at this
  dsimp only at this
  rw[hXN]
  cases e:XN[k]? with
  | none=>rw[e] at this;cases this
  | some x=>
   rw[e] at this
   dsimp only at this
   rw[XY] at this
   exact ⟨x,by simpa using this.1,rfl,by simpa using this.2⟩
section
variable {X:Cx} {o i:XJ} {To Ti:ETr} {apos cpos:Pos}
end
end
section
open PySem.Spec PyProof.Rows L2
section
variable {X:Cx} {o i:XJ} {To Ti:ETr} {apos cpos:Pos}
theorem BS (l:Addr)(its:Array Xe)(n:Nat)(q:Addr)(its2:Array Xe)(n2:Nat)(dd:Option Addr)(sl:Array (Option Xe))(h0:¬ (!its.isEmpty&&YB (its.size+its2.size))=true)(h1:its.size<=sizeLine)(h2:its.size+its2.size<=sizeLine+1) :
  Meets (za4.«list.extend» ⟨[.ref l,.ref q],[]⟩) (λ_ R s=>s.heap.get? l=some { cls:=.type "list", dict:=none,data:=.seq its n,slots:=#[] }/\s.heap.get? q=some { cls:=.type "tuple", dict:=dd,data:=.seq its2 n2,slots:=sl }/\
   R (.ok (.ret Zb)) { s with heap:=s.heap.update l (zce λx=>x++its2) }):=
 .of_wp λprog w A R s h=>by
  rcases s with ⟨hp,g,d,tk,os⟩
  obtain ⟨hl,hb,h⟩:=h
  have z1:=zcm
  have z2:=za0
  have z3:=zbj
  have z4:=zba
  have z5:=zbb
  have hz':(its++its2).size<=sizeLine+1:=by rw[zea];lia
  wp_walk using (zaA hl rfl (hz:=h1) (_hz':=hz')),zbk hl,zbk hb
  exact ⟨_,rfl,h⟩
def S8 (K:Xa):V->List V->Hp->VK->Prop:=λx vs H Q=>∃ l b xs zs,x=.ref l/\vs=[.ref b]/\H l=some (.lst xs)/\(SqL K H b zs∨SqT K H b zs)/\xs.length+zs.length<=sizeLine/\Q .non (L2.upd H l (.lst (xs++zs)))
theorem KJ:MtM X "list.extend" (S8 X.K):=by
 intro pins s σ H x vs v us Q I rx rv h
 obtain ⟨l,q,xs,zs,rfl,rfl,hH,hB,hz,qq⟩:=h
 rcases hB with hB | hB
 ·exact Qg pins s σ H _ _ v us Q I rx rv ⟨l,q,xs,zs,rfl,rfl,hH,hB,hz,qq⟩
 cases (show v=XQ l from rx)
 obtain ⟨u,rfl,ru⟩:=rv.one
 cases (show u=XQ q from ru)
 obtain ⟨z,its,n,r,hl,e⟩:=I.Ly hH
 obtain ⟨its2,r2,⟨o,e2,c2,n2,dat2⟩,_⟩:=I.tuple hB
 have e2':s.heap.get? q=some ⟨.type "tuple", o.dict,.seq its2.toArray n2,o.slots⟩:=by
  rw[e2];obtain ⟨c',dd,dt,sl⟩:=o;simp only at c2 dat2;subst c2 dat2;rfl
 have hl2:=r2.length
 have hs2:its.toArray.size+its2.toArray.size<=sizeLine:=by rw[Xz,Xz];lia
 have F3:¬ (!its.toArray.isEmpty&&YB (its.toArray.size+its2.toArray.size))=true:=by
  rw[zh hs2,zcT];decide
 refine zbw zdI ⟨_,e,rfl⟩ zdc (zcU _ _) (BS l its.toArray n q its2.toArray n2 o.dict o.slots F3 (by lia) (by lia)) ⟨e,e2',?_⟩
 refine ⟨.non,_,I.Np (its':=its++its2) hH e (by simp) (r.append r2) ?_,rfl,qq⟩
 rw[Xo];lia
def yW (To Ti:ETr):ETr:=λρ μ Q=>To ρ μ λx μ1=>kObj x λa=>kL μ1 a λ_=>Ti ρ μ1 λy μ2=>Eh μ2 y λes=>kL μ2 a λds=>ds.length+es.length<=1000000/\Q .non (up μ2 a (.lst (ds++es)))
theorem Gn {K:Xa}{H:Hp}{μ:Mu}{x:V}{dx:D}{f:List D->Prop}(m:bL K H μ)(p:Dp K H x dx)(h:Eh μ dx f):∃ q xs ds,x=.ref q/\(SqL K H q xs∨SqT K H q xs)/\DpL K H xs ds/\f ds:=by
 cases p with
 | tup sq l=>exact ⟨_,_,_,rfl,.inr sq,l,h⟩
 | ls sq l=>exact ⟨_,_,_,rfl,.inl sq.sq,l,h⟩
 | obj q=>
  obtain ⟨ds,e0,h⟩:=bP (show kL μ q _ from h)
  obtain ⟨xs,ex,l⟩:=m q _ e0
  exact ⟨q,xs,ds,rfl,.inl (SqL.of ex),l,h⟩
 | _=>exact Xi h
theorem vE (ho:LE X o To)(hi:LE X i Ti)
  (hbase:zat o "extend" X.env (Yr o X.env)=Yr o X.env:=by rfl)
  (hfew:((YI cpos (Xt [i] X.env)).all (λx=>!x.1)&&(zbs cpos (Z6 [] X.env)).all (λx=>x.1.isSome)
   && decide (([i]:List XJ).length+([]:List zag).length+(if ([]:List zag).isEmpty then 0 else 1) < 30))=true:=by rfl)
  (hline:(apos.endLine == cpos.line)=true:=by rfl) (hs:Xt [i] X.env=(false,Yr i X.env)::Xt [] X.env:=by rfl) (hplain:(YI cpos (Xt [] X.env)).any (·.1)=false:=by rfl) :
  LE X (.Call (.Attribute o "extend" apos) [i] [] cpos) (yW To Ti):=by
 obtain ⟨to,po,so⟩:=ho.ex
 obtain ⟨ti,pi,si⟩:=hi.ex
 refine ⟨_,Dh ZF PySem.F.slot_list_extend PySem.F.type_list_extend KJ po (eA pi iT hs) hbase hfew hline hs hplain,λσ H ρ μ Q Q' rl h k=>so σ H ρ μ _ _ rl h λx H1 dx μ1 t1 m1 p1 h1=>?_⟩
 obtain ⟨q,rfl,h1⟩:=eu p1 h1
 obtain ⟨ds0,e0,h1⟩:=bP h1
 obtain ⟨xs0,ex0,_⟩:=m1 q _ e0
 refine ⟨.inl ⟨rfl,_,SqL.of ex0⟩,si σ H1 ρ μ1 _ _ (rl.go t1 m1) h1 λy H2 dy μ2 t2 m2 p2 h2=>?_⟩
 obtain ⟨q',ys,es,rfl,sq,l',h2⟩:=Gn m2 p2 h2
 obtain ⟨ds,e2,hz,h2⟩:=bP h2
 obtain ⟨xs,ex,l⟩:=m2 q _ e2
 exact ⟨q,q',xs,ys,rfl,rfl,ex,sq,by rw[l.length,l'.length];exact big hz,k _ _ _ _ ((t1.trans t2).trans (kF ex)) (G9 m2 ex (l.append l')) .non h2⟩
end
end
theorem NX (a b:ETr)(ρ:ST)(μ:Mu)(Q:DK):Ka a b ρ μ Q=a ρ μ λx μ1=>b ρ μ1 λy μ2=>kI x λi=>kI y λj=>((-4611686018427387904<=i/\i < 4611686018427387904)/\(-4611686018427387904<=j/\j < 4611686018427387904)/\(j - i).toNat<=1000000)/\Q (.tup (c5 i (j - i).toNat)) μ2:=propext Xf
def Pu (x y:D)(μ:Mu)(Q:DK):Prop:=match x with
 | .ls xs=>∃ ns:List Int,xs=ns.map .int/\(ns=[]->Q y μ)/\(ns≠[]->∀ M,M∈ns->(∀ a∈ns,a<=M)->Q (.int M) μ)
 | _=>False
theorem Ls (a b:ETr)(ρ:ST)(μ:Mu)(Q:DK):DL a b ρ μ Q=a ρ μ λx μ1=>b ρ μ1 λy μ2=>Pu x y μ2 Q:=propext Xf
theorem KC (a b:ETr)(ρ:ST)(μ:Mu)(Q:DK):yW a b ρ μ Q=a ρ μ λx μ1=>kObj x λa=>kL μ1 a λ_=>b ρ μ1 λy μ2=>Eh μ2 y λes=>kL μ2 a λds=>ds.length+es.length<=1000000/\Q .non (up μ2 a (.lst (ds++es))):=propext Xf
theorem QT (μ:Mu)(ds:List D)(f:List D->Prop):Eh μ (.tup ds) f=f ds:=propext Xf
theorem RV (μ:Mu)(ds:List D)(f:List D->Prop):Eh μ (.ls ds) f=f ds:=propext Xf
def ENM (vs:List D)(μ:Mu)(Q:List D->Mu->Prop):Prop:=match vs with
 | [x]=>kS x λds=>Q (ko ds) μ
 | _=>False
theorem LV (t:ATr)(ρ:ST)(μ:Mu)(Q:List D->Mu->Prop):Ja t ρ μ Q=t ρ μ λvs μ1=>ENM vs μ1 Q:=propext Xf
theorem U2 (x:D)(μ:Mu)(Q:List D->Mu->Prop):ENM [x] μ Q=kS x λds=>Q (ko ds) μ:=propext Xf
def ON (G:GTr)(tt:TTr)(te:ETr)(ρc:ST)(ds:List D)(μ:Mu)(Q:DK):Prop:=∀ p,μ p=none->fj p G tt te ρc (λμ'=>Q (.obj p) μ') ds (up μ p (.lst []))
theorem Gh (it:ATr)(G:GTr)(tt:TTr)(te:ETr)(n:Nat)(caps:List Nat)(ρ:ST)(μ:Mu)(Q:DK):vf it G tt te n caps ρ μ Q=it ρ μ λds μ1=>ON G tt te (eL ρ n caps) ds μ1 Q:=propext Xf
theorem Iv (xs:List D)(μ:Mu)(Q:DK):fb rJ [.tup xs] μ Q = ∃ ns:List Int,(xs=ns.map .int/\ns.length < 64)/\∀ ns':List Int,ns'.Perm ns->ns'.Pairwise (·<=·)->Q (.ls (ns'.map .int)) μ:=propext Xf
theorem NA (xs:List D)(μ:Mu)(Q:DK):fb xl [.ls xs] μ Q = ∃ ns:List Int,xs=ns.map .int/\Q (.int ns.sum) μ:=propext Xf
theorem UG (o:Option Int)(μ Q):rIs (cI o) .non μ Q=Q (.bl (decide (o=none))) μ:=by cases o<;>simp[rIs,cI]
def d7 (ns:List Int):List Int:=ns.mergeSort (λa b=>decide (a<=b))
theorem iF (ns:List Int):(d7 ns).Perm ns:=List.mergeSort_perm ..
theorem qW (ns:List Int):(d7 ns).Pairwise (·<=·):=by
 have:=List.pairwise_mergeSort (le:=λa b:Int=>decide (a<=b)) (λa b c h1 h2=>by simp at *;lia) (λa b=>by simp;lia) ns
 exact this.imp λh=>by simpa using h
theorem jd:∀ {a b:List Int},a.Perm b->a.Pairwise (·<=·)->b.Pairwise (·<=·)->a=b
 | [],b,h,_,_=>(List.nil_perm.mp h).symm
 | x::a,[],h,_,_=>absurd h (by simp)
 | x::a,y::b,h,ha,hb=>by
  have ha':=zdJ.mp ha
  have hb':=zdJ.mp hb
  have hx:x∈y::b:=h.mem_iff.mp Xl
  have hy:y∈x::a:=h.mem_iff.mpr Xl
  have e:x=y:=by
   rcases Xr.mp hx with e | e
   ·exact e
   ·rcases Xr.mp hy with e' | e'
    ·exact e'.symm
    ·have h1:=ha'.1 y e'
     have h2:=hb'.1 x e
     lia
  subst e
  rw[jd ((List.perm_cons x).mp h) ha'.2 hb'.2]
theorem zF {a ns:List Int}(h:a.Perm ns)(s:a.Pairwise (·<=·)):a=d7 ns:=jd (h.trans (iF ns).symm) s (qW ns)
theorem mf (ns:List Int):(d7 ns).length=ns.length:=(iF ns).length_eq
def own (n:Str)(ls:List Lt):List Lt:=ls.filter λl=>decide (l.nm=n)
def St'.und (x:St')(n:Str):Int:=(x.ws.map λw=>((own n (w.cm++w.st)).length:Int)).sum
def fK (lf:Option Int)(places:Int):Int:=match lf with
 | none=>places
 | some l=>min places l
def rgI (a:Int)(n:Nat):List Int:=(XX n).map λ(i:Nat)=>a+(i:Int)
theorem Ui (a:Int)(n:Nat):c5 a n=(rgI a n).map .int:=by unfold c5 rgI;rw[Xk];rfl
def Ss.fill (x:Ss)(pl:Nat):Ss×List Int:=
 let c:=fK x.lf ((pl:Int) - ((x.ag.take pl).length:Int))
 (⟨x.nm,x.du,x.W,x.S,x.nx+c,x.lf.map (· - c),x.ag.drop (x.ag.take pl).length,x.lo,x.gd,x.mk',x.wt⟩,x.ag.take pl++rgI x.nx c.toNat)
def Ss.hd (x:Ss):Hd:=⟨x.gd,x.mk',x.lo.length,x.wt⟩
def Ss.rdy (g:Int)(R:RN)(x:Ss):Ss:=⟨x.nm,x.du,(R.beh g x.W x.S x.hd).1,(R.beh g x.W x.S x.hd).2,x.nx,x.lf,d7 (x.ag++x.lo),[],0,0,0⟩
def Ss.bt (g:Int)(s:Sn)(x:Ss)(u:Int):Ss×List Int:=if x.du=some 0 then (x.rdy g s.rl).fill (max 0 ((s.rl.beh g x.W x.S x.hd).1 / g - u)).toNat else (x,[])
def dJ (ns:List (List Int)):Nat:=(ns.map Y6).foldr max 0
def iu (ss:List Sn)(ns:List (List Int)):List (Str×Lt):=
 (XX (dJ ns)).flatMap λt=>(Xv ss ns).filterMap λp=>p.2[t]?.map λn=>(p.1.rd.headD (OF ""),⟨p.1.nm,n,0,0,0⟩)
def sdD (x:Str×Lt):D:=.tup [.str x.1,x.2.toD]
structure Wt where
 ca:List Lt
 lo:List Lt
 ou:List Lt
 st:List Lt
 la:Str
def Wt.toD (x:Wt):D:=.tup [.tup (ltD x.ca),.tup (ltD x.lo),.tup (ltD x.ou),.tup (ltD x.st),.str x.la]
def pass (w:Wy)(ns:List Str)(k:Ws)(aS:List (Str×Lt)):Wt:=
 let ca:=k.cm++(aS.filter λx=>decide (x.1=w.nm)).map (·.2)
 let h:=tk w k.st ca
 let t:=bO w ns h.1 k.la
 ⟨ca,h.2,t.1,t.2.1,t.2.2⟩
def ka (ss:List Sn):List (L2.Key×D):=ss.map λs=>(.inr s.nm,.tup (s.rd.map .str))
def road (ss:List Sn)(n:Str):List Str:=((ss.find? λs=>decide (s.nm=n)).map Sn.rd).getD []
def dH (ss:List Sn)(l:Lt):Option Str:=(road ss l.nm)[l.hp.toNat+1]?
def A0:Option Str->D
 | none=>.non
 | some s=>.str s
structure Ev where
 wd:Str
 nm:Str
 nu:Int
 wy:Str
def Ev.toD (x:Ev):D:=.tup [.str x.wd,.str x.nm,.int x.nu,.str x.wy]
abbrev evD (xs:List Ev):List D:=xs.map Ev.toD
def evs (ss:List Sn)(w:Wy)(x:Wt):List Ev:=
 (x.ca.zipIdx.map λp=>⟨if (p.2:Int) < (x.ca.length:Int) - x.lo.length then OF "in" else OF "lost", p.1.nm,p.1.nu,w.nm⟩) ++
 x.ou.map λl=>⟨if dH ss l=none then OF "taken" else OF "out", l.nm,l.nu,w.nm⟩
def Lt.qR (x:Lt)(h:Int):Lt:=⟨x.nm,x.nu,x.ag+1,x.hp+h,x.mr⟩
def vg (ss:List Sn)(w:Wy)(x:Wt)(out:List Lt):Ws:=⟨(out.filter λl=>decide (dH ss l=some w.nm)).map (·.qR 1),x.st.map (·.qR 0),x.la⟩
def wD (s:Sn)(d:Option Int):Option Int:=d.map λi=>if i=0 then s.bt - 1 else i - 1
def gX (d:Int):List Int->Int
 | []=>d
 | a::r=>(a::r).tail.foldl max a
def jr (s:Sn)(x:Ss)(bB taken:List Lt):Ss:=
 let o:=own s.nm taken
 let m:=(o.map Lt.mr).sum
 ⟨x.nm,wD s x.du,x.W,x.S,x.nx,x.lf,x.ag,d7 (x.lo++(own s.nm bB).map Lt.nu),x.gd+o.length - m,x.mk'+m,max x.wt (gX 0 (o.map λl=>l.ag - l.hp))⟩
def Pn.bw (p:Pn)(st:St'):List (Ss×List Int):=X3 (λs k=>k.bt p.g s (st.und k.nm)) p.ss st.ss
def Pn.aS (p:Pn)(st:St'):List (Str×Lt):=iu p.ss ((p.bw st).map (·.2))
def Pn.bW (p:Pn)(st:St'):List Wt:=X3 (λw k=>pass w p.sn k (p.aS st)) p.ws st.ws
def Pn.bB (p:Pn)(st:St'):List Lt:=(p.bW st).flatMap Wt.lo
def Pn.out (p:Pn)(st:St'):List Lt:=(p.bW st).flatMap Wt.ou
def Pn.taken (p:Pn)(st:St'):List Lt:=(p.out st).filter λl=>decide (dH p.ss l=none)
def Pn.step (p:Pn)(st:St'):St':=⟨X3 (λw x=>vg p.ss w x (p.out st)) p.ws (p.bW st),X3 (λs b=>jr s b.1 (p.bB st) (p.taken st)) p.ss (p.bw st)⟩
def Pn.evs (p:Pn)(st:St'):List Ev:=(p.aS st).map (λx=>⟨OF "sent", x.2.nm,x.2.nu,x.1⟩)++(X3 (λw x=>L3.evs p.ss w x) p.ws (p.bW st)).flatten
theorem WU (x:Wt)(μ:Mu)(Q:DK):L3.rIx x.toD (.int 0) μ Q=Q (.tup (ltD x.ca)) μ:=propext Xf
theorem WW (x:Wt)(μ:Mu)(Q:DK):L3.rIx x.toD (.int 1) μ Q=Q (.tup (ltD x.lo)) μ:=propext Xf
theorem VQ (x:Wt)(μ:Mu)(Q:DK):L3.rIx x.toD (.int 2) μ Q=Q (.tup (ltD x.ou)) μ:=propext Xf
theorem WG (x:Wt)(μ:Mu)(Q:DK):L3.rIx x.toD (.int 3) μ Q=Q (.tup (ltD x.st)) μ:=propext Xf
theorem Wq (x:Wt)(μ:Mu)(Q:DK):L3.rIx x.toD (.int 4) μ Q=Q (.str x.la) μ:=propext Xf
theorem Um (i0 i1:Nat)(x:Str×Lt)(ρ:ST)(μ:Mu)(k:ST->Mu->Prop):fg [i0,i1] (sdD x) ρ μ k=fg [i0,i1] (.tup [.str x.1,x.2.toD]) ρ μ k:=propext Xf
def RN.sh1 (R:RN)(g S:Int)(h:Hd):Int:=if R.idle h then S else R.shr g S h
theorem L9 (R:RN)(g W S:Int)(h:Hd):(R.beh g W S h).2=R.sh1 g S h:=by
 unfold RN.beh RN.sh1;split<;>rfl
theorem PH {R:RN}(k:R.Ok){g S:Int}{h:Hd}(H:h.Ok)(g0:0 < g)(S0:0<=S)(S1:S<=g):0<=R.sh1 g S h/\R.sh1 g S h<=g:=by
 unfold RN.sh1
 split
 ·exact ⟨S0,S1⟩
 ·rename_i hn;exact F9 k H hn g0 S0 S1
theorem KG {R:RN}(K:R.Ok){g:Int}(g0:0 < g)(x:Int):g<=R.clip g x/\R.clip g x<=R.cap g:=by
 have c2:=HN K (g:=g) g0
 unfold RN.clip;lia
def Ub:=Jn @NX <| Jn @Ls <| Jn @KC <| Jn @QT <| Jn @RV <| Jn @LV <| Jn @U2 <| Jn @Gh <| Jn @Iv <| Jn @NA <| Jn @UG <| Jn @WU <| Jn @WW <| Jn @VQ <| Jn @WG <| Jn @Wq <| Jn @Um <| @TX
local macro_rules | `(tactic| walk_at "go")=>zzS "↓L3.Ub L3.D4 ↓L3.zM ↓L3.yj ↓L3.ya ↓L3.zU ↓L3.yg ↓L3.yY ↓L3.jS ↓L3.iH ↓L3.mG ↓L3.my ↓L3.mi ↓L3.mU L3.cp L3.bT L3.cq L3.cx L3.cu L3.cw L3.cU L3.cL L3.bR L3.ck L3.cy L3.cA L3.cC L3.cR L3.cj L3.cT L3.cz L3.cW L3.cv L3.cP L3.iJ L3.vy L3.wg L3.eL List.map_cons List.map_nil List.replicate List.cons_append List.nil_append L3.lk L3.EI L3.EM L3.EU L3.AH L3.DY L3.Ex L3.j5 L3.fQ L3.uv L3.nk L3.tU L3.tO L3.tP L3.tX L3.jP L3.gY L3.mQ L3.mN L3.mC L3.mO L3.jX L3.jT L3.jU L3.jR true_and and_true and_self Bool.not_true Bool.not_false decide_true decide_false Bool.or_true Bool.or_false Bool.true_or Bool.false_or Bool.and_false Bool.false_and Bool.and_true Bool.true_and Int.reduceToNat Int.reducePow Int.reduceNeg Int.reduceSub Int.reduceAdd Int.reduceMul Int.reduceEq Int.reduceLT Int.reduceLE Int.reduceBEq L3.iw L3.fk L3.fu L3.fD L3.fN L3.ft L3.fm L3.fB if_true if_false Bool.false_eq_true reduceCtorEq decide_eq_true_eq"
theorem eK {α β:Type}(p:α->Prop) [DecidablePred p] (f:α->β):∀ xs:List α,xs.filterMap (λx=>if p x then some (f x) else none)=(xs.filter λx=>decide (p x)).map f
 | []=>rfl
 | x::r=>by by_cases h:p x<;>simp[h,eK p f r]
theorem Kw {μ:Mu}{Q:DK}(ls:List Lt)(n:Str)(hl:ls.length<=900000)(ok:∀ x∈ls,Xn x.nm=true)(hn:Xn n=true)(k:Q (.ls (ltD (own n ls))) μ) :
  uU (av 0) (TB (ak rEq (ak rIx (ah 0) (TC (.int 0))) (ah 1))) (ah 0) [none,some (.str n)] (ltD ls) μ Q:=by
 refine i8 ls Lt.toD (λx=>if x.nm=n then some x.toD else none) rfl (by lia) (λx hx μ' _ N nn=>?_) ?_
 ·walk_at "go"
  refine ⟨⟨ok x hx,hn⟩,kif (λh=>?_) (λh=>?_)⟩
  ·rw[if_pos h] at nn;exact nn
  ·rw[if_neg h] at nn;exact nn
 ·rw[eK (λx:Lt=>x.nm=n) Lt.toD];exact k
def U6 (ls:List Lt):Prop:=∀ x∈ls,Xn x.nm=true
structure Ws.Ok (w:Ws):Prop where
 n:U6 (w.cm++w.st)
 l:w.cm.length+w.st.length<=900000
def fL:FSp:=λds μ Q=>kcA ds λd ds=>kcS ds λn ds=>kcN ds (∃ (g:Int) (x:St'),(d=x.toD g/\(∀ w∈x.ws,w.Ok)/\Xn n=true)/\Q (.int (x.und n)) μ)
theorem tI:zz_l fL 2:=by walk_at "&AS"
def nv:STr:=by walk_at "~27"
theorem vT:zz_q fL nv 4:=by
 walk_at "^nv! Ad Sn"
 obtain ⟨g,x,⟨rfl,hw,hn⟩,k⟩:=h
 walk_at "go"
 refine cJ (λr ρ μ'=>∃ (a c:List Ws) (v3:Option D),r=wsD c/\ρ=[some (x.toD g),some (.str n),some (.int (a.map λw=>((own n (w.cm++w.st)).length:Int)).sum),v3]/\μ'=μ/\a++c=x.ws) ?_ ?_ _ _ _ ⟨[],x.ws,_,rfl,rfl,rfl,rfl⟩
 ·rintro ρ μ' ⟨a,c,v3,er,rfl,rfl,e⟩
  have:c=[]:=by cases c with | nil=>rfl | cons=>cases er
  subst this
  rw[XU] at e
  subst e
  walk_at "go"
  exact ⟨_,.refl _,k⟩
 ·rintro d r ρ μ' N ⟨a,c,v3,er,rfl,rfl,e⟩ hN
  cases c with
  | nil=>cases er
  | cons w c=>
  cases er
  have ho:=hw w (by rw[← e];simp)
  walk_at "go"
  have hl:=ho.l
  refine ⟨by simp;lia,?_⟩
  rw[← XE]
  refine Kw (w.cm++w.st) n (by simp;lia) ho.n hn ?_
  walk_at "go"
  refine hN _ _ ⟨a++[w],c,some w.toD,rfl,?_,rfl,by rw[← e];simp⟩
  simp
def gk:FSp:=λds μ Q=>kcA ds λd ds=>kcI ds λn ds=>kcN ds (∃ (g:Int) (x:Ss),d=x.toD g/\Q (.int (fK x.lf n)) μ)
theorem vK:zz_l gk 2:=by walk_at "&AI"
def qo:STr:=by walk_at "~28"
theorem yH:zz_q gk qo 2:=by
 walk_at "^qo! Ad In"
 obtain ⟨g,x,rfl,k⟩:=h
 walk_at "go"
 unfold fK at k
 cases e:x.lf with
 | none=>rw[e] at k;exact C9 (by simp) ⟨_,.refl _,k⟩
 | some l=>
  rw[e] at k
  refine FK (by simp) ?_
  show fb yV [.int n,.int l] μ _
  walk_at "go"
  exact ⟨_,.refl _,k⟩
theorem vv (g:Int)(x:Ss):cutD [.str x.nm,cI x.du,eE x.W g,eE x.S g,.int x.nx,cI x.lf,.tup (cM x.ag),.tup (cM x.lo),.int x.gd,.int x.mk',.int x.wt] none (some 4)=[.str x.nm,cI x.du,eE x.W g,eE x.S g]:=rfl
theorem K2 (g:Int)(x:Ss):cutD [.str x.nm,cI x.du,eE x.W g,eE x.S g,.int x.nx,cI x.lf,.tup (cM x.ag),.tup (cM x.lo),.int x.gd,.int x.mk',.int x.wt] (some 7) none=[.tup (cM x.lo),.int x.gd,.int x.mk',.int x.wt]:=rfl
theorem C8 (g:Int)(x:Ss)(lo hi:Option Int)(μ:Mu)(Q:DK):rSl (x.toD g) lo hi μ Q=Q (.tup (cutD [.str x.nm,cI x.du,eE x.W g,eE x.S g,.int x.nx,cI x.lf,.tup (cM x.ag),.tup (cM x.lo),.int x.gd,.int x.mk',.int x.wt] lo hi)) μ:=propext Xf
def gm:FSp:=λds μ Q=>kcA ds λd ds=>kcI ds λn ds=>kcN ds (∃ (g:Int) (x:Ss) (m:Nat),(d=x.toD g/\n=m/\m<=1000/\(-4000000000000000000<=x.nx/\x.nx<=4000000000000000000)/\x.ag.length<=1000/\(∀ l,x.lf=some l->0<=l))/\Q (.tup [(x.fill m).1.toD g,.tup (cM (x.fill m).2)]) μ)
theorem wL:zz_l gm 2:=by walk_at "&AI"
def qK:STr:=by walk_at "~29"
theorem zm:zz_q gm qK 7:=by
 walk_at "^qK! Ad In"
 obtain ⟨g,x,m,⟨rfl,rfl,hm,⟨n0,n1⟩,ha,hl⟩,k⟩:=h
 simp only[↓C8]
 have c1:cutD (cM x.ag) none (some (m:Int))=cM (x.ag.take m):=by rw[oN];exact zax.symm
 have c2:∀ L:Nat,cutD (cM x.ag) (some (L:Int)) none=cM (x.ag.drop L):=λL=>by rw[ur];exact zbS.symm
 walk_at "go"
 simp only[c1,vv,K2,Xc,c2]
 refine ⟨g,x,rfl,?_⟩
 have tl:(x.ag.take m).length<=m:=by simp;lia
 have e1:(x.fill m).1.toD g=.tup ([.str x.nm,cI x.du,eE x.W g,eE x.S g]++[.int (x.nx+fK x.lf ((m:Int) - ((x.ag.take m).length:Int))),cI (x.lf.map (· - fK x.lf ((m:Int) - ((x.ag.take m).length:Int)))),.tup (cM (x.ag.drop (x.ag.take m).length))]++[.tup (cM x.lo),.int x.gd,.int x.mk',.int x.wt]):=rfl
 have e2:cM (x.fill m).2=cM (x.ag.take m)++c5 x.nx (fK x.lf ((m:Int) - ((x.ag.take m).length:Int))).toNat:=by rw[Ui,← XE];rfl
 rw[e1,e2] at k
 have c0:0<=fK x.lf ((m:Int) - ((x.ag.take m).length:Int))/\fK x.lf ((m:Int) - ((x.ag.take m).length:Int))<=1000:=by
  unfold fK
  cases e:x.lf with
  | none=>simp only;lia
  | some l=>have:=hl l e;simp only;lia
 generalize fK x.lf ((m:Int) - ((x.ag.take m).length:Int))=c at *
 have e3:(x.nx+c - x.nx).toNat=c.toNat:=by congr 1;lia
 walk_at "go"
 rw[e3]
 cases e:x.lf with
 | none=>
  rw[e] at k
  refine C9 rfl ⟨by simp,by simp,⟨⟨by lia,by lia⟩,⟨by lia,by lia⟩,by lia⟩,?_,_,.refl _,k⟩
  rw[dX];lia
 | some l=>
  rw[e] at k
  refine FK nofun ?_
  walk_at "go"
  refine ⟨by simp,by simp,⟨⟨by lia,by lia⟩,⟨by lia,by lia⟩,by lia⟩,?_,_,.refl _,k⟩
  rw[dX];lia
structure Ss.Ok (g:Int) (R:RN) (x:Ss):Prop where
 n:Xn x.nm=true
 w0:g<=x.W
 w1:x.W<=R.cap g
 s0:0<=x.S
 s1:x.S<=g
 h:x.hd.Ok
 n0:-4000000000000000000<=x.nx
 n1:x.nx<=4000000000000000000
 a:x.ag.length+x.lo.length<=60
 l:∀ i,x.lf=some i->0<=i
theorem UX (st:St')(n:Str):0<=st.und n:=by
 unfold St'.und
 generalize st.ws=l
 induction l with
 | nil=>simp
 | cons a l ih=>simp only[Xm,XT];lia
theorem Ms (o:Option Int):eqD (cI o) (.int 0)=decide (o=some 0):=by cases o with | none=>rfl | some i=>exact decide_eq_decide.mpr ⟨λh=>by rw[h],λh=>by injection h⟩
theorem Gv {R:RN}(K:R.Ok){g W S:Int}(g0:0 < g)(h:Hd)(w0:g<=W)(w1:W<=R.cap g):g<=(R.beh g W S h).1/\(R.beh g W S h).1<=R.cap g:=by
 unfold RN.beh
 split
 ·exact ⟨w0,w1⟩
 ·exact KG K g0 _
def jZ:FSp:=λds μ Q=>kcI ds λg ds=>kcA ds λsd ds=>kcA ds λkd ds=>kcA ds λtd ds=>kcN ds (∃ (s:Sn) (x:Ss) (st:St'),((sd=s.toD/\kd=x.toD g/\td=st.toD g)/\s.rl.Ok/\Gd g/\x.Ok g s.rl/\∀ w∈st.ws,w.Ok)/\Q (.tup [(x.bt g s (st.und x.nm)).1.toD g,.tup (cM (x.bt g s (st.und x.nm)).2)]) μ)
theorem Ax:zz_l jZ 4:=by walk_at "&IAAA"
def yF:STr:=by walk_at "~30"
theorem Fe:zz_q jZ yF 8:=by
 walk_at "^yF! Ig Asd Akd Atd"
 obtain ⟨s,x,st,⟨⟨rfl,rfl,rfl⟩,K,G,X,hw⟩,k⟩:=h
 obtain ⟨g0,g1⟩:=id G
 have gp:0 < g:=by lia
 walk_at "go"
 refine ⟨by cases x.du<;>rfl,?_⟩
 rw[Ms]
 unfold Ss.bt at k
 refine UM (λhd=>?_) (λhd=>?_)
 ·rw[if_neg hd] at k
  exact ⟨_,.refl _,k⟩
 rw[if_pos hd] at k
 have cl:=G4 K gp
 have xa:=X.a;have w1:=X.w1;have w0:=X.w0
 rw[Xc]
 refine ⟨s.rl,x.W,x.S,x.hd,⟨⟨rfl,rfl⟩,K,X.h,G,⟨Pg _ gp,.of (by lia) (by lia)⟩,Pg _ gp,⟨X.s0,X.s1⟩⟩,λw z Vw Vz=>?_⟩
 have bi:=Gv K gp x.hd (S:=x.S) w0 w1
 have e1:=JJ Vw
 have e2:=JJ Vz
 walk_at "go"
 refine ⟨by simp;lia,x.ag++x.lo,⟨by rw[XE],by simp;lia⟩,λns' pm so=>?_⟩
 have e3:=zF pm so
 walk_at "go"
 refine ⟨_,_,⟨Vw,.of (by lia) (by lia)⟩,?_⟩
 walk_at "go"
 refine ⟨g,st,⟨rfl,hw,X.n⟩,?_⟩
 walk_at "go"
 have u0:=UX st x.nm
 have d60:(s.rl.beh g x.W x.S x.hd).1 / g<=60:=ZZ gp (by lia)
 have hm:max 0 ((s.rl.beh g x.W x.S x.hd).1 / g - st.und x.nm)=((max 0 ((s.rl.beh g x.W x.S x.hd).1 / g - st.und x.nm)).toNat:Int):=by lia
 rw[hm,e1,e2,e3]
 refine ⟨g,x.rdy g s.rl,_,⟨rfl,rfl,by lia,⟨X.n0,X.n1⟩,?_,X.l⟩,⟨_,.refl _,k⟩⟩
 show (d7 (x.ag++x.lo)).length<=1000
 rw[mf,Xo];lia
theorem Dk {ns:List (List Int)}{n:List Int}(h:n∈ns):n.length<=dJ ns:=by
 unfold dJ
 induction ns with
 | nil=>cases h
 | cons a r ih=>
  rcases Xr.mp h with rfl | h
  ·simp only[Xm,zcx];lia
  ·have:=ih h;simp only[Xm,zcx];lia
theorem CN {ns:List (List Int)}{k:Nat}(h:∀ n∈ns,n.length<=k):dJ ns<=k:=by
 unfold dJ
 induction ns with
 | nil=>simp
 | cons a r ih=>
  have h1:=h a Xl
  have h2:=ih λn hn=>h n (Xp _ hn)
  simp only[Xm,zcx];lia
theorem Mc {ns:List (List Int)}{M:Int}(h:M∈ns.map λn=>(n.length:Int))(g:∀ a∈ns.map λn=>(n.length:Int),a<=M):M=dJ ns:=by
 obtain ⟨n,hn,rfl⟩:=Xh.mp h
 have h1:=Dk hn
 have h2:dJ ns<=n.length:=CN λm hm=>by have:=g _ (Xh.mpr ⟨m,hm,rfl⟩);lia
 lia
def cX (t:Nat)(p:Sn×List Int):Option (Str×Lt):=p.2[t]?.map λn=>(p.1.rd.headD (OF ""),⟨p.1.nm,n,0,0,0⟩)
theorem lZ (ss:List Sn)(ns:List (List Int)):iu ss ns=(XX (dJ ns)).flatMap λt=>(Xv ss ns).filterMap (cX t):=rfl
abbrev nsD (ns:List (List Int)):List D:=ns.map λn=>.tup (cM n)
def dA:FSp:=λds μ Q=>kcA ds λsd ds=>kcL ds λnd ds=>kcN ds (∃ (ss:List Sn) (ns:List (List Int)),((sd=.tup (snD ss)/\nd=nsD ns)/\ss.length<=100/\ns.length<=100/\(∀ n∈ns,n.length<=1000)/\∀ s∈ss,s.rd≠[])/\Q (.ls ((iu ss ns).map sdD)) μ)
theorem Ht {ns:List (List Int)}{μ:Mu}{Q:DK}(k:Q (.int (dJ ns:Nat)) μ):Pu (.ls (ns.map λn=>.int (n.length:Int))) (.int 0) μ Q:=by
 refine ⟨ns.map λn=>(n.length:Int),by rw[Xk];rfl,λe=>?_,λ_ M h1 h2=>by rw[Mc h1 h2];exact k⟩
 rw[zdf.mp e] at k
 exact k
theorem E5 (ss:List Sn)(ns:List (List Int)):X3 (λd e=>D.tup [d,e]) (snD ss) (nsD ns)=(Xv ss ns).map λp=>.tup [p.1.toD,.tup (cM p.2)]:=by
 simp only[snD,nsD,Xv,zeE,Zi]
theorem lu:zz_l dA 2:=by walk_at "&AL"
def iZ:STr:=by walk_at "~31"
theorem mP:zz_q dA iZ 6:=by
 walk_at "^iZ! Asd Lnd"
 obtain ⟨ss,ns,⟨⟨rfl,rfl⟩,hs,hn,h1000,hrd⟩,k⟩:=h
 intro p hp
 walk_at "go"
 refine bE ns (λn=>.tup (cM n)) (λn=>.int (n.length:Int)) rfl (by lia) (λn hn μ' _ N nn=>?_) ?_
 ·walk_at "go"
  rw[Xc]
  exact nn
 have m1:dJ ns<=1000:=CN h1000
 walk_at "go"
 refine Ht ?_
 walk_at "go"
 refine ⟨⟨by lia,by lia⟩,?_⟩
 rw[show ((dJ ns:Int)).toNat=dJ ns from rfl]
 refine cJ (λr ρ μ'=>∃ (t:Nat) (acc:List (Str×Lt)) (v3 v4 v5:Option D),r=c5 t (dJ ns - t)/\t<=dJ ns/\ρ=[some (.tup (snD ss)),some (.ls (nsD ns)),some (.obj p),v3,v4,v5]/\acc=(XX t).flatMap (λt=>(Xv ss ns).filterMap (cX t))/\acc.length<=t*100/\μ'=up μ p (.lst (acc.map sdD))) ?_ ?_ _ _ _ ⟨0,[],_,_,_,rfl,by lia,rfl,rfl,by simp,rfl⟩
 ·rintro ρ μ' ⟨t,acc,v3,v4,v5,er,ht,rfl,rfl,_,rfl⟩
  have et:t=dJ ns:=by
   cases e:dJ ns - t with
   | zero=>lia
   | succ n=>rw[e,jb] at er;cases er
  subst et
  walk_at "go"
  rw[← lZ,ub hp]
  exact ⟨_,.refl _,k⟩
 ·rintro d r ρ μ' N ⟨t,acc,v3,v4,v5,er,ht,rfl,ea,la,rfl⟩ hN
  cases e:dJ ns - t with
  | zero=>rw[e] at er;cases er
  | succ n=>
  rw[e,jb] at er
  cases er
  walk_at "go"
  rw[E5]
  have lz:(Xv ss ns).length<=100:=by simp;lia
  refine cJ (λr ρ μ'=>∃ (a c:List (Sn×List Int)) (v4 v5:Option D),r=c.map (λp=>.tup [p.1.toD,.tup (cM p.2)])/\a++c=Xv ss ns/\ρ=[some (.tup (snD ss)),some (.ls (nsD ns)),some (.obj p),some (.int t),v4,v5]/\μ'=up μ p (.lst ((acc++a.filterMap (cX t)).map sdD))) ?_ ?_ _ _ _ ⟨[],Xv ss ns,_,_,rfl,rfl,rfl,by simp⟩
  ·rintro ρ μ' ⟨a,c,v4,v5,er,ez,rfl,rfl⟩
   have:c=[]:=by cases c with | nil=>rfl | cons=>cases er
   subst this
   rw[XU] at ez
   subst ez
   refine hN _ _ ⟨t+1,_,_,_,_,?_,by lia,rfl,?_,?_,rfl⟩
   ·congr 1
    ·lia
   ·rw[zcy,YW,← ea];simp
   ·have:=Y4 (cX t) (Xv ss ns)
    rw[Xo];lia
  ·rintro d r ρ μ' N ⟨a,c,v4,v5,er,ez,rfl,rfl⟩ hN
   cases c with
   | nil=>cases er
   | cons x c=>
   cases er
   obtain ⟨s,own⟩:=x
   have hx:(s,own)∈Xv ss ns:=by rw[← ez];simp
   have hs':s∈ss:=(XH hx).1
   walk_at "go"
   rw[Xc]
   obtain ⟨fw,rw',erd⟩:∃ fw rw',s.rd=fw::rw':=by
    cases e:s.rd with
    | nil=>exact absurd e (hrd s hs')
    | cons a b=>exact ⟨a,b,rfl⟩
   refine kif (λhc=>?_) (λhc=>?_)
   ·have hc':t < own.length:=by lia
    have g1:(zd4 D.str s.rd)[0]? = some (.str fw):=by rw[erd];rfl
    have g2:atD (cM own) (t:Int)=some (.int own[t]):=by rw[bU];simp[hc']
    have la':=Y4 (cX t) a
    have az:a.length<=100:=by have:=congrArg Y6 ez;simp at this;lia
    walk_at "go"
    rw[zJ,g1]
    walk_at "go"
    rw[g2]
    walk_at "go"
    refine ⟨by simp;lia,hN _ _ ⟨a++[(s,own)],c,_,_,rfl,by rw[← ez];simp,rfl,?_⟩⟩
    have e3:cX t (s,own)=some (fw,⟨s.nm,own[t],0,0,0⟩):=by unfold cX;simp[hc',erd]
    rw[Yh,show [(s,own)].filterMap (cX t)=[(fw,⟨s.nm,own[t],0,0,0⟩)] by simp[e3]]
    simp[sdD,Lt.toD]
   ·have e3:cX t (s,own)=none:=by unfold cX;simp;lia
    refine hN _ _ ⟨a++[(s,own)],c,_,_,rfl,by rw[← ez];simp,rfl,?_⟩
    rw[Yh,show [(s,own)].filterMap (cX t)=[] by simp[e3],XU]
def jO:FSp:=λds μ Q=>kcA ds λwd ds=>kcT ds λnd ds=>kcA ds λkd ds=>kcL ds λsd ds=>kcN ds (∃ (w:Wy) (ns:List Str) (k:Ws) (aS:List (Str×Lt)),((wd=w.toD/\nd=ns.map .str/\kd=k.toD/\sd=aS.map sdD)/\(Xn w.nm=true/\∀ x∈aS,Xn x.1=true)/\0<=w.pc/\(∀ n∈ns,Xn n=true)/\(∀ l∈k.cm++k.st++aS.map (·.2),l.nm∈ns)/\k.cm.length+k.st.length+aS.length<=900000/\ns.length<=900000)/\Q (pass w ns k aS).toD μ)
theorem Ef {μ:Mu}{Q:DK}(aS:List (Str×Lt)){w:Wy}(hl:aS.length<=900000)(ok:∀ x∈aS,Xn x.1=true)(hn:Xn w.nm=true)(k:Q (.ls (ltD ((aS.filter λx=>decide (x.1=w.nm)).map (·.2)))) μ) :
  uU (fg [0,1]) (TB (ak rEq (ah 0) (ak rIx (ah 2) (TC (.int 0))))) (ah 1) [none,none,some w.toD] (aS.map sdD) μ Q:=by
 refine i8 aS sdD (λx=>if x.1=w.nm then some x.2.toD else none) rfl (by lia) (λx hx μ' _ N nn=>?_) ?_
 ·walk_at "go"
  refine ⟨⟨ok x hx,hn⟩,kif (λh=>?_) (λh=>?_)⟩
  ·rw[if_pos h] at nn;exact nn
  ·rw[if_neg h] at nn;exact nn
 ·rw[eK (λx:Str×Lt=>x.1=w.nm) (λx=>x.2.toD)];unfold ltD at k;rw[Xk] at k;exact k
theorem A5:zz_l jO 4:=by walk_at "&ATAL"
def y3:STr:=by walk_at "~32"
theorem EY:zz_q jO y3 7:=by
 walk_at "^y3! Awd Tnd Akd Lsd"
 obtain ⟨w,ns,x,aS,⟨⟨rfl,rfl,rfl,rfl⟩,⟨hw,hs⟩,pc,hn,hl,len,len2⟩,k⟩:=h
 walk_at "go"
 refine Ef aS (by lia) hs hw ?_
 walk_at "go"
 have lf:=YZ (λx:Str×Lt=>decide (x.1=w.nm)) aS
 refine ⟨by simp only[Xc];lia,?_⟩
 rw[← XE]
 generalize hca:x.cm++(aS.filter λx=>decide (x.1=w.nm)).map (·.2)=ca
 have lca:ca.length<=x.cm.length+aS.length:=by rw[← hca];simp only[Xo,Xc];lia
 have nca:∀ l∈ca,l.nm∈ns:=λl h=>by
  rw[← hca] at h
  rcases Yi.mp h with h | h
  ·exact hl l (by simp[h])
  ·obtain ⟨y,hy,rfl⟩:=Xh.mp h
   exact hl y.2 (XM _ (Xh.mpr ⟨y,(XZ.mp hy).1,rfl⟩))
 refine ⟨w,x.st,ca,⟨rfl,rfl,rfl,by lia⟩,?_⟩
 walk_at "go"
 have ln:=AS w ca x.st []
 have nn:=Kh w (λn=>n∈ns) ca x.st [] (λl h=>hl l (by simp[h])) (λl h=>nomatch h) nca
 refine ⟨w,ns,(tk w x.st ca).1,⟨rfl,λ_=>⟨.inl rfl,hn,nn.1,len2⟩,rfl,?_,pc⟩,?_⟩
 ·unfold tk;simp only[Zs] at ln;lia
 ·walk_at "go"
  subst hca
  exact ⟨_,.refl _,k⟩
theorem Ge {ss:List Sn}{n:Str}(h:n∈ss.map Sn.nm):aX (ka ss) (.inr n)=some (.tup ((road ss n).map .str)):=by
 unfold aX ka road
 induction ss with
 | nil=>cases h
 | cons s r ih=>
  by_cases e:s.nm=n
  ·simp[e]
  ·have h':n∈r.map Sn.nm:=by
    rcases Xr.mp h with z | z
    ·exact absurd z.symm e
    ·exact z
   have:=ih h'
   simp only[Xm,X1]
   have e1:decide ((Z1 s.nm:L2.Key)=Z1 n)=false:=by simp[e]
   have e2:decide (s.nm=n)=false:=by simp[e]
   rw[e1,e2]
   exact this
def cY:FSp:=λds μ Q=>kcO ds λr ds=>kcA ds λld ds=>kcN ds (∃ (ss:List Sn) (l:Lt),(ld=l.toD/\μ r=some (.dct (ka ss))/\l.nm∈ss.map Sn.nm/\0<=l.hp)/\Q (A0 (dH ss l)) μ)
theorem qO:zz_l cY 2:=by walk_at "&OA"
def lr:STr:=by walk_at "~33"
theorem tK:zz_q cY lr 3:=by
 walk_at "^lr! Or Ald"
 obtain ⟨ss,l,⟨rfl,er,hl,h0⟩,k⟩:=h
 walk_at "go"
 refine lG er (l7 (Ge hl) ?_)
 obtain ⟨h,eh⟩:=Yk h0
 have e1:dH ss l=(road ss l.nm)[h+1]?:=by unfold dH;rw[eh];rfl
 rw[e1] at k
 walk_at "go"
 rw[Xc]
 refine kif (λhc=>?_) (λhc=>?_)
 ·have hc':h+1 < (road ss l.nm).length:=by lia
  rw[Xx hc'] at k
  refine l7 (d:=.str (road ss l.nm)[h+1]) ?_ ⟨_,.refl _,k⟩
  rw[eh,show ((h:Int)+1)=((h+1:Nat):Int) by lia,bU]
  simp[hc']
 ·rw[List.getElem?_eq_none (by lia)] at k
  exact ⟨_,.refl _,k⟩
theorem Mm (ls:List Lt):ko (ltD ls)=ls.zipIdx.map λp=>.tup [.int (p.2:Nat),p.1.toD]:=by
 refine List.ext_getElem? λi=>?_
 rw[uh]
 simp[List.getElem?_zipIdx]
 cases ls[i]? <;> rfl
theorem DC (o:Option Str)(μ:Mu)(Q:DK):rIs (A0 o) .non μ Q=Q (.bl (decide (o=none))) μ:=by cases o<;>simp[rIs,A0]
def evA (w:Wy)(n:Int)(p:Lt×Nat):Ev:=⟨if (p.2:Int) < n then OF "in" else OF "lost", p.1.nm,p.1.nu,w.nm⟩
def evB (ss:List Sn)(w:Wy)(l:Lt):Ev:=⟨if dH ss l=none then OF "taken" else OF "out", l.nm,l.nu,w.nm⟩
theorem PU (ss:List Sn)(w:Wy)(x:Wt):evs ss w x=x.ca.zipIdx.map (evA w ((x.ca.length:Int) - x.lo.length))++x.ou.map (evB ss w):=rfl
def fA:FSp:=λds μ Q=>kcA ds λwd ds=>kcO ds λr ds=>kcA ds λtd ds=>kcN ds (∃ (w:Wy) (ss:List Sn) (x:Wt),((wd=w.toD/\td=x.toD)/\μ r=some (.dct (ka ss))/\(∀ l∈x.ou,l.nm∈ss.map Sn.nm/\0<=l.hp)/\x.ca.length+x.ou.length<=900000)/\Q (.ls (evD (evs ss w x))) μ)
theorem tf:zz_l fA 3:=by walk_at "&AOA"
def nU:STr:=by walk_at "~34"
theorem wX:zz_q fA nU 7:=by
 walk_at "^nU! Awd Or Atd"
 obtain ⟨w,ss,x,⟨⟨rfl,rfl⟩,er,ho,hl⟩,k⟩:=h
 intro p hp
 have npr:r≠p:=λz=>by rw[z,hp] at er;cases er
 walk_at "go"
 rw[Mm]
 refine cJ (λrr ρ μ'=>∃ (a c:List (Lt×Nat)) (v4 v5 v6:Option D),rr=c.map (λp=>.tup [.int (p.2:Nat),p.1.toD])/\a++c=x.ca.zipIdx/\ρ=[some w.toD,some (.obj r),some x.toD,some (.obj p),v4,v5,v6]/\μ'=up μ p (.lst (evD (a.map (evA w ((x.ca.length:Int) - x.lo.length)))))) ?_ ?_ _ _ _ ⟨[],x.ca.zipIdx,_,_,_,rfl,rfl,rfl,rfl⟩
 ·rintro ρ μ' ⟨a,c,v4,v5,v6,er',ez,rfl,rfl⟩
  have:c=[]:=by cases c with | nil=>rfl | cons=>cases er'
  subst this
  rw[XU] at ez
  subst ez
  walk_at "go"
  refine cJ (λrr ρ μ'=>∃ (a c:List Lt) (v4 v5 v6:Option D),rr=ltD c/\a++c=x.ou/\ρ=[some w.toD,some (.obj r),some x.toD,some (.obj p),v4,v5,v6]/\μ'=up μ p (.lst (evD (x.ca.zipIdx.map (evA w ((x.ca.length:Int) - x.lo.length))++a.map (evB ss w))))) ?_ ?_ _ _ _ ⟨[],x.ou,_,_,_,rfl,rfl,rfl,by simp⟩
  ·rintro ρ μ' ⟨a,c,v4,v5,v6,er',ez,rfl,rfl⟩
   have:c=[]:=by cases c with | nil=>rfl | cons=>cases er'
   subst this
   rw[XU] at ez
   subst ez
   walk_at "go"
   rw[ub hp,← PU]
   exact ⟨_,.refl _,k⟩
  ·rintro d rr ρ μ' N ⟨a,c,v4,v5,v6,er',ez,rfl,rfl⟩ hN
   cases c with
   | nil=>cases er'
   | cons l c=>
   cases er'
   have hl':=ho l (by rw[← ez];simp)
   have la:a.length<=x.ou.length:=by rw[← ez];simp
   walk_at "go"
   refine ⟨ss,l,⟨rfl,by rw[aE npr];exact er,hl'.1,hl'.2⟩,?_⟩
   walk_at "go"
   rw[DC]
   walk_at "go"
   have fin:∀ wd,wd=(if dH ss l=none then OF "taken" else OF "out")->(evD (x.ca.zipIdx.map (evA w ((x.ca.length:Int) - x.lo.length))++a.map (evB ss w))).length < 1000000/\N [some w.toD,some (.obj r),some x.toD,some (.obj p),v4,some l.toD,some (.str wd)] (up μ p (.lst (evD (x.ca.zipIdx.map (evA w ((x.ca.length:Int) - x.lo.length))++a.map (evB ss w))++[.tup [.str wd,.str l.nm,.int l.nu,.str w.nm]]))):=λwd e=>by
    refine ⟨by simp;lia,hN _ _ ⟨a++[l],c,_,_,_,rfl,by rw[← ez];simp,rfl,?_⟩⟩
    simp[evB,Ev.toD,e]
   refine kif (λh=>?_) (λh=>?_)
   ·walk_at "go"
    exact fin _ (by rw[if_pos h])
   ·walk_at "go"
    exact fin _ (by rw[if_neg h])
 ·rintro d rr ρ μ' N ⟨a,c,v4,v5,v6,er',ez,rfl,rfl⟩ hN
  cases c with
  | nil=>cases er'
  | cons y c=>
  cases er'
  obtain ⟨l,i⟩:=y
  have la:a.length<=x.ca.length:=by have:=congrArg Y6 ez;simp at this;lia
  walk_at "go"
  simp only[Xc]
  have fin:∀ wd,wd=(if (i:Int) < (x.ca.length:Int) - x.lo.length then OF "in" else OF "lost")->(evD (a.map (evA w ((x.ca.length:Int) - x.lo.length)))).length < 1000000/\N [some w.toD,some (.obj r),some x.toD,some (.obj p),some (.int i),some l.toD,some (.str wd)] (up μ p (.lst (evD (a.map (evA w ((x.ca.length:Int) - x.lo.length)))++[.tup [.str wd,.str l.nm,.int l.nu,.str w.nm]]))):=λwd e=>by
   refine ⟨by simp;lia,hN _ _ ⟨a++[(l,i)],c,_,_,_,rfl,by rw[← ez];simp,rfl,?_⟩⟩
   simp[evA,Ev.toD,e]
  refine kif (λh=>?_) (λh=>?_)
  ·walk_at "go"
   have:=fin _ (by rw[if_pos h])
   simpa using this
  ·walk_at "go"
   have:=fin _ (by rw[if_neg h])
   simpa using this
def kU:FSp:=λds μ Q=>kcA ds λld ds=>kcI ds λh ds=>kcN ds (∃ l:Lt,ld=l.toD/\Q (l.qR h).toD μ)
theorem JZ:zz_l kU 2:=by walk_at "&AI"
def G8:STr:=by walk_at "~35"
theorem MN:zz_q kU G8 2:=by
 walk_at "^G8! Ald Ih0"
 obtain ⟨l,rfl,k⟩:=h
 walk_at "go"
 exact ⟨_,.refl _,k⟩
theorem Me (o:Option Str)(n:Str):eqD (A0 o) (.str n)=decide (o=some n):=by cases o with | none=>rfl | some i=>exact decide_eq_decide.mpr ⟨λh=>by rw[h],λh=>by injection h⟩
theorem Lc (o:Option Str)(h:∀ n,o=some n->Xn n=true):okD 40 (A0 o)=true:=by
 cases o with
 | none=>rfl
 | some n=>simpa[A0,okD] using h n rfl
def fz:FSp:=λds μ Q=>kcA ds λwd ds=>kcO ds λr ds=>kcA ds λtd ds=>kcO ds λo ds=>kcN ds (∃ (w:Wy) (ss:List Sn) (x:Wt) (out:List Lt),((wd=w.toD/\td=x.toD)/\(μ r=some (.dct (ka ss))/\μ o=some (.lst (ltD out)))/\(∀ l∈out,l.nm∈ss.map Sn.nm/\0<=l.hp)/\(Xn w.nm=true/\∀ s∈ss,∀ n∈s.rd,Xn n=true)/\out.length<=900000/\x.st.length<=900000)/\Q (vg ss w x out).toD μ)
theorem KL {ss:List Sn}(h:∀ s∈ss,∀ n∈s.rd,Xn n=true){l:Lt}{n:Str}(e:dH ss l=some n):Xn n=true:=by
 unfold dH road at e
 cases f:ss.find? λs=>decide (s.nm=l.nm) with
 | none=>rw[f] at e;simp at e
 | some s=>
  rw[f] at e
  exact h s (Yv f) n (Z8 e)
theorem tm:zz_l fz 4:=by walk_at "&AOAO"
def nI:STr:=by walk_at "~36"
theorem vM:zz_q fz nI 5:=by
 walk_at "^nI! Awd Or Atd Oo"
 obtain ⟨w,ss,x,out,⟨⟨rfl,rfl⟩,⟨er,eo⟩,ho,⟨hw,hs⟩,l1,l2⟩,k⟩:=h
 refine aY eo ?_
 refine iq out Lt.toD (λl=>if dH ss l=some w.nm then some (l.qR 1).toD else none) rfl eo (by lia) (λl hl μ' sb N nn=>?_) ?_
 ·walk_at "go"
  refine ⟨ss,l,⟨rfl,sb _ _ er,(ho l hl).1,(ho l hl).2⟩,?_⟩
  walk_at "go"
  rw[Me]
  refine ⟨⟨Lc _ λn e=>KL hs e,hw⟩,kif (λh=>?_) (λh=>?_)⟩
  ·rw[if_pos h] at nn
   exact ⟨l,rfl,nn⟩
  ·rw[if_neg h] at nn;exact nn
 ·rw[eK (λl:Lt=>dH ss l=some w.nm) (λl=>(l.qR 1).toD)]
  walk_at "go"
  refine bE x.st Lt.toD (λl=>(l.qR 0).toD) rfl (by lia) (λl hl μ' sb N nn=>?_) ?_
  ·walk_at "go"
   exact ⟨l,rfl,nn⟩
  ·walk_at "go"
   refine ⟨_,.refl _,?_⟩
   unfold vg Ws.toD ltD at k
   simp only[Xk] at k
   exact k
def fG:FSp:=λds μ Q=>kcA ds λsd ds=>kcA ds λd ds=>kcN ds (∃ (s:Sn) (o:Option Int),(sd=s.toD/\d=cI o)/\Q (cI (wD s o)) μ)
theorem sQ:zz_l fG 2:=by walk_at "&AA"
def m9:STr:=by walk_at "~37"
theorem vn:zz_q fG m9 2:=by
 walk_at "^m9 Asd Ad"
 obtain ⟨s,o,⟨rfl,rfl⟩,k⟩:=h
 cases o with
 | none=>
  simp only[cI]
  walk_at "go"
  exact ⟨_,.refl _,k⟩
 | some i=>
  simp only[cI]
  walk_at "go"
  by_cases h:i=0
  ·refine C9 h ⟨_,.refl _,?_⟩
   have e:wD s (some i)=some (s.bt - 1):=by simp[wD,h]
   rw[e] at k;exact k
  ·refine FK h ⟨_,.refl _,?_⟩
   have e:wD s (some i)=some (i - 1):=by simp[wD,h]
   rw[e] at k;exact k
theorem zy {d M:Int}{ns:List Int}(ne:ns≠[])(h:M∈ns)(g:∀ a∈ns,a<=M):gX d ns=M:=by
 have key:∀ (l:List Int) (a:Int),(∀ b∈a::l,b<=M)->M∈a::l->l.foldl max a=M:=by
  intro l
  induction l with
  | nil=>intro a h1 h2;simp at h2;exact h2.symm
  | cons b l ih=>
   intro a h1 h2
   rw[YH]
   refine ih (max a b) (λc hc=>?_) ?_
   ·rcases Xr.mp hc with rfl | hc
    ·have:=h1 a (by simp);have:=h1 b (by simp);lia
    ·exact h1 c (by simp[hc])
   ·have ha:=h1 a (by simp);have hb:=h1 b (by simp)
    rcases Xr.mp h2 with e | h2
    ·have:max a b=M:=by lia
     rw[this];simp
    ·rcases Xr.mp h2 with e | h2
     ·have:max a b=M:=by lia
      rw[this];simp
     ·simp[h2]
 cases ns with
 | nil=>exact absurd rfl ne
 | cons a l=>exact key l a g h
theorem QL {ns:List Int}{μ:Mu}{Q:DK}(k:Q (.int (gX 0 ns)) μ):Pu (.ls (ns.map .int)) (.int 0) μ Q:=by
 refine ⟨ns,rfl,λe=>?_,λne M h1 h2=>by rw[zy ne h1 h2] at k;exact k⟩
 rw[e] at k;exact k
theorem Ic (g:Int)(x:Ss):cutD [.str x.nm,cI x.du,eE x.W g,eE x.S g,.int x.nx,cI x.lf,.tup (cM x.ag),.tup (cM x.lo),.int x.gd,.int x.mk',.int x.wt] (some 2) (some 7)=[eE x.W g,eE x.S g,.int x.nx,cI x.lf,.tup (cM x.ag)]:=rfl
def dO:FSp:=λds μ Q=>kcA ds λsd ds=>kcA ds λkd ds=>kcO ds λlo ds=>kcL ds λtk ds=>kcN ds (∃ (g:Int) (s:Sn) (x:Ss) (bB taken:List Lt),((sd=s.toD/\kd=x.toD g/\tk=ltD taken)/\μ lo=some (.lst (ltD bB))/\(Xn s.nm=true/\(∀ l∈bB,Xn l.nm=true)/\∀ l∈taken,Xn l.nm=true)/\(bB.length<=900000/\taken.length<=900000)/\x.lo.length+(own s.nm bB).length < 64)/\Q ((jr s x bB taken).toD g) μ)
theorem mB:zz_l dO 4:=by walk_at "&AAOL"
def jt:STr:=by walk_at "~38"
theorem oI:zz_q dO jt 10:=by
 walk_at "^jt! Asd Akd Olo Ltk"
 obtain ⟨g,s,x,bB,taken,⟨⟨rfl,rfl,rfl⟩,el,⟨hn,h1,h2⟩,⟨l1,l2⟩,h64⟩,k⟩:=h
 refine aY el ?_
 refine iq bB Lt.toD (λl=>if l.nm=s.nm then some (.int l.nu) else none) rfl el (by lia) (λl hl μ' sb N nn=>?_) ?_
 ·walk_at "go"
  refine ⟨⟨h1 l hl,hn⟩,kif (λh=>?_) (λh=>?_)⟩
  ·rw[if_pos h] at nn;exact nn
  ·rw[if_neg h] at nn;exact nn
 rw[eK (λl:Lt=>l.nm=s.nm) (λl=>D.int l.nu)]
 walk_at "go"
 refine i8 taken Lt.toD (λl=>if l.nm=s.nm then some l.toD else none) rfl (by lia) (λl hl μ' sb N nn=>?_) ?_
 ·walk_at "go"
  refine ⟨⟨h2 l hl,hn⟩,kif (λh=>?_) (λh=>?_)⟩
  ·rw[if_pos h] at nn;exact nn
  ·rw[if_neg h] at nn;exact nn
 rw[eK (λl:Lt=>l.nm=s.nm) Lt.toD]
 have lo2:=YZ (λl:Lt=>decide (l.nm=s.nm)) taken
 walk_at "go"
 refine bE (own s.nm taken) Lt.toD (λl=>.int l.mr) rfl (by unfold own;lia) (λl hl μ' sb N nn=>?_) ?_
 ·walk_at "go"
  exact nn
 walk_at "go"
 refine ⟨(own s.nm taken).map Lt.mr,by rw[Xk];rfl,?_⟩
 walk_at "go"
 refine bE (own s.nm taken) Lt.toD (λl=>.int (l.ag - l.hp)) rfl (by unfold own;lia) (λl hl μ' sb N nn=>?_) ?_
 ·walk_at "go"
  exact nn
 walk_at "go"
 rw[show (own s.nm taken).map (λl=>D.int (l.ag - l.hp))=((own s.nm taken).map λl=>l.ag - l.hp).map .int by rw[Xk];rfl]
 refine QL ?_
 simp only[↓C8]
 walk_at "go"
 simp only[Ic]
 refine ⟨s,x.du,⟨rfl,rfl⟩,?_⟩
 unfold own at h64
 have eo:(List.filter (λx:Lt=>decide (x.nm=s.nm)) bB).map (λl=>D.int l.nu)=((own s.nm bB).map Lt.nu).map .int:=by unfold own;rw[Xk];rfl
 refine ⟨by simp,by simp only[Xc];lia,x.lo++(own s.nm bB).map Lt.nu,⟨by rw[eo,XE],by unfold own;rw[Xo,Xc];exact h64⟩,λns' pm so=>?_⟩
 rw[zF pm so]
 refine ⟨by simp,by simp,_,.refl _,?_⟩
 have e:(jr s x bB taken).toD g=_:=rfl
 unfold jr Ss.toD own at k
 simp only[Xc]
 exact k
theorem JX {kvs:List (L2.Key×D)}{k:L2.Key}{d:D}(h:k ∉ kvs.map (·.1)):putD kvs k d=kvs++[(k,d)]:=by
 unfold putD
 refine if_neg λz=>?_
 obtain ⟨x,hx,e⟩:=zaZ.mp z
 exact h (Xh.mpr ⟨x,hx,by simpa using e⟩)
theorem m4:∀ (more kvs:List (L2.Key×D)),((kvs++more).map (·.1)).Nodup->iK kvs more=kvs++more
 | [],kvs,_=>by simp[iK]
 | (k,d)::r,kvs,h=>by
  have h1:k ∉ kvs.map (·.1):=λz=>by
   rw[XE,Xm,zbI] at h
   exact h.2.2 k z k (by simp) rfl
  show iK (putD kvs k d) r=_
  rw[JX h1,m4 r _ (by simpa using h)]
  simp
theorem DX {ss:List Sn}(h:(ss.map Sn.nm).Nodup):iK [] (ka ss)=ka ss:=by
 refine m4 _ [] ?_
 rw[YE]
 unfold ka
 rw[Xk]
 have:(ss.map ((λx:L2.Key×D=>x.1) ∘ λs=>((.inr s.nm,.tup (s.rd.map .str)):L2.Key×D)))=(ss.map Sn.nm).map Z1:=by rw[Xk];rfl
 rw[this]
 exact zeg _ (λa b (hab:a≠b) (z:Z1 a=Z1 b)=>hab (zfC z)) h
theorem xU {α β:Type}(f:α->D)(g:β->D)(xs:List α)(ys:List β):X3 (λd e=>D.tup [d,e]) (xs.map f) (ys.map g)=(Xv xs ys).map λy=>.tup [f y.1,g y.2]:=by
 simp only[Xv,zeE,Zi]
theorem AD {α:Type}{G:GTr}{te:ETr}{ρc:ST}{ds:List D}{μ:Mu}{Q:DK}(xs:List α)(t:α->D)(h:α->D)(hds:ds=xs.map t)(hl:xs.length<=999999)
  (step:∀ x∈xs,∀ μ',Sub μ μ'->∀ (N:DK),N (h x) μ'->G (t x) ρc μ' λρ1 μ1=>te ρ1 μ1 N)
  (k:∀ p,μ p=none->Q (.obj p) (up μ p (.lst (xs.map h)))):ON G dW te ρc ds μ Q:=by
 subst hds
 intro p hp
 suffices go:∀ (r done:List α),done++r=xs->fj p G dW te ρc (λμ'=>Q (.obj p) μ') (r.map t) (up μ p (.lst (done.map h))) from go xs [] rfl
 intro r
 induction r with
 | nil=>
  intro done e
  rw[XU] at e;subst e
  exact k p hp
 | cons d r ih=>
  intro done e
  have hd:d∈xs:=by rw[← e];simp
  have lf:(done.map h).length < 1000000:=by
   have:=congrArg Y6 e
   simp at this ⊢;lia
  refine step d hd _ (Sub.new hp) _ (aY ay ⟨lf,?_⟩)
  rw[iw]
  have:=ih (done++[d]) (by rw[← e];simp)
  rw[XE] at this
  exact this
theorem vG {β:Type}(f:Wt->List β)(zs:List (Wy×Wt)):(zs.flatMap λy=>f y.2)=(zs.map (·.2)).flatMap f:=by rw[zak]
def btD (g:Int)(b:Ss×List Int):D:=.tup [b.1.toD g,.tup (cM b.2)]
theorem dE {α β γ:Type}(f:α->β->γ)(xs:List α)(ys:List β):X3 f xs ys=(Xv xs ys).map λp=>f p.1 p.2:=by
 simp[Xv,Zi]
structure HE (p:Pn) (st:St'):Prop where
 g:Gd p.g
 sd:p.sn.Nodup
 sl:p.ss.length<=100
 wl:p.ws.length<=100
 sn:∀ n∈p.sn,Xn n=true
 rl:∀ s∈p.ss,s.rl.Ok/\s.rd≠[]/\∀ n∈s.rd,Xn n=true
 wy:∀ w∈p.ws,Xn w.nm=true/\0<=w.pc
 ws:∀ w∈st.ws,w.Ok
 ss:∀ y∈Xv p.ss st.ss,y.2.Ok p.g y.1.rl
 nb:∀ b∈p.bw st,b.2.length<=1000
 se:∀ x∈p.aS st,Xn x.1=true/\x.2.nm∈p.sn
 sz:(p.aS st).length<=100000
 wz:∀ w∈st.ws,(∀ l∈w.cm++w.st,l.nm∈p.sn)/\w.cm.length+w.st.length<=700000
 go:∀ x∈p.bW st,x.ca.length+x.ou.length<=900000/\x.st.length<=900000
 ou:∀ l∈p.out st,l.nm∈p.sn/\0<=l.hp
 lo:∀ l∈p.bB st,l.nm∈p.sn
 oz:(p.out st).length<=900000
 lz:(p.bB st).length<=900000
 ez:(p.evs st).length<=900000
 lt:∀ y∈Xv p.ss (p.bw st),y.2.1.lo.length+(own y.1.nm (p.bB st)).length < 64
def iV:FSp:=λds μ Q=>kcA ds λpd ds=>kcA ds λsd ds=>kcN ds (∃ (p:Pn) (st:St'),((pd=p.toD/\sd=st.toD p.g)/\HE p st)/\Q (.tup [(p.step st).toD p.g,.ls (evD (p.evs st))]) μ)
theorem zR:zz_l iV 2:=by walk_at "&AA"
def tW:STr:=by walk_at "~39"
theorem BV:zz_q iV tW 16:=by
 walk_at "^tW! Apd Asd"
 obtain ⟨p,st,⟨⟨rfl,rfl⟩,R⟩,k⟩:=h
 have sl:=R.sl
 walk_at "go"
 refine bE p.ss Sn.toD (λs=>.str s.nm) rfl (by lia) (λs hs μ' sb N nn=>?_) ?_
 ·walk_at "go"
  exact nn
 walk_at "go"
 refine bE p.ss Sn.toD (λs=>.tup [.str s.nm,.tup (s.rd.map .str)]) rfl (by lia) (λs hs μ' sb N nn=>?_) ?_
 ·walk_at "go"
  exact nn
 walk_at "go"
 refine ⟨ka p.ss,by unfold ka;rw[Xk];rfl,by unfold ka;rw[Xc];lia,λr hr=>?_⟩
 rw[DX R.sd]
 walk_at "go"
 rw[xU]
 have lz:∀ {α β:Type} (xs:List α) (ys:List β),(Xv xs ys).length<=xs.length:=λxs ys=>by simp;lia
 refine bE (Xv p.ss st.ss) (λy=>.tup [y.1.toD,y.2.toD p.g]) (λy=>btD p.g (y.2.bt p.g y.1 (st.und y.2.nm))) rfl (by have:=lz p.ss st.ss;lia) (λy hy μ' sb N nn=>?_) ?_
 ·walk_at "go"
  exact ⟨y.1,y.2,st,⟨⟨rfl,rfl,rfl⟩,(R.rl _ (XH hy).1).1,R.g,R.ss y hy,R.ws⟩,nn⟩
 have eb:(Xv p.ss st.ss).map (λy=>btD p.g (y.2.bt p.g y.1 (st.und y.2.nm)))=(p.bw st).map (btD p.g):=by unfold Pn.bw;rw[dE,Xk];rfl
 have lb:(p.bw st).length<=100:=by unfold Pn.bw;rw[Yy];lia
 rw[eb]
 walk_at "go"
 refine bE (p.bw st) (btD p.g) (λb=>.tup (cM b.2)) rfl (by lia) (λb hb μ' sb N nn=>?_) ?_
 ·unfold btD
  walk_at "go"
  exact nn
 walk_at "go"
 refine ⟨p.ss,(p.bw st).map (·.2),⟨⟨rfl,by unfold nsD;rw[Xk];rfl⟩,sl,by rw[Xc];exact lb,λn hn=>?_,λs hs=>(R.rl s hs).2.1⟩,?_⟩
 ·obtain ⟨b,hb,rfl⟩:=Xh.mp hn
  exact R.nb b hb
 rw[show iu p.ss ((p.bw st).map (·.2))=p.aS st from rfl]
 have sz:=R.sz
 have wl:=R.wl
 walk_at "go"
 rw[xU]
 refine bE (Xv p.ws st.ws) (λy=>.tup [y.1.toD,y.2.toD]) (λy=>(pass y.1 p.sn y.2 (p.aS st)).toD) rfl (by have:=lz p.ws st.ws;lia) (λy hy μ' sb N nn=>?_) ?_
 ·walk_at "go"
  have hw:=R.wy _ (XH hy).1
  have hk:=R.wz _ (XH hy).2
  have len2:p.sn.length<=900000:=by unfold Pn.sn;rw[Xc];lia
  refine ⟨y.1,p.sn,y.2,p.aS st,⟨⟨rfl,by unfold Pn.sn;rw[Xk];rfl,rfl,rfl⟩,⟨hw.1,λx hx=>(R.se x hx).1⟩,hw.2,R.sn,λl hl=>?_,by have:=hk.2;lia,len2⟩,nn⟩
  rcases Yi.mp hl with hl | hl
  ·exact hk.1 l hl
  ·obtain ⟨x,hx,rfl⟩:=Xh.mp hl
   exact (R.se x hx).2
 have ew:(Xv p.ws st.ws).map (λy=>(pass y.1 p.sn y.2 (p.aS st)).toD)=(p.bW st).map Wt.toD:=by unfold Pn.bW;rw[dE,Xk];rfl
 rw[ew]
 walk_at "go"
 refine AD (p.aS st) sdD (λx=>(⟨OF "sent", x.2.nm,x.2.nu,x.1⟩:Ev).toD) rfl (by lia) (λx hx μ' sb N nn=>?_) (λe he=>?_)
 ·walk_at "go"
  exact nn
 walk_at "go"
 intro l hl o ho
 walk_at "go"
 rw[xU]
 have er0:up μ r (.dct (ka p.ss)) r=some (.dct (ka p.ss)):=ay
 generalize hμr:up μ r (.dct (ka p.ss))=μr at *
 have nre:r≠e:=λz=>by rw[← z,er0] at he;cases he
 have nel:e≠l:=λz=>by rw[← z,ay] at hl;cases hl
 have nlo:l≠o:=λz=>by rw[← z,ay] at ho;cases ho
 have hl':μr l=none:=by rw[aE (XA nel)] at hl;exact hl
 have ho1:up μr e (.lst ((p.aS st).map λx=>(⟨OF "sent", x.2.nm,x.2.nu,x.1⟩:Ev).toD)) o=none:=by rw[aE (XA nlo)] at ho;exact ho
 have neo:e≠o:=λz=>by rw[← z,ay] at ho1;cases ho1
 have ho':μr o=none:=by rw[aE (XA neo)] at ho1;exact ho1
 have nrl:r≠l:=λz=>by rw[← z,er0] at hl';cases hl'
 have nro:r≠o:=λz=>by rw[← z,er0] at ho';cases ho'
 have og:=R.go;have oe:=R.ez;have oz:=R.oz;have olz:=R.lz
 have TH:∀ {a},a∈Xv p.ws (p.bW st)->a.2∈p.bW st:=λh=>(XH h).2
 have lw:(p.bW st).length<=p.ws.length:=by unfold Pn.bW;rw[Yy];lia
 have zw:(Xv p.ws (p.bW st)).map (·.2)=p.bW st:=by
  rw[List.map_snd_zip];exact lw
 refine cJ (λrr ρ μ'=>∃ (a c:List (Wy×Wt)) (v11 v12 v13 v14 v15:Option D),rr=c.map (λy=>.tup [y.1.toD,y.2.toD])/\a++c=Xv p.ws (p.bW st)/\
  ρ=[some p.toD,some (st.toD p.g),some (.tup (snD p.ss)),some (.tup (p.ss.map λs=>.str s.nm)),some (.obj r),some (.ls ((p.bw st).map (btD p.g))),some (.ls ((p.aS st).map sdD)),some (.ls ((p.bW st).map Wt.toD)),some (.obj e),some (.obj l),some (.obj o),v11,v12,v13,v14,v15]/\
  (μ' e=some (.lst (evD ((p.aS st).map (λx=>⟨OF "sent", x.2.nm,x.2.nu,x.1⟩)++a.flatMap λy=>evs p.ss y.1 y.2)))/\μ' l=some (.lst (ltD (a.flatMap λy=>y.2.lo)))/\μ' o=some (.lst (ltD (a.flatMap λy=>y.2.ou))))/\∀ b,b≠e->b≠l->b≠o->μ' b=μr b) ?_ ?_ _ _ _
  ⟨[],Xv p.ws (p.bW st),_,_,_,_,_,rfl,rfl,rfl,⟨?_,?_,?_⟩,λb h1 h2 h3=>?_⟩
 rotate_left 2
 ·rw[aE neo,aE nel,ay];simp
 ·rw[aE nlo,ay];rfl
 ·rw[ay];rfl
 ·rw[aE h3,aE h2,aE h1]
 ·rintro ρ μ' ⟨a,c,v11,v12,v13,v14,v15,er',ez,rfl,⟨ee,el,eo⟩,eq⟩
  have:c=[]:=by cases c with | nil=>rfl | cons=>cases er'
  subst this
  rw[XU] at ez
  subst ez
  have el':μ' l=some (.lst (ltD (p.bB st))):=by rw[el,vG,zw];rfl
  have eo':μ' o=some (.lst (ltD (p.out st))):=by rw[eo,vG,zw];rfl
  have ee':μ' e=some (.lst (evD (p.evs st))):=by rw[ee];unfold Pn.evs;rw[dE];congr 3
  have er1:μ' r=some (.dct (ka p.ss)):=by rw[eq r nre nrl nro];exact er0
  have hnm:∀ {n},n∈p.sn->n∈p.ss.map Sn.nm:=λh=>h
  walk_at "go"
  refine aY eo' ?_
  refine iq (p.out st) Lt.toD (λl=>if dH p.ss l=none then some l.toD else none) rfl eo' (by lia) (λy hy μ2 sb N nn=>?_) ?_
  ·walk_at "go"
   refine ⟨p.ss,y,⟨rfl,sb _ _ er1,hnm (R.ou y hy).1,(R.ou y hy).2⟩,?_⟩
   show rIs (A0 (dH p.ss y)) .non μ2 _
   rw[DC]
   walk_at "go"
   refine kif (λh=>?_) (λh=>?_)
   ·rw[if_pos h] at nn;exact nn
   ·rw[if_neg h] at nn;exact nn
  rw[eK (λl:Lt=>dH p.ss l=none) Lt.toD]
  rw[show (p.out st).filter (λl=>decide (dH p.ss l=none))=p.taken st from rfl]
  walk_at "go"
  rw[xU]
  refine bE (Xv p.ws (p.bW st)) (λy=>.tup [y.1.toD,y.2.toD]) (λy=>(vg p.ss y.1 y.2 (p.out st)).toD) rfl (by have:=lz p.ws (p.bW st);lia) (λy hy μ2 sb N nn=>?_) ?_
  ·walk_at "go"
   have h1:=R.wy _ (XH hy).1
   exact ⟨y.1,p.ss,y.2,p.out st,⟨⟨rfl,rfl⟩,⟨sb _ _ er1,sb _ _ eo'⟩,λx hx=>⟨hnm (R.ou x hx).1,(R.ou x hx).2⟩,⟨h1.1,λs hs=>(R.rl s hs).2.2⟩,R.oz,(R.go _ (TH hy)).2⟩,nn⟩
  have e1:(Xv p.ws (p.bW st)).map (λy=>(vg p.ss y.1 y.2 (p.out st)).toD)=wsD (p.step st).ws:=by unfold Pn.step wsD;simp only;rw[dE,Xk];rfl
  rw[e1]
  walk_at "go"
  rw[xU]
  have lt1:(p.taken st).length<=900000:=by have:=YZ (λl:Lt=>decide (dH p.ss l=none)) (p.out st);unfold Pn.taken;lia
  refine bE (Xv p.ss (p.bw st)) (λy=>.tup [y.1.toD,btD p.g y.2]) (λy=>(jr y.1 y.2.1 (p.bB st) (p.taken st)).toD p.g) rfl (by have:=lz p.ss (p.bw st);lia) (λy hy μ2 sb N nn=>?_) ?_
  ·unfold btD
   walk_at "go"
   have hs:=(XH hy).1
   refine ⟨p.g,y.1,y.2.1,p.bB st,p.taken st,⟨⟨rfl,rfl,rfl⟩,sb _ _ el',⟨R.sn _ (Xh.mpr ⟨_,hs,rfl⟩),λx hx=>R.sn _ (R.lo x hx),λx hx=>R.sn _ (R.ou x (XZ.mp hx).1).1⟩,⟨R.lz,lt1⟩,R.lt y hy⟩,nn⟩
  have e2:(Xv p.ss (p.bw st)).map (λy=>(jr y.1 y.2.1 (p.bB st) (p.taken st)).toD p.g)=ssD p.g (p.step st).ss:=by unfold Pn.step ssD;simp only;rw[dE,Xk];rfl
  rw[e2]
  walk_at "go"
  refine aY ee' ?_
  refine ⟨μ,λb ob hb=>?_,k⟩
  have nb:∀ z,μr z=none->b≠z:=λz hz w=>by
   rw[w] at hb
   rw[← hμr] at hz
   by_cases hzr:z=r
   ·rw[hzr,hr] at hb;cases hb
   ·rw[aE hzr,hb] at hz;cases hz
  have n1:=nb e he
  have n2:=nb l hl'
  have n3:=nb o ho'
  unfold dn
  rw[if_neg n1,eq b n1 n2 n3,← hμr,aE (λw=>by rw[w,hr] at hb;cases hb)]
  exact hb
 ·rintro d rr ρ μ' N ⟨a,c,v11,v12,v13,v14,v15,er',ez,rfl,⟨ee,el,eo⟩,eq⟩ hN
  cases c with
  | nil=>cases er'
  | cons y c=>
  cases er'
  have hy:y∈Xv p.ws (p.bW st):=by rw[← ez];simp
  have hyw:=TH hy
  have er1:μ' r=some (.dct (ka p.ss)):=by rw[eq r nre nrl nro];exact er0
  walk_at "go"
  refine aY ee ?_
  have hou:∀ x∈y.2.ou,x.nm∈p.ss.map Sn.nm/\0<=x.hp:=λx hx=>R.ou x (ZH.mpr ⟨_,hyw,hx⟩)
  refine ⟨y.1,p.ss,y.2,⟨⟨rfl,rfl⟩,er1,hou,(og _ hyw).1⟩,?_⟩
  walk_at "go"
  have za:a++y::c=Xv p.ws (p.bW st):=ez
  have le1:(evD ((p.aS st).map (λx=>⟨OF "sent", x.2.nm,x.2.nu,x.1⟩)++a.flatMap λy=>evs p.ss y.1 y.2)).length+(evD (evs p.ss y.1 y.2)).length<=1000000:=by
   have:(p.evs st).length=(p.aS st).length+((a++y::c).flatMap λy=>evs p.ss y.1 y.2).length:=by
    unfold Pn.evs;rw[dE,za,Xo,Xc];rfl
   rw[YW,Zv,Xo,Xo] at this
   simp only[Xc,Xo];lia
  have ll1:(ltD (a.flatMap λy=>y.2.lo)).length+(ltD y.2.lo).length<=1000000:=by
   have:(p.bB st).length=((a++y::c).flatMap λy=>y.2.lo).length:=by unfold Pn.bB;rw[za,vG,zw]
   rw[YW,Zv,Xo,Xo] at this
   simp only[Xc];lia
  have lo1:(ltD (a.flatMap λy=>y.2.ou)).length+(ltD y.2.ou).length<=1000000:=by
   have:(p.out st).length=((a++y::c).flatMap λy=>y.2.ou).length:=by unfold Pn.out;rw[za,vG,zw]
   rw[YW,Zv,Xo,Xo] at this
   simp only[Xc];lia
  refine aY ee ⟨le1,?_⟩
  walk_at "go"
  refine aY (by rw[aE (XA nel)];exact el) (aY (by rw[aE (XA nel)];exact el) ⟨ll1,?_⟩)
  walk_at "go"
  refine aY (by rw[aE (XA nlo),aE (XA neo)];exact eo) (aY (by rw[aE (XA nlo),aE (XA neo)];exact eo) ⟨lo1,?_⟩)
  refine hN _ _ ⟨a++[y],c,_,_,_,_,_,rfl,by rw[← ez];simp,rfl,⟨?_,?_,?_⟩,λb h1 h2 h3=>?_⟩
  ·rw[aE neo,aE nel,ay,YW];simp
  ·rw[aE nlo,ay,YW];simp
  ·rw[ay,YW];simp
  ·rw[aE h3,aE h2,aE h1,eq b h1 h2 h3]
theorem rq {α:Type}{f g:α->Nat}:∀ {l:List α},(∀ x∈l,f x<=g x)->(l.map f).sum<=(l.map g).sum
 | [],_=>Xq _
 | a::r,h=>by
  have h1:=h a Xl
  have h2:=rq (l:=r) λx hx=>h x (Xp _ hx)
  simp only[Xm,XT];lia
theorem cf {α:Type}(f g:α->Nat):∀ l:List α,(l.map λx=>f x+g x).sum=(l.map f).sum+(l.map g).sum
 | []=>rfl
 | a::r=>by have:=cf f g r;simp only[Xm,XT];lia
theorem jY {α:Type}{f:α->Nat}{k:Nat}:∀ {l:List α},(∀ x∈l,f x<=k)->(l.map f).sum<=l.length*k
 | [],_=>by simp
 | a::r,h=>by
  have h1:=h a Xl
  have h2:=jY (l:=r) λx hx=>h x (Xp _ hx)
  simp only[Xm,XT,XC,Nat.succ_mul];lia
theorem kH {α:Type}{f:α->Nat}:∀ {l:List α} {x:α},x∈l->f x<=(l.map f).sum
 | a::r,x,h=>by
  simp only[Xm,XT]
  rcases Xr.mp h with rfl | h
  ·lia
  ·have:=kH (f:=f) h;lia
theorem mh {κ:Type} [DecidableEq κ] (a:κ):∀ {ks:List κ},ks.Nodup->(ks.map λk=>if a=k then 1 else 0).sum<=1
 | [],_=>by simp
 | k::r,h=>by
  have h':=Yc.mp h
  simp only[Xm,XT]
  by_cases e:a=k
  ·have:(r.map λk=>if a=k then 1 else 0).sum=0:=by
    have:∀ l:List κ,a ∉ l->(l.map λk=>if a=k then 1 else 0).sum=0:=by
     intro l
     induction l with
     | nil=>intro _;rfl
     | cons b l ih=>
      intro hl
      simp only[Xr,not_or] at hl
      simp[hl.1,ih hl.2]
    exact this r (by rw[e];exact h'.1)
   rw[if_pos e,this];exact Xq 1
  ·rw[if_neg e];have:=mh a h'.2;lia
theorem split_le {α κ:Type} [DecidableEq κ] (f:α->κ){ks:List κ}(nd:ks.Nodup):∀ xs:List α,(ks.map λk=>(xs.filter λx=>decide (f x=k)).length).sum<=xs.length
 | []=>by
  have:∀ l:List κ,(l.map λ_=>0).sum=0:=λl=>by induction l<;>simp_all
  simpa using this ks
 | x::r=>by
  have h1:=split_le f nd r
  have h2:=mh (f x) nd
  have e:(ks.map λk=>((x::r).filter λx=>decide (f x=k)).length)=ks.map λk=>(if f x=k then 1 else 0)+(r.filter λx=>decide (f x=k)).length:=by
   refine Xu λk _=>?_
   by_cases z:f x=k<;>simp[z];lia
  rw[e,cf,XC];lia
theorem Am (ns:List Str):∀ ls:List Lt,(∀ l∈ls,l.nm∈ns)->ls.length<=(ns.map λn=>(own n ls).length).sum
 | [],_=>by simp
 | x::r,h=>by
  have h1:=Am ns r λl hl=>h l (Xp _ hl)
  have hx:=h x Xl
  have e:(ns.map λn=>(own n (x::r)).length)=ns.map λn=>(if x.nm=n then 1 else 0)+(own n r).length:=by
   refine Xu λk _=>?_
   unfold own
   by_cases z:x.nm=k<;>simp[z];lia
  have h2:1<=(ns.map λn=>if x.nm=n then 1 else 0).sum:=by
   have:=kH (f:=λn=>if x.nm=n then 1 else 0) hx
   simpa using this
  rw[e,cf,XC];lia
theorem vc (n:Str)(ls:List Lt):(own n ls).length=(ls.map Lt.nm).count n:=by
 unfold own
 induction ls with
 | nil=>rfl
 | cons x r ih=>by_cases z:x.nm=n<;>simp[z,ih]
theorem oU (n:Str)(a b:List Lt):(own n (a++b)).length=(own n a).length+(own n b).length:=by unfold own;simp
theorem qe:∀ {l:List Lt} {i:Nat} (h:i < l.length),([l[i]]++l.eraseIdx i).Perm l
 | x::r,0,_=>.refl _
 | x::r,i+1,h=>by
  have:=qe (l:=r) (i:=i) (by simpa using h)
  simp only[List.getElem_cons_succ,List.eraseIdx_cons_succ]
  exact (List.Perm.swap x _ _).trans (this.cons x)
theorem rV (ws:List Str)(p:Int):∀ (f:Nat) (st out:List Lt) (l:Str),((c7 ws p f st out l).1++(c7 ws p f st out l).2.1).Perm (out++st)
 | 0,st,out,l=>.refl _
 | f+1,st,out,l=>by
  unfold c7
  split
  ·split
   ·rename_i n _
    split
    ·rename_i x e
     refine (rV ws p f _ _ _).trans ?_
     obtain ⟨hi,rfl⟩:=XR.mp e
     rw[zbJ]
     exact zcF _ (qe hi)
    ·exact .refl _
   ·exact .refl _
  ·exact .refl _
theorem jH (w:Wy)(ws:List Str)(st:List Lt)(l:Str):((bO w ws st l).1++(bO w ws st l).2.1).Perm st:=by
 unfold bO
 split
 ·exact rV ..
 ·simp only[List.take_append_drop];exact .refl _
theorem o9 (w:Wy):∀ (ys a b:List Lt),(((ys.foldl (bK w) (a,b)).1++(ys.foldl (bK w) (a,b)).2).map Lt.nm).Perm ((a++b++ys).map Lt.nm)
 | [],a,b=>by simp
 | y::r,a,b=>by
  rw[YH]
  by_cases h:w.rm<=(a.length:Int)
  ·rw[oP h]
   refine (o9 w r a (b++[y])).trans (by simp)
  ·rw[Dq h]
   refine (o9 w r (a++[mZ w y a.length]) b).trans ?_
   simp only[XE,Xm,zai,DV,zbJ]
   refine zcF _ ?_
   exact (List.perm_middle (l₁:=zd4 Lt.nm b)).symm
def Lt.In (sn:List Str)(l:Lt):Prop:=l.nm∈sn/\0<=l.hp/\0<=l.mr/\l.mr<=1
theorem N8 {sn:List Str}{w:Wy}{x:Lt}(n:Nat)(h:x.In sn):(mZ w x n).In sn:=by
 unfold mZ
 split
 ·exact h
 ·split
  ·exact h
  ·exact ⟨h.1,h.2.1,(show (0:Int)<=1 by decide),Y7 1⟩
theorem Ce {sn:List Str}(w:Wy):∀ (ys a b:List Lt),(∀ l∈a,l.In sn)->(∀ l∈b,l.In sn)->(∀ l∈ys,l.In sn)->(∀ l∈(ys.foldl (bK w) (a,b)).1,l.In sn)/\∀ l∈(ys.foldl (bK w) (a,b)).2,l.In sn
 | [],a,b,h1,h2,_=>⟨h1,h2⟩
 | y::r,a,b,h1,h2,h3=>by
  rw[YH]
  have hy:=h3 y Xl
  have hr:∀ l∈r,l.In sn:=λl hl=>h3 l (Xp _ hl)
  by_cases h:w.rm<=(a.length:Int)
  ·rw[oP h]
   refine Ce w r a (b++[y]) h1 (λl hl=>?_) hr
   rcases Yi.mp hl with hl | hl
   ·exact h2 l hl
   ·rw[X9.mp hl];exact hy
  ·rw[Dq h]
   refine Ce w r _ b (λl hl=>?_) h2 hr
   rcases Yi.mp hl with hl | hl
   ·exact h1 l hl
   ·rw[X9.mp hl];exact N8 _ hy
theorem JB (w:Wy)(ns:List Str)(k:Ws)(aS:List (Str×Lt))(n:Str):(own n (pass w ns k aS).lo).length+(own n (pass w ns k aS).ou).length+(own n (pass w ns k aS).st).length=(own n (pass w ns k aS).ca).length+(own n k.st).length:=by
 have h1:=(o9 w (pass w ns k aS).ca k.st []).count_eq n
 have h2:=((jH w ns (tk w k.st (pass w ns k aS).ca).1 k.la).map Lt.nm).count_eq n
 simp only[XE,List.count_append,← vc] at h1 h2
 have e1:(pass w ns k aS).lo=(tk w k.st (pass w ns k aS).ca).2:=rfl
 have e2:(pass w ns k aS).ou=(bO w ns (tk w k.st (pass w ns k aS).ca).1 k.la).1:=rfl
 have e3:(pass w ns k aS).st=(bO w ns (tk w k.st (pass w ns k aS).ca).1 k.la).2.1:=rfl
 rw[e1,e2,e3]
 unfold tk at *
 have:(own n ([]:List Lt)).length=0:=rfl
 lia
theorem GZ (w:Wy)(ns:List Str)(k:Ws)(aS:List (Str×Lt)):(pass w ns k aS).lo.length+(pass w ns k aS).ou.length+(pass w ns k aS).st.length=(pass w ns k aS).ca.length+k.st.length:=by
 have h1:=(o9 w (pass w ns k aS).ca k.st []).length_eq
 have h2:=(jH w ns (tk w k.st (pass w ns k aS).ca).1 k.la).length_eq
 simp only[Xc,Xo,Zs] at h1 h2
 have e1:(pass w ns k aS).lo=(tk w k.st (pass w ns k aS).ca).2:=rfl
 have e2:(pass w ns k aS).ou=(bO w ns (tk w k.st (pass w ns k aS).ca).1 k.la).1:=rfl
 have e3:(pass w ns k aS).st=(bO w ns (tk w k.st (pass w ns k aS).ca).1 k.la).2.1:=rfl
 rw[e1,e2,e3]
 unfold tk at *
 lia
theorem MV {sn:List Str}{w:Wy}{ns:List Str}{k:Ws}{aS:List (Str×Lt)}(hk:∀ l∈k.cm++k.st,l.In sn)(hs:∀ x∈aS,x.2.In sn):(∀ l∈(pass w ns k aS).ca,l.In sn)/\(∀ l∈(pass w ns k aS).lo,l.In sn)/\(∀ l∈(pass w ns k aS).ou,l.In sn)/\∀ l∈(pass w ns k aS).st,l.In sn:=by
 have hca:∀ l∈(pass w ns k aS).ca,l.In sn:=λl hl=>by
  rcases Yi.mp (show l∈k.cm++(aS.filter λx=>decide (x.1=w.nm)).map (·.2) from hl) with hl | hl
  ·exact hk l (by simp[hl])
  ·obtain ⟨x,hx,rfl⟩:=Xh.mp hl
   exact hs x (XZ.mp hx).1
 have ht:=Ce w (pass w ns k aS).ca k.st [] (λl hl=>hk l (by simp[hl])) (λl hl=>nomatch hl) hca
 have hp:=jH w ns (tk w k.st (pass w ns k aS).ca).1 k.la
 refine ⟨hca,ht.2,λl hl=>ht.1 l (hp.mem_iff.mp (Y5 _ hl)),λl hl=>ht.1 l (hp.mem_iff.mp (XM _ hl))⟩
theorem Mk {lf:Option Int}{k:Int}(k0:0<=k)(hl:∀ i,lf=some i->0<=i):0<=fK lf k/\fK lf k<=k/\∀ i,lf.map (· - fK lf k)=some i->0<=i:=by
 cases lf with
 | none=>exact ⟨k0,Y7 _,λi h=>by cases h⟩
 | some l=>
  have:=hl l rfl
  refine ⟨?_,?_,λi h=>?_⟩
  ·show 0<=min k l;lia
  ·show min k l<=k;lia
  ·have e:l - min k l=i:=by simpa[fK] using h
   lia
theorem oS (a:Int)(n:Nat):(rgI a n).length=n:=by unfold rgI;simp
structure Fills (x:Ss) (pl:Nat) (b:Ss×List Int):Prop where
 same:b.1.nm=x.nm/\b.1.du=x.du/\b.1.W=x.W/\b.1.S=x.S/\b.1.lo=x.lo/\b.1.gd=x.gd/\b.1.mk'=x.mk'/\b.1.wt=x.wt
 few:b.2.length<=pl
 all:b.1.ag.length+b.2.length<=max x.ag.length pl
 n0:x.nx<=b.1.nx
 n1:b.1.nx<=x.nx+pl
 l:∀ i,b.1.lf=some i->0<=i
theorem Nh {x:Ss}(pl:Nat)(hl:∀ i,x.lf=some i->0<=i):Fills x pl (x.fill pl):=by
 have tl:(x.ag.take pl).length=min pl x.ag.length:=ZD
 obtain ⟨c0,c1,c2⟩:=Mk (lf:=x.lf) (k:=(pl:Int) - ((x.ag.take pl).length:Int)) (by lia) hl
 have e1:(x.fill pl).1.ag.length=x.ag.length - (x.ag.take pl).length:=by show (x.ag.drop _).length=_;rw[zaY]
 have e2:(x.fill pl).2.length=(x.ag.take pl).length+(fK x.lf ((pl:Int) - ((x.ag.take pl).length:Int))).toNat:=by show (x.ag.take pl++rgI _ _).length=_;rw[Xo,oS]
 have e3:(x.fill pl).1.nx=x.nx+fK x.lf ((pl:Int) - ((x.ag.take pl).length:Int)):=rfl
 refine ⟨⟨rfl,rfl,rfl,rfl,rfl,rfl,rfl,rfl⟩,by lia,by lia,by lia,by lia,c2⟩
structure SsI (g:Int) (R:RN) (n:Nat) (x:Ss):Prop where
 w0:g<=x.W
 w1:x.W<=R.cap g
 s0:0<=x.S
 s1:x.S<=g
 g0:0<=x.gd
 g1:x.gd<=60*n
 m0:0<=x.mk'
 m1:x.mk'<=60*n
 t0:0<=x.wt
 n0:0<=x.nx
 n1:x.nx<=60*n
 l:∀ i,x.lf=some i->0<=i
theorem SsI.ok {g:Int}{R:RN}{n:Nat}{x:Ss}(h:SsI g R n x)(hn:n<=10000)(nm:Xn x.nm=true)(a:x.ag.length+x.lo.length<=60):x.Ok g R:=by
 have:=h.g1;have:=h.m1;have:=h.n1
 exact ⟨nm,h.w0,h.w1,h.s0,h.s1,⟨h.g0,(show x.gd<=1000000 by lia),h.m0,(show x.mk'<=1000000 by lia),(show (0:Int)<=(x.lo.length:Int) by lia),(show (x.lo.length:Int)<=1000000 by lia),h.t0⟩,by have:=h.n0;lia,by lia,a,h.l⟩
structure DG (g:Int) (R:RN) (n:Nat) (u:Int) (x:Ss) (b:Ss×List Int):Prop where
 nm:b.1.nm=x.nm
 i:SsI g R (n+1) b.1
 g:b.1.gd<=60*n
 m:b.1.mk'<=60*n
 few:b.2.length<=60
 all:u+(b.2.length:Int)+(b.1.ag.length:Int)+(b.1.lo.length:Int)<=60
theorem U9 {p:Int}{s:Sn}{n:Nat}{x:Ss}{u:Int}(K:s.rl.Ok)(g0:0 < p)(h:SsI p s.rl n x)(hd:x.hd.Ok)(u0:0<=u)(a:u+(x.ag.length:Int)+(x.lo.length:Int)<=60):DG p s.rl n u x (x.bt p s u):=by
 unfold Ss.bt
 have i:=h
 split
 ·have bi:=Gv K g0 x.hd (S:=x.S) h.w0 h.w1
  have bs:=PH K hd g0 h.s0 h.s1
  rw[← L9 s.rl p x.W x.S x.hd] at bs
  have cl:=G4 K g0
  have d60:(s.rl.beh p x.W x.S x.hd).1 / p<=60:=ZZ g0 (by lia)
  generalize hpl:(max 0 ((s.rl.beh p x.W x.S x.hd).1 / p - u)).toNat=pl
  have F:=Nh (x:=x.rdy p s.rl) pl h.l
  have la:(x.rdy p s.rl).ag.length=x.ag.length+x.lo.length:=by show (d7 _).length=_;rw[mf,Xo]
  obtain ⟨e1,e2,e3,e4,e5,e6,e7,e8⟩:=F.same
  have f1:=F.few;have f2:=F.all;have f3:=F.n0;have f4:=F.n1
  have ex:(x.rdy p s.rl).nx=x.nx:=rfl
  have elo:((x.rdy p s.rl).fill pl).1.lo.length=0:=by rw[e5];rfl
  have:=h.n0;have:=h.n1
  have z6:((x.rdy p s.rl).fill pl).1.gd=0:=e6
  have z7:((x.rdy p s.rl).fill pl).1.mk'=0:=e7
  have z8:((x.rdy p s.rl).fill pl).1.wt=0:=e8
  refine ⟨e1,⟨?_,?_,?_,?_,by lia,by lia,by lia,by lia,by lia,by lia,by lia,F.l⟩,by lia,by lia,by lia,by lia⟩
  ·rw[e3];exact bi.1
  ·rw[e3];exact bi.2
  ·rw[e4];exact bs.1
  ·rw[e4];exact bs.2
 ·have:=h.g1;have:=h.m1;have:=h.n1
  exact ⟨rfl,⟨h.w0,h.w1,h.s0,h.s1,h.g0,(show x.gd<=60*((n+1:Nat):Int) by lia),h.m0,(show x.mk'<=60*((n+1:Nat):Int) by lia),h.t0,h.n0,(show x.nx<=60*((n+1:Nat):Int) by lia),h.l⟩,h.g1,h.m1,by simp,by simpa using a⟩
theorem Ih {ss:List Sn}{ns:List (List Int)}{x:Str×Lt}(h:x∈iu ss ns):∃ s∈ss,∃ n,x=(s.rd.headD (OF ""),⟨s.nm,n,0,0,0⟩):=by
 rw[lZ] at h
 obtain ⟨t,_,h⟩:=ZH.mp h
 obtain ⟨y,hy,e⟩:=ZL.mp h
 unfold cX at e
 cases q:y.2[t]? with
 | none=>rw[q] at e;cases e
 | some n=>
  rw[q] at e
  cases e
  exact ⟨y.1,(XH hy).1,n,rfl⟩
theorem zT (n:Str)(t:Nat):∀ zs:List (Sn×List Int),(own n ((zs.filterMap (cX t)).map (·.2))).length<=(zs.map λy=>if n=y.1.nm then 1 else 0).sum
 | []=>by simp[own]
 | y::r=>by
  have ih:=zT n t r
  simp only[Xm,XT]
  cases e:cX t y with
  | none=>rw[zbT e];lia
  | some z=>
   rw[zbU e,Xm]
   have ez:z.2.nm=y.1.nm:=by
    unfold cX at e
    cases q:y.2[t]? with
    | none=>rw[q] at e;cases e
    | some k=>rw[q] at e;cases e;rfl
   unfold own at *
   by_cases h:n=y.1.nm
   ·rw[if_pos h]
    rw[Zg]
    split
    ·rw[XC];lia
    ·lia
   ·rw[if_neg h,zb7 (by rw[ez];simp;exact λz=>h z.symm)];lia
theorem ui (n:Str)(t L:Nat)(hL:L<=t):∀ zs:List (Sn×List Int),(∀ y∈zs,y.1.nm=n->y.2.length<=L)->(own n ((zs.filterMap (cX t)).map (·.2))).length=0
 | [],_=>rfl
 | y::r,h=>by
  have ih:=ui n t L hL r λy hy=>h y (Xp _ hy)
  cases e:cX t y with
  | none=>rw[zbT e];exact ih
  | some z=>
   rw[zbU e,Xm]
   unfold cX at e
   cases q:y.2[t]? with
   | none=>rw[q] at e;cases e
   | some k=>
    rw[q] at e;cases e
    have hlt:=(XR.mp q).1
    have ne:¬ y.1.nm=n:=λz=>by have:=h y Xl z;lia
    unfold own at *
    rw[zb7 (by simpa using ne)]
    exact ih
theorem lE {α:Type}(n:Str)(f:α->List Lt):∀ xs:List α,(own n (xs.flatMap f)).length=(xs.map λx=>(own n (f x)).length).sum
 | []=>rfl
 | x::r=>by rw[Zv,oU,lE n f r];rfl
theorem Om (L:Nat):∀ M:Nat,((XX M).map λt=>if t < L then 1 else 0).sum<=L
 | 0=>by simp
 | M+1=>by
  have key:∀ M:Nat,((XX M).map λt=>if t < L then 1 else 0).sum=min M L:=by
   intro M
   induction M with
   | zero=>simp
   | succ M ih=>
    rw[zcy,XE,List.sum_append,ih]
    simp only[Xm,zai,XT,List.sum_nil]
    split<;>lia
  rw[key];lia
theorem vH {α β:Type}:∀ (xs:List α) (ys:List β),((Xv xs ys).map (·.1)) <+: xs
 | [],_=>by simp
 | x::r,[]=>by simp
 | x::r,y::s=>by simpa using vH r s
theorem Hr {ss:List Sn}{ns:List (List Int)}(nd:(ss.map Sn.nm).Nodup)(n:Str)(L:Nat)(h:∀ y∈Xv ss ns,y.1.nm=n->y.2.length<=L):(own n ((iu ss ns).map (·.2))).length<=L:=by
 rw[lZ,zb8,lE]
 refine Yd (rq (g:=λt=>if t < L then 1 else 0) λt _=>?_) (Om L _)
 split
 ·refine Yd (zT n t _) ?_
  have e:((Xv ss ns).map λy=>if n=y.1.nm then 1 else 0)=((Xv ss ns).map (·.1.nm)).map λk=>if n=k then 1 else 0:=by rw[Xk];rfl
  rw[e]
  refine mh n ?_
  have e2:(Xv ss ns).map (·.1.nm)=((Xv ss ns).map (·.1)).map Sn.nm:=by rw[Xk];rfl
  rw[e2]
  exact nd.sublist (((vH ss ns).sublist).map Sn.nm)
 ·rw[ui n t L (by lia) _ h];exact Xq 0
def St'.jA (x:St')(n:Str):Nat:=(x.ws.map λw=>(own n (w.cm++w.st)).length).sum
theorem TL (x:St')(n:Str):x.und n=(x.jA n:Int):=by
 unfold St'.und St'.jA
 induction x.ws with
 | nil=>rfl
 | cons a l ih=>simp only[Xm,XT,ih];lia
structure dk (p:Pn) (m:Int) (n:Nat) (st:St'):Prop where
 K:p.Ok m
 lw:st.ws.length=p.ws.length
 nm:st.ss.map Ss.nm=p.sn
 lt:∀ w∈st.ws,∀ l∈w.cm++w.st,l.In p.sn
 ss:∀ y∈Xv p.ss st.ss,SsI p.g y.1.rl n y.2
 cn:∀ x∈st.ss,(st.jA x.nm:Int)+(x.ag.length:Int)+(x.lo.length:Int)<=60
theorem tT {ns:List Str}(h:ns.Pairwise λa b=>ltS a b=true):ns.Nodup:=h.imp λ{a b} h e=>by
 subst e
 have:¬ a.cps.toList < a.cps.toList:=List.lt_irrefl _
 simp[ltS,this] at h
theorem qv {α β:Type}{f:α->List β}{k:Nat}{l:List α}(h:∀ x∈l,(f x).length<=k):(l.flatMap f).length<=l.length*k:=by
 rw[List.length_flatMap];exact jY h
theorem iz {α β:Type}{f:α->β}{a b:α}:∀ {l:List α},(l.map f).Nodup->a∈l->b∈l->f a=f b->a=b
 | x::r,h,ha,hb,e=>by
  have h':=Yc.mp h
  rcases Xr.mp ha with ea | ha
  ·rcases Xr.mp hb with eb | hb
   ·rw[ea,eb]
   ·exact absurd (Xh.mpr ⟨b,hb,by rw[← e,ea]⟩:f x∈r.map f) h'.1
  ·rcases Xr.mp hb with eb | hb
   ·exact absurd (Xh.mpr ⟨a,ha,by rw[e,eb]⟩:f x∈r.map f) h'.1
   ·exact iz h'.2 ha hb e
section
variable {p:Pn} {m:Int} {n:Nat} {st:St'} (I:dk p m n st)
include I
theorem dk.sd:p.sn.Nodup:=tT I.K.sd
theorem dk.ls:st.ss.length=p.ss.length:=by have:=congrArg Y6 I.nm;simpa using this
theorem dk.znm {y:Sn×Ss}(h:y∈Xv p.ss st.ss):y.2.nm=y.1.nm:=by
 obtain ⟨i,hi,e⟩:=Zd h
 have h1:i < p.ss.length:=by simp at hi;lia
 have h2:i < st.ss.length:=by simp at hi;lia
 have e1:=congrArg (λl=>l[i]?) I.nm
 simp[h1,h2] at e1
 rw[← e]
 simpa using e1
theorem dk.snm {a:Str}(h:a∈p.sn):∃ x∈st.ss,x.nm=a:=by rw[← I.nm] at h;obtain ⟨x,hx,e⟩:=Xh.mp h;exact ⟨x,hx,e⟩
theorem dk.UJ {a:Str}(h:a∈p.sn):st.jA a<=60:=by
 obtain ⟨x,hx,rfl⟩:=I.snm h
 have:=I.cn x hx;lia
theorem dk.snl:p.sn.length<=8:=by unfold Pn.sn;rw[Xc];exact I.K.s1
theorem dk.LJ {w:Ws}(h:w∈st.ws):w.cm.length+w.st.length<=480:=by
 have h1:=Am p.sn (w.cm++w.st) λl hl=>(I.lt w h l hl).1
 have h2:(p.sn.map λa=>(own a (w.cm++w.st)).length).sum<=p.sn.length*60:=jY λa ha=>by
  have:=I.UJ ha
  have:=kH (f:=λw:Ws=>(own a (w.cm++w.st)).length) h
  unfold St'.jA at *;lia
 have:=I.snl
 rw[Xo] at h1;lia
theorem dk.sok {a:Str}(h:a∈p.sn):Xn a=true:=by
 obtain ⟨s,hs,rfl⟩:=Xh.mp h
 exact (I.K.s s hs).n
theorem dk.xok (hn:n<=10000){y:Sn×Ss}(h:y∈Xv p.ss st.ss):y.2.Ok p.g y.1.rl:=by
 have hx:=(XH h).2
 have c:=I.cn _ hx
 refine (I.ss y h).ok hn (I.sok ?_) (by lia)
 rw[I.znm h];exact Xh.mpr ⟨_,(XH h).1,rfl⟩
theorem dk.bt (hn:n<=10000){y:Sn×Ss}(h:y∈Xv p.ss st.ss):DG p.g y.1.rl n (st.jA y.2.nm) y.2 (y.2.bt p.g y.1 (st.und y.2.nm)):=by
 have hx:=(XH h).2
 have hs:=(XH h).1
 have c:=I.cn _ hx
 rw[TL]
 exact U9 (I.K.s _ hs).k (by have:=I.K.g.1;lia) (I.ss y h) (I.xok hn h).h (by lia) c
theorem dk.W5 (hn:n<=10000){b:Ss×List Int}(h:b∈p.bw st):∃ y∈Xv p.ss st.ss,b=y.2.bt p.g y.1 (st.und y.2.nm)/\DG p.g y.1.rl n (st.jA y.2.nm) y.2 b:=by
 unfold Pn.bw at h
 rw[dE] at h
 obtain ⟨y,hy,rfl⟩:=Xh.mp h
 exact ⟨y,hy,rfl,I.bt hn hy⟩
theorem dk.nb (hn:n<=10000){b:Ss×List Int}(h:b∈p.bw st):b.2.length<=60:=by obtain ⟨y,_,_,B⟩:=I.W5 hn h;exact B.few
theorem dk.zb {y:Sn×(Ss×List Int)}(h:y∈Xv p.ss (p.bw st)):∃ x,(y.1,x)∈Xv p.ss st.ss/\y.2=x.bt p.g y.1 (st.und x.nm):=by
 obtain ⟨i,hi,e⟩:=Zd h
 have h1:i < p.ss.length:=by simp at hi;lia
 have h2:i < st.ss.length:=by have:=I.ls;lia
 refine ⟨st.ss[i],?_,?_⟩
 ·have:i < (Xv p.ss st.ss).length:=by simp;lia
  have hm:=YM this
  rw[zb9] at hm
  rw[← e];simpa using hm
 ·rw[← e]
  simp[Pn.bw]
theorem dk.zs {y:Sn×List Int}(h:y∈Xv p.ss ((p.bw st).map (·.2))):∃ b,(y.1,b)∈Xv p.ss (p.bw st)/\y.2=b.2:=by
 rw[Y1] at h
 obtain ⟨z,hz,rfl⟩:=Xh.mp h
 exact ⟨z.2,hz,rfl⟩
theorem dk.O6 (hn:n<=10000){x:Ss}{s:Sn}(h:(s,x)∈Xv p.ss st.ss):(own s.nm ((p.aS st).map (·.2))).length<=(x.bt p.g s (st.und x.nm)).2.length:=by
 refine Hr I.sd s.nm _ λy hy e=>?_
 obtain ⟨b,hb,e2⟩:=I.zs hy
 obtain ⟨x',hx',e3⟩:=I.zb hb
 have e3':b=x'.bt p.g y.1 (st.und x'.nm):=e3
 have es:y.1=s:=iz (f:=Sn.nm) I.sd (XH hx').1 (XH h).1 e
 have ex:x'=x:=by
  refine iz (f:=Ss.nm) (by rw[I.nm];exact I.sd) (XH hx').2 (XH h).2 ?_
  have n1:x'.nm=y.1.nm:=I.znm hx'
  have n2:x.nm=s.nm:=I.znm h
  rw[n1,n2];exact e
 rw[e2,e3',es,ex]
 exact Xq _
theorem dk.WC {s:Sn}(h:s∈p.ss):∃ x,(s,x)∈Xv p.ss st.ss:=by
 obtain ⟨i,hi,e⟩:=Zd h
 have h2:i < st.ss.length:=by have:=I.ls;lia
 have:i < (Xv p.ss st.ss).length:=by simp;lia
 have hm:=YM this
 rw[zb9] at hm
 exact ⟨_,by rw[← e];exact hm⟩
theorem dk.vW {x:Str×Lt}(h:x∈p.aS st):x.2.In p.sn/\Xn x.1=true:=by
 obtain ⟨s,hs,k,rfl⟩:=Ih h
 have hk:=I.K.s s hs
 refine ⟨⟨Xh.mpr ⟨s,hs,rfl⟩,Y7 0,Y7 0,(show (0:Int)<=1 by decide)⟩,?_⟩
 cases e:s.rd with
 | nil=>exact absurd e hk.r0
 | cons a r=>
  have:a∈p.wn:=hk.r.subset (by rw[e];simp)
  obtain ⟨w,hw,rfl⟩:=Xh.mp this
  exact (I.K.w w hw).n
theorem dk.OL (hn:n<=10000):(p.aS st).length<=480:=by
 have h1:=Am p.sn ((p.aS st).map (·.2)) λl hl=>by obtain ⟨x,hx,rfl⟩:=Xh.mp hl;exact (I.vW hx).1.1
 have h2:(p.sn.map λa=>(own a ((p.aS st).map (·.2))).length).sum<=p.sn.length*60:=jY λa ha=>by
  obtain ⟨s,hs,rfl⟩:=Xh.mp ha
  obtain ⟨x,hx⟩:=I.WC hs
  exact Yd (I.O6 hn hx) (I.bt hn hx).few
 have:=I.snl
 rw[Xc] at h1;lia
theorem dk.J8 {x:Wt}(h:x∈p.bW st):∃ y∈Xv p.ws st.ws,x=pass y.1 p.sn y.2 (p.aS st):=by
 unfold Pn.bW at h
 rw[dE] at h
 obtain ⟨y,hy,rfl⟩:=Xh.mp h
 exact ⟨y,hy,rfl⟩
theorem dk.z9 {x:Wt}(h:x∈p.bW st):(∀ l∈x.ca,l.In p.sn)/\(∀ l∈x.lo,l.In p.sn)/\(∀ l∈x.ou,l.In p.sn)/\∀ l∈x.st,l.In p.sn:=by
 obtain ⟨y,hy,rfl⟩:=I.J8 h
 exact MV (I.lt _ (XH hy).2) λx hx=>(I.vW hx).1
theorem dk.CD (hn:n<=10000){x:Wt}(h:x∈p.bW st):x.ca.length<=960/\x.lo.length+x.ou.length+x.st.length<=1440:=by
 obtain ⟨y,hy,rfl⟩:=I.J8 h
 have h1:=I.LJ (XH hy).2
 have h2:=I.OL hn
 have h3:=GZ y.1 p.sn y.2 (p.aS st)
 have h4:(pass y.1 p.sn y.2 (p.aS st)).ca.length<=y.2.cm.length+(p.aS st).length:=by
  show (y.2.cm++((p.aS st).filter λx=>decide (x.1=y.1.nm)).map (·.2)).length<=_
  rw[Xo,Xc]
  have:=YZ (λx:Str×Lt=>decide (x.1=y.1.nm)) (p.aS st)
  lia
 lia
theorem dk.wl:(p.bW st).length<=6:=by unfold Pn.bW;rw[Yy];have:=I.K.w1;lia
end
theorem EN {α:Type}(a b:α->Bool)(l:List α):(l.filter a).filter b=(l.filter b).filter a:=by
 rw[ZN,ZN];congr 1;funext x;exact zfq ..
theorem Lx (n:Str)(q:Str×Lt->Bool)(l:List (Str×Lt)):(own n ((l.filter q).map (·.2))).length=((l.filter λx=>decide (x.2.nm=n)).filter q).length:=by
 unfold own
 rw[Zc,Xc,← EN]
 rfl
theorem ym (n:Str)(h:Int)(l:List Lt):(own n (l.map (·.qR h))).length=(own n l).length:=by
 rw[vc,vc,Xk];rfl
theorem rK {α β γ:Type}(P:α×β->γ):∀ (xs:List α) (ys:List β),Xv xs ((Xv xs ys).map P)=(Xv xs ys).map λy=>(y.1,P y)
 | [],_=>by simp
 | x::r,[]=>by simp
 | x::r,y::s=>by simp[rK P r s]
theorem wC {α β:Type}:∀ {xs:List α} {ys:List β},xs.length<=ys.length->(Xv xs ys).map (·.1)=xs
 | [],_,_=>by simp
 | x::r,[],h=>by simp at h
 | x::r,y::s,h=>by simp[wC (xs:=r) (ys:=s) (by simpa using h)]
theorem Dy {α β:Type}:∀ {xs:List α} {ys:List β},ys.length<=xs.length->(Xv xs ys).map (·.2)=ys
 | _,[],_=>by simp
 | [],y::s,h=>by simp at h
 | x::r,y::s,h=>by simp[Dy (xs:=r) (ys:=s) (by simpa using h)]
theorem El (q:Lt->Bool)(n:Str)(l:List Lt):(own n (l.filter q)).length+(own n (l.filter λx=>!q x)).length=(own n l).length:=by
 unfold own
 induction l with
 | nil=>rfl
 | cons x r ih=>by_cases h1:q x<;>by_cases h2:x.nm=n<;>simp[h1,h2] at ih ⊢ <;> lia
theorem Gk {p:Pn}{st:St'}(nd:p.wn.Nodup)(lw:st.ws.length=p.ws.length)(a:Str) :
  (p.step st).jA a+(own a (p.taken st)).length+(own a (p.bB st)).length<=st.jA a+(own a ((p.aS st).map (·.2))).length:=by
 generalize hZ:Xv p.ws st.ws=Z
 have z1:Z.map (·.1)=p.ws:=by rw[← hZ];exact wC (by lia)
 have z2:Z.map (·.2)=st.ws:=by rw[← hZ];exact Dy (by lia)
 let P:Wy×Ws->Wt:=λy=>pass y.1 p.sn y.2 (p.aS st)
 have ew:p.bW st=Z.map P:=by unfold Pn.bW;rw[dE,hZ]
 have el:(own a (p.bB st)).length=(Z.map λy=>(own a (P y).lo).length).sum:=by unfold Pn.bB;rw[lE,ew,Xk];rfl
 have eo:(own a (p.out st)).length=(Z.map λy=>(own a (P y).ou).length).sum:=by unfold Pn.out;rw[lE,ew,Xk];rfl
 have e3:(Z.map λy=>(own a (P y).lo).length).sum+(Z.map λy=>(own a (P y).ou).length).sum+(Z.map λy=>(own a (P y).st).length).sum=(Z.map λy=>(own a (P y).ca).length).sum+(Z.map λy=>(own a y.2.st).length).sum:=by
  rw[← cf,← cf,← cf]
  congr 1
  exact Xu λy _=>JB y.1 p.sn y.2 (p.aS st) a
 have e4:(Z.map λy=>(own a (P y).ca).length).sum<=(Z.map λy=>(own a y.2.cm).length).sum+(own a ((p.aS st).map (·.2))).length:=by
  have:(Z.map λy=>(own a (P y).ca).length)=Z.map λy=>(own a y.2.cm).length+(((p.aS st).filter λx=>decide (x.2.nm=a)).filter λx=>decide (x.1=y.1.nm)).length:=by
   refine Xu λy _=>?_
   show (own a (y.2.cm++((p.aS st).filter λx=>decide (x.1=y.1.nm)).map (·.2))).length=_
   rw[oU,Lx]
  rw[this,cf]
  have h2:=split_le (f:=λx:Str×Lt=>x.1) nd ((p.aS st).filter λx=>decide (x.2.nm=a))
  have h3:(Z.map λy=>(((p.aS st).filter λx=>decide (x.2.nm=a)).filter λx=>decide (x.1=y.1.nm)).length)=(p.wn.map λk=>(((p.aS st).filter λx=>decide (x.2.nm=a)).filter λx=>decide (x.1=k)).length):=by
   unfold Pn.wn;rw[← z1,Xk,Xk];rfl
  rw[h3]
  have h4:(own a ((p.aS st).map (·.2))).length=((p.aS st).filter λx=>decide (x.2.nm=a)).length:=by
   unfold own;rw[Zc,Xc];rfl
  lia
 have e5:st.jA a=(Z.map λy=>(own a y.2.cm).length).sum+(Z.map λy=>(own a y.2.st).length).sum:=by
  unfold St'.jA
  rw[← z2,Xk,← cf]
  congr 1
  exact Xu λy _=>oU ..
 have e6:(p.step st).jA a=(Z.map λy=>(own a ((p.out st).filter λl=>decide (dH p.ss l=some y.1.nm))).length).sum+(Z.map λy=>(own a (P y).st).length).sum:=by
  unfold St'.jA Pn.step
  simp only
  rw[dE,ew,← hZ,rK,hZ,Xk,Xk,← cf]
  congr 1
  refine Xu λy _=>?_
  show (own a (((p.out st).filter λl=>decide (dH p.ss l=some y.1.nm)).map (·.qR 1)++(P y).st.map (·.qR 0))).length=_
  rw[oU,ym,ym]
 have e7:(Z.map λy=>(own a ((p.out st).filter λl=>decide (dH p.ss l=some y.1.nm))).length).sum<=(own a ((p.out st).filter λl=>!decide (dH p.ss l=none))).length:=by
  have nd2:(p.wn.map some).Nodup:=zeg _ (λa b (h:a≠b) (z:some a=some b)=>h (X5 z)) nd
  have h2:=split_le (f:=dH p.ss) nd2 (own a ((p.out st).filter λl=>!decide (dH p.ss l=none)))
  rw[Xk] at h2
  have h3:(Z.map λy=>(own a ((p.out st).filter λl=>decide (dH p.ss l=some y.1.nm))).length)=p.wn.map ((λk=>((own a ((p.out st).filter λl=>!decide (dH p.ss l=none))).filter λx=>decide (dH p.ss x=k)).length) ∘ some):=by
   unfold Pn.wn
   rw[← z1,Xk,Xk]
   refine Xu λy _=>?_
   unfold own
   simp only[Function.comp,ZN]
   congr 2
   funext x
   by_cases h1:x.nm=a<;>cases h:dH p.ss x<;>simp[h1]
  rw[h3];exact h2
 have e8:=El (λl=>decide (dH p.ss l=none)) a (p.out st)
 have e9:(own a (p.taken st)).length=(own a ((p.out st).filter λl=>decide (dH p.ss l=none))).length:=rfl
 lia
theorem uc:∀ {l:List Lt},(∀ x∈l,0<=x.mr/\x.mr<=1)->0<=(l.map Lt.mr).sum/\(l.map Lt.mr).sum<=(l.length:Int)
 | [],_=>by simp
 | x::r,h=>by
  have h1:=h x Xl
  have h2:=uc (l:=r) λx hx=>h x (Xp _ hx)
  simp only[Xm,XT,XC];lia
section
variable {p:Pn} {m:Int} {n:Nat} {st:St'} (I:dk p m n st) (hn:n<=10000)
include I
theorem dk.DO {l:Lt}(h:l∈p.out st):l.In p.sn:=by
 obtain ⟨x,hx,hl⟩:=ZH.mp h
 exact (I.z9 hx).2.2.1 l hl
theorem dk.RX {l:Lt}(h:l∈p.bB st):l.In p.sn:=by
 obtain ⟨x,hx,hl⟩:=ZH.mp h
 exact (I.z9 hx).2.1 l hl
include hn
theorem dk.cons {s:Sn}{b:Ss×List Int}(h:(s,b)∈Xv p.ss (p.bw st)):b.1.nm=s.nm/\SsI p.g s.rl (n+1) b.1/\b.1.gd<=60*n/\b.1.mk'<=60*n/\
  ((p.step st).jA s.nm:Int)+((own s.nm (p.taken st)).length:Int)+((own s.nm (p.bB st)).length:Int)+(b.1.ag.length:Int)+(b.1.lo.length:Int)<=60:=by
 obtain ⟨x,hx,e⟩:=I.zb h
 have e':b=x.bt p.g s (st.und x.nm):=e
 have B:DG p.g s.rl n (st.jA x.nm) x (x.bt p.g s (st.und x.nm)):=I.bt hn hx
 have nm:x.nm=s.nm:=I.znm hx
 have c:=Gk (p:=p) (st:=st) I.K.wd I.lw s.nm
 have d:(own s.nm ((p.aS st).map (·.2))).length<=(x.bt p.g s (st.und x.nm)).2.length:=I.O6 hn hx
 have a:=B.all
 rw[← e'] at B d a
 rw[nm] at a
 exact ⟨B.nm.trans nm,B.i,B.g,B.m,by lia⟩
theorem dk.rd:HE p st:=by
 have w1:=I.K.w1;have s1:=I.K.s1
 have wl:=I.wl
 have sl:=I.OL hn
 have lo:=qv (f:=Wt.lo) (k:=1440) (l:=p.bW st) λx hx=>by have:=(I.CD hn hx).2;lia
 have ou:=qv (f:=Wt.ou) (k:=1440) (l:=p.bW st) λx hx=>by have:=(I.CD hn hx).2;lia
 refine ⟨I.K.g,I.sd,by lia,by lia,λa ha=>I.sok ha,λs hs=>⟨(I.K.s s hs).k,(I.K.s s hs).r0,λa ha=>?_⟩,λw hw=>⟨(I.K.w w hw).n,by have:=(I.K.w w hw).p0;lia⟩,λw hw=>⟨λl hl=>I.sok (I.lt w hw l hl).1,by have:=I.LJ hw;lia⟩,
  λy hy=>I.xok hn hy,λb hb=>by have:=I.nb hn hb;lia,λx hx=>⟨(I.vW hx).2,(I.vW hx).1.1⟩,by lia,λw hw=>⟨λl hl=>(I.lt w hw l hl).1,by have:=I.LJ hw;lia⟩,λx hx=>by have:=I.CD hn hx;lia,
  λl hl=>⟨(I.DO hl).1,(I.DO hl).2.1⟩,λl hl=>(I.RX hl).1,?_,?_,?_,λy hy=>?_⟩
 ·have:a∈p.wn:=(I.K.s s hs).r.subset ha
  obtain ⟨w,hw,rfl⟩:=Xh.mp this
  exact (I.K.w w hw).n
 ·show ((p.bW st).flatMap Wt.ou).length<=_;lia
 ·show ((p.bW st).flatMap Wt.lo).length<=_;lia
 ·unfold Pn.evs
  rw[Xo,Xc,dE]
  have h2:(Xv p.ws (p.bW st)).length<=6:=by simp;lia
  have h3:=qv (f:=λy:Wy×Wt=>evs p.ss y.1 y.2) (k:=2400) (l:=Xv p.ws (p.bW st)) λy hy=>by
   have:=I.CD hn (XH hy).2
   show (y.2.ca.zipIdx.map _++y.2.ou.map _).length<=_
   rw[Xo,Xc,Xc,List.length_zipIdx];lia
  rw[List.flatMap_def] at h3
  lia
 ·have:=(I.cons hn (s:=y.1) (b:=y.2) hy).2.2.2.2
  lia
theorem dk.next:dk p m (n+1) (p.step st):=by
 have lwt:(p.bW st).length=p.ws.length:=by unfold Pn.bW;rw[Yy];have:=I.lw;lia
 have lb:(p.bw st).length=p.ss.length:=by unfold Pn.bw;rw[Yy];have:=I.ls;lia
 have es:(p.step st).ss=(Xv p.ss (p.bw st)).map λy=>jr y.1 y.2.1 (p.bB st) (p.taken st):=by unfold Pn.step;simp only;rw[dE]
 have key:∀ y∈Xv p.ss (p.bw st),(jr y.1 y.2.1 (p.bB st) (p.taken st)).nm=y.1.nm:=λy hy=>(I.cons hn (s:=y.1) (b:=y.2) hy).1
 refine ⟨I.K,?_,?_,λw hw l hl=>?_,λy hy=>?_,λx hx=>?_⟩
 ·unfold Pn.step;simp only;rw[Yy];lia
 ·rw[es,Xk]
  have:(Xv p.ss (p.bw st)).map (Ss.nm ∘ λy=>jr y.1 y.2.1 (p.bB st) (p.taken st))=(Xv p.ss (p.bw st)).map (Sn.nm ∘ (·.1)):=Xu λy hy=>key y hy
  rw[this,← Xk,wC (by lia)]
 ·unfold Pn.step at hw
  simp only at hw
  rw[dE] at hw
  obtain ⟨y,hy,rfl⟩:=Xh.mp hw
  rcases Yi.mp hl with hl | hl
  ·obtain ⟨z,hz,rfl⟩:=Xh.mp (show l∈((p.out st).filter λl=>decide (dH p.ss l=some y.1.nm)).map (·.qR 1) from hl)
   have h:=I.DO (XZ.mp hz).1
   exact ⟨h.1,(show 0<=z.hp+1 by have:=h.2.1;lia),h.2.2⟩
  ·obtain ⟨z,hz,rfl⟩:=Xh.mp (show l∈y.2.st.map (·.qR 0) from hl)
   have h:=(I.z9 (XH hy).2).2.2.2 z hz
   exact ⟨h.1,(show 0<=z.hp+0 by have:=h.2.1;lia),h.2.2⟩
 ·rw[es,rK] at hy
  obtain ⟨z,hz,rfl⟩:=Xh.mp hy
  obtain ⟨h1,h2,h3,h4,h5⟩:=I.cons hn (s:=z.1) (b:=z.2) hz
  have mk:=uc (l:=own z.1.nm (p.taken st)) λl hl=>by
   have:=I.DO (XZ.mp (XZ.mp hl).1).1
   exact this.2.2
  have g0:=h2.g0;have m0:=h2.m0;have t0:=h2.t0
  refine ⟨h2.w0,h2.w1,h2.s0,h2.s1,?_,?_,?_,?_,?_,h2.n0,h2.n1,h2.l⟩
  ·show 0<=z.2.1.gd+((own z.1.nm (p.taken st)).length:Int) - ((own z.1.nm (p.taken st)).map Lt.mr).sum;lia
  ·show z.2.1.gd+((own z.1.nm (p.taken st)).length:Int) - ((own z.1.nm (p.taken st)).map Lt.mr).sum<=60*((n+1:Nat):Int);lia
  ·show 0<=z.2.1.mk'+((own z.1.nm (p.taken st)).map Lt.mr).sum;lia
  ·show z.2.1.mk'+((own z.1.nm (p.taken st)).map Lt.mr).sum<=60*((n+1:Nat):Int);lia
  ·show 0<=max z.2.1.wt _;lia
 ·rw[es] at hx
  obtain ⟨z,hz,rfl⟩:=Xh.mp hx
  obtain ⟨h1,h2,h3,h4,h5⟩:=I.cons hn (s:=z.1) (b:=z.2) hz
  rw[key z hz]
  have e:(jr z.1 z.2.1 (p.bB st) (p.taken st)).lo.length=z.2.1.lo.length+(own z.1.nm (p.bB st)).length:=by
   show (d7 (z.2.1.lo++(own z.1.nm (p.bB st)).map Lt.nu)).length=_
   rw[mf,Xo,Xc]
  have e2:(jr z.1 z.2.1 (p.bB st) (p.taken st)).ag=z.2.1.ag:=rfl
  rw[e,e2];lia
end
theorem Ld {p:Pn}{m:Int}(K:p.Ok m):dk p m 0 p.beg:=by
 have g1:=K.g.1
 have nm:∀ s:Sn,(Sn.beg p.g s).nm=s.nm:=λs=>rfl
 have und:∀ a,p.beg.jA a=0:=λa=>by
  unfold St'.jA Pn.beg
  simp only[Xk]
  have:∀ l:List Wy,(l.map λ_=>0).sum=0:=λl=>by induction l<;>simp_all
  exact this p.ws
 refine ⟨K,by simp[Pn.beg],by unfold Pn.beg;simp only[Xk];rfl,λw hw l hl=>?_,λy hy=>?_,λx hx=>?_⟩
 ·unfold Pn.beg at hw
  obtain ⟨_,_,rfl⟩:=Xh.mp hw
  cases hl
 ·have hy':y∈Xv p.ss (p.ss.map (Sn.beg p.g)):=hy
  rw[Y1] at hy'
  obtain ⟨z,hz,rfl⟩:=Xh.mp hy'
  have e:z.2=z.1:=by
   have:∀ (l:List Sn) (z:Sn×Sn),z∈Xv l l->z.2=z.1:=by
    intro l
    induction l with
    | nil=>intro z hz;simp at hz
    | cons a l ih=>
     intro z hz
     rcases Xr.mp (by simpa using hz) with e | h
     ·rw[e]
     ·exact ih z h
   exact this _ z hz
  have hk:=K.s z.1 (XH hz).1
  have R:=hk.k
  have q0:=R.w.q0;have s0:=R.t.q0
  show SsI p.g z.1.rl 0 (Sn.beg p.g z.2)
  rw[e]
  refine ⟨?_,?_,Y7 0,(show (0:Int)<=p.g by lia),Y7 0,Y7 0,Y7 0,Y7 0,Y7 0,Y7 0,Y7 0,λi hi=>(hk.mm i hi).1⟩
  ·show p.g<=z.1.rl.p*p.g / z.1.rl.q
   rw[YU q0]
   have:=XD R.w.ge (show 0<=p.g by lia)
   rw[zcV,YF z.1.rl.q] at this
   exact this
  ·show z.1.rl.p*p.g / z.1.rl.q<=z.1.rl.r*p.g / z.1.rl.s
   rw[YU s0]
   generalize hW:z.1.rl.p*p.g / z.1.rl.q=W
   have h1:W*z.1.rl.q<=z.1.rl.p*p.g:=by rw[← hW];exact zcw _ (by lia)
   have h2:=XD h1 (show 0<=z.1.rl.s by lia)
   have h3:=XD R.wt (show 0<=p.g by lia)
   refine zae (a:=z.1.rl.q) ?_ q0
   calc W*z.1.rl.s*z.1.rl.q=W*z.1.rl.q*z.1.rl.s:=by ac_rfl
    _<=z.1.rl.p*p.g*z.1.rl.s:=h2
    _=z.1.rl.p*z.1.rl.s*p.g:=by ac_rfl
    _<=z.1.rl.r*z.1.rl.q*p.g:=h3
    _=z.1.rl.r*p.g*z.1.rl.q:=by ac_rfl
 ·have hx':x∈p.ss.map (Sn.beg p.g):=hx
  obtain ⟨s,hs,rfl⟩:=Xh.mp hx'
  rw[und]
  show ((0:Nat):Int)+((0:Nat):Int)+((0:Nat):Int)<=60
  decide
def spD (is:List Nat):List (L2.Key×D):=is.map λi:Nat=>(.inl (i:Int),.bl true)
def j8 (cs:List Int)(t l u:Int)(c:Addr):List (L2.Key×D):=[(.inr (OF "cells"),.ls (cs.map .int)),(.inr (OF "turn"),.int t),(.inr (OF "left"),.int l),(.inr (OF "used"),.int u),(.inr (OF "spent"),.obj c)]
structure Pq (μ:Mu) (b c:Addr) (n:Nat):Prop where
 ne:b≠c
 ex:∃ (cs:List Int) (t l u:Int) (is:List Nat),μ b=some (.dct (j8 cs t l u c))/\μ c=some (.dct (spD is))/\(0<=t/\t<=n)/\is.Nodup/\(∀ i∈is,i < cs.length)/\cs.length<=63
structure mH (b c:Addr) (n:Nat) (μ μ':Mu):Prop where
 p:Pq μ' b c n
 o:∀ a,a≠b->a≠c->μ' a=μ a
theorem Pq.mono {μ:Mu}{b c:Addr}{n m:Nat}(h:Pq μ b c n)(k:n<=m):Pq μ b c m:=by
 obtain ⟨ne,cs,t,l,u,is,e1,e2,⟨t0,t1⟩,r⟩:=h
 exact ⟨ne,cs,t,l,u,is,e1,e2,⟨t0,by lia⟩,r⟩
theorem mH.mono {μ μ':Mu}{b c:Addr}{n m:Nat}(h:mH b c n μ μ')(k:n<=m):mH b c m μ μ':=⟨h.p.mono k,h.o⟩
theorem mH.trans {b c:Addr}{μ μ1 μ2:Mu}{n m:Nat}(h:mH b c n μ μ1)(k:mH b c m μ1 μ2):mH b c m μ μ2:=⟨k.p,λa h1 h2=>(k.o a h1 h2).trans (h.o a h1 h2)⟩
theorem Pq.nb {μ:Mu}{b c a:Addr}{n:Nat}(h:Pq μ b c n)(e:μ a=none):a≠b/\a≠c:=by
 obtain ⟨_,cs,t,l,u,is,e1,e2,_⟩:=h
 exact ⟨(λz=>by subst z;rw[e1] at e;cases e),(λz=>by subst z;rw[e2] at e;cases e)⟩
theorem Pq.up {μ:Mu}{b c a:Addr}{o:MO}{n:Nat}(h:Pq μ b c n)(k:a≠b/\a≠c):Pq (up μ a o) b c n:=by
 obtain ⟨ne,cs,t,l,u,is,e1,e2,r⟩:=h
 exact ⟨ne,cs,t,l,u,is,by rw[aE k.1.symm];exact e1,by rw[aE k.2.symm];exact e2,r⟩
theorem OM:∀ (n:Nat) (l:List Nat),l.Nodup->(∀ i∈l,i < n)->l.length<=n
 | 0,l,_,h=>by
  cases l with
  | nil=>exact Xq _
  | cons a r=>exact absurd (h a Xl) (zeX _)
 | n+1,l,nd,h=>by
  have ih:=OM n (l.erase n) (nd.erase n) λi hi=>by
   have h1:=h i (List.mem_of_mem_erase hi)
   have h2:i≠n:=λz=>by subst z;exact absurd hi (List.Nodup.not_mem_erase nd)
   lia
  by_cases hm:n∈l
  ·rw[List.length_erase_of_mem hm] at ih;lia
  ·rw[List.erase_of_not_mem hm] at ih;lia
theorem Df (i:Nat):∀ is:List Nat,(aX (spD is) (.inl (i:Int))).isSome=decide (i∈is)
 | []=>by simp[spD,aX]
 | j::r=>by
  have ih:=Df i r
  by_cases h:i=j
  ·subst h
   simp[spD,aX]
  ·have:¬ ((j:Int)=(i:Int)):=by lia
   simp only[Xr,h,false_or]
   rw[← ih]
   simp[spD,aX,this]
theorem Rq {i:Nat}{is:List Nat}(h:i ∉ is):putD (spD is) (.inl (i:Int)) (.bl true)=spD (is++[i]):=by
 unfold putD
 rw[if_neg]
 ·unfold spD;rw[XE];rfl
 ·intro z
  obtain ⟨kv,hk,e⟩:=zaZ.mp z
  obtain ⟨j,hj,rfl⟩:=Xh.mp hk
  have e:=of_decide_eq_true e
  injection e with e
  have:i=j:=by lia
  exact h (this ▸ hj)
section
variable (cs:List Int) (t l u x:Int) (c:Addr)
theorem Ki:aX (j8 cs t l u c) (.inr (OF "cells"))=some (.ls (cs.map .int)):=rfl
theorem N0:aX (j8 cs t l u c) (.inr (OF "turn"))=some (.int t):=rfl
theorem LR:aX (j8 cs t l u c) (.inr (OF "left"))=some (.int l):=rfl
theorem M9:aX (j8 cs t l u c) (.inr (OF "used"))=some (.int u):=rfl
theorem Js:aX (j8 cs t l u c) (.inr (OF "spent"))=some (.obj c):=rfl
theorem Lw:putD (j8 cs t l u c) (.inr (OF "turn")) (.int x)=j8 cs x l u c:=rfl
theorem Li:putD (j8 cs t l u c) (.inr (OF "left")) (.int x)=j8 cs t x u c:=rfl
theorem KN:putD (j8 cs t l u c) (.inr (OF "used")) (.int x)=j8 cs t l x c:=rfl
theorem HB:(j8 cs t l u c).length < 1000000:=by show 5 < 1000000;decide
end
section
variable {G:GTr} {tt:TTr} {te:ETr} {ρc:ST} {ds:List D} {μ:Mu} {Q:DK} {b c:Addr} {n m:Nat}
end
def nxF (ss:List Ss)(n:Str):Int:=((ss.find? λx=>decide (x.nm=n)).map Ss.nx).getD 0
theorem Av:∀ {ss:List Ss},(ss.map Ss.nm).Nodup->∀ x∈ss,nxF ss x.nm=x.nx
 | [],_,x,h=>nomatch h
 | y::r,nd,x,h=>by
  rw[Xm] at nd
  have ⟨n1,n2⟩:=Yc.mp nd
  unfold nxF
  rw[X1]
  rcases Xr.mp h with (rfl | h)
  ·simp
  ·have:y.nm≠x.nm:=λz=>n1 (by rw[z];exact Xh.mpr ⟨x,h,rfl⟩)
   simp only[decide_eq_false this]
   exact Av n2 x h
theorem yr:∀ (ss:List Ss) (n:Str),n∈ss.map Ss.nm->aX (ss.map λx=>((.inr x.nm,.int x.nx):L2.Key×D)) (.inr n)=some (.int (nxF ss n))
 | [],n,h=>nomatch h
 | y::r,n,h=>by
  unfold aX nxF
  rw[Xm,X1,X1]
  by_cases e:y.nm=n
  ·simp[e]
  ·have e':¬ ((Z1 y.nm:L2.Key)=Z1 n):=λz=>e (by injection z)
   simp only[decide_eq_false e,decide_eq_false e']
   exact yr r n ((Xr.mp h).resolve_left λz=>e z.symm)
def Lt.lw (f:Str->Int)(l:Lt):Lt:=⟨l.nm,l.nu - f l.nm,l.ag,l.hp,l.mr⟩
def Ws.lw (f:Str->Int)(w:Ws):Ws:=⟨w.cm.map (Lt.lw f),w.st.map (Lt.lw f),w.la⟩
def Ss.lk (x:Ss):Ss:=⟨x.nm,x.du,x.W,x.S,0,x.lf,x.ag.map (· - x.nx),x.lo.map (· - x.nx),x.gd,x.mk',x.wt⟩
def St'.lk (st:St'):St':=⟨st.ws.map (Ws.lw (nxF st.ss)),st.ss.map Ss.lk⟩
def Lt.mv (f:Str->Int)(l:Lt):Lt:=⟨l.nm,l.nu+f l.nm,l.ag,l.hp,l.mr⟩
def Ws.mv (f:Str->Int)(w:Ws):Ws:=⟨w.cm.map (Lt.mv f),w.st.map (Lt.mv f),w.la⟩
def Ss.mv (f:Str->Int)(x:Ss):Ss:=⟨x.nm,x.du,x.W,x.S,x.nx+f x.nm,x.lf,x.ag.map (· + f x.nm),x.lo.map (· + f x.nm),x.gd,x.mk',x.wt⟩
def St'.mv (f:Str->Int)(st:St'):St':=⟨st.ws.map (Ws.mv f),st.ss.map (Ss.mv f)⟩
structure StL (st:St'):Prop where
 nd:(st.ss.map Ss.nm).Nodup
 sn:∀ x∈st.ss,Xn x.nm=true
 lt:∀ w∈st.ws,∀ l∈w.cm++w.st,l.nm∈st.ss.map Ss.nm
 la:∀ w∈st.ws,Xn w.la=true
 z1:st.ws.length<=100/\st.ss.length<=100
 z2:∀ w∈st.ws,w.cm.length<=10000/\w.st.length<=10000
 z3:∀ x∈st.ss,x.ag.length<=10000/\x.lo.length<=10000
theorem Ov (ss:List Ss):(ss.map Ss.lk).map Ss.nm=ss.map Ss.nm:=by rw[Xk];rfl
theorem OB (f:Str->Int)(ss:List Ss):(ss.map (Ss.mv f)).map Ss.nm=ss.map Ss.nm:=by rw[Xk];rfl
theorem StL.lk {st:St'}(h:StL st):StL st.lk:=by
 refine ⟨by show ((st.ss.map Ss.lk).map Ss.nm).Nodup;rw[Ov];exact h.nd,λx hx=>?_,λw hw l hl=>?_,λw hw=>?_,?_,λw hw=>?_,λx hx=>?_⟩
 ·obtain ⟨y,hy,rfl⟩:=Xh.mp hx
  exact h.sn y hy
 ·obtain ⟨v,hv,rfl⟩:=Xh.mp hw
  show l.nm∈(st.ss.map Ss.lk).map Ss.nm
  rw[Ov]
  have hl:l∈v.cm.map (Lt.lw (nxF st.ss))++v.st.map (Lt.lw (nxF st.ss)):=hl
  rw[← XE] at hl
  obtain ⟨k,hk,rfl⟩:=Xh.mp hl
  exact h.lt v hv k hk
 ·obtain ⟨v,hv,rfl⟩:=Xh.mp hw
  exact h.la v hv
 ·show (st.ws.map (Ws.lw (nxF st.ss))).length<=100/\(st.ss.map Ss.lk).length<=100
  rw[Xc,Xc];exact h.z1
 ·obtain ⟨v,hv,rfl⟩:=Xh.mp hw
  show (v.cm.map _).length<=_/\(v.st.map _).length<=_
  rw[Xc,Xc];exact h.z2 v hv
 ·obtain ⟨y,hy,rfl⟩:=Xh.mp hx
  show (y.ag.map _).length<=_/\(y.lo.map _).length<=_
  rw[Xc,Xc];exact h.z3 y hy
theorem StL.mv {st:St'}(f:Str->Int)(h:StL st):StL (st.mv f):=by
 refine ⟨by show ((st.ss.map (Ss.mv f)).map Ss.nm).Nodup;rw[OB];exact h.nd,λx hx=>?_,λw hw l hl=>?_,λw hw=>?_,?_,λw hw=>?_,λx hx=>?_⟩
 ·obtain ⟨y,hy,rfl⟩:=Xh.mp hx
  exact h.sn y hy
 ·obtain ⟨v,hv,rfl⟩:=Xh.mp hw
  show l.nm∈(st.ss.map (Ss.mv f)).map Ss.nm
  rw[OB]
  have hl:l∈v.cm.map (Lt.mv f)++v.st.map (Lt.mv f):=hl
  rw[← XE] at hl
  obtain ⟨k,hk,rfl⟩:=Xh.mp hl
  exact h.lt v hv k hk
 ·obtain ⟨v,hv,rfl⟩:=Xh.mp hw
  exact h.la v hv
 ·show (st.ws.map (Ws.mv f)).length<=100/\(st.ss.map (Ss.mv f)).length<=100
  rw[Xc,Xc];exact h.z1
 ·obtain ⟨v,hv,rfl⟩:=Xh.mp hw
  show (v.cm.map _).length<=_/\(v.st.map _).length<=_
  rw[Xc,Xc];exact h.z2 v hv
 ·obtain ⟨y,hy,rfl⟩:=Xh.mp hx
  show (y.ag.map _).length<=_/\(y.lo.map _).length<=_
  rw[Xc,Xc];exact h.z3 y hy
theorem Ku (f:Str->Int):∀ (ss:List Ss) (n:Str),n∈ss.map Ss.nm->nxF (ss.map (Ss.mv f)) n=nxF ss n+f n
 | [],n,h=>nomatch h
 | y::r,n,h=>by
  unfold nxF
  rw[Xm,X1,X1]
  by_cases e:y.nm=n
  ·have e2:(Ss.mv f y).nm=n:=e
   simp only[e,e2,decide_true,zeV,zex]
   show y.nx+f y.nm=y.nx+f n
   rw[e]
  ·have e2:¬ (Ss.mv f y).nm=n:=e
   simp only[decide_eq_false e,decide_eq_false e2]
   exact Ku f r n ((Xr.mp h).resolve_left λz=>e z.symm)
theorem Vk {st:St'}(f:Str->Int)(h:StL st):(st.mv f).lk=st.lk:=by
 unfold St'.lk St'.mv
 simp only[Xk]
 congr 1
 ·refine Xu λw hw=>?_
  have one:∀ l∈w.cm++w.st,(l.mv f).lw (nxF (st.ss.map (Ss.mv f)))=l.lw (nxF st.ss):=λl hl=>by
   have e:=Ku f st.ss l.nm (h.lt w hw l hl)
   show (⟨l.nm,l.nu+f l.nm - nxF (st.ss.map (Ss.mv f)) l.nm,l.ag,l.hp,l.mr⟩:Lt)=⟨l.nm,l.nu - nxF st.ss l.nm,l.ag,l.hp,l.mr⟩
   congr 1
   lia
  show (⟨(w.cm.map (Lt.mv f)).map _,(w.st.map (Lt.mv f)).map _,w.la⟩:Ws)=⟨w.cm.map _,w.st.map _,w.la⟩
  congr 1
  ·rw[Xk];exact Xu λl hl=>one l (Y5 _ hl)
  ·rw[Xk];exact Xu λl hl=>one l (XM _ hl)
 ·refine Xu λx hx=>?_
  show (⟨x.nm,x.du,x.W,x.S,0,x.lf,(x.ag.map (· + f x.nm)).map (· - (x.nx+f x.nm)),(x.lo.map (· + f x.nm)).map (· - (x.nx+f x.nm)),x.gd,x.mk',x.wt⟩:Ss)=⟨x.nm,x.du,x.W,x.S,0,x.lf,x.ag.map (· - x.nx),x.lo.map (· - x.nx),x.gd,x.mk',x.wt⟩
  congr 1
  ·rw[Xk];exact Xu λi _=>by show i+f x.nm - (x.nx+f x.nm)=i - x.nx;lia
  ·rw[Xk];exact Xu λi _=>by show i+f x.nm - (x.nx+f x.nm)=i - x.nx;lia
def Pn.run (p:Pn):Nat->St'
 | 0=>p.beg
 | n+1=>p.step (p.run n)
theorem Pn.j2 {p:Pn}{m:Int}(K:p.Ok m):∀ n:Nat,n<=10000->dk p m n (p.run n)
 | 0,_=>Ld K
 | n+1,h=>(p.j2 K n (by lia)).next (by lia)
theorem zE (ws:List Str)(p:Int):∀ (f:Nat) (st out:List Lt) (l:Str),(c7 ws p f st out l).2.2=l∨(c7 ws p f st out l).2.2∈ws
 | 0,_,_,_=>.inl rfl
 | f+1,st,out,l=>by
  unfold c7
  split
  ·split
   ·rename_i n hn
    split
    ·rename_i x _
     rcases zE ws p f (st.eraseIdx (at1 n st)) (out++[x]) n with e | e
     ·rw[e];exact .inr (rE hn).1
     ·exact .inr e
    ·exact .inl rfl
   ·exact .inl rfl
  ·exact .inl rfl
theorem ER (w:Wy)(ws:List Str)(st:List Lt)(l:Str)(hl:Xn l=true)(hw:∀ n∈ws,Xn n=true):Xn (bO w ws st l).2.2=true:=by
 unfold bO
 split
 ·rcases zE ws w.pc st.length st [] l with e | e
  ·rw[e];exact hl
  ·exact hw _ e
 ·show Xn (OF "")=true
  decide +kernel
theorem HU {p:Pn}{m:Int}(K:p.Ok m):∀ n:Nat,n<=10000->∀ w∈(p.run n).ws,Xn w.la=true
 | 0,_,w,hw=>by
  obtain ⟨_,_,rfl⟩:=Xh.mp hw
  show Xn (OF "")=true
  decide +kernel
 | n+1,h,w,hw=>by
  have I:=p.j2 K n (by lia)
  have ih:=HU K n (by lia)
  have hw:w∈X3 (λw x=>vg p.ss w x (p.out (p.run n))) p.ws (p.bW (p.run n)):=hw
  rw[dE] at hw
  obtain ⟨y,hy,rfl⟩:=Xh.mp hw
  show Xn y.2.la=true
  obtain ⟨z,hz,e⟩:=I.J8 (XH hy).2
  rw[e]
  exact ER _ _ _ _ (ih _ (XH hz).2) λn hn=>I.sok hn
theorem eN {p:Pn}{m:Int}(K:p.Ok m){n:Nat}(h:n<=10000):StL (p.run n):=by
 have I:=p.j2 K n h
 have s1:=K.s1
 have w1:=K.w1
 refine ⟨by rw[I.nm];exact I.sd,λx hx=>?_,λw hw l hl=>?_,HU K n h,⟨by rw[I.lw];lia,by rw[I.ls];lia⟩,λw hw=>?_,λx hx=>?_⟩
 ·exact I.sok (by rw[← I.nm];exact Xh.mpr ⟨x,hx,rfl⟩)
 ·rw[I.nm];exact (I.lt w hw l hl).1
 ·have:=I.LJ hw;lia
 ·have:=I.cn x hx;lia
abbrev mvS (f:Str->Int)(x:Str×Lt):Str×Lt:=(x.1,x.2.mv f)
theorem AN (f:Str->Int)(n:Str)(ls:List Lt):own n (ls.map (Lt.mv f))=(own n ls).map (Lt.mv f):=by
 unfold own
 rw[Zc]
 rfl
theorem RR (f:Str->Int)(st:St')(n:Str):(st.mv f).und n=st.und n:=by
 unfold St'.und St'.mv
 rw[Xk]
 congr 1
 refine Xu λw hw=>?_
 show ((own n ((w.cm.map (Lt.mv f))++w.st.map (Lt.mv f))).length:Int)=_
 rw[← XE,AN,Xc]
theorem zL (c:Int)(xs:List Int):d7 (xs.map (· + c))=(d7 xs).map (· + c):=by
 refine jd ((iF _).trans ((iF xs).symm.map _)) (qW _) ?_
 rw[zbK]
 exact (qW xs).imp λh=>by lia
theorem QH (f:Str->Int)(g:Int)(R:RN)(x:Ss):(x.mv f).rdy g R=(x.rdy g R).mv f:=by
 have h:(x.mv f).hd=x.hd:=by unfold Ss.hd Ss.mv;simp
 unfold Ss.rdy
 rw[h]
 show Ss.mk _ _ _ _ _ _ (d7 (x.ag.map (· + f x.nm)++x.lo.map (· + f x.nm))) [] 0 0 0=_
 rw[← XE,zL]
 rfl
theorem P4 (a c:Int)(n:Nat):rgI (a+c) n=(rgI a n).map (· + c):=by
 unfold rgI
 rw[Xk]
 refine Xu λi hi=>?_
 show a+c+(i:Int)=a+(i:Int)+c
 lia
abbrev mvB (f:Str->Int)(b:Ss×List Int):Ss×List Int:=(b.1.mv f,b.2.map (· + f b.1.nm))
theorem M6 (f:Str->Int)(x:Ss)(m:Nat):(x.mv f).fill m=mvB f (x.fill m):=by
 unfold Ss.fill
 show (Ss.mk x.nm x.du x.W x.S (x.nx+f x.nm+fK x.lf ((m:Int) - (((x.ag.map (· + f x.nm)).take m).length:Int))) (x.lf.map (· - fK x.lf ((m:Int) - (((x.ag.map (· + f x.nm)).take m).length:Int)))) ((x.ag.map (· + f x.nm)).drop ((x.ag.map (· + f x.nm)).take m).length) _ _ _ _,(x.ag.map (· + f x.nm)).take m++rgI (x.nx+f x.nm) (fK x.lf ((m:Int) - (((x.ag.map (· + f x.nm)).take m).length:Int))).toNat)=_
 rw[← zax,Xc,← zbS,P4]
 generalize fK x.lf ((m:Int) - ((x.ag.take m).length:Int))=c
 refine Prod.ext ?_ ?_
 ·show Ss.mk _ _ _ _ _ _ _ _ _ _ _=Ss.mk _ _ _ _ _ _ _ _ _ _ _
  congr 1
  show x.nx+f x.nm+c=x.nx+c+f x.nm
  lia
 ·exact (XE).symm
theorem S9 (f:Str->Int)(g:Int)(s:Sn)(x:Ss)(u:Int):(x.mv f).bt g s u=mvB f (x.bt g s u):=by
 have h:(x.mv f).hd=x.hd:=by unfold Ss.hd Ss.mv;simp
 unfold Ss.bt
 rw[QH,M6,h]
 show (if x.du=some 0 then _ else _)=_
 split
 ·rfl
 ·rfl
theorem lJ (f:Str->Int)(p:Pn)(st:St'):p.bw (st.mv f)=(p.bw st).map (mvB f):=by
 unfold Pn.bw
 show X3 _ p.ss (st.ss.map (Ss.mv f))=_
 rw[ZO,Zi]
 congr 1
 funext s k
 rw[RR]
 exact S9 f p.g s k _
theorem QM (f:Str->Int)(w:Wy)(a b:List Lt)(y:Lt):bK w (a.map (Lt.mv f),b.map (Lt.mv f)) (y.mv f)=((bK w (a,b) y).1.map (Lt.mv f),(bK w (a,b) y).2.map (Lt.mv f)):=by
 unfold bK
 simp only[Xc]
 split
 ·simp
 ·unfold mZ
  split
  ·simp
  ·by_cases h:(a.length:Int) < ‹Int› <;> simp[h,Lt.mv]
theorem Pc (f:Str->Int)(w:Wy):∀ (ys a b:List Lt),(ys.map (Lt.mv f)).foldl (bK w) (a.map (Lt.mv f),b.map (Lt.mv f))=((ys.foldl (bK w) (a,b)).1.map (Lt.mv f),(ys.foldl (bK w) (a,b)).2.map (Lt.mv f))
 | [],_,_=>rfl
 | y::r,a,b=>by
  rw[Xm,YH,QM,YH]
  exact Pc f w r _ _
theorem FI {α β:Type}(f:α->β):∀ (l:List α) (i:Nat),(l.map f).eraseIdx i=(l.eraseIdx i).map f
 | [],_=>rfl
 | _::_,0=>rfl
 | a::r,i+1=>congrArg (f a::·) (FI f r i)
theorem OZ {α β:Type}{f g:α->Option β}:∀ {l:List α},(∀ x∈l,f x=g x)->l.filterMap f=l.filterMap g
 | [],_=>rfl
 | a::r,h=>by
  rw[YV,YV,h a (Xl ..),OZ λx hx=>h x (Xp _ hx)]
theorem SJ (f:Str->Int)(n:Str)(st:List Lt):at1 n (st.map (Lt.mv f))=at1 n st:=by
 unfold at1
 rw[List.findIdx_map]
 rfl
theorem Ul (f:Str->Int)(st:List Lt):(st.map (Lt.mv f)).map Lt.nm=st.map Lt.nm:=by rw[Xk];rfl
theorem zP (f:Str->Int)(ws:List Str)(p:Int):∀ (m:Nat) (st out:List Lt) (l:Str),c7 ws p m (st.map (Lt.mv f)) (out.map (Lt.mv f)) l=((c7 ws p m st out l).1.map (Lt.mv f),(c7 ws p m st out l).2.1.map (Lt.mv f),(c7 ws p m st out l).2.2)
 | 0,_,_,_=>rfl
 | m+1,st,out,l=>by
  unfold c7
  rw[Xc,Xc,Ul]
  split
  ·split
   ·rename_i n _
    rw[SJ,Yp]
    cases h:st[at1 n st]? with
    | none=>rfl
    | some x=>
     have:=zP f ws p m (st.eraseIdx (at1 n st)) (out++[x]) n
     rw[XE,← FI] at this
     exact this
   ·rfl
  ·rfl
theorem Ea (f:Str->Int)(w:Wy)(ws:List Str)(st:List Lt)(l:Str):bO w ws (st.map (Lt.mv f)) l=((bO w ws st l).1.map (Lt.mv f),(bO w ws st l).2.1.map (Lt.mv f),(bO w ws st l).2.2):=by
 unfold bO
 split
 ·rw[Xc]
  exact zP f ws w.pc st.length st [] l
 ·rw[← zax,← zbS]
def Wt.mv (f:Str->Int)(x:Wt):Wt:=⟨x.ca.map (Lt.mv f),x.lo.map (Lt.mv f),x.ou.map (Lt.mv f),x.st.map (Lt.mv f),x.la⟩
theorem Nv (f:Str->Int)(w:Wy)(ns:List Str)(k:Ws)(se:List (Str×Lt)):pass w ns (k.mv f) (se.map (mvS f))=(pass w ns k se).mv f:=by
 have e:((se.map (mvS f)).filter λx=>decide (x.1=w.nm)).map (·.2)=((se.filter λx=>decide (x.1=w.nm)).map (·.2)).map (Lt.mv f):=by
  rw[Zc,Xk,Xk]
  rfl
 unfold pass
 rw[e]
 simp only[Ws.mv,← XE,tk]
 have t:=Pc f w (k.cm++(se.filter λx=>decide (x.1=w.nm)).map (·.2)) k.st []
 rw[zai] at t
 rw[t]
 simp only[Ea]
 rfl
theorem Jj (f:Str->Int)(ss:List Sn)(bs:List (Ss×List Int))(h:∀ y∈Xv ss bs,y.2.1.nm=y.1.nm):iu ss ((bs.map (mvB f)).map (·.2))=(iu ss (bs.map (·.2))).map (mvS f):=by
 have e1:dJ ((bs.map (mvB f)).map (·.2))=dJ (bs.map (·.2)):=by
  unfold dJ
  rw[Xk,Xk,Xk]
  congr 1
  refine Xu λb hb=>?_
  show (b.2.map _).length=b.2.length
  rw[Xc]
 unfold iu
 rw[e1,zb8]
 congr 1
 funext t
 rw[Xk,Y1,Y1,zbv,zbv,List.map_filterMap]
 refine OZ λy hy=>?_
 show ((y.2.2.map (· + f y.2.1.nm))[t]?).map _=((y.2.2[t]?).map _).map _
 rw[Yp,zc1,zc1]
 rw[h y hy]
 rfl
theorem oY (f:Str->Int)(p:Pn)(st:St')(h:∀ y∈Xv p.ss (p.bw st),y.2.1.nm=y.1.nm):p.aS (st.mv f)=(p.aS st).map (mvS f):=by
 unfold Pn.aS
 rw[lJ]
 exact Jj f p.ss (p.bw st) h
theorem ly (f:Str->Int)(p:Pn)(st:St')(h:∀ y∈Xv p.ss (p.bw st),y.2.1.nm=y.1.nm):p.bW (st.mv f)=(p.bW st).map (Wt.mv f):=by
 unfold Pn.bW
 rw[oY f p st h]
 show X3 _ p.ws (st.ws.map (Ws.mv f))=_
 rw[ZO,Zi]
 congr 1
 funext w k
 exact Nv f w p.sn k _
theorem DB (f:Str->Int)(g:Wt->List Lt)(h:∀ x:Wt,g (x.mv f)=(g x).map (Lt.mv f))(l:List Wt):(l.map (Wt.mv f)).flatMap g=(l.flatMap g).map (Lt.mv f):=by
 rw[zak,zb8]
 congr 1
 funext x
 exact h x
theorem xb (f:Str->Int)(p:Pn)(st:St')(h:∀ y∈Xv p.ss (p.bw st),y.2.1.nm=y.1.nm):p.bB (st.mv f)=(p.bB st).map (Lt.mv f)/\p.out (st.mv f)=(p.out st).map (Lt.mv f)/\p.taken (st.mv f)=(p.taken st).map (Lt.mv f):=by
 have o:p.out (st.mv f)=(p.out st).map (Lt.mv f):=by
  unfold Pn.out
  rw[ly f p st h]
  exact DB f Wt.ou (λ_=>rfl) _
 refine ⟨?_,o,?_⟩
 ·unfold Pn.bB
  rw[ly f p st h]
  exact DB f Wt.lo (λ_=>rfl) _
 ·unfold Pn.taken
  rw[o,Zc]
  rfl
theorem MT (f:Str->Int)(s:Sn)(x:Ss)(lo ta:List Lt)(h:x.nm=s.nm):jr s (x.mv f) (lo.map (Lt.mv f)) (ta.map (Lt.mv f))=(jr s x lo ta).mv f:=by
 unfold jr
 simp only[AN,Xk,Xc]
 have e:(own s.nm lo).map (Lt.nu ∘ Lt.mv f)=((own s.nm lo).map Lt.nu).map (· + f x.nm):=by
  rw[Xk]
  refine Xu λl hl=>?_
  have:l.nm=s.nm:=by simpa using (XZ.mp hl).2
  show l.nu+f l.nm=l.nu+f x.nm
  rw[this,h]
 rw[e]
 show Ss.mk _ _ _ _ _ _ _ (d7 (x.lo.map (· + f x.nm)++_)) _ _ _=_
 rw[← XE,zL]
 rfl
theorem Dv (f:Str->Int)(p:Pn)(st:St')(h:∀ y∈Xv p.ss (p.bw st),y.2.1.nm=y.1.nm):p.step (st.mv f)=(p.step st).mv f:=by
 obtain ⟨e1,e2,e3⟩:=xb f p st h
 unfold Pn.step
 show St'.mk _ _=St'.mk _ _
 congr 1
 ·rw[e2,ly f p st h,ZO,Zi]
  congr 1
  funext w x
  unfold vg Ws.mv Wt.mv
  simp only[Zc,Xk]
  rfl
 ·rw[e1,e3,lJ f p st]
  show _=(X3 (λs b=>jr s b.1 (p.bB st) (p.taken st)) p.ss (p.bw st)).map (Ss.mv f)
  rw[dE,dE,Y1,Xk,Xk]
  refine Xu λy hy=>?_
  exact MT f y.1 y.2.1 _ _ (h y hy)
abbrev Ev.mv (f:Str->Int)(x:Ev):Ev:=⟨x.wd,x.nm,x.nu+f x.nm,x.wy⟩
theorem RS (f:Str->Int)(p:Pn)(st:St')(h:∀ y∈Xv p.ss (p.bw st),y.2.1.nm=y.1.nm):p.evs (st.mv f)=(p.evs st).map (Ev.mv f):=by
 unfold Pn.evs
 rw[oY f p st h,ly f p st h,XE,Xk,Xk,ZO,List.map_flatten,Zi]
 congr 1
 congr 1
 congr 1
 funext w x
 unfold evs
 rw[XE,Xk,Xk]
 congr 1
 ·show ((x.ca.map (Lt.mv f)).zipIdx.map _)=_
  rw[List.zipIdx_map,Xk]
  refine Xu λy hy=>?_
  simp[Wt.mv,Lt.mv,Ev.mv]
 ·show (x.ou.map (Lt.mv f)).map _=_
  rw[Xk]
  rfl
theorem Ss.Ok.mv {g:Int}{R:RN}{x:Ss}(f:Str->Int)(h:x.Ok g R)(a:-4000000000000000000<=x.nx+f x.nm/\x.nx+f x.nm<=4000000000000000000):(x.mv f).Ok g R:=by
 have e:(x.mv f).hd=x.hd:=by unfold Ss.hd Ss.mv;simp
 exact ⟨h.n,h.w0,h.w1,h.s0,h.s1,by rw[e];exact h.h,a.1,a.2,by unfold Ss.mv;simp only[Xc];exact h.a,h.l⟩
theorem vU {f:Str->Int}{ls:List Lt}{P:Lt->Prop}(k:∀ l:Lt,P l->P (l.mv f))(h:∀ l∈ls,P l):∀ l∈ls.map (Lt.mv f),P l:=λl hl=>by
 obtain ⟨y,hy,rfl⟩:=Xh.mp hl
 exact k y (h y hy)
theorem Ut {f:Str->Int}{p:Pn}{st:St'}(h:∀ y∈Xv p.ss (p.bw st),y.2.1.nm=y.1.nm)(R:HE p st)(b:∀ x∈st.ss,-4000000000000000000<=x.nx+f x.nm/\x.nx+f x.nm<=4000000000000000000):HE p (st.mv f):=by
 obtain ⟨e1,e2,e3⟩:=xb f p st h
 have wm:∀ {P:Ws->Prop},(∀ w∈st.ws,P (w.mv f))->∀ w∈(st.mv f).ws,P w:=λk w hw=>by
  obtain ⟨y,hy,rfl⟩:=Xh.mp (show w∈st.ws.map (Ws.mv f) from hw)
  exact k y hy
 have ap:∀ w:Ws,(w.mv f).cm++(w.mv f).st=(w.cm++w.st).map (Lt.mv f):=λw=>by rw[XE];rfl
 refine ⟨R.g,R.sd,R.sl,R.wl,R.sn,R.rl,R.wy,wm λw hw=>⟨?_,?_⟩,λy hy=>?_,λx hx=>?_,λx hx=>?_,?_,wm λw hw=>⟨?_,?_⟩,λx hx=>?_,?_,?_,?_,?_,?_,λy hy=>?_⟩
 ·rw[ap]
  exact vU (λ_=>id) (R.ws w hw).n
 ·unfold Ws.mv;simp only[Xc];exact (R.ws w hw).l
 ·obtain ⟨s,k⟩:=y
  rw[show (st.mv f).ss=st.ss.map (Ss.mv f) from rfl,Y1] at hy
  obtain ⟨z,hz,e⟩:=Xh.mp hy
  cases e
  exact (R.ss z hz).mv f (b z.2 (XH (a:=z.1) (b:=z.2) hz).2)
 ·rw[lJ] at hx
  obtain ⟨z,hz,rfl⟩:=Xh.mp hx
  show (z.2.map _).length<=_
  rw[Xc]
  exact R.nb z hz
 ·rw[oY f p st h] at hx
  obtain ⟨z,hz,rfl⟩:=Xh.mp hx
  exact R.se z hz
 ·rw[oY f p st h,Xc];exact R.sz
 ·rw[ap]
  exact vU (λ_=>id) (R.wz w hw).1
 ·unfold Ws.mv;simp only[Xc];exact (R.wz w hw).2
 ·rw[ly f p st h] at hx
  obtain ⟨z,hz,rfl⟩:=Xh.mp hx
  unfold Wt.mv
  simp only[Xc]
  exact R.go z hz
 ·rw[e2];exact vU (λ_=>id) R.ou
 ·rw[e1];exact vU (λ_=>id) R.lo
 ·rw[e2,Xc];exact R.oz
 ·rw[e1,Xc];exact R.lz
 ·rw[RS f p st h,Xc];exact R.ez
 ·rw[lJ,Y1] at hy
  obtain ⟨z,hz,rfl⟩:=Xh.mp hy
  show (z.2.1.lo.map _).length+_ < 64
  rw[e1,AN,Xc,Xc]
  exact R.lt z hz
theorem dk.nx {p:Pn}{m:Int}{n:Nat}{st:St'}(I:dk p m n st):∀ x∈st.ss,0<=x.nx/\x.nx<=60*n:=by
 intro x hx
 obtain ⟨i,hi,e⟩:=Zd hx
 have h1:i < p.ss.length:=by rw[← I.ls];exact hi
 have:(p.ss[i],st.ss[i])∈Xv p.ss st.ss:=by
  rw[← zb9 (h:=by simp;lia)];exact YM ..
 have h:=I.ss _ this
 rw[← e]
 exact ⟨h.n0,h.n1⟩
section
open PySem.Spec PyProof.Rows L2
end
section
open PySem.Spec PyProof.Rows L2
section
variable {X:Cx} {a b c d:XJ} {ta tb tc td:TE} {Ta Tb Tc Td:ETr} {pos:Pos} {o1 o2 o3:zeI} {r1 r2 r3:L2.R2} {R1 R2 R3:DR2}
end
end
section
open PySem.Spec PyProof.Rows L2
section
variable {X:Cx} {tg a b:XJ} {Ta Tb:ETr} {pos:Pos}
end
end
section
open PySem.Spec PyProof.Rows L2
def IK:ETr:=λρ μ Q=>∀ p,μ p=none->Q (.obj p) (up μ p (.dct []))
theorem PM {X:Cx}{pos:Pos}:LE X (.Dict [] [] pos) IK:=MM
theorem ID (ρ:ST)(μ:Mu)(Q:DK):IK ρ μ Q = ∀ p,μ p=none->Q (.obj p) (up μ p (.dct [])):=propext Xf
end
section
open PySem.Spec PyProof.Rows L2
section
variable {X:Cx} {o e value:XJ} {es:List XJ} {To Te:ETr} {Ta:ATr} {pos tpos ppos apos cpos:Pos} {x1:Nat}
end
end
section
open PySem.Spec PyProof.Rows L2
section
variable {X:Cx} {o i:XJ} {apos cpos:Pos}
end
end
section
open PySem.Spec PyProof PyProof.Rows L2
section
variable {X:Cx} {o:XJ} {apos cpos pos p:Pos} {x:Str}
end
end
section
open PySem.Spec PyProof.Rows L2
end
section
open PySem.Spec PyProof.Rows L2
section
variable {X:Cx} {i o:XJ} {pos:Pos} {Ti To:ETr}
theorem Lk (hu:X.A.units+64 < cLine)(hi:LE X i Ti)(ho:LE X o To)(hm:YA .NotIn o=false:=by rfl):LT X (.Compare i [.NotIn] [o] pos) (TB (LZ true Ti To)):=by
 obtain ⟨ti,pi,si⟩:=hi.ex
 obtain ⟨to,po,so⟩:=ho.ex
 exact ⟨_,Gz (EX (hu1 hu) pi po) hm,Cn (Bo si so)⟩
end
end
section
open PySem.Spec PyProof.Rows L2
section
variable {X:Cx} {tg o a i e:XJ} {T To Ta Ti:ETr} {pos:Pos}
end
section
variable {X:Cx} {tg a:XJ} {Ta:ETr}
end
section
variable {X:Cx} {es:List XJ} {o:XJ} {Ta:ATr} {To:ETr} {ppos pos:Pos} {x1:Nat}
end
end
section
open PySem.Spec PyProof.Rows L2
noncomputable instance W8:DecidableEq PyData:=λ_ _=>ZG _
mutual
def drP:PyData->Nat
 | .tuple xs=>NC xs+1
 | _=>1
def NC:List PyData->Nat
 | []=>0
 | x::r=>drP x+NC r
end
section
variable {w:X0} {prog:XO} {E:Xe->Xg->Prop}
mutual
theorem Cv:∀ (d:PyData) (v:Xe) (A:X8) (s:Xg) (as:List Addr) (Q:Int->Xg->Prop),kyP d=true->zdX s.heap v d as->A.units+d.depth < cLine->
  Q (haP w d) { s with toks:=s.toks+drP d }->Xy (XF prog w) A (pyHash v) Q E s
 | .none,_,A,s,_,Q,_,r,hu,q=>by
  cases r
  refine zdg (T := "NoneType") rfl F.slot_NoneType_hash F.entry_NoneType_hash (F.args_NoneType_hash_1 _) (zeF _) (.inl rfl) ?_
  exact Xb (Xj (Xb (zeO (Xj ⟨_,_,rfl,q⟩))))
 | .int i,_,A,s,_,Q,_,r,_,q=>by cases r;exact zej q
 | .str y,_,A,s,_,Q,_,r,_,q=>by cases r;exact zek q
 | .tuple xs,_,A,s,_,Q,hk,r,hu,q=>by
  cases r with
  | @tuple a o vs n _ as g1 g2 g3 g4=>
   have hu':A.units+(X2 xs+1) < cLine:=by simpa[zdW,zfy] using hu
   refine zdg (T := "tuple") ⟨_,g1,g2⟩ F.slot_tuple_hash F.entry_tuple_hash (F.args_tuple_hash_1 _) (zeF _) (.inr (by lia)) ?_
   refine (show Xy _ _ (Z9 (.ref a) >>= _) _ _ s from Xb (wpAny_tupleItemsOf g1 g3 (Xb ?_)))
   rw[← zdK]
   refine xr xs vs.toList A.in1 s #[] _ _ (by simpa[kyP] using hk) g4 (by rw[zb4];lia) λb' hb=>?_
   refine (show Xy _ _ (retInt (zbB b'.toList)) _ _ _ from ?_)
   rw[hb]
   exact Xb (zeO (Xj ⟨_,_,rfl,by simpa[haP,drP,zfr] using q⟩))
 | .bool _,_,_,_,_,_,hk,_,_,_=>by simp[kyP] at hk
 | .list _,_,_,_,_,_,hk,_,_,_=>by simp[kyP] at hk
 | .dict _,_,_,_,_,_,hk,_,_,_=>by simp[kyP] at hk
theorem xr:∀ (xs:List PyData) (vs:List Xe) (A:X8) (s:Xg) (b:Array Int) (as:List Addr) (Q:Array Int->Xg->Prop),gT xs=true->zdY s.heap vs xs as->A.units+X2 xs < cLine->
  (∀ b',b'.toList=b.toList++JU w xs->Q b' { s with toks:=s.toks+NC xs })->
  Xy (XF prog w) A (forIn vs b λy acc=>do let z ← pyHash y;pure PUnit.unit;pure (YD (acc.push z))) Q E s
 | [],_,A,s,b,_,Q,_,r,_,q=>by cases r;exact Xj (q b (by simp[JU]))
 | x::xs,_,A,s,b,_,Q,hk,r,hu,q=>by
  have hk':kyP x=true/\gT xs=true:=by simpa[gT] using hk
  have hu1:x.depth<=X2 (x::xs):=by simp only[X2];lia
  have hu2:X2 xs<=X2 (x::xs):=by simp only[X2];lia
  cases r with
  | cons r1 r2=>
   rw[ZS]
   refine Xb (Xb (Cv x _ A s _ _ hk'.1 r1 (by lia) (Xb (Xj (Xj ?_)))))
   refine xr xs _ A _ _ _ Q hk'.2 r2 (by lia) λb' hb=>?_
   have:=q b' (by simp[hb,JU])
   simpa[NC,zfr] using this
end
mutual
theorem yG:∀ (d:PyData) (v:Xe) (n:Nat) (A:X8) (s:Xg) (as:List Addr) (Q:Bool->Xg->Prop),kyP d=true->zdX s.heap v d as->d.depth<=n->Q true s->Xy (XF prog w) A (eqIsQuiet n v) Q E s
 | .none,_,n,A,s,_,Q,_,r,_,q=>by cases r;rw[zbL n rfl];exact Xj q
 | .int i,_,n,A,s,_,Q,_,r,_,q=>by cases r;rw[zbL n rfl];exact Xj q
 | .str y,_,n,A,s,_,Q,_,r,_,q=>by cases r;rw[zbL n rfl];exact Xj q
 | .tuple xs,_,n,A,s,_,Q,hk,r,hn,q=>by
  cases r with
  | @tuple a o vs m _ as g1 g2 g3 g4=>
   have hn':X2 xs+1<=n:=by simpa[zdW,zfy] using hn
   obtain ⟨n,rfl⟩:∃ k,n=k+1:=⟨n - 1,by lia⟩
   have isT:s.TypeIs (.ref a) "tuple" := ⟨o,g1,g2⟩
   unfold eqIsQuiet
   refine Xb (wpAny_specialOf isT F.slot_tuple_eq.lookup ?_)
   refine (show Xy _ _ (isInstance (.ref a) (.type "tuple") >>= _) _ _ s from Xb (wpAny_isInstance isT isSubtype_tuple_tuple ?_))
   simp only[Zk,za5,if_false]
   refine Xb (Ym g1 g3 (Xb ?_))
   refine (show Xy _ _ (forIn vs _ _) _ _ s from ?_)
   rw[← zdK]
   refine uA xs vs.toList n A s _ _ (by simpa[kyP] using hk) g4 (by lia) ?_
   exact Xj q
 | .bool _,_,_,_,_,_,_,hk,_,_,_=>by simp[kyP] at hk
 | .list _,_,_,_,_,_,_,hk,_,_,_=>by simp[kyP] at hk
 | .dict _,_,_,_,_,_,_,hk,_,_,_=>by simp[kyP] at hk
theorem uA:∀ (xs:List PyData) (vs:List Xe) (n:Nat) (A:X8) (s:Xg) (as:List Addr) (Q:Option Bool×Unit->Xg->Prop),gT xs=true->zdY s.heap vs xs as->X2 xs<=n->Q (none,()) s->
  Xy (XF prog w) A (forIn vs ((none,()):Option Bool×Unit) λy r=>do
   let c ← eqIsQuiet n y
   if (!c)=true then pure (ForInStep.done (some false,())) else pure (YD (none,()))) Q E s
 | [],_,n,A,s,_,Q,_,r,_,q=>by cases r;exact Xj q
 | x::xs,_,n,A,s,_,Q,hk,r,hn,q=>by
  have hk':kyP x=true/\gT xs=true:=by simpa[gT] using hk
  have h1:x.depth<=X2 (x::xs):=by simp only[X2];lia
  have h2:X2 xs<=X2 (x::xs):=by simp only[X2];lia
  cases r with
  | cons r1 r2=>
   rw[ZS]
   refine Xb (Xb (yG x _ n A s _ _ hk'.1 r1 (by lia) ?_))
   simp only[Zk,za5,if_false]
   refine Xj ?_
   exact uA xs _ n A s _ Q hk'.2 r2 (by lia) q
end
end
mutual
theorem GQ:∀ x y:PyData,kyP x=true->kyP y=true->YS x y=decide (x=y)
 | .none,y,_,hy=>by cases y<;>first | (simp[kyP] at hy;done) | simp[YS]
 | .int i,y,_,hy=>by cases y<;>first | (simp[kyP] at hy;done) | (simp[YS];done) | exact zcv.mpr (by simp[YS])
 | .str i,y,_,hy=>by cases y<;>first | (simp[kyP] at hy;done) | (simp[YS];done) | exact zcv.mpr (by simp[YS])
 | .tuple xs,y,hx,hy=>by
  cases y with
  | tuple ys=>
   have:=CM xs ys (by simpa[kyP] using hx) (by simpa[kyP] using hy)
   simp only[YS]
   rw[this]
   simp
  | none=>simp[YS]
  | int _=>simp[YS]
  | str _=>simp[YS]
  | bool _=>simp[kyP] at hy
  | list _=>simp[kyP] at hy
  | dict _=>simp[kyP] at hy
 | .bool _,_,hx,_=>by simp[kyP] at hx
 | .list _,_,hx,_=>by simp[kyP] at hx
 | .dict _,_,hx,_=>by simp[kyP] at hx
theorem CM:∀ xs ys:List PyData,gT xs=true->gT ys=true->zau xs ys=decide (xs=ys)
 | [],ys,_,_=>by cases ys<;>simp[zau]
 | x::xs,ys,hx,hy=>by
  cases ys with
  | nil=>simp[zau]
  | cons y ys=>
   have hx':kyP x=true/\gT xs=true:=by simpa[gT] using hx
   have hy':kyP y=true/\gT ys=true:=by simpa[gT] using hy
   simp only[zau]
   rw[GQ x y hx'.1 hy'.1,CM xs ys hx'.2 hy'.2]
   by_cases e1:x=y<;>by_cases e2:xs=ys<;>simp[e1,e2]
end
mutual
theorem qY {h h':Heap}(st:∀ b o vs n,h.get? b=some o->o.data=.seq vs n->h'.get? b=some o):∀ (d:PyData) (v:Xe) (as:List Addr),kyP d=true->zdX h v d as->zdX h' v d as
 | .none,_,_,_,r=>by cases r;exact .none
 | .int i,_,_,_,r=>by cases r;exact .int _ _
 | .str y,_,_,_,r=>by cases r;exact .str _ _
 | .tuple xs,_,_,hk,r=>by
  cases r with
  | tuple g1 g2 g3 g4=>exact .tuple (st _ _ _ _ g1 g3) g2 g3 (nK st xs _ _ (by simpa[kyP] using hk) g4)
 | .bool _,_,_,hk,_=>by simp[kyP] at hk
 | .list _,_,_,hk,_=>by simp[kyP] at hk
 | .dict _,_,_,hk,_=>by simp[kyP] at hk
theorem nK {h h':Heap}(st:∀ b o vs n,h.get? b=some o->o.data=.seq vs n->h'.get? b=some o):∀ (xs:List PyData) (vs:List Xe) (as:List Addr),gT xs=true->zdY h vs xs as->zdY h' vs xs as
 | [],_,_,_,r=>by cases r;exact .nil
 | x::xs,_,_,hk,r=>by
  have hk':kyP x=true/\gT xs=true:=by simpa[gT] using hk
  cases r with
  | cons r1 r2=>exact .cons (qY st x _ _ hk'.1 r1) (nK st xs _ _ hk'.2 r2)
end
def Aw (h:Heap)(k:PyData)(a:Addr):Prop:=(∃ as,zdX h (.ref a) k as)/\kyP k=true/\k.canLay0=true/\k.depth<=8
noncomputable def zI {prog:XO} {w:X0}:HeapKind prog w PyData where
 is:=Aw
 hash:=haP w
 draws:=drP
 room:=λA=>A.units+8 < cLine
 inj:=λ⟨⟨_,r⟩,_,l,_⟩ ⟨⟨_,r'⟩,_⟩=>zdH _ _ _ _ _ l r r'
 keeps:=λ{h h' k a d o es ep} ⟨⟨as,r⟩,hk,l,hd⟩ ho hdt hs=>⟨⟨as,qY (λb u vs n hb hc=>(hs.2 b λe=>by
  subst e
  rw[ho] at hb
  cases hb
  rw[hdt] at hc
  cases hc).trans hb) k _ _ hk r⟩,hk,l,hd⟩
 pyHash:=λhu ⟨⟨_,r⟩,hk,_,hd⟩ q=>Cv _ _ _ _ _ _ hk r (by lia) q
 eqBool:=λ{A E s x y a b Q} hu ⟨⟨_,r⟩,hk,l,hd⟩ ⟨⟨_,r'⟩,hk',l',hd'⟩ q=>zeD x y A s _ _ _ _ r r' l l' (by have:=zbf x.depth y.depth;lia) prog w E Q (by rw[GQ x y hk hk'];exact q)
 quiet:=λ⟨⟨_,r⟩,hk,_,hd⟩ q=>yG _ _ 8 _ _ _ _ hk r hd q
end
section
open PySem.Spec PyProof.Rows L2
theorem yd {α β:Type}{F:α->β->Prop}{a c:List α}{b d:List β}(h:ZI F a b)(k:ZI F c d):ZI F (a++c) (b++d):=by
 induction h with
 | nil=>exact k
 | cons r _ ih=>exact .cons r ih
section
variable {X:Cx} {pins:List (Addr×Obj)} {σ:L2.St} {H:Hp} {s:Xg} {a b:Addr}
theorem yI.deep (I:Inv X pins σ H s){k:PyData}(h:yI X.K H k b):Aw s.heap k b:=by
 obtain ⟨d,p,rfl,ok,ky⟩:=h
 exact ⟨eC I p ok rfl,ky,(fO 8 d ok).1,(fO 8 d ok).2⟩
abbrev DdR:PyData×Addr×V->PyData×Addr×Xe->Prop:=λp q=>p.1=q.1/\p.2.1=q.2.1/\RelV p.2.2 q.2.2
theorem Hv (I:Inv X pins σ H s){xs:List (PyData×Addr×V)}(e:H a=some (.dD xs))(hk:∀ x∈xs,yI X.K H x.1 x.2.1) :
  (xs.length<=sizeLine/\(a == Zw)=false)/\∃ ys,ZI DdR xs ys/\s.heap.DictOfH (zI (prog:=X.prog) (w:=X.w)) a ys:=by
 obtain ⟨z,y,ys,r,o,es,ep,h1,h2,h3,h4,h5⟩:=(show dh X.prog X.w H s.heap a (.dD xs) from I.hok a _ e)
 refine ⟨⟨z,y⟩,ys,r,o,es,ep,h1,h2,h3,h4,λx hx=>?_,h5⟩
 have all:∀ {l:List (PyData×Addr×V)} {m:List (PyData×Addr×Xe)},ZI DdR l m->(∀ x∈l,yI X.K H x.1 x.2.1)->∀ x∈m,Aw s.heap x.1 x.2.1:=by
  intro l m q
  induction q with
  | nil=>intro _ x hx;exact nomatch hx
  | @cons p q ps qs hq t ih=>
   intro hl x hx
   rcases Xr.mp hx with e | hx
   ·subst e
    have:=(hl p Xl).deep I
    rw[hq.1,hq.2.1] at this
    exact this
   ·exact ih (λy hy=>hl y (Xp _ hy)) x hx
 exact all r hk x hx
theorem DpD.key {K:Xa}{xs:List (PyData×Addr×V)}{kvs:List (PyData×D)}(l:DpD K H xs kvs):∀ x∈xs,yI K H x.1 x.2.1:=by
 induction l with
 | nil=>intro x hx;exact nomatch hx
 | @cons p q ps qs hq t ih=>
  intro x hx
  rcases Xr.mp hx with e | hx
  ·subst e;exact hq.2.1
  ·exact ih x hx
theorem wj {K:Xa}(k:PyData):∀ {xs:List (PyData×Addr×V)} {kvs:List (PyData×D)} {ys:List (PyData×Addr×Xe)},DpD K H xs kvs->ZI DdR xs ys->
  (aX kvs k=none/\zbx ys k=none)∨∃ d v p,aX kvs k=some d/\zbx ys k=some p/\RelV v p.2/\Dp K H v d:=by
 intro xs kvs ys l r
 induction l generalizing ys with
 | nil=>cases r;exact .inl ⟨rfl,rfl⟩
 | @cons x y xs kvs h t ih=>
  cases r with
  | @cons _ z _ zs hz r=>
   by_cases e:y.1=k
   ·refine .inr ⟨y.2,x.2.2,z.2,?_,?_,hz.2.2,h.2.2⟩
    ·unfold aX;rw[zcp (by simpa using e)];rfl
    ·unfold zbx;rw[zcp (by simpa[← hz.1,h.1] using e)];rfl
   ·have e1:aX (y::kvs) k=aX kvs k:=by unfold aX;rw[zcq (by simpa using e)]
    have e2:zbx (z::zs) k=zbx zs k:=by unfold zbx;rw[zcq (by simpa[← hz.1,h.1] using e)]
    rw[e1,e2]
    exact ih r
end
def kDD (μ:Mu)(a:Addr)(f:List (PyData×D)->Prop):Prop:=match μ a with
 | some (.dcD kvs)=>f kvs
 | _=>False
theorem vt {μ:Mu}{a:Addr}{f:List (PyData×D)->Prop}(h:kDD μ a f):∃ ds,μ a=some (.dcD ds)/\f ds:=by
 unfold kDD at h
 split at h
 ·rename_i kvs e;exact ⟨kvs,e,h⟩
 ·exact h.elim
theorem PN {μ:Mu}{a:Addr}{kvs:List (PyData×D)}{f:List (PyData×D)->Prop}:kDD (up μ a (.dcD kvs)) a f=f kvs:=by unfold kDD;rw[ay]
def kKy (d:D)(f:Prop):Prop:=match d with
 | .tup ds=>(okD 8 (.tup ds)=true/\kyP (toP (.tup ds))=true)/\f
 | _=>False
theorem wU {K:Xa}{H:Hp}{v:V}{d:D}{f:Prop}(p:Dp K H v d)(h:kKy d f):∃ b,v=.ref b/\yI K H (toP d) b/\f:=by
 cases p with
 | @tup b xs ds sq l=>exact ⟨b,rfl,⟨_,.tup sq l,rfl,h.1.1,h.1.2⟩,h.2⟩
 | _=>exact Xi h
theorem vq {A:X8}(hu:A.units+64 < cLine){P:XO}{w:X0}:(zI (prog:=P) (w:=w)).room A.in1:=by
 show A.in1.units+8 < cLine
 rw[zb4];lia
section
variable {X:Cx} {o e value:XJ} {To Te Tv:ETr} {pos tpos:Pos}
def Ay:ETr:=λρ μ Q=>∀ p,μ p=none->Q (.obj p) (up μ p (.dcD []))
theorem NY:LE X (.Dict [] [] pos) Ay:=⟨λ_ H Q=>∀ p,H p=none->Q (.ref p) (L2.upd H p (.dD [])),λpins s σ H Q I h=>
  zet ⟨.ref s.heap.objs.size,_,I.laid (a:=s.heap.objs.size) (o:=.dD []) (t':=s.toks) (λ_ _ q=>Xd _ q) (Xq _)
   ⟨Yu _,beq_eq_false_iff_ne.mpr (XA (XI I.big)),[],.nil,_,#[],0,Xw _ rfl,⟨rfl,rfl,rfl⟩,rfl,rfl,zcO⟩,rfl,h _ (I.hok.fresh (Xq _))⟩,
 λσ H ρ μ Q Q' rl h k p hp=>k _ _ _ (up μ p (.dcD [])) (.new hp) (λz y ez=>by
  by_cases zq:z=p
  ·subst zq
   rw[ay] at ez;cases ez
   exact ⟨[],aK,.nil⟩
  ·rw[aE zq] at ez
   exact c6 rl.mu hp z y ez) (.obj p) (h p (rl.mu.free hp))⟩
def vY (To Te:ETr):ETr:=λρ μ Q=>To ρ μ λx μ1=>Te ρ μ1 λy μ2=>kObj x λa=>kDD μ2 a λkvs=>kKy y (kO (aX kvs (toP y)) λd=>Q d μ2)
structure DDK (K:Xa) (H:Hp) (x y:V) (a b:Addr) (xs:List (PyData×Addr×V)) (kvs:List (PyData×D)) (k:PyData):Prop where
 ex:x=.ref a
 ey:y=.ref b
 e1:H a=some (.dD xs)
 l:DpD K H xs kvs
 ky:yI K H k b
theorem E2 (hu:X.A.units+64 < cLine)(ho:LE X o To)(he:LE X e Te)(hs:Mg e:=by intro _ _;rfl):LE X (.Subscript o e pos) (vY To Te):=by
 obtain ⟨to,po,so⟩:=ho.ex
 obtain ⟨te,pe,se⟩:=he.ex
 refine ⟨λσ H Q=>to σ H λx H1=>te σ H1 λy H2=>∃ a b xs kvs k d,DDK X.K H2 x y a b xs kvs k/\aX kvs k=some d/\∀ v',Dp X.K H2 v' d->Q v' H2,λpins s σ H Q I h=>?_,
  λσ H ρ μ Q Q' rl h k=>so σ H ρ μ _ _ rl h λx H1 dx μ1 t1 m1 p1 h1=>se σ H1 ρ μ1 _ _ (rl.go t1 m1) h1 λy H2 dy μ2 t2 m2 p2 h2=>?_⟩
 ·refine De zbC.lookup hs (thn (po pins s σ H _ I h) λu s1 ⟨x,H1,I1,rx,q1⟩=>thn (pe pins s1 σ H1 _ I1 q1) λiv s2 h2=>?_)
  obtain ⟨y,H2,I2,ry,a,b,xs,kvs,k,d,⟨ex,ey,e1,l,ky⟩,el,q2⟩:=h2
  subst ex ey
  obtain rfl:u=XQ a:=rx
  obtain rfl:iv=XQ b:=ry
  obtain ⟨⟨z,y⟩,ys,r,dd⟩:=Hv I2 e1 l.key
  rcases wj k l r with ⟨n,_⟩ | ⟨d',v',p,g1,g2,g3,g4⟩
  ·rw[n] at el;cases el
  ·rw[g1] at el;cases el
   exact ⟨dd.typeIs,zdA (vq hu) (ky.deep I2) dd g2 ⟨v',H2,I2.tok _,g3,q2 v' g4⟩⟩
 ·obtain ⟨q,rfl,h2⟩:=eu (p1.mono t2) h2
  obtain ⟨kvs,e0,h2⟩:=vt h2
  obtain ⟨b,rfl,ky,h2⟩:=wU p2 h2
  obtain ⟨d,el,h2⟩:=kC h2
  obtain ⟨xs,ex,l⟩:=m2 q _ e0
  have fin:∀ v',Dp X.K H2 v' d->Q' v' H2:=λv' pv=>k _ _ _ μ2 (t1.trans t2) m2 pv h2
  exact ⟨q,b,xs,kvs,_,d,⟨rfl,rfl,ex,l,ky⟩,el,fin⟩
def CQ (Te To:ETr):ETr:=λρ μ Q=>Te ρ μ λy μ1=>To ρ μ1 λx μ2=>kObj x λa=>kDD μ2 a λkvs=>kKy y (Q (.bl (aX kvs (toP y)).isSome) μ2)
def O5 (K:Xa)(te to:TE):TE:=λσ H Q=>te σ H λy H1=>to σ H1 λx H2=>∃ a b xs kvs k,DDK K H2 x y a b xs kvs k/\Q (.bl (aX kvs k).isSome) H2
theorem Ll {te to:TE}(hu:X.A.units+64 < cLine)(pe:PE X e te)(po:PE X o to):PC X .In e o (O5 X.K te to):=λpins s σ H Q I h=>by
 refine thn (pe pins s σ H _ I h) λiv s1 ⟨y,H1,I1,ry,q1⟩=>thn (po pins s1 σ H1 _ I1 q1) λu s2 h2=>?_
 obtain ⟨x,H2,I2,rx,a,b,xs,kvs,k,⟨ex,ey,e1,l,ky⟩,q2⟩:=h2
 subst ex ey
 obtain rfl:u=XQ a:=rx
 obtain rfl:iv=XQ b:=ry
 obtain ⟨⟨z,y⟩,ys,r,dd⟩:=Hv I2 e1 l.key
 refine wpAny_in_heap (vq hu) (ky.deep I2) y dd ⟨.bl _,H2,I2.tok _,?_,q2⟩
 rcases wj k l r with ⟨n,n'⟩ | ⟨d',v',p,g1,g2,g3,g4⟩
 ·rw[n,n'];rfl
 ·rw[g1,g2];rfl
theorem GG {K:Xa}{te to:TE}(se:Sim K te Te)(so:Sim K to To):Sim K (O5 K te to) (CQ Te To):=λσ H ρ μ Q Q' rl h k=>se σ H ρ μ _ _ rl h λy H1 dy μ1 t1 m1 p1 h1=>so σ H1 ρ μ1 _ _ (rl.go t1 m1) h1 λx H2 dx μ2 t2 m2 p2 h2=>by
 obtain ⟨q,rfl,h2⟩:=eu p2 h2
 obtain ⟨kvs,e0,h2⟩:=vt h2
 obtain ⟨b,rfl,ky,h2⟩:=wU (p1.mono t2) h2
 obtain ⟨xs,ex,l⟩:=m2 q _ e0
 exact ⟨q,b,xs,kvs,_,⟨rfl,rfl,ex,l,ky⟩,k _ _ _ μ2 (t1.trans t2) m2 (.bl _) h2⟩
theorem NU (hu:X.A.units+64 < cLine)(he:LE X e Te)(ho:LE X o To)(hm:YA .In o=false:=by rfl):LT X (.Compare e [.In] [o] pos) (TB (CQ Te To)):=by
 obtain ⟨to,po,so⟩:=ho.ex
 obtain ⟨te,pe,se⟩:=he.ex
 exact ⟨_,Gz (Ll hu pe po) hm,Cn (GG se so)⟩
def A2 (To Te Tv:ETr):STr:=λE ρ μ=>Tv ρ μ λv μ1=>To ρ μ1 λx μ2=>Te ρ μ2 λy μ3=>kObj x λa=>kDD μ3 a λkvs=>kKy y (kvs.length < 1000000/\aX kvs (toP y)=none/\E.nx ρ (up μ3 a (.dcD (kvs++[(toP y,v)]))))
theorem JR (hu:X.A.units+64 < cLine)(ho:LE X o To)(he:LE X e Te)(hv:LE X value Tv)(hs:Zq value (some (.Subscript o e tpos)) pos.line X.env=pure false:=by rfl) :
  LS X (.Assign [.Subscript o e tpos] value pos) (A2 To Te Tv):=by
 obtain ⟨to,po,so⟩:=ho.ex
 obtain ⟨te,pe,se⟩:=he.ex
 obtain ⟨tv,pv,sv⟩:=hv.ex
 refine ⟨λD σ H=>tv σ H λv H1=>to σ H1 λx H2=>te σ H2 λy H3=>∃ a b xs kvs k,DDK X.K H3 x y a b xs kvs k/\xs.length < sizeLine/\aX kvs k=none/\D.nx σ (L2.upd H3 a (.dD (xs++[(k,b,v)]))),λpins s σ H D I h=>?_,
  λσ H ρ μ E E' rl h k=>sv σ H ρ μ _ _ rl h λv H1 dv μ1 t1 m1 p1 h1=>so σ H1 ρ μ1 _ _ (rl.go t1 m1) h1 λx H2 dx μ2 t2 m2 p2 h2=>se σ H2 ρ μ2 _ _ (rl.go (t1.trans t2) m2) h2 λy H3 dy μ3 t3 m3 p3 h3=>?_⟩
 ·refine zch (thn (pv pins s σ H _ I h) λr s1 ⟨v,H1,I1,rv,q1⟩=>thn (po pins s1 σ H1 _ I1 q1) λu s2 ⟨x,H2,I2,rx,q2⟩=>thn (pe pins s2 σ H2 _ I2 q2) λiv s3 h3=>?_) hs
  obtain ⟨y,H3,I3,ry,a,b,xs,kvs,k,⟨ex,ey,e1,l,ky⟩,hl,el,q3⟩:=h3
  subst ex ey
  obtain rfl:u=XQ a:=rx
  obtain rfl:iv=XQ b:=ry
  obtain ⟨⟨z,y⟩,ys,rr,dd⟩:=Hv I3 e1 l.key
  have hz:ys.length<=sizeLine:=by rw[← za1 rr];exact z
  refine zdB (hsz:=hz) (vq hu) (ky.deep I3) dd λh' dd' hsb=>⟨σ,_,?_,q3⟩
  have no:zbx ys k=none:=by
   rcases wj k l rr with ⟨_,n'⟩ | ⟨d',v',p,g1,_⟩
   ·exact n'
   ·rw[g1] at el;cases el
  rw[storedH_new no] at dd'
  obtain ⟨q,es,ep,hq,g2,g3,g4,_,g5⟩:=dd'
  refine pf I3 (by rw[e1];exact YR) hsb ⟨q,hq⟩ ⟨by rw[Xo];exact hl,y,_,?_,q,es,ep,hq,g2,g3,g4,g5⟩
  exact yd rr (.cons ⟨rfl,rfl,rv⟩ .nil)
 ·obtain ⟨q,rfl,h3⟩:=eu p2 h3
  obtain ⟨kvs,e0,h3⟩:=vt h3
  obtain ⟨b,rfl,ky,hl,el,h3⟩:=wU p3 h3
  obtain ⟨xs,ex,l⟩:=m3 q _ e0
  have ll:xs.length=kvs.length:=za1 l
  have t4:Tk H3 (L2.upd H3 q (.dD (xs++[(toP dy,b,v)]))):=.upd (λys z=>by rw[ex] at z;cases z) λo' w z=>by rw[ex] at z;cases z
  have t14:=t1.trans (t2.trans (t3.trans t4))
  refine ⟨q,b,xs,kvs,_,⟨rfl,rfl,ex,l,ky⟩,by rw[ll];exact XG hl (by decide),el,k.nx _ _ ρ _ t14 (rl.go t14 λz y' ez=>?_) h3⟩
  by_cases zq:z=q
  ·subst zq
   rw[ay] at ez;cases ez
   exact ⟨_,aK,DpD.mono t4 (yd l (.cons ⟨rfl,ky,p1.mono (t2.trans t3)⟩ .nil))⟩
  ·rw[aE zq] at ez
   exact (m3 z _ ez).ne t4 zq
end
theorem Ky (ρ:ST)(μ:Mu)(Q:DK):Ay ρ μ Q = ∀ p,μ p=none->Q (.obj p) (up μ p (.dcD [])):=propext Xf
theorem EV (a b:ETr)(ρ:ST)(μ:Mu)(Q:DK):vY a b ρ μ Q=a ρ μ λx μ1=>b ρ μ1 λy μ2=>kObj x λa=>kDD μ2 a λkvs=>kKy y (kO (aX kvs (toP y)) λd=>Q d μ2):=propext Xf
theorem LP (a b:ETr)(ρ:ST)(μ:Mu)(Q:DK):CQ a b ρ μ Q=a ρ μ λy μ1=>b ρ μ1 λx μ2=>kObj x λa=>kDD μ2 a λkvs=>kKy y (Q (.bl (aX kvs (toP y)).isSome) μ2):=propext Xf
theorem Hy (a b v:ETr)(nx:ST->Mu->Prop)(rt:DK)(bk ct:ST->Mu->Prop)(ρ:ST)(μ:Mu):A2 a b v ⟨nx,rt,bk,ct⟩ ρ μ=v ρ μ λz μ1=>a ρ μ1 λx μ2=>b ρ μ2 λy μ3=>kObj x λa=>kDD μ3 a λkvs=>kKy y (kvs.length < 1000000/\aX kvs (toP y)=none/\nx ρ (up μ3 a (.dcD (kvs++[(toP y,z)])))):=propext Xf
end
theorem sy {st:St'}(h:StL st):st.lk=st.mv λn=>-nxF st.ss n:=by
 unfold St'.lk St'.mv
 congr 1
 refine Xu λx hx=>?_
 have e:=Av h.nd x hx
 show (⟨x.nm,x.du,x.W,x.S,0,x.lf,x.ag.map (· - x.nx),x.lo.map (· - x.nx),x.gd,x.mk',x.wt⟩:Ss)=⟨x.nm,x.du,x.W,x.S,x.nx + -nxF st.ss x.nm,x.lf,x.ag.map (· + -nxF st.ss x.nm),x.lo.map (· + -nxF st.ss x.nm),x.gd,x.mk',x.wt⟩
 rw[e]
 congr 1
 lia
theorem Uk {p:Pn}{m:Int}(K:p.Ok m){n:Nat}(hn:n<=1000):HE p (p.run n).lk:=by
 have I:=p.j2 K n (by lia)
 have S:=eN K (n:=n) (by lia)
 rw[sy S]
 refine Ut (λy hy=>(I.cons (by lia) (s:=y.1) (b:=y.2) hy).1) (I.rd (by lia)) λx hx=>?_
 have:=I.nx x hx
 rw[Av S.nd x hx]
 lia
theorem Mf {p:Pn}{m:Int}(K:p.Ok m){n:Nat}(hn:n<=1000):(p.step (p.run n).lk).lk=(p.run (n+1)).lk:=by
 have I:=p.j2 K n (by lia)
 have S:=eN K (n:=n) (by lia)
 have S1:=eN K (n:=n+1) (by lia)
 rw[sy S,Dv _ p _ λy hy=>(I.cons (by lia) (s:=y.1) (b:=y.2) hy).1]
 exact Vk _ S1
theorem PQ {p:Pn}{m:Int}(K:p.Ok m){n:Nat}(hn:n<=1000):StL (p.step (p.run n).lk):=by
 have I:=p.j2 K n (by lia)
 have S:=eN K (n:=n) (by lia)
 have S1:=eN K (n:=n+1) (by lia)
 rw[sy S,Dv _ p _ λy hy=>(I.cons (by lia) (s:=y.1) (b:=y.2) hy).1]
 exact S1.mv _
theorem kZ {α:Type}{f:α->D}{xs:List α}(h:∀ x∈xs,kyP (toP (f x))=true):gT (gN (xs.map f))=true:=by
 induction xs with
 | nil=>rfl
 | cons a r ih=>
  show (kyP (toP (f a))&&gT (gN (r.map f)))=true
  rw[h a Xl,ih λx hx=>h x (Xp _ hx)];rfl
theorem kX {α:Type}{f:α->D}{xs:List α}{n:Nat}(h:∀ x∈xs,okD n (f x)=true):cH n (xs.map f)=true:=by
 induction xs with
 | nil=>rfl
 | cons a r ih=>
  show (okD n (f a)&&cH n (r.map f))=true
  rw[h a Xl,ih λx hx=>h x (Xp _ hx)];rfl
theorem wI (o:Option Int):kyP (toP (cI o))=true/\okD 5 (cI o)=true:=by cases o<;>exact ⟨rfl,rfl⟩
theorem oW (ns:List Int):kyP (toP (.tup (cM ns)))=true/\okD 5 (.tup (cM ns))=true:=⟨kZ λ_ _=>rfl,kX λ_ _=>rfl⟩
theorem IL {ls:List Lt}(h:∀ l∈ls,Xn l.nm=true):kyP (toP (.tup (ltD ls)))=true/\okD 5 (.tup (ltD ls))=true:=
 ⟨kZ λ_ _=>rfl,kX λl hl=>by
  show (Xn l.nm&&true)=true
  rw[h l hl];rfl⟩
theorem Dx {st:St'}(h:StL st)(g:Int):okD 8 (st.toD g)=true/\kyP (toP (st.toD g))=true:=by
 have nm:∀ n∈st.ss.map Ss.nm,Xn n=true:=λn hn=>by
  obtain ⟨x,hx,rfl⟩:=Xh.mp hn
  exact h.sn x hx
 have w1:∀ w∈st.ws,kyP (toP w.toD)=true/\okD 6 w.toD=true:=λw hw=>by
  have a:=IL (ls:=w.cm) λl hl=>nm _ (h.lt w hw l (Y5 _ hl))
  have b:=IL (ls:=w.st) λl hl=>nm _ (h.lt w hw l (XM _ hl))
  constructor
  ·show (kyP (toP (.tup (ltD w.cm)))&&(kyP (toP (.tup (ltD w.st)))&&(true&&true)))=true
   rw[a.1,b.1];rfl
  ·show (okD 5 (.tup (ltD w.cm))&&(okD 5 (.tup (ltD w.st))&&(Xn w.la&&true)))=true
   rw[a.2,b.2,h.la w hw];rfl
 have s1:∀ x∈st.ss,kyP (toP (x.toD g))=true/\okD 6 (x.toD g)=true:=λx hx=>by
  constructor
  ·show (true&&(kyP (toP (cI x.du))&&(true&&(true&&(true&&(kyP (toP (cI x.lf))&&(kyP (toP (.tup (cM x.ag)))&&(kyP (toP (.tup (cM x.lo)))&&(true&&(true&&(true&&true)))))))))))=true
   rw[(wI _).1,(wI _).1,(oW _).1,(oW _).1];rfl
  ·show (Xn x.nm&&(okD 5 (cI x.du)&&(true&&(true&&(true&&(okD 5 (cI x.lf)&&(okD 5 (.tup (cM x.ag))&&(okD 5 (.tup (cM x.lo))&&(true&&(true&&(true&&true)))))))))))=true
   rw[h.sn x hx,(wI _).2,(wI _).2,(oW _).2,(oW _).2];rfl
 constructor
 ·show (cH 6 (wsD st.ws)&&(cH 6 (ssD g st.ss)&&true))=true
  rw[kX λw hw=>(w1 w hw).2,kX λx hx=>(s1 x hx).2];rfl
 ·show (gT (gN (wsD st.ws))&&(gT (gN (ssD g st.ss))&&true))=true
  rw[kZ λw hw=>(w1 w hw).1,kZ λx hx=>(s1 x hx).1];rfl
noncomputable def agn (K:Nat->PyData):Nat->Nat->Option (Nat×Nat)
 | 0,_=>none
 | f+1,t=>match (XX (t+1)).find? λi=>decide (K i=K (t+1)) with
  | some i=>some (i,t+1)
  | none=>agn K f (t+1)
theorem AR (K:Nat->PyData)(f t:Nat):agn K (f+1) t=match (XX (t+1)).find? λi=>decide (K i=K (t+1)) with
  | some i=>some (i,t+1)
  | none=>agn K f (t+1):=rfl
def agD:Option (Nat×Nat)->D
 | none=>.non
 | some y=>.tup [.int (y.1:Nat),.int (y.2:Nat)]
def nG (K:Nat->PyData)(t:Nat):List (PyData×D):=(XX t).map λi=>(K i,.int (i:Nat))
theorem Jq (K:Nat->PyData)(t:Nat):(nG K t).length=t:=by unfold nG;simp
theorem EJ (K:Nat->PyData)(t:Nat):nG K (t+1)=nG K t++[(K t,.int (t:Nat))]:=by unfold nG;rw[zcy,XE];rfl
theorem uB (K:Nat->PyData)(t:Nat)(k:PyData):aX (nG K t) k=((XX t).find? λi=>decide (K i=k)).map λi:Nat=>.int i:=by
 unfold aX nG
 rw[List.find?_map,zc1]
 rfl
def Pn.ky (p:Pn)(i:Nat):PyData:=toP ((p.run i).lk.toD p.g)
theorem Q1 (g:Int)(st:St')(f:Prop):kKy (st.toD g) f=((okD 8 (st.toD g)=true/\kyP (toP (st.toD g))=true)/\f):=propext Xf
mutual
theorem Dt:∀ (n m:Nat) (a b:D),okD n a=true->okD m b=true->toP a=toP b->a=b
 | n,m,.ty _,_,h,_,_=>by cases n<;>cases h
 | n,m,.obj _,_,h,_,_=>by cases n<;>cases h
 | n,m,_,.ty _,_,h,_=>by cases m<;>cases h
 | n,m,_,.obj _,_,h,_=>by cases m<;>cases h
 | _,_,.non,.non,_,_,_=>rfl
 | _,_,.bl _,.bl _,_,_,e=>by cases e;rfl
 | _,_,.int _,.int _,_,_,e=>by cases e;rfl
 | _,_,.str _,.str _,_,_,e=>by cases e;rfl
 | 0,_,.tup _,_,h,_,_=>by cases h
 | _,0,_,.tup _,_,h,_=>by cases h
 | 0,_,.ls _,_,h,_,_=>by cases h
 | _,0,_,.ls _,_,h,_=>by cases h
 | n+1,m+1,.tup xs,.tup ys,h,k,e=>by
  injection e with e
  rw[sf n m xs ys h k e]
 | n+1,m+1,.ls xs,.ls ys,h,k,e=>by
  injection e with e
  rw[sf n m xs ys h k e]
 | _,_,.non,.bl _,_,_,e=>by cases e
 | _,_,.non,.int _,_,_,e=>by cases e
 | _,_,.non,.str _,_,_,e=>by cases e
 | _,_,.non,.tup _,_,_,e=>by cases e
 | _,_,.non,.ls _,_,_,e=>by cases e
 | _,_,.bl _,.non,_,_,e=>by cases e
 | _,_,.bl _,.int _,_,_,e=>by cases e
 | _,_,.bl _,.str _,_,_,e=>by cases e
 | _,_,.bl _,.tup _,_,_,e=>by cases e
 | _,_,.bl _,.ls _,_,_,e=>by cases e
 | _,_,.int _,.non,_,_,e=>by cases e
 | _,_,.int _,.bl _,_,_,e=>by cases e
 | _,_,.int _,.str _,_,_,e=>by cases e
 | _,_,.int _,.tup _,_,_,e=>by cases e
 | _,_,.int _,.ls _,_,_,e=>by cases e
 | _,_,.str _,.non,_,_,e=>by cases e
 | _,_,.str _,.bl _,_,_,e=>by cases e
 | _,_,.str _,.int _,_,_,e=>by cases e
 | _,_,.str _,.tup _,_,_,e=>by cases e
 | _,_,.str _,.ls _,_,_,e=>by cases e
 | _,_,.tup _,.non,_,_,e=>by cases e
 | _,_,.tup _,.bl _,_,_,e=>by cases e
 | _,_,.tup _,.int _,_,_,e=>by cases e
 | _,_,.tup _,.str _,_,_,e=>by cases e
 | _,_,.tup _,.ls _,_,_,e=>by cases e
 | _,_,.ls _,.non,_,_,e=>by cases e
 | _,_,.ls _,.bl _,_,_,e=>by cases e
 | _,_,.ls _,.int _,_,_,e=>by cases e
 | _,_,.ls _,.str _,_,_,e=>by cases e
 | _,_,.ls _,.tup _,_,_,e=>by cases e
theorem sf:∀ (n m:Nat) (a b:List D),cH n a=true->cH m b=true->gN a=gN b->a=b
 | _,_,[],[],_,_,_=>rfl
 | _,_,[],_::_,_,_,e=>by cases e
 | _,_,_::_,[],_,_,e=>by cases e
 | n,m,x::xs,y::ys,h,k,e=>by
  have h':okD n x=true/\cH n xs=true:=YL.mp h
  have k':okD m y=true/\cH m ys=true:=YL.mp k
  have e':toP x=toP y/\gN xs=gN ys:=by simpa[gN] using e
  rw[Dt n m x y h'.1 k'.1 e'.1,sf n m xs ys h'.2 k'.2 e'.2]
end
theorem map_inj {α β:Type}{f:α->β}(w:∀ x y,f x=f y->x=y):∀ {l m:List α},l.map f=m.map f->l=m
 | [],[],_=>rfl
 | [],_::_,h=>by cases h
 | _::_,[],h=>by cases h
 | a::l,b::m,h=>by
  have h':=zfs h
  rw[w a b h'.1,map_inj w h'.2]
theorem HR (a b:Lt)(h:a.toD=b.toD):a=b:=by
 obtain ⟨a1,a2,a3,a4,a5⟩:=a
 obtain ⟨b1,b2,b3,b4,b5⟩:=b
 unfold Lt.toD at h
 simp only[D.tup.injEq,ZU,D.str.injEq,D.int.injEq,and_true] at h
 obtain ⟨rfl,rfl,rfl,rfl,rfl⟩:=h
 rfl
theorem Ro (a b:Ws)(h:a.toD=b.toD):a=b:=by
 obtain ⟨a1,a2,a3⟩:=a
 obtain ⟨b1,b2,b3⟩:=b
 unfold Ws.toD at h
 simp only[D.tup.injEq,ZU,D.str.injEq,and_true] at h
 obtain ⟨h1,h2,rfl⟩:=h
 rw[map_inj HR h1,map_inj HR h2]
theorem Dm (a b:Int)(h:D.int a=D.int b):a=b:=by injection h
theorem DQ (a b:Option Int)(h:cI a=cI b):a=b:=by
 cases a<;>cases b<;>first | rfl | (cases h;done) | (injection h with h;rw[h])
theorem DH {g:Int}(g0:0 < g)(a b:Int)(h:eE a g=eE b g):a=b:=by
 obtain ⟨c,p,q,c0,ea,eg,e1,e2,q0,_,_⟩:=tY (a:=a) g0
 obtain ⟨c',p',q',c0',ea',eg',e1',e2',q0',_,_⟩:=tY (a:=b) g0
 unfold eE fr at h
 rw[e1,e2,e1',e2'] at h
 simp only[D.tup.injEq,ZU,D.int.injEq,and_true] at h
 obtain ⟨rfl,rfl⟩:=h
 have:c=c':=Zm (by lia) (eg.symm.trans eg')
 rw[ea,ea',this]
theorem Sd {g:Int}(g0:0 < g)(a b:Ss)(h:a.toD g=b.toD g):a=b:=by
 obtain ⟨a1,a2,a3,a4,a5,a6,a7,a8,a9,a10,a11⟩:=a
 obtain ⟨b1,b2,b3,b4,b5,b6,b7,b8,b9,b10,b11⟩:=b
 unfold Ss.toD at h
 simp only[D.tup.injEq,ZU,D.str.injEq,D.int.injEq,and_true] at h
 obtain ⟨rfl,h2,h3,h4,rfl,h6,h7,h8,rfl,rfl,rfl⟩:=h
 rw[DQ _ _ h2,DH g0 _ _ h3,DH g0 _ _ h4,DQ _ _ h6,map_inj Dm h7,map_inj Dm h8]
theorem R4 {g:Int}(g0:0 < g)(a b:St')(h:a.toD g=b.toD g):a=b:=by
 obtain ⟨a1,a2⟩:=a
 obtain ⟨b1,b2⟩:=b
 unfold St'.toD at h
 simp only[D.tup.injEq,ZU,and_true] at h
 rw[map_inj Ro h.1,map_inj (Sd g0) h.2]
theorem Rw {p:Pn}{m:Int}(K:p.Ok m){i j:Nat}(hi:i<=1000)(hj:j<=1000)(h:p.ky i=p.ky j):(p.run i).lk=(p.run j).lk:=by
 have a:=Dx (eN K (n:=i) (by lia)).lk p.g
 have b:=Dx (eN K (n:=j) (by lia)).lk p.g
 exact R4 (by have:=K.g.1;lia) _ _ (Dt 8 8 _ _ a.1 b.1 h)
abbrev Lt.key (l:Lt):Str×Int:=(l.nm,l.nu)
def Ev.fin (e:Ev):Prop:=e.wd=OF "lost" ∨ e.wd=OF "taken"
abbrev Ev.key (e:Ev):Str×Int:=(e.nm,e.nu)
def Pn.told (p:Pn)(st:St'):List Ev:=(X3 (λw x=>L3.evs p.ss w x) p.ws (p.bW st)).flatten
theorem mx {s:Sn}{n:List Int}(t:Nat):∀ {zs:List (Sn×List Int)},(zs.map λy=>y.1.nm).Nodup->(s,n)∈zs->(zs.filterMap (cX t)).filter (λx=>decide (x.2.nm=s.nm))=(cX t (s,n)).toList
 | y::r,nd,h=>by
  rw[Xm] at nd
  have ⟨n1,n2⟩:=Yc.mp nd
  have nmT:∀ (y:Sn×List Int) z,cX t y=some z->z.2.nm=y.1.nm:=λy z e=>by
   unfold cX at e
   cases q:y.2[t]? with
   | none=>rw[q] at e;cases e
   | some j=>rw[q] at e;cases e;rfl
  have none_of:∀ zs:List (Sn×List Int),(∀ y∈zs,y.1.nm≠s.nm)->(zs.filterMap (cX t)).filter (λx=>decide (x.2.nm=s.nm))=[]:=λzs hz=>by
   refine ZP.mpr λz hz'=>?_
   obtain ⟨y,hy,e⟩:=ZL.mp hz'
   rw[nmT y z e]
   simpa using hz y hy
  rw[YV]
  rcases Xr.mp h with h | h
  ·subst h
   have h0:=none_of r λy hy e=>n1 (Xh.mpr ⟨y,hy,e⟩)
   cases e:cX t (s,n) with
   | none=>simpa using h0
   | some z=>
    have:=nmT _ z e
    simp only[Zg,this,decide_true,if_true,h0]
    rfl
  ·have hy:y.1.nm≠s.nm:=λe=>n1 (by rw[e];exact Xh.mpr ⟨(s,n),h,rfl⟩)
   cases e:cX t y with
   | none=>exact mx t n2 h
   | some z=>
    have:=nmT _ z e
    simp only[Zg,this,hy,decide_false]
    exact mx t n2 h
theorem ze {α β:Type}(f:α->β):∀ (ns:List α) (L:Nat),ns.length<=L->(XX L).flatMap (λt=>(ns[t]?.map f).toList)=ns.map f
 | [],L,_=>by simp
 | a::r,0,h=>by simp at h
 | a::r,L+1,h=>by
  rw[zci]
  rw[Zv,zak]
  have:=ze f r L (by simpa using h)
  simpa using this
theorem EB {ss:List Sn}{ns:List (List Int)}(nd:(ss.map Sn.nm).Nodup){s:Sn}{n:List Int}(h:(s,n)∈Xv ss ns):(iu ss ns).filter (λx=>decide (x.2.nm=s.nm))=n.map λj=>(s.rd.headD (OF ""),⟨s.nm,j,0,0,0⟩):=by
 have nd':((Xv ss ns).map λy=>y.1.nm).Nodup:=by
  have:(Xv ss ns).map (λy=>y.1.nm)=((Xv ss ns).map (·.1)).map Sn.nm:=by rw[Xk];rfl
  rw[this]
  exact nd.sublist (((vH ss ns).sublist).map Sn.nm)
 rw[lZ,zdh]
 rw[← ze (λj=>(s.rd.headD (OF ""),(⟨s.nm,j,0,0,0⟩:Lt))) n (dJ ns) (Dk (XH h).2)]
 congr 1
 funext t
 exact mx t nd' h
theorem Ii {K:Nat->PyData}:∀ {f t:Nat},(∀ n,t < n->n<=t+f->∀ i,i < n->K i≠K n)->agn K f t=none:=by
 intro f
 induction f with
 | zero=>intro t _;rfl
 | succ f ih=>
  intro t h
  rw[AR]
  have e:(XX (t+1)).find? (λi=>decide (K i=K (t+1)))=none:=Y2.mpr λi hi=>by
   simpa using h (t+1) (by lia) (by lia) i (Ys.mp hi)
  rw[e]
  exact ih λn h1 h2=>h n (by lia) (by lia)
theorem Fc {t s:Nat}{P:Nat->Bool}(hs:s < t)(h1:P s=true)(h2:∀ i,i < t->P i=true->i=s):(XX t).find? P=some s:=by
 cases e:(XX t).find? P with
 | none=>exact absurd h1 (Y2.mp e s (Ys.mpr hs))
 | some i=>rw[h2 i (Ys.mp (Yv e)) (zbi e)]
theorem Sy {K:Nat->PyData}{s n:Nat}(hs:s < n)(e:K s=K n)(un:∀ i,i < n->K i=K n->i=s):∀ {f t:Nat},t < n->n<=t+f->(∀ m,t < m->m < n->∀ i,i < m->K i≠K m)->agn K f t=some (s,n):=by
 intro f
 induction f with
 | zero=>intro t h1 h2;lia
 | succ f ih=>
  intro t h1 h2 h
  rw[AR]
  by_cases z:t+1=n
  ·rw[z,Fc hs (by simpa using e) λi hi q=>un i hi (by simpa using q)]
  ·have e1:(XX (t+1)).find? (λi=>decide (K i=K (t+1)))=none:=Y2.mpr λi hi=>by
    simpa using h (t+1) (by lia) (by lia) i (Ys.mp hi)
   rw[e1]
   exact ih (by lia) (by lia) λm h3 h4=>h m (by lia) h4
theorem Fu {K:Nat->PyData}{S L B:Nat}(l0:0 < L)(hB:S+L<=B)(h:∀ i n,i < n->n<=B->(K i=K n↔S<=i/\L ∣ n - i)):(∀ f,S+L<=f->agn K f 0=some (S,S+L))/\∀ f,f < S+L->agn K f 0=none:=by
 have no:∀ n,n < S+L->∀ i,i < n->K i≠K n:=λn hn i hi e=>by
  obtain ⟨h1,h2⟩:=(h i n hi (by lia)).mp e
  have:=za6 (by lia) h2
  lia
 refine ⟨λf hf=>Sy (by lia) ?_ (λi hi e=>?_) (by lia) (by lia) λm _ hm=>no m hm,λf hf=>Ii λn _ h2=>no n (by lia)⟩
 ·exact (h S (S+L) (by lia) hB).mpr ⟨Xq _,by rw[Nat.add_sub_cancel_left];exact Nat.dvd_refl _⟩
 ·obtain ⟨h1,h2⟩:=(h i (S+L) hi hB).mp e
  have:=za6 (by lia) h2
  lia
def cB (B b n:Nat):Nat:=if n<=B then 0 else (n - B - 1) / b+1
def dB (B b n:Nat):Nat:=if n<=B then B - n else b - 1 - (n - B - 1) % b
def sB (L:Option Nat)(G c:Nat):Nat:=match L with
 | none=>G*c
 | some l=>min l (G*c)
theorem o4 {B b n:Nat}(b0:1<=b)(b1:b<=8):(dB B b n=0->cB B b (n+1)=cB B b n+1/\dB B b (n+1)=b - 1)/\(dB B b n≠0->cB B b (n+1)=cB B b n/\dB B b (n+1)=dB B b n - 1):=by
 unfold cB dB
 have:b=1∨b=2∨b=3∨b=4∨b=5∨b=6∨b=7∨b=8:=by lia
 rcases this with rfl | rfl | rfl | rfl | rfl | rfl | rfl | rfl<;>refine ⟨λh=>⟨?_,?_⟩,λh=>⟨?_,?_⟩⟩ <;> (repeat' split at *)<;>lia
theorem oQ {L:Option Nat}{G c:Nat}:sB L G c<=sB L G (c+1)/\sB L G (c+1)<=sB L G c+G:=by
 unfold sB
 cases L with
 | none=>simp only[ZQ];lia
 | some l=>simp only[ZQ];lia
theorem lF (L:Option Nat)(G:Nat):sB L G 0=0:=by unfold sB;cases L<;>simp
theorem tkA {w:Wy}(hm:w.mr=none):∀ {ys xs:List Lt},((xs.length+ys.length:Nat):Int)<=w.rm->ys.foldl (bK w) (xs,[])=(xs++ys,[]):=by
 intro ys
 induction ys with
 | nil=>intro xs _;rw[XU];rfl
 | cons y r ih=>
  intro xs h
  rw[XC] at h
  have e:bK w (xs,[]) y=(xs++[y],[]):=by
   unfold bK
   rw[if_neg (by show ¬ w.rm<=(xs.length:Int);lia)]
   unfold mZ
   rw[hm]
  rw[YH,e,ih (by rw[Xo];simp;lia),zbJ]
  rfl
theorem Ec {ws:List Str}{p:Int}{a:Str}(ha:a∈ws):∀ (f:Nat) (st out:List Lt) (l:Str),(∀ x∈st,x.nm=a)->st.length<=f->((out.length+st.length:Nat):Int)<=p->c7 ws p f st out l=(out++st,[],if st.length=0 then l else a):=by
 intro f
 induction f with
 | zero=>
  intro st out l _ h _
  obtain rfl:st=[]:=List.length_eq_zero_iff.mp (by lia)
  rw[XU];rfl
 | succ f ih=>
  intro st out l hn h hp
  cases st with
  | nil=>rw[pB (by simp),XU];rfl
  | cons x r=>
   rw[XC] at h hp
   have hx:=hn x Xl
   obtain ⟨n,e⟩:=rH (l:=l) ha (show a∈(x::r).map Lt.nm from Xh.mpr ⟨x,Xl,hx⟩)
   obtain ⟨_,h2⟩:=rE e
   obtain ⟨y,hy,ey⟩:=Xh.mp h2
   have en:n=a:=by rw[← ey];exact hn y hy
   subst en
   have a1:at1 n (x::r)=0:=by unfold at1;rw[List.findIdx_cons];simp[hx]
   rw[yS (x:=x) ⟨by simp,by lia⟩ e (by rw[a1];rfl),a1,List.eraseIdx_cons_zero,ih r _ _ (λz hz=>hn z (Xp _ hz)) (by lia) (by rw[Xo];simp;lia)]
   simp
def Gs (g:Int)(s:Sn):Nat:=((s.rl.p*g / s.rl.q) / g).toNat
structure Q45 (p:Pn):Prop where
 st:∀ s∈p.ss,s.rl.wd=.still
 g0:∀ s∈p.ss,0<=(s.rl.p*p.g / s.rl.q) / p.g
 rd:∀ s∈p.ss,∃ w∈p.ws,s.rd=[w.nm]
 wn:p.wn.Nodup
 sn:p.sn.Nodup
 mr:∀ w∈p.ws,w.mr=none
 pc:∀ w∈p.ws,(((p.ss.map (Gs p.g)).sum:Nat):Int)<=w.pc/\(((p.ss.map (Gs p.g)).sum:Nat):Int)<=w.rm
 tn:∀ w∈p.ws,w.tn=true->∀ s∈p.ss,∀ t∈p.ss,s.rd=[w.nm]->t.rd=[w.nm]->s.nm=t.nm
 b:∀ s∈p.ss,1<=s.bt/\s.bt<=8/\0<=s.bg/\∀ i,s.mn=some i->0<=i
def cN (s:Sn)(n:Nat):Nat:=cB s.bg.toNat s.bt.toNat n
def tN (g:Int)(s:Sn)(c:Nat):Nat:=sB (s.mn.map Za) (Gs g s) c
def x45 (g:Int)(s:Sn)(n:Nat):Ss:=⟨s.nm,some (dB s.bg.toNat s.bt.toNat n:Nat),s.rl.p*g / s.rl.q,0,(tN g s (cN s n):Nat),s.mn.map λi=>i - (tN g s (cN s n):Nat),[],[],(tN g s (cN s n):Nat) - (tN g s (cN s n - 1):Nat),0,0⟩
def qN (g:Int)(s:Sn)(n:Nat):Nat:=tN g s (cN s (n+1)) - tN g s (cN s n)
theorem Tf {p:Pn}(h:Q45 p){s:Sn}(hs:s∈p.ss)(n:Nat):qN p.g s n<=Gs p.g s:=by
 obtain ⟨b0,b1,_⟩:=h.b s hs
 unfold qN cN
 have go:=o4 (B:=s.bg.toNat) (b:=s.bt.toNat) (n:=n) (by lia) (by lia)
 by_cases e:dB s.bg.toNat s.bt.toNat n=0
 ·rw[(go.1 e).1]
  have:=oQ (L:=s.mn.map Za) (G:=Gs p.g s) (c:=cB s.bg.toNat s.bt.toNat n)
  unfold tN
  lia
 ·rw[(go.2 e).1];lia
theorem Wz {p:Pn}(h:Q45 p){s:Sn}(hs:s∈p.ss)(n:Nat):(x45 p.g s n).bt p.g s 0=(if dB s.bg.toNat s.bt.toNat n=0 then ⟨s.nm,some 0,s.rl.p*p.g / s.rl.q,0,(tN p.g s (cN s (n+1)):Nat),s.mn.map λi=>i - (tN p.g s (cN s (n+1)):Nat),[],[],0,0,0⟩ else x45 p.g s n,rgI (tN p.g s (cN s n):Nat) (qN p.g s n)):=by
 obtain ⟨b0,b1,bg,bm⟩:=h.b s hs
 have go:=o4 (B:=s.bg.toNat) (b:=s.bt.toNat) (n:=n) (by lia) (by lia)
 have g0:=h.g0 s hs
 unfold Ss.bt
 by_cases e:dB s.bg.toNat s.bt.toNat n=0
 ·have e1:(x45 p.g s n).du=some 0:=by show some ((dB s.bg.toNat s.bt.toNat n:Nat):Int)=some 0;rw[e];rfl
  rw[if_pos e1,if_pos e]
  have eb:s.rl.beh p.g (x45 p.g s n).W (x45 p.g s n).S (x45 p.g s n).hd=(s.rl.p*p.g / s.rl.q,0):=by
   unfold RN.beh
   rw[if_pos (.inl (h.st s hs))]
   rfl
  have ec:cN s (n+1)=cN s n+1:=(go.1 e).1
  have m1:=oQ (L:=s.mn.map Za) (G:=Gs p.g s) (c:=cN s n)
  unfold Ss.rdy
  rw[eb]
  have pl:(max 0 ((s.rl.p*p.g / s.rl.q) / p.g - 0)).toNat=Gs p.g s:=by unfold Gs;lia
  show Ss.fill _ (max 0 ((s.rl.p*p.g / s.rl.q) / p.g - 0)).toNat=_
  rw[pl]
  have ei:d7 ((x45 p.g s n).ag++(x45 p.g s n).lo)=[]:=by show d7 []=[];unfold d7;simp
  have hc:fK (s.mn.map λi=>i - (tN p.g s (cN s n):Nat)) (((Gs p.g s:Nat):Int) - (0:Nat))=(qN p.g s n:Nat):=by
   unfold qN
   rw[ec]
   unfold tN at *
   cases hm:s.mn with
   | none=>
    rw[hm] at m1
    show ((Gs p.g s:Nat):Int) - (0:Nat)=_
    have:sB none (Gs p.g s) (cN s n+1)=sB none (Gs p.g s) (cN s n)+Gs p.g s:=by unfold sB;exact ZQ _ _
    simp only[zfi] at *
    lia
   | some i=>
    have:=bm i hm
    rw[hm] at m1
    show min (((Gs p.g s:Nat):Int) - (0:Nat)) (i - (sB (some i.toNat) (Gs p.g s) (cN s n):Nat))=_
    have e1:sB (some i.toNat) (Gs p.g s) (cN s n+1)=min i.toNat (Gs p.g s*cN s n+Gs p.g s):=by unfold sB;rw[ZQ]
    have e2:sB (some i.toNat) (Gs p.g s) (cN s n)=min i.toNat (Gs p.g s*cN s n):=rfl
    simp only[zfi] at *
    rw[e1,e2]
    lia
  unfold Ss.fill
  rw[ei]
  show (({ nm:=_,du:=_,W:=_,S:=_,nx:=((tN p.g s (cN s n):Nat):Int)+fK (s.mn.map λi:Int=>i - (tN p.g s (cN s n):Nat)) (((Gs p.g s:Nat):Int) - (([]:List Int).take (Gs p.g s)).length),lf:=(s.mn.map λi:Int=>i - (tN p.g s (cN s n):Nat)).map (· - fK (s.mn.map λi:Int=>i - (tN p.g s (cN s n):Nat)) (((Gs p.g s:Nat):Int) - (([]:List Int).take (Gs p.g s)).length)),ag:=_,lo:=_,gd:=_,mk':=_,wt:=_ }:Ss),([]:List Int).take (Gs p.g s)++rgI _ (fK (s.mn.map λi:Int=>i - (tN p.g s (cN s n):Nat)) (((Gs p.g s:Nat):Int) - (([]:List Int).take (Gs p.g s)).length)).toNat)=_
  rw[List.take_nil,Zs,hc]
  have kk:((tN p.g s (cN s n):Nat):Int)+(qN p.g s n:Nat)=(tN p.g s (cN s (n+1)):Nat):=by unfold qN;rw[ec];unfold tN at *;lia
  have kl:(s.mn.map λi:Int=>i - (tN p.g s (cN s n):Nat)).map (· - ((qN p.g s n:Nat):Int))=s.mn.map λi:Int=>i - (tN p.g s (cN s (n+1)):Nat):=by
   cases s.mn with
   | none=>rfl
   | some i=>show some (i - _ - _)=some (i - _);congr 1;lia
  rw[kk,kl,e1]
  rfl
 ·have e1:(x45 p.g s n).du≠some 0:=by
   show some ((dB s.bg.toNat s.bt.toNat n:Nat):Int)≠some 0
   intro z
   injection z with z
   lia
  rw[if_neg e1,if_neg e]
  have:qN p.g s n=0:=by unfold qN cN;rw[(go.2 e).1];lia
  rw[this]
  rfl
theorem zwm {α β γ:Type}(f:α->β->γ)(g:α->β)(l:List α):X3 f l (l.map g)=l.map λa=>f a (g a):=by
 induction l with
 | nil=>rfl
 | cons a r ih=>rw[Xm,List.zipWith_cons_cons,ih,Xm]
theorem WJ {α β:Type}(g:α->β){l:List α}{a:α}(h:a∈l):(a,g a)∈Xv l (l.map g):=by
 induction l with
 | nil=>cases h
 | cons b r ih=>
  rw[Xm,List.zip_cons_cons]
  rcases Xr.mp h with e | e
  ·rw[e];exact Xl
  ·exact Xp _ (ih e)
theorem rR {ss:List Sn}{ns:List (List Int)}{x:Str×Lt}(h:x∈iu ss ns):∃ s∈ss,∃ j,x=(s.rd.headD (OF ""),⟨s.nm,j,0,0,0⟩):=by
 unfold iu at h
 obtain ⟨t,_,h⟩:=ZH.mp h
 obtain ⟨y,hy,e⟩:=ZL.mp h
 cases hn:y.2[t]? with
 | none=>rw[hn] at e;cases e
 | some j=>
  rw[hn] at e
  injection e with e
  exact ⟨y.1,(XH hy).1,j,e.symm⟩
theorem Lr {names:List Str}{a:Str}(nd:names.Nodup)(h:a∈names):(names.map λb=>if a=b then 1 else 0).sum=1:=by
 induction names with
 | nil=>cases h
 | cons b r ih=>
  obtain ⟨n1,n2⟩:=Yc.mp nd
  rw[Xm,XT]
  by_cases e:a=b
  ·rw[if_pos e]
   have:(r.map λb=>if a=b then 1 else 0).sum=0:=by
    have:∀ l:List Str,a ∉ l->(l.map λb=>if a=b then 1 else 0).sum=0:=by
     intro l
     induction l with
     | nil=>intro _;rfl
     | cons c l ih=>intro hl;rw[Xm,XT,if_neg λz=>hl (by rw[z];exact Xl),ih λz=>hl (Xp _ z)]
    exact this r (by rw[e];exact n1)
   lia
  ·rw[if_neg e,ih n2 ((Xr.mp h).resolve_left e)]
theorem E6 {α:Type}(f:α->Str){names:List Str}(nd:names.Nodup):∀ {l:List α},(∀ x∈l,f x∈names)->l.length=(names.map λb=>(l.filter λx=>decide (f x=b)).length).sum:=by
 intro l
 induction l with
 | nil=>
  intro _
  have:∀ ns:List Str,(ns.map λb=>(([]:List α).filter λx=>decide (f x=b)).length).sum=0:=by
   intro ns
   induction ns with
   | nil=>rfl
   | cons a r ih=>rw[Xm,XT,ih];rfl
  exact (this names).symm
 | cons x l ih=>
  intro h
  have h1:=ih λy hy=>h y (Xp _ hy)
  have h2:=Lr nd (h x Xl)
  have:∀ ns:List Str,(ns.map λb=>((x::l).filter λx=>decide (f x=b)).length).sum=(ns.map λb=>if f x=b then 1 else 0).sum+(ns.map λb=>(l.filter λx=>decide (f x=b)).length).sum:=by
   intro ns
   induction ns with
   | nil=>rfl
   | cons a r ih=>
    rw[Xm,XT,ih,Xm,XT,Xm,XT,Zg]
    by_cases e:f x=a
    ·rw[if_pos (decide_eq_true e),if_pos e,XC];lia
    ·rw[if_neg (by simpa using e),if_neg e];lia
  rw[this,← h1,h2,XC]
  lia
theorem Oh {α:Type}{f g:α->Nat}:∀ {l:List α},(∀ x∈l,f x<=g x)->(l.map f).sum<=(l.map g).sum:=by
 intro l
 induction l with
 | nil=>intro _;exact Xq _
 | cons x r ih=>
  intro h
  have:=ih λy hy=>h y (Xp _ hy)
  have:=h x Xl
  rw[Xm,XT,Xm,XT]
  lia
def snt (p:Pn)(n:Nat):List (Str×Lt):=iu p.ss (p.ss.map λs=>rgI (tN p.g s (cN s n):Nat) (qN p.g s n))
def CA (p:Pn)(n:Nat)(w:Wy):List Lt:=((snt p n).filter λx=>decide (x.1=w.nm)).map (·.2)
def L8 (p:Pn)(w:Wy):Option Sn:=p.ss.find? λs=>decide (s.rd=[w.nm])
def eJ (p:Pn)(w:Wy)(n:Nat):Str:=if w.tn then (match L8 p w with
 | some s=>if tN p.g s (cN s n)=0 then OF "" else s.nm
 | none=>OF "") else OF ""
def di (p:Pn)(n:Nat):St':=⟨p.ws.map λw=>⟨[],[],eJ p w n⟩,p.ss.map λs=>x45 p.g s n⟩
section
variable {p:Pn} (h:Q45 p) (n:Nat)
include h
theorem wK {s:Sn}(hs:s∈p.ss):(snt p n).filter (λx=>decide (x.2.nm=s.nm))=(rgI (tN p.g s (cN s n):Nat) (qN p.g s n)).map λj=>(s.rd.headD (OF ""),⟨s.nm,j,0,0,0⟩):=
 EB h.sn (WJ _ hs)
theorem Nr:(snt p n).length<=(p.ss.map (Gs p.g)).sum:=by
 have:(snt p n).length=(p.sn.map λb=>((snt p n).filter λx=>decide (x.2.nm=b)).length).sum:=E6 (λx:Str×Lt=>x.2.nm) h.sn λx hx=>by
  obtain ⟨s,hs,j,rfl⟩:=rR hx
  exact Xh.mpr ⟨s,hs,rfl⟩
 rw[this,Xk]
 refine Oh λs hs=>?_
 show ((snt p n).filter λx=>decide (x.2.nm=s.nm)).length<=_
 rw[wK h n hs,Xc,oS]
 exact Tf h hs n
theorem Sx (w:Wy):(CA p n w).length<=(p.ss.map (Gs p.g)).sum:=by
 unfold CA
 rw[Xc]
 exact Yd (YZ _ _) (Nr h n)
theorem O2 {w:Wy}{l:Lt}(hl:l∈CA p n w):∃ s∈p.ss,s.rd=[w.nm]/\∃ j,l=⟨s.nm,j,0,0,0⟩:=by
 obtain ⟨x,hx,rfl⟩:=Xh.mp hl
 obtain ⟨h1,h2⟩:=XZ.mp hx
 obtain ⟨s,hs,j,rfl⟩:=rR h1
 obtain ⟨v,_,e⟩:=h.rd s hs
 have h2:s.rd.headD (OF "")=w.nm:=of_decide_eq_true h2
 rw[e] at h2
 have h2:v.nm=w.nm:=h2
 exact ⟨s,hs,by rw[e,h2],j,rfl⟩
theorem MU {w:Wy}(hw:w∈p.ws)(ht:w.tn=true){s:Sn}(hs:s∈p.ss)(e:s.rd=[w.nm]):CA p n w=(rgI (tN p.g s (cN s n):Nat) (qN p.g s n)).map λj=>⟨s.nm,j,0,0,0⟩:=by
 unfold CA
 have:((snt p n).filter λx=>decide (x.1=w.nm))=(snt p n).filter λx=>decide (x.2.nm=s.nm):=zeh λx hx=>by
  obtain ⟨s',hs',j,rfl⟩:=rR hx
  obtain ⟨v,_,e'⟩:=h.rd s' hs'
  refine decide_eq_decide.mpr ⟨λz=>?_,λz=>?_⟩
  ·have z:s'.rd.headD (OF "")=w.nm:=z
   rw[e'] at z
   have z:v.nm=w.nm:=z
   exact h.tn w hw ht s' hs' s hs (by rw[e',z]) e
  ·have:s'=s:=iz h.sn hs' hs z
   subst this
   show s'.rd.headD (OF "")=w.nm
   rw[e];rfl
 rw[this,wK h n hs,Xk]
 rfl
theorem Q5 {w:Wy}(hw:w∈p.ws):pass w p.sn ⟨[],[],eJ p w n⟩ (snt p n)=⟨CA p n w,[],CA p n w,[],eJ p w (n+1)⟩:=by
 have hl:=Sx h n w
 obtain ⟨p1,p2⟩:=h.pc w hw
 have e1:tk w [] (CA p n w)=(CA p n w,[]):=by
  unfold tk
  rw[tkA (h.mr w hw) (by rw[Zs];lia),YE]
 have e2:bO w p.sn (CA p n w) (eJ p w n)=(CA p n w,[],eJ p w (n+1)):=by
  unfold bO
  cases ht:w.tn with
  | false=>
   have el:eJ p w (n+1)=OF "" := by unfold eJ;rw[ht];rfl
   rw[el,if_neg (by simp),ZM (by lia),zcj (by lia)]
  | true=>
   rw[if_pos rfl]
   cases hg:L8 p w with
   | none=>
    have ec:CA p n w=[]:=by
     cases e:CA p n w with
     | nil=>rfl
     | cons l r=>
      obtain ⟨s,hs,es,_⟩:=O2 h n (w:=w) (l:=l) (by rw[e];exact Xl)
      exact absurd es (by simpa using Y2.mp hg s hs)
    have l1:eJ p w n=OF "" := by unfold eJ;rw[ht,hg];rfl
    have l2:eJ p w (n+1)=OF "" := by unfold eJ;rw[ht,hg];rfl
    rw[ec,l1,l2];rfl
   | some s=>
    have hs:s∈p.ss:=Yv hg
    have es:s.rd=[w.nm]:=by simpa using zbi hg
    have ec:=MU h n hw ht hs es
    have l1:eJ p w n=if tN p.g s (cN s n)=0 then OF "" else s.nm:=by unfold eJ;rw[ht,hg];rfl
    have l2:eJ p w (n+1)=if tN p.g s (cN s (n+1))=0 then OF "" else s.nm:=by unfold eJ;rw[ht,hg];rfl
    rw[Ec (a:=s.nm) (Xh.mpr ⟨s,hs,rfl⟩) _ _ _ _ (λx hx=>by rw[ec] at hx;obtain ⟨j,_,rfl⟩:=Xh.mp hx;rfl) (Xq _) (by rw[Zs];lia),YE]
    have cl:(CA p n w).length=qN p.g s n:=by rw[ec,Xc,oS]
    have mono:tN p.g s (cN s n)<=tN p.g s (cN s (n+1)):=by
     obtain ⟨b0,b1,_⟩:=h.b s hs
     have go:=o4 (B:=s.bg.toNat) (b:=s.bt.toNat) (n:=n) (by lia) (by lia)
     unfold cN
     by_cases e:dB s.bg.toNat s.bt.toNat n=0
     ·rw[(go.1 e).1];exact oQ.1
     ·rw[(go.2 e).1];exact Xq _
    rw[cl,l1,l2]
    unfold qN
    by_cases z:tN p.g s (cN s (n+1))=tN p.g s (cN s n)
    ·rw[z,if_pos (by lia)]
    ·rw[if_neg (by lia),if_neg (by lia)]
 unfold pass
 show (⟨[]++CA p n w,(tk w [] ([]++CA p n w)).2,(bO w p.sn (tk w [] ([]++CA p n w)).1 (eJ p w n)).1,(bO w p.sn (tk w [] ([]++CA p n w)).1 (eJ p w n)).2.1,(bO w p.sn (tk w [] ([]++CA p n w)).1 (eJ p w n)).2.2⟩:Wt)=_
 rw[YE,e1,e2]
theorem Uh (a:Str):(di p n).und a=0:=by
 unfold St'.und di
 show ((p.ws.map _).map _).sum=_
 induction p.ws with
 | nil=>rfl
 | cons w r ih=>rw[Xm,Xm,XT,ih];rfl
theorem CS:p.bw (di p n)=p.ss.map λs=>(if dB s.bg.toNat s.bt.toNat n=0 then ⟨s.nm,some 0,s.rl.p*p.g / s.rl.q,0,(tN p.g s (cN s (n+1)):Nat),s.mn.map λi=>i - (tN p.g s (cN s (n+1)):Nat),[],[],0,0,0⟩ else x45 p.g s n,rgI (tN p.g s (cN s n):Nat) (qN p.g s n)):=by
 have e:p.bw (di p n)=p.ss.map λs=>(x45 p.g s n).bt p.g s ((di p n).und (x45 p.g s n).nm):=zwm _ _ _
 rw[e]
 refine Xu λs hs=>?_
 rw[Uh h n,Wz h hs]
theorem R5:p.aS (di p n)=snt p n:=by
 unfold Pn.aS snt
 rw[CS h n,Xk]
 rfl
theorem BH:p.bW (di p n)=p.ws.map λw=>⟨CA p n w,[],CA p n w,[],eJ p w (n+1)⟩:=by
 have e:p.bW (di p n)=p.ws.map λw=>pass w p.sn ⟨[],[],eJ p w n⟩ (p.aS (di p n)):=zwm _ _ _
 rw[e,R5 h n]
 exact Xu λw hw=>Q5 h n hw
theorem O0:p.out (di p n)=p.ws.flatMap (CA p n):=by
 unfold Pn.out
 rw[BH h n,zak]
theorem Sf:p.bB (di p n)=[]:=by
 unfold Pn.bB
 rw[BH h n,zak]
 exact List.flatMap_eq_nil_iff.mpr λ_ _=>rfl
theorem F5 {l:Lt}(hl:l∈p.ws.flatMap (CA p n)):∃ s∈p.ss,∃ w∈p.ws,s.rd=[w.nm]/\∃ j,l=⟨s.nm,j,0,0,0⟩:=by
 obtain ⟨w,hw,hl⟩:=ZH.mp hl
 obtain ⟨s,hs,e,j,rfl⟩:=O2 h n hl
 exact ⟨s,hs,w,hw,e,j,rfl⟩
theorem P7 {s:Sn}(hs:s∈p.ss):road p.ss s.nm=s.rd:=by
 unfold road
 have:p.ss.find? (λt=>decide (t.nm=s.nm))=some s:=by
  cases e:p.ss.find? (λt=>decide (t.nm=s.nm)) with
  | none=>exact absurd (decide_eq_true rfl) (Y2.mp e s hs)
  | some t=>
   have:=iz h.sn (Yv e) hs (by simpa using zbi e)
   rw[this]
 rw[this]
 rfl
theorem OT {l:Lt}(hl:l∈p.ws.flatMap (CA p n)):dH p.ss l=none:=by
 obtain ⟨s,hs,w,hw,e,j,rfl⟩:=F5 h n hl
 show (road p.ss s.nm)[1]? = none
 rw[P7 h hs,e]
 rfl
theorem C1:p.taken (di p n)=p.ws.flatMap (CA p n):=by
 unfold Pn.taken
 rw[O0 h n]
 exact zdi.mpr λl hl=>decide_eq_true (OT h n hl)
theorem Rk {α:Type}(a:Str)(f:α->List Lt)(l:List α):own a (l.flatMap f)=l.flatMap λx=>own a (f x):=by
 unfold own
 exact zdh ..
theorem Qi {b:Str}{k:Nat}{f:Wy->List Lt}:∀ {ws:List Wy},(ws.map Wy.nm).Nodup->(∀ w∈ws,(f w).length=if w.nm=b then k else 0)->(ws.flatMap f).length=if b∈ws.map Wy.nm then k else 0:=by
 intro ws
 induction ws with
 | nil=>intro _ _;rfl
 | cons w r ih=>
  intro nd hf
  obtain ⟨n1,n2⟩:=Yc.mp nd
  have e:=ih n2 λv hv=>hf v (Xp _ hv)
  have e1:=hf w Xl
  rw[Zv,Xo,e,e1,Xm]
  by_cases z:w.nm=b
  ·rw[if_pos z,if_neg (by rw[← z];exact n1),if_pos (by rw[← z];exact Xl)];lia
  ·rw[if_neg z]
   by_cases y:b∈r.map Wy.nm
   ·rw[if_pos y,if_pos (Xp _ y)];lia
   ·rw[if_neg y,if_neg λq=>y ((Xr.mp q).resolve_left (XA z))]
theorem EF {s:Sn}(hs:s∈p.ss):(own s.nm (p.taken (di p n))).length=qN p.g s n:=by
 obtain ⟨v,hv,ev⟩:=h.rd s hs
 rw[C1 h n,Rk h,Qi h (b:=v.nm) (k:=qN p.g s n) h.wn λw hw=>?_]
 ·rw[if_pos (Xh.mpr ⟨v,hv,rfl⟩)]
 ·have:own s.nm (CA p n w)=(((snt p n).filter λx=>decide (x.2.nm=s.nm)).filter λx=>decide (x.1=w.nm)).map (·.2):=by
   unfold own CA
   rw[Zc,ZN,ZN]
   congr 1
   exact zeh λx _=>zfq _ _
  rw[this,Xc,wK h n hs,Zc,Xc]
  have hd:s.rd.headD (OF "")=v.nm:=by rw[ev];rfl
  by_cases z:w.nm=v.nm
  ·rw[if_pos z,zdi.mpr λj _=>by show decide (s.rd.headD (OF "")=w.nm)=true;rw[hd,z];exact decide_eq_true rfl,oS]
  ·rw[if_neg z,ZP.mpr λj _=>by show ¬ decide (s.rd.headD (OF "")=w.nm)=true;rw[hd];simpa using XA z]
   rfl
theorem K5:∀ {l:List Int},(∀ x∈l,x=0)->gX 0 l=0:=by
 intro l hl
 cases l with
 | nil=>rfl
 | cons a r=>
  have fl:∀ {r:List Int} {a:Int},a=0->(∀ x∈r,x=0)->r.foldl max a=0:=by
   intro r
   induction r with
   | nil=>intro a ha _;exact ha
   | cons b r ih=>
    intro a ha hr
    rw[YH]
    exact ih (by rw[ha,hr b Xl];rfl) λx hx=>hr x (Xp _ hx)
  exact fl (hl a Xl) λx hx=>hl x (Xp _ hx)
theorem RP (s:Sn)(x:Ss)(bB taken:List Lt):jr s x bB taken=⟨x.nm,wD s x.du,x.W,x.S,x.nx,x.lf,x.ag,d7 (x.lo++(own s.nm bB).map Lt.nu),x.gd+(own s.nm taken).length - ((own s.nm taken).map Lt.mr).sum,x.mk'+((own s.nm taken).map Lt.mr).sum,max x.wt (gX 0 ((own s.nm taken).map λl=>l.ag - l.hp))⟩:=rfl
theorem RL:p.step (di p n)=di p (n+1):=by
 have w1:X3 (λw x=>vg p.ss w x (p.out (di p n))) p.ws (p.bW (di p n))=p.ws.map λw=>⟨[],[],eJ p w (n+1)⟩:=by
  rw[BH h n,zwm]
  refine Xu λw hw=>?_
  unfold vg
  have:(p.out (di p n)).filter (λl=>decide (dH p.ss l=some w.nm))=[]:=by
   rw[O0 h n]
   exact ZP.mpr λl hl=>by rw[OT h n hl];simp
  rw[this]
  rfl
 have w2:X3 (λs b=>jr s b.1 (p.bB (di p n)) (p.taken (di p n))) p.ss (p.bw (di p n))=p.ss.map λs=>x45 p.g s (n+1):=by
  rw[CS h n,zwm]
  refine Xu λs hs=>?_
  obtain ⟨b0,b1,_⟩:=h.b s hs
  have go:=o4 (B:=s.bg.toNat) (b:=s.bt.toNat) (n:=n) (by lia) (by lia)
  have ol:=EF h n hs
  have oin:∀ l∈own s.nm (p.taken (di p n)),l.ag=0/\l.hp=0/\l.mr=0:=λl hl=>by
   have hl:=(XZ.mp hl).1
   rw[C1 h n] at hl
   obtain ⟨_,_,_,_,_,j,rfl⟩:=F5 h n hl
   exact ⟨rfl,rfl,rfl⟩
  have om:((own s.nm (p.taken (di p n))).map Lt.mr).sum=0:=by
   generalize own s.nm (p.taken (di p n))=l at oin
   induction l with
   | nil=>rfl
   | cons x r ih=>rw[Xm,XT,(oin x Xl).2.2,ih λy hy=>oin y (Xp _ hy)];rfl
  have og:gX 0 ((own s.nm (p.taken (di p n))).map λl=>l.ag - l.hp)=0:=K5 h λx hx=>by
   obtain ⟨l,hl,rfl⟩:=Xh.mp hx
   obtain ⟨e1,e2,_⟩:=oin l hl
   rw[e1,e2];rfl
  have ie:d7 (([]:List Int)++(own s.nm (p.bB (di p n))).map Lt.nu)=[]:=by
   rw[Sf h n]
   show d7 []=[]
   unfold d7;simp
  rw[RP h,om,og,ol]
  by_cases e:dB s.bg.toNat s.bt.toNat n=0
  ·obtain ⟨c1,d1⟩:=go.1 e
   rw[if_pos e]
   have c1:cN s (n+1)=cN s n+1:=c1
   have mo:=oQ (L:=s.mn.map Za) (G:=Gs p.g s) (c:=cN s n)
   have k1:((tN p.g s (cN s (n+1)):Nat):Int) - (tN p.g s (cN s (n+1) - 1):Nat)=0+(qN p.g s n:Nat) - 0:=by
    unfold qN
    rw[c1,zdL]
    unfold tN
    lia
   have k2:wD s (some 0)=some ((dB s.bg.toNat s.bt.toNat (n+1):Nat):Int):=by
    rw[d1]
    show some (s.bt - 1)=_
    congr 1
    lia
   unfold x45
   rw[k1,← k2,ie]
   rfl
  ·obtain ⟨c1,d1⟩:=go.2 e
   rw[if_neg e]
   have c1:cN s (n+1)=cN s n:=c1
   have q0:qN p.g s n=0:=by unfold qN;rw[c1];lia
   have k2:wD s (x45 p.g s n).du=some ((dB s.bg.toNat s.bt.toNat (n+1):Nat):Int):=by
    rw[d1]
    show some (if ((dB s.bg.toNat s.bt.toNat n:Nat):Int)=0 then s.bt - 1 else ((dB s.bg.toNat s.bt.toNat n:Nat):Int) - 1)=_
    rw[if_neg (by lia)]
    congr 1
    lia
   rw[k2,q0,show (x45 p.g s n).lo=[] from rfl,ie]
   unfold x45
   rw[c1]
   congr 1
   show ((tN p.g s (cN s n):Nat):Int) - (tN p.g s (cN s n - 1):Nat)+((0:Nat):Int) - 0=_
   lia
 unfold Pn.step
 rw[w1,w2]
 rfl
theorem Ue:p.beg=di p 0:=by
 unfold Pn.beg di
 congr 1
 ·refine Xu λw _=>?_
  have:eJ p w 0=OF "" := by
   unfold eJ
   cases w.tn with
   | false=>rfl
   | true=>
    cases L8 p w with
    | none=>rfl
    | some s=>
     show (if tN p.g s (cN s 0)=0 then OF "" else s.nm)=_
     have:cN s 0=0:=by unfold cN cB;rw[if_pos (Yu _)]
     rw[this,if_pos (by unfold tN;exact lF _ _)]
  rw[this]
 ·refine Xu λs hs=>?_
  obtain ⟨_,_,bg,_⟩:=h.b s hs
  unfold Sn.beg x45
  have c0:cN s 0=0:=by unfold cN cB;rw[if_pos (Yu _)]
  have t0:tN p.g s 0=0:=by unfold tN;exact lF _ _
  have d0:dB s.bg.toNat s.bt.toNat 0=s.bg.toNat:=by unfold dB;rw[if_pos (Yu _)];lia
  rw[c0,zfz,t0,d0,show ((s.bg.toNat:Nat):Int)=s.bg by lia]
  cases s.mn with
  | none=>rfl
  | some i=>show _=(⟨_,_,_,_,_,some (i - ((0:Nat):Int)),_,_,_,_,_⟩:Ss);rw[show i - ((0:Nat):Int)=i by lia];rfl
end
theorem Ot {p:Pn}(h:Q45 p):∀ n,p.run n=di p n:=by
 intro n
 induction n with
 | zero=>exact Ue h
 | succ n ih=>show p.step (p.run n)=_;rw[ih,RL h n]
theorem b8 {b:Nat}(b0:1<=b)(b1:b<=8):b=1∨b=2∨b=3∨b=4∨b=5∨b=6∨b=7∨b=8:=by lia
theorem DM {B b m n:Nat}(b0:1<=b)(b1:b<=8)(hm:B < m)(hn:m < n):dB B b m=dB B b n↔b ∣ n - m:=by
 unfold dB
 rw[if_neg (by lia),if_neg (by lia)]
 rcases b8 b0 b1 with rfl | rfl | rfl | rfl | rfl | rfl | rfl | rfl<;>lia
theorem FZ {B b m n:Nat}(b0:1<=b)(b1:b<=8)(hm:m<=B)(hn:m < n):dB B b m=dB B b n↔B < n/\B+1 - b<=m/\b ∣ n - m:=by
 unfold dB
 rw[if_pos hm]
 by_cases h:n<=B
 ·rw[if_pos h];lia
 ·rw[if_neg h]
  rcases b8 b0 b1 with rfl | rfl | rfl | rfl | rfl | rfl | rfl | rfl<;>lia
theorem OH {B b m:Nat}(hm:m<=B):cB B b m=0:=by unfold cB;rw[if_pos hm]
theorem uN {B b m:Nat}(hm:B < m):1<=cB B b m:=by unfold cB;rw[if_neg (by lia)];exact Nat.le_add_left 1 _
theorem Lz {B b m n:Nat}(b0:1<=b)(b1:b<=8)(h:m<=n):cB B b m<=cB B b n:=by
 unfold cB
 rcases b8 b0 b1 with rfl | rfl | rfl | rfl | rfl | rfl | rfl | rfl<;>(repeat' split)<;>lia
theorem O3 {B b m K:Nat}(b0:1<=b)(b1:b<=8)(hm:B < m):K+1<=cB B b m↔B+b*K+1<=m:=by
 unfold cB
 rw[if_neg (by lia)]
 rcases b8 b0 b1 with rfl | rfl | rfl | rfl | rfl | rfl | rfl | rfl<;>lia
theorem Nm {B b m n:Nat}(b0:1<=b)(b1:b<=8)(hm:B < m)(hn:m < n)(e:dB B b m=dB B b n):cB B b m < cB B b n:=by
 unfold dB at e
 unfold cB
 rw[if_neg (by lia),if_neg (by lia)] at *
 rcases b8 b0 b1 with rfl | rfl | rfl | rfl | rfl | rfl | rfl | rfl<;>lia
def d8 (B b:Nat)(L:Option Nat)(G:Nat):Nat:=match L with
 | none=>B+1
 | some l=>if l=0 then B+1 - b else B+b*((l+G - 1) / G)+1
theorem NB {l G:Nat}(G0:1<=G)(l0:0 < l):1<=(l+G - 1) / G/\l<=G*((l+G - 1) / G)/\G*((l+G - 1) / G - 1) < l:=by
 have h1:=Nat.div_add_mod (l+G - 1) G
 have h2:=Nat.mod_lt (l+G - 1) (show G > 0 by lia)
 have h3:1<=(l+G - 1) / G:=(Nat.le_div_iff_mul_le (by lia)).mpr (by lia)
 obtain ⟨k,hk⟩:∃ k,(l+G - 1) / G=k+1:=⟨(l+G - 1) / G - 1,by lia⟩
 rw[hk] at h1 ⊢
 rw[ZQ] at h1
 refine ⟨by lia,by rw[ZQ];lia,?_⟩
 rw[zdL]
 lia
theorem T3 {B b G m n:Nat}{L:Option Nat}(b0:1<=b)(b1:b<=8)(G0:1<=G)(hn:m < n) :
  (dB B b m=dB B b n/\(L≠none->sB L G (cB B b m)=sB L G (cB B b n))/\sB L G (cB B b m)+sB L G (cB B b n - 1)=sB L G (cB B b n)+sB L G (cB B b m - 1))↔d8 B b L G<=m/\b ∣ n - m:=by
 have mo:=Lz (B:=B) b0 b1 (zaK hn)
 cases L with
 | none=>
  have e1:∀ c,sB none G (c+1)=sB none G c+G:=λc=>ZQ _ _
  have gd:∀ c,1<=c->sB none G c=sB none G (c - 1)+G:=λc hc=>by
   obtain ⟨k,rfl⟩:∃ k,c=k+1:=⟨c - 1,by lia⟩
   exact e1 k
  show _↔B+1<=m/\_
  by_cases hm:B < m
  ·have c1:=gd _ (uN (b:=b) hm)
   have c2:=gd _ (uN (B:=B) (b:=b) (show B < n by lia))
   rw[DM b0 b1 hm hn]
   exact ⟨λh=>⟨hm,h.1⟩,λh=>⟨h.2,λz=>absurd rfl z,by lia⟩⟩
  ·refine ⟨λh=>?_,λh=>by lia⟩
   have l:=(FZ b0 b1 (by lia) hn).mp h.1
   have c2:=gd _ (uN (B:=B) (b:=b) l.1)
   have h3:=h.2.2
   rw[OH (by lia)] at h3
   have z:=lF none G
   rw[zfz,z] at h3
   lia
 | some l=>
  by_cases l0:l=0
  ·subst l0
   have z:∀ c,sB (some 0) G c=0:=λc=>by unfold sB;exact zfA _
   have e:d8 B b (some 0) G=B+1 - b:=by unfold d8;exact if_pos rfl
   rw[e]
   simp only[z]
   by_cases hm:B < m
   ·rw[DM b0 b1 hm hn]
    exact ⟨λh=>⟨by lia,h.1⟩,λh=>⟨h.2,λ_=>trivial,trivial⟩⟩
   ·rw[FZ b0 b1 (by lia) hn]
    constructor
    ·exact λh=>⟨h.1.2.1,h.1.2.2⟩
    ·intro h
     refine ⟨⟨?_,h.1,h.2⟩,λ_=>trivial,trivial⟩
     have:=za6 (by lia) h.2
     lia
  ·obtain ⟨k1,k2,k3⟩:=NB G0 (show 0 < l by lia)
   have e:d8 B b (some l) G=B+b*((l+G - 1) / G)+1:=by unfold d8;exact if_neg l0
   rw[e]
   generalize (l+G - 1) / G=K at *
   have full:∀ c,K<=c->sB (some l) G c=l:=λc hc=>by
    show min l (G*c)=l
    have:=zap G hc
    lia
   have part:∀ c,c < K->sB (some l) G c=G*c/\G*c < l:=λc hc=>by
    have:=zap G (show c<=K - 1 by lia)
    refine ⟨?_,by lia⟩
    show min l (G*c)=_
    lia
   have rise:∀ c,c < K->sB (some l) G c < sB (some l) G (c+1):=λc hc=>by
    obtain ⟨p1,p2⟩:=part c hc
    have:sB (some l) G (c+1)=min l (G*c+G):=by unfold sB;rw[ZQ]
    lia
   have mono:∀ {c d},c<=d->sB (some l) G c<=sB (some l) G d:=λ{c d} hcd=>by
    have:=zap G hcd
    show min l (G*c)<=min l (G*d)
    lia
   constructor
   ·rintro ⟨h1,h2,h3⟩
    have h2:=h2 (by simp)
    have hm:B < m:=by
     refine zeG λhm=>?_
     have lo:=(FZ b0 b1 hm hn).mp h1
     rw[OH hm,lF] at h2
     have r0:sB (some l) G 0 < sB (some l) G 1:=rise 0 (by lia)
     have m0:=mono (uN (B:=B) (b:=b) lo.1)
     rw[lF] at r0
     lia
    refine ⟨(O3 b0 b1 hm).mp (zeG λhc=>?_),(DM b0 b1 hm hn).mp h1⟩
    have lt:=Nm b0 b1 hm hn h1
    by_cases z:cB B b m < K
    ·have:=rise _ z
     have:=mono (show cB B b m+1<=cB B b n from lt)
     lia
    ·have ek:cB B b m=K:=by lia
     rw[ek] at h2 h3 lt
     have f1:=full K (Xq _)
     have f2:=full (cB B b n) (by lia)
     have f3:=full (cB B b n - 1) (by lia)
     have:=rise (K - 1) (by lia)
     rw[show K - 1+1=K by lia] at this
     lia
   ·rintro ⟨h1,h2⟩
    have hm:B < m:=by lia
    have c1:=(O3 (K:=K) b0 b1 hm).mpr h1
    rw[full _ (show K<=cB B b m by lia),full _ (show K<=cB B b n by lia),full _ (show K<=cB B b m - 1 by lia),full _ (show K<=cB B b n - 1 by lia)]
    exact ⟨(DM b0 b1 hm hn).mpr h2,λ_=>rfl,rfl⟩
def F45 (g:Int)(s:Sn):Nat:=d8 s.bg.toNat s.bt.toNat (s.mn.map Za) (Gs g s)
theorem Em {B b G m n:Nat}{L:Option Nat}(b0:1<=b)(b1:b<=8)(G0:1<=G)(hn:m < n)(h:d8 B b L G<=m):sB L G (cB B b m)=0↔sB L G (cB B b n)=0:=by
 have pos:∀ c,1<=c->L≠some 0->sB L G c≠0:=λc hc hl=>by
  have h1:=zap G hc
  cases L with
  | none=>show G*c≠0;lia
  | some l=>
   have:l≠0:=λz=>hl (by rw[z])
   show min l (G*c)≠0
   lia
 by_cases z:L=some 0
 ·subst z
  have z:∀ c,sB (some 0) G c=0:=λc=>by unfold sB;exact zfA _
  rw[z,z]
 ·have hm:B < m:=by
   cases L with
   | none=>exact h
   | some l=>
    have e:d8 B b (some l) G=B+b*((l+G - 1) / G)+1:=by unfold d8;exact if_neg λq=>z (by rw[q])
    lia
  exact ⟨λq=>absurd q (pos _ (uN hm) z),λq=>absurd q (pos _ (uN (by lia)) z)⟩
theorem SG {p:Pn}(h:Q45 p)(hG:∀ s∈p.ss,1<=Gs p.g s){m n:Nat}(hn:m < n):(di p m).lk=(di p n).lk↔∀ s∈p.ss,F45 p.g s<=m/\s.bt.toNat ∣ n - m:=by
 have key:∀ s∈p.ss,((x45 p.g s m).lk=(x45 p.g s n).lk↔F45 p.g s<=m/\s.bt.toNat ∣ n - m):=λs hs=>by
  obtain ⟨b0,b1,_,bm⟩:=h.b s hs
  unfold F45
  rw[← T3 (by lia) (by lia) (hG s hs) hn]
  have e:∀ k,(x45 p.g s k).lk=⟨s.nm,some (dB s.bg.toNat s.bt.toNat k:Nat),s.rl.p*p.g / s.rl.q,0,0,s.mn.map λi:Int=>i - (tN p.g s (cN s k):Nat),[],[],(tN p.g s (cN s k):Nat) - (tN p.g s (cN s k - 1):Nat),0,0⟩:=λk=>rfl
  rw[e m,e n]
  simp only[Ss.mk.injEq,true_and,and_true,zei]
  have lf:((s.mn.map λi:Int=>i - (tN p.g s (cN s m):Nat))=s.mn.map λi:Int=>i - (tN p.g s (cN s n):Nat))↔(s.mn.map Za≠none->sB (s.mn.map Za) (Gs p.g s) (cB s.bg.toNat s.bt.toNat m)=sB (s.mn.map Za) (Gs p.g s) (cB s.bg.toNat s.bt.toNat n)):=by
   show _↔(_->tN p.g s (cN s m)=tN p.g s (cN s n))
   cases hm:s.mn with
   | none=>simp
   | some i=>
    simp only[zfi,zei,ne_eq,reduceCtorEq,not_false_eq_true,true_implies]
    lia
  rw[lf]
  have gd:(((tN p.g s (cN s m):Nat):Int) - (tN p.g s (cN s m - 1):Nat)=(tN p.g s (cN s n):Nat) - (tN p.g s (cN s n - 1):Nat))↔sB (s.mn.map Za) (Gs p.g s) (cB s.bg.toNat s.bt.toNat m)+sB (s.mn.map Za) (Gs p.g s) (cB s.bg.toNat s.bt.toNat n - 1)=sB (s.mn.map Za) (Gs p.g s) (cB s.bg.toNat s.bt.toNat n)+sB (s.mn.map Za) (Gs p.g s) (cB s.bg.toNat s.bt.toNat m - 1):=by
   show _↔tN p.g s (cN s m)+tN p.g s (cN s n - 1)=tN p.g s (cN s n)+tN p.g s (cN s m - 1)
   lia
  rw[gd]
  have du:(((dB s.bg.toNat s.bt.toNat m:Nat):Int)=(dB s.bg.toNat s.bt.toNat n:Nat))↔dB s.bg.toNat s.bt.toNat m=dB s.bg.toNat s.bt.toNat n:=by lia
  rw[du]
 have el:∀ k,(di p k).lk=⟨p.ws.map λw=>⟨[],[],eJ p w k⟩,p.ss.map λs=>(x45 p.g s k).lk⟩:=λk=>by
  unfold St'.lk di
  rw[Xk,Xk]
  rfl
 rw[el m,el n]
 constructor
 ·intro e s hs
  have e:(p.ss.map λs=>(x45 p.g s m).lk)=p.ss.map λs=>(x45 p.g s n).lk:=by injection e
  exact (key s hs).mp (List.map_inj_left.mp e s hs)
 ·intro k
  congr 1
  ·refine Xu λw hw=>?_
   have:eJ p w m=eJ p w n:=by
    unfold eJ
    cases w.tn with
    | false=>rfl
    | true=>
     cases hg:L8 p w with
     | none=>rfl
     | some s=>
      have hs:s∈p.ss:=Yv hg
      obtain ⟨b0,b1,_⟩:=h.b s hs
      have iff:=Em (by lia) (by lia) (hG s hs) hn (k s hs).1
      show (if tN p.g s (cN s m)=0 then OF "" else s.nm)=if tN p.g s (cN s n)=0 then OF "" else s.nm
      by_cases z:tN p.g s (cN s m)=0
      ·have z':tN p.g s (cN s n)=0:=iff.mp z
       rw[if_pos z,if_pos z']
      ·have z':¬ tN p.g s (cN s n)=0:=λq=>z (iff.mpr q)
       rw[if_neg z,if_neg z']
   rw[this]
  ·exact Xu λs hs=>(key s hs).mpr (k s hs)
theorem Lo {α:Type}{f:α->Nat}{S m:Nat}{l:List α}(h1:∀ x∈l,f x<=S)(h2:S=0∨∃ x∈l,f x=S):(∀ x∈l,f x<=m)↔S<=m:=by
 constructor
 ·intro h
  rcases h2 with z | ⟨x,hx,e⟩
  ·lia
  ·rw[← e];exact h x hx
 ·exact λh x hx=>Yd (h1 x hx) h
theorem LH {p:Pn}{mm:Int}(K:p.Ok mm)(h:Q45 p)(hG:∀ s∈p.ss,1<=Gs p.g s){S L:Nat}(l0:0 < L)(hb:S+L<=900)
  (h1:∀ s∈p.ss,F45 p.g s<=S) (h2:S=0∨∃ s∈p.ss,F45 p.g s=S) (h3:∀ d:Nat,(∀ s∈p.ss,s.bt.toNat ∣ d)↔L ∣ d) :
  (∀ f,S+L<=f->agn p.ky f 0=some (S,S+L))/\∀ f,f < S+L->agn p.ky f 0=none:=by
 refine Fu l0 hb λi n hi hn=>?_
 have e:p.ky i=p.ky n↔(di p i).lk=(di p n).lk:=by
  rw[← Ot h,← Ot h]
  exact ⟨Rw K (by lia) (by lia),λz=>by unfold Pn.ky;rw[z]⟩
 rw[e,SG h hG hi,← h3,← Lo (m:=i) h1 h2]
 exact ⟨λz=>⟨λs hs=>(z s hs).1,λs hs=>(z s hs).2⟩,λz s hs=>⟨z.1 s hs,z.2 s hs⟩⟩
section
open PySem.Spec PyProof.Rows L2
section
variable {X:Cx} {a b:XJ} {Ta Tb:ETr} {pos:Pos}
end
end
section
open PySem.Spec PyProof.Rows L2
end
section
open PySem.Spec PyProof.Rows L2
def U7 (i j k:Nat)(ta:TA):TS:=λD σ H=>ta σ H λvs H1=>∃ u v w,vs=[u,v,w]/\D.nx (((σ.set i (some u)).set j (some v)).set k (some w)) H1
theorem Ww {α:Type}(l:List α){i j k:Nat}(hij:i≠j)(hik:i≠k)(hjk:j≠k)(a b c:α):((l.set k c).set j b).set i a=((l.set i a).set j b).set k c:=by
 rw[zbM _ _ (XA hij),zbM _ _ (XA hik),zbM _ _ (XA hjk)]
theorem LD {X:Cx}{i j k:Nat}{x y z:Str}{a b c:XJ}{ta:TA}{px py pz pt pos:Pos}{kt k2 pt2}(hc:X.calm=true)(hN:X.N.Nodup)(hi:X.N[i]? = some x)(hj:X.N[j]? = some y)(hk:X.N[k]? = some z)(hij:i≠j)(hik:i≠k)(hjk:j≠k)
  (hx:X.env.scope.names.lookup x=some .local) (hy:X.env.scope.names.lookup y=some .local) (hz:X.env.scope.names.lookup z=some .local) (ha:PA X [a,b,c] ta)
  (hw:zar [.Tuple [.Name x px,.Name y py,.Name z pz] kt pt] (.Tuple [a,b,c] k2 pt2) X.env=pure (some [x,y,z]))
  (hs:zaq [.Tuple [.Name x px,.Name y py,.Name z pz] kt pt] (.Tuple [a,b,c] k2 pt2) pos.line X.env=pure false) :
  PS X (.Assign [.Tuple [.Name x px,.Name y py,.Name z pz] kt pt] (.Tuple [a,b,c] k2 pt2) pos) (U7 i j k ta):=by
 intro pins s σ H D I h
 rw[exec_Assign_arm]
 refine Xb (za3 ?_)
 rw[hs]
 refine Xb (Xj ?_)
 rw[if_neg (by decide)]
 refine Xb (Tuple_ (thn (ha _ pins s σ H _ I h) λus s1 ⟨vs,H1,I1,r1,q1⟩=>?_))
 obtain ⟨u,v,w,e1,q1⟩:=q1
 subst e1
 obtain ⟨u1,u2,u3,rfl,ru,rv,rw'⟩:∃ u1 u2 u3,us=[u1,u2,u3]/\RelV u u1/\RelV v u2/\RelV w u3:=by
  cases r1 with | cons p q=>
  cases q with | cons p' q'=>
  cases q' with | cons p'' q''=>
  cases q''
  exact ⟨_,_,_,rfl,p,p',p''⟩
 refine Ye ?_ (by show 3<=sizeLine;decide)
 have I2:Inv X pins σ H1 { s1 with heap:=s1.heap.push { cls:=.type "tuple", data:=.seq [u1,u2,u3].toArray } }:=I1.kept (t':=s1.toks) λb o e=>Xd _ e
 rw[hw]
 refine Xb (Xj ?_)
 show Xy (XF X.prog X.w) X.A (do rule "assign.swapped-stores";let items ← unpackItems (.ref s1.heap.objs.size) 3 none;za2 [λv=>zaM X.env z v,λv=>zaM X.env y v,λv=>zaM X.env x v] items.reverse;pure zen) _ _ _
 refine Xb (Zy (Xb (zdN (items:=#[u1,u2,u3]) (I.ok.hd hc) (IsTup.new s1.heap _) λh' hx'=>?_)))
 have I3:=I2.kept (h':=h') (t':=s1.toks) λb o e=>hx' b o (XI (Xs e)) e
 show Xy _ _ (za2 [λv=>zaM X.env z v,λv=>zaM X.env y v,λv=>zaM X.env x v] [u3,u2,u1] >>= λ_=>pure zen) _ _ _
 refine Xb (Zj (zaN (eS I3 hN hk (.inl hz) rw' (λs2 I4=>?_) (.inr hz))))
 refine Zj (zaN (eS I4 hN hj (.inl hy) rv (λs3 I5=>?_) (.inr hy)))
 refine Zj (zaN (eS I5 hN hi (.inl hx) ru (λs4 I6=>?_) (.inr hx)))
 refine zbG (Xj ?_)
 rw[Ww _ hij hik hjk] at I6
 exact ⟨_,H1,I6,q1⟩
def k3 (ds:List D)(f:D->D->D->Prop):Prop:=match ds with
 | [u,v,w]=>f u v w
 | _=>False
def JW (i j k:Nat)(a:ATr):STr:=λE ρ μ=>a ρ μ λds μ1=>k3 ds λu v w=>E.nx (((ρ.set i (some u)).set j (some v)).set k (some w)) μ1
theorem MZ {X:Cx}{x y z:Str}{a b c:XJ}{At:ATr}{pos:Pos}(i j k:Nat){px py pz pt:Pos}{kt k2 pt2}(hc:X.calm=true)(hN:X.N.Nodup)(ha:LA X [a,b,c] At)(hi:X.N[i]? = some x:=by rfl)(hj:X.N[j]? = some y:=by rfl)(hk:X.N[k]? = some z:=by rfl)(hij:i≠j:=by decide)(hik:i≠k:=by decide)(hjk:j≠k:=by decide)
  (hx:X.env.scope.names.lookup x=some .local:=by rfl) (hy:X.env.scope.names.lookup y=some .local:=by rfl) (hz:X.env.scope.names.lookup z=some .local:=by rfl)
  (hw:zar [.Tuple [.Name x px,.Name y py,.Name z pz] kt pt] (.Tuple [a,b,c] k2 pt2) X.env=pure (some [x,y,z]):=by rfl)
  (hs:zaq [.Tuple [.Name x px,.Name y py,.Name z pz] kt pt] (.Tuple [a,b,c] k2 pt2) pos.line X.env=pure false:=by rfl) :
  LS X (.Assign [.Tuple [.Name x px,.Name y py,.Name z pz] kt pt] (.Tuple [a,b,c] k2 pt2) pos) (JW i j k At):=by
 obtain ⟨ta,pa,sa⟩:=ha.ex
 refine ⟨_,LD hc hN hi hj hk hij hik hjk hx hy hz pa hw hs,λσ H ρ μ E E' rl h k'=>sa σ H ρ μ _ _ rl h λvs H' ds μ' t' m' p' h'=>?_⟩
 unfold L3.k3 at h'
 split at h'
 ·cases p' with | cons p1 p2=>
  cases p2 with | cons p2 p3=>
  cases p3 with | cons p3 p4=>
  cases p4
  exact ⟨_,_,_,rfl,k'.nx _ _ _ _ t' ((((rl.go t' m').set p1 i).set p2 j).set p3 k) h'⟩
 ·exact Xi h'
theorem Mn (i j k:Nat)(a:ATr)(nx:ST->Mu->Prop)(rt:DK)(bk ct:ST->Mu->Prop)(ρ:ST)(μ:Mu):JW i j k a ⟨nx,rt,bk,ct⟩ ρ μ=a ρ μ λds μ1=>k3 ds λu v w=>av i u ρ μ1 λρ1 μ1=>av j v ρ1 μ1 λρ2 μ2=>av k w ρ2 μ2 nx:=propext Xf
theorem VB (u v w:D)(f:D->D->D->Prop):k3 [u,v,w] f=f u v w:=propext Xf
end
end L3
namespace Kk
open PySem L3
def V0:=Jn @Mn <| Jn @VB <| Jn @Ky <| Jn @EV <| Jn @LP <| Jn @Hy <| Jn @PN <| Jn @Q1 <| Jn @ID <| @Ub
local macro_rules | `(tactic| walk_at "go")=>zzS "↓Kk.V0 L3.D4 ↓L3.zM ↓L3.yj ↓L3.ya ↓L3.zU ↓L3.yg ↓L3.yY ↓L3.jS ↓L3.iH ↓L3.mG ↓L3.my ↓L3.mi ↓L3.mU L3.cp L3.bT L3.cq L3.cx L3.cu L3.cw L3.cU L3.cL L3.bR L3.ck L3.cy L3.cA L3.cC L3.cR L3.cj L3.cT L3.cz L3.cW L3.cv L3.cP L3.iJ L3.vy L3.wg L3.eL List.map_cons List.map_nil List.replicate List.cons_append List.nil_append L3.lk L3.EI L3.EM L3.EU L3.AH L3.DY L3.Ex L3.j5 L3.fQ L3.uv L3.nk L3.tU L3.tO L3.tP L3.tX L3.jP L3.gY L3.mQ L3.mN L3.mC L3.mO L3.jX L3.jT L3.jU L3.jR true_and and_true and_self Bool.not_true Bool.not_false decide_true decide_false Bool.or_true Bool.or_false Bool.true_or Bool.false_or Bool.and_false Bool.false_and Bool.and_true Bool.true_and Int.reduceToNat Int.reducePow Int.reduceNeg Int.reduceSub Int.reduceAdd Int.reduceMul Int.reduceEq Int.reduceLT Int.reduceLE Int.reduceBEq L3.iw L3.fk L3.fu L3.fD L3.fN L3.ft L3.fm L3.fB if_true if_false Bool.false_eq_true reduceCtorEq decide_eq_true_eq"
local macro_rules | `(tactic| walk_at "ini")=>zzS "L3.ini List.map List.length List.replicate Nat.reduceSub Nat.reduceAdd Nat.sub_self List.cons_append List.nil_append List.append_nil"
local macro_rules | `(tactic| walk_at "pot")=>zzS "L3.Ki L3.N0 L3.LR L3.M9 L3.Js L3.Lw L3.Li L3.KN L3.HB true_and L3.tR"
theorem O9 (x:Lt)(lo hi:Option Int)(μ:Mu)(Q:DK):rSl x.toD lo hi μ Q=Q (.tup (cutD [.str x.nm,.int x.nu,.int x.ag,.int x.hp,.int x.mr] lo hi)) μ:=propext Xf
theorem Oq (a b c d e:D):cutD [a,b,c,d,e] none (some 1)=[a]:=rfl
theorem OP (a b c d e:D):cutD [a,b,c,d,e] (some 2) none=[c,d,e]:=rfl
def Tq (tab:List (L2.Key×D))(f:Str->Int)(ls:List Lt):Prop:=∀ l∈ls,aX tab (.inr l.nm)=some (.int (f l.nm))
def bS:FSp:=λds μ Q=>kcT ds λxs ds=>kcO ds λq ds=>kcN ds (∃ (ls:List Lt) (f:Str->Int) (tab:List (L2.Key×D)),(xs=ltD ls/\ls.length<=100000/\μ q=some (.dct tab)/\Tq tab f ls)/\Q (.tup (ltD (ls.map (Lt.lw f)))) μ)
theorem j6:zz_l bS 2:=by walk_at "&TO"
def gD:STr:=by walk_at "~40"
theorem kx:zz_q bS gD 5:=by
 walk_at "^gD! Txs Oq"
 obtain ⟨ls,f,tab,⟨rfl,hl,eq,T⟩,k⟩:=h
 intro p hp
 have pq:p≠q:=λz=>by subst z;rw[eq] at hp;cases hp
 walk_at "go"
 refine cJ (λr ρ μ'=>∃ (dn rs:List Lt) (v3 v4:Option D),r=ltD rs/\dn++rs=ls/\ρ=[some (.tup (ltD ls)),some (.obj q),some (.obj p),v3,v4]/\μ'=up μ p (.lst (ltD (dn.map (Lt.lw f))))) ?_ ?_ _ _ _ ⟨[],ls,_,_,rfl,rfl,rfl,rfl⟩
 ·rintro ρ μ' ⟨dn,rs,v3,v4,er,es,rfl,rfl⟩
  cases rs with
  | cons _ _=>cases er
  | nil=>
  rw[XU] at es
  subst es
  walk_at "go"
  refine ⟨μ,λa o h=>?_,k⟩
  rw[aE (λz=>by subst z;rw[hp] at h;cases h)]
  exact h
 ·rintro d r ρ μ' N ⟨dn,rs,v3,v4,er,es,rfl,rfl⟩ hN
  cases rs with
  | nil=>cases er
  | cons l rs=>
  cases er
  have hx:l∈ls:=by rw[← es];simp
  have dl:dn.length+(rs.length+1)=ls.length:=by rw[← es];simp
  walk_at "go"
  refine lG (by rw[aE (XA pq)];exact eq) ?_
  rw[T l hx]
  walk_at "go"
  simp only[↓O9,Oq,OP]
  walk_at "go"
  try simp only[↓O9,Oq,OP]
  walk_at "go"
  refine (show 1+1<=1000000/\2+3<=1000000/\(ltD (dn.map (Lt.lw f))).length < 1000000/\_ from ⟨by decide,by decide,by rw[Xc,Xc];lia,hN _ _ ⟨dn++[l],rs,_,_,rfl,by rw[← es];simp,rfl,?_⟩⟩)
  rw[XE]
  simp[ltD,Lt.lw,Lt.toD]
def c8:FSp:=λds μ Q=>kcA ds λd ds=>kcN ds (∃ (g:Int) (x:Ss),(d=x.toD g/\x.ag.length<=100000/\x.lo.length<=100000)/\Q (x.lk.toD g) μ)
theorem C6 (g:Int)(x:Ss):cutD [.str x.nm,cI x.du,eE x.W g,eE x.S g,.int x.nx,cI x.lf,.tup (cM x.ag),.tup (cM x.lo),.int x.gd,.int x.mk',.int x.wt] (some 8) none=[.int x.gd,.int x.mk',.int x.wt]:=rfl
theorem kA:zz_l c8 1:=by walk_at "&A"
def gU:STr:=by walk_at "~41"
theorem lY:zz_q c8 gU 3:=by
 walk_at "^gU! Ad"
 obtain ⟨g,x,⟨rfl,h1,h2⟩,k⟩:=h
 walk_at "go"
 refine bE x.ag .int (λi=>.int (i - x.nx)) rfl (by lia) (λi hi μ' _ N m=>?_) ?_
 ·walk_at "go"
  exact m
 walk_at "go"
 refine bE x.lo .int (λi=>.int (i - x.nx)) rfl (by lia) (λi hi μ' _ N m=>?_) ?_
 ·walk_at "go"
  exact m
 walk_at "go"
 simp only[↓C8,vv,C6]
 walk_at "go"
 try simp only[↓C8,vv,C6]
 walk_at "go"
 refine (show 4+4<=1000000/\8+3<=1000000/\_ from ⟨by decide,by decide,_,.refl _,?_⟩)
 unfold Ss.toD Ss.lk at k
 simp only[Xk] at k
 exact k
def fX:FSp:=λds μ Q=>kcA ds λd ds=>kcN ds (∃ (g:Int) (st:St'),(d=st.toD g/\StL st)/\Q (st.lk.toD g) μ)
theorem xu:zz_l fX 1:=by walk_at "&A"
def ug:STr:=by walk_at "~42"
theorem Cc:zz_q fX ug 4:=by
 walk_at "^ug! Ad"
 obtain ⟨g,st,⟨rfl,S⟩,k⟩:=h
 have z1:=S.z1
 walk_at "go"
 refine bE st.ss (Ss.toD g) (λx=>.tup [.str x.nm,.int x.nx]) rfl (by lia) (λx hx μ' _ N m=>?_) ?_
 ·walk_at "go"
  exact m
 walk_at "go"
 refine ⟨st.ss.map λx=>(.inr x.nm,.int x.nx),by rw[Xk];rfl,by rw[Xc];lia,λq hq=>?_⟩
 have em:iK [] (st.ss.map λx=>((.inr x.nm,.int x.nx):L2.Key×D))=st.ss.map λx=>(.inr x.nm,.int x.nx):=by
  refine (m4 _ [] ?_).trans (YE _)
  rw[YE,Xk]
  exact zbK.mpr ((zbK.mp S.nd).imp λh e=>h (by injection e))
 rw[em]
 walk_at "go"
 intro p hp
 have pq:p≠q:=λz=>by subst z;rw[ay] at hp;cases hp
 walk_at "go"
 refine cJ (λr ρ μ'=>∃ (dn rs:List Ws) (v3:Option D),r=wsD rs/\dn++rs=st.ws/\ρ=[some (st.toD g),some (.obj q),some (.obj p),v3]/\μ'=up (up μ q (.dct (st.ss.map λx=>(.inr x.nm,.int x.nx)))) p (.lst (wsD (dn.map (Ws.lw (nxF st.ss)))))) ?_ ?_ _ _ _ ⟨[],st.ws,_,rfl,rfl,rfl,rfl⟩
 ·rintro ρ μ' ⟨dn,rs,v3,er,es,rfl,rfl⟩
  cases rs with
  | cons _ _=>cases er
  | nil=>
  rw[XU] at es
  subst es
  walk_at "go"
  refine bE st.ss (Ss.toD g) (λx=>x.lk.toD g) rfl (by lia) (λx hx μ' _ N m=>?_) ?_
  ·walk_at "go"
   have z:=S.z3 x hx
   exact ⟨g,x,⟨rfl,by lia,by lia⟩,m⟩
  walk_at "go"
  refine ⟨μ,λa o h=>?_,?_⟩
  ·have h1:a≠q:=λz=>by subst z;rw[hq] at h;cases h
   have h2:a≠p:=λz=>by subst z;rw[aE h1,h] at hp;cases hp
   rw[aE h2,aE h1];exact h
  ·unfold St'.toD St'.lk at k
   simp only[wsD,ssD,Xk] at k ⊢
   exact k
 ·rintro d r ρ μ' N ⟨dn,rs,v3,er,es,rfl,rfl⟩ hN
  cases rs with
  | nil=>cases er
  | cons w rs=>
  cases er
  have hw:w∈st.ws:=by rw[← es];simp
  have z:=S.z2 w hw
  have dl:dn.length+(rs.length+1)=st.ws.length:=by rw[← es];simp
  have T:Tq (st.ss.map λx=>(.inr x.nm,.int x.nx)) (nxF st.ss) (w.cm++w.st):=λl hl=>yr _ _ (S.lt w hw l hl)
  have eq:∀ o:MO,up (up μ q (.dct (st.ss.map λx=>(.inr x.nm,.int x.nx)))) p o q=some (.dct (st.ss.map λx=>(.inr x.nm,.int x.nx))):=λo=>by rw[aE (XA pq),ay]
  walk_at "go"
  refine ⟨w.cm,nxF st.ss,_,⟨rfl,by lia,eq _,λl hl=>T l (Y5 _ hl)⟩,?_⟩
  walk_at "go"
  refine ⟨w.st,nxF st.ss,_,⟨rfl,by lia,eq _,λl hl=>T l (XM _ hl)⟩,?_⟩
  walk_at "go"
  refine ⟨by simp;lia,hN _ _ ⟨dn++[w],rs,_,rfl,by rw[← es];simp,rfl,?_⟩⟩
  simp[wsD,Ws.lw,Ws.toD]
def eO:FSp:=λds μ Q=>kcA ds λd ds=>kcN ds (∃ (p:Pn) (m:Int),(d=p.toD/\p.Ok m)/\Q ((p.run 0).lk.toD p.g) μ)
theorem su:zz_l eO 1:=by walk_at "&A"
def lj:STr:=by walk_at "~43"
theorem sM:zz_q eO lj 1:=by
 walk_at "^lj! Ad"
 obtain ⟨p,m,⟨rfl,K⟩,k⟩:=h
 have w1:=K.w1
 have s1:=K.s1
 refine ⟨p,⟨rfl,λx hx=>(K.s x hx).k,K.g,by lia,by lia⟩,?_⟩
 walk_at "go"
 exact ⟨p.g,p.run 0,⟨rfl,eN K (by lia)⟩,_,.refl _,k⟩
def eF:FSp:=λds μ Q=>kcA ds λd ds=>kcA ds λe ds=>kcN ds (∃ (p:Pn) (m:Int) (n:Nat),((d=p.toD/\e=(p.run n).lk.toD p.g)/\p.Ok m/\n<=1000)/\Q ((p.run (n+1)).lk.toD p.g) μ)
theorem oi:zz_l eF 2:=by walk_at "&AA"
def kg:STr:=by walk_at "~44"
theorem qQ:zz_q eF kg 2:=by
 walk_at "^kg! Ad Ae"
 obtain ⟨p,m,n,⟨⟨rfl,rfl⟩,K,hn⟩,k⟩:=h
 refine ⟨p,(p.run n).lk,⟨⟨rfl,rfl⟩,Uk K hn⟩,?_⟩
 walk_at "go"
 refine ⟨p.g,p.step (p.run n).lk,⟨rfl,PQ K hn⟩,?_⟩
 rw[Mf K hn]
 exact ⟨_,.refl _,k⟩
def gW:FSp:=λds μ Q=>kcA ds λd ds=>kcI ds λn ds=>kcN ds (∃ (p:Pn) (m:Int) (j:Nat),(d=p.toD/\p.Ok m/\n=j/\j<=900)/\Q (agD (agn p.ky j 0)) μ)
theorem Eb:zz_l gW 2:=by walk_at "&AI"
def C3:STr:=by walk_at "~45"
theorem IH:zz_q gW C3 5:=by
 walk_at "^C3! Ad In"
 obtain ⟨p,m,j,⟨rfl,K,rfl,hj⟩,k⟩:=h
 refine ⟨p,m,⟨rfl,K⟩,?_⟩
 walk_at "go"
 intro q hq
 walk_at "go"
 refine ⟨⟨by lia,by lia⟩,?_⟩
 rw[Z4]
 refine cJ (λr ρ μ'=>∃ (t:Nat) (v4:Option D),t+r.length=j/\r=c5 t r.length/\(∀ i,i < t->p.ky i≠p.ky t)/\agn p.ky (j - t) t=agn p.ky j 0/\ρ=[some p.toD,some (.int j),some ((p.run t).lk.toD p.g),some (.obj q),v4]/\μ'=up μ q (.dcD (nG p.ky t))) ?_ ?_ _ _ _ ⟨0,_,by rw[dX];lia,by rw[dX];rfl,λi h=>absurd h (zeX _),rfl,rfl,rfl⟩
 ·rintro ρ μ' ⟨t,v4,e,_,_,ea,rfl,rfl⟩
  have e:t=j:=by simpa using e
  subst e
  rw[zck] at ea
  rw[← ea] at k
  walk_at "go"
  exact ⟨μ,.new hq,k⟩
 ·rintro d r ρ μ' N ⟨t,v4,e,er,no,ea,rfl,rfl⟩ hN
  rw[XC] at e er
  rw[jb] at er
  obtain ⟨rfl,er2⟩:=zfs er
  have S:=eN K (n:=t) (by lia)
  have S1:=eN K (n:=t+1) (by lia)
  have y0:=Dx S.lk p.g
  have y1:=Dx S1.lk p.g
  walk_at "go"
  refine ⟨y0,by rw[Jq];lia,?_,?_⟩
  ·rw[uB,show toP ((p.run t).lk.toD p.g)=p.ky t from rfl,Y2.mpr λi hi=>by simpa using no i (Ys.mp hi)]
   rfl
  rw[show toP ((p.run t).lk.toD p.g)=p.ky t from rfl,← EJ]
  refine ⟨p,m,t,⟨⟨rfl,rfl⟩,K,by lia⟩,?_⟩
  walk_at "go"
  refine ⟨y1,?_⟩
  rw[uB,show toP ((p.run (t+1)).lk.toD p.g)=p.ky (t+1) from rfl]
  rw[show j - t=(j - (t+1))+1 by lia] at ea
  rw[AR] at ea
  cases ef:(XX (t+1)).find? λi=>decide (p.ky i=p.ky (t+1)) with
  | none=>
   rw[ef] at ea
   show kIf false _ _
   walk_at "go"
   refine hN _ _ ⟨t+1,_,by lia,by rw[show ((t+1:Nat):Int)=(t:Int)+1 by lia];exact er2,λi hi=>by simpa using Y2.mp ef i (Ys.mpr hi),ea,rfl,rfl⟩
  | some i=>
   rw[ef] at ea
   rw[← ea] at k
   show kIf true _ _
   walk_at "go"
   refine ⟨y1,?_⟩
   walk_at "go"
   exact ⟨μ,.new hq,k⟩
def da:FSp:=λds μ Q=>kcI ds λa ds=>kcI ds λt ds=>kcN ds ((0<=t/\t<=1000000000000000)/\∀ k,0<=k->k < 2147483587->Q (.int k) μ)
theorem ve:zz_l da 2:=by walk_at "&II"
def qA:STr:=by walk_at "~46"
theorem xD:zz_q da qA 3:=by
 walk_at "^qA! Ia It"
 obtain ⟨⟨t0,t1⟩,k⟩:=h
 refine ⟨by decide,.inl (.inl (by unfold S64;decide)),.inl (.inr (by unfold S64;lia)),.inl (.inr (by unfold S64;decide)),by decide,?_⟩
 have g0:=fm0 (a:=((a.fmod 2147483647+7919*t*t+11)*48271)) (n:=2147483629) (by decide)
 have g1:=fm1 (a:=((a.fmod 2147483647+7919*t*t+11)*48271)) (n:=2147483629) (by decide)
 refine ⟨.inl (.inr (by unfold S64;lia)),by decide,?_⟩
 exact ⟨_,.refl _,k _ (fm0 (by decide)) (fm1 (by decide))⟩
def gu:FSp:=λds μ Q=>kcL ds λxs ds=>kcN ds (∃ ns:List Int,(xs=ns.map .int/\ns.length<=63)/\∀ b c μ',Pq μ' b c 0->Q (.obj b) μ')
theorem uY:zz_l gu 1:=by walk_at "&L"
def qr:STr:=by walk_at "~47"
theorem xw:zz_q gu qr 1:=by
 walk_at "^qr! Lxs"
 obtain ⟨ns,⟨rfl,hl⟩,k⟩:=h
 intro b hb
 walk_at "go"
 intro c hc
 have bc:b≠c:=λz=>by subst z;rw[ay] at hc;cases hc
 walk_at "go"
 refine lG (by rw[aE bc];exact ay) ⟨rfl,?_⟩
 exact ⟨_,.refl _,k b c _ ⟨bc,ns,0,0,0,[],ay,by rw[aE (XA bc)];exact ay,⟨by decide,by decide⟩,zcO,(λ_ h=>nomatch h),hl⟩⟩
theorem Se {p:Prop} [Decidable p] {A B:Prop}(h1:¬ p->A)(h2:p->B):kIf (!decide p) A B:=UM h1 h2
def aM:FSp:=λds μ Q=>kcO ds λb ds=>kcI ds λm ds=>kcN ds (∃ (c:Addr) (n:Nat),(Pq μ b c n/\n<=1000000000/\0 < m/\m < 1000000000000000000000000000000)/\∀ k μ',0<=k->k < m->mH b c (n+1) μ μ'->Q (.int k) μ')
theorem tq {μ:Mu}{b c:Addr}{m:Int}{n:Nat}{Q:DK}(hB:Pq μ b c n)(hn:n<=1000000000)(h0:0 < m)(h1:m < 1000000000000000000000000000000)(h:∀ k μ',0<=k->k < m->mH b c (n+1) μ μ'->Q (.int k) μ'):fb aM [.obj b,.int m] μ Q:=⟨c,n,⟨hB,hn,h0,h1⟩,h⟩
theorem sY:zz_l aM 2:=by walk_at "&OI"
def fV:STr:=by walk_at "~48"
def ni:STr:=by walk_at "~49"
theorem vN:zz_q aM ni 5:=by
 walk_at "^ni! Ob Im"
 obtain ⟨c,n,⟨hB,hn,m0,m1⟩,k⟩:=h
 obtain ⟨ne,cs,t,l,u,is,e1,e2,⟨t0,t1⟩,nd,hi,cl⟩:=hB
 have dv:jK m:=⟨by lia,by unfold j7;lia⟩
 refine lG e1 ?_
 walk_at "pot"
 walk_at "go"
 refine lG e1 ?_
 (iterate 3 (walk_at "go";walk_at "pot"));walk_at "go"
 have ne':=XA ne
 have rest:fV { nx:=λx μ'=>RT Q D.non μ',rt:=RT Q } [some (D.obj b),some (D.int m),none,none,none] (up μ b (MO.dct (j8 cs (t+1) l u c))):=by
  have hE2:up μ b (MO.dct (j8 cs (t+1) l u c)) c=some (.dct (spD is)):=by rw[aE ne'];exact e2
  have mixfin:∀ (a:Int) (v4:Option D),fb da [.int a,.int (t+1)] (up μ b (MO.dct (j8 cs (t+1) l u c))) λx μ1=>kD μ1 b λkvs=>kO (aX kvs (Z1 (OF "turn"))) λd=>aT d (D.int 5) μ1 λx_1 μ1=>fb da [x,x_1] μ1 λx μ1=>nY x (D.int 7) μ1 λx μ1=>L3.mJ x (D.int m) μ1 (RT Q):=λa v4=>by
   refine ⟨⟨by lia,by lia⟩,λk1 k10 k11=>?_⟩
   refine lG ay ?_
   (iterate 3 (walk_at "go";walk_at "pot"));walk_at "go"
   refine ⟨⟨by lia,by lia⟩,λk2 k20 k21=>?_⟩
   walk_at "go"
   refine ⟨⟨by decide,by unfold j7;decide⟩,by lia,?_⟩
   exact ⟨_,.refl _,k _ _ (fm0 m0) (fm1 m0) ⟨⟨ne,cs,t+1,l,u,is,ay,hE2,⟨by lia,by lia⟩,nd,hi,cl⟩,λa h1 _=>aE h1⟩⟩
  unfold fV
  (iterate 3 (walk_at "go";walk_at "pot"));walk_at "go"
  rw[Xc]
  refine kif (λh=>?_) λh=>?_
  ·have L0:0 < (cs.length:Int):=h
   have j0:=fm0 (a:=t+1) L0
   have j1:=fm1 (a:=t+1) L0
   refine ⟨by lia,?_⟩
   obtain ⟨_,ea,a,rfl⟩:=Cd (xs:=cs.map D.int) (P:=λd=>∃ a:Int,d=.int a) (λd hd=>by obtain ⟨a,_,rfl⟩:=Xh.mp hd;exact ⟨a,rfl⟩) j0 (by rw[Xc];exact j1)
   refine l7 ea ⟨⟨by decide,by decide,by decide⟩,?_⟩
   generalize hj:(t+1).fmod (cs.length:Int)=j at *
   obtain ⟨i,rfl⟩:∃ i:Nat,j=(i:Int):=⟨j.toNat,by lia⟩
   walk_at "go"
   refine kif (λh2=>?_) λh2=>?_
   ·(iterate 3 (walk_at "go";walk_at "pot"));walk_at "go"
    refine lG hE2 ?_
    rw[Df]
    refine Se (λh3=>?_) λh3=>?_
    ·(iterate 3 (walk_at "go";walk_at "pot"));walk_at "go"
     have il:=OM _ is nd hi
     refine lG hE2 ⟨by unfold spD;rw[Xc];lia,dv,?_⟩
     rw[Rq h3]
     refine lG (by rw[aE ne];exact ay) ⟨HB _ _ _ _ _,?_⟩
     (iterate 3 (walk_at "go";walk_at "pot"));walk_at "go"
     refine ⟨by lia,?_⟩
     refine ⟨_,.refl _,k _ _ (fm0 m0) (fm1 m0) ⟨⟨ne,cs,t+1,_,_,is++[i],ay,by rw[aE ne'];exact ay,⟨by lia,by lia⟩,?_,λx hx=>?_,cl⟩,λa h1 h2=>by rw[aE h1,aE h2,aE h1]⟩⟩
     ·exact zbI.mpr ⟨nd,by simp,λx hx y hy=>by rw[X9.mp hy];exact λz=>h3 (z ▸ hx)⟩
     ·rcases Yi.mp hx with z | z
      ·exact hi x z
      ·rw[X9.mp z];lia
    ·(iterate 3 (walk_at "go";walk_at "pot"));walk_at "go"
     exact mixfin a none
   ·(iterate 3 (walk_at "go";walk_at "pot"));walk_at "go"
    exact mixfin a none
  ·(iterate 3 (walk_at "go";walk_at "pot"));walk_at "go"
   refine ⟨⟨by decide,by decide,by decide⟩,?_⟩
   (iterate 3 (walk_at "go";walk_at "pot"));walk_at "go"
   exact mixfin 0 none
 refine kif (λh=>kif (λh'=>?_) λh'=>rest) λh=>rest
 (iterate 3 (walk_at "go";walk_at "pot"));walk_at "go"
 refine ⟨by lia,dv,?_⟩
 (iterate 3 (walk_at "go";walk_at "pot"));walk_at "go"
 exact ⟨_,.refl _,k _ _ (fm0 m0) (fm1 m0) ⟨⟨ne,cs,t+1,_,_,is,ay,by rw[aE ne'];exact e2,⟨by lia,by lia⟩,nd,hi,cl⟩,λa h1 _=>aE h1⟩⟩
abbrev dg:Nat->FSp:=L3.jW
abbrev fH:FSp:=L3.CW
def ju (sp_self:FSp):STr:=aC (dq (TB (aw (DD ["tuple", "list"]) (af (ah 1) (af (bC (af (TC (.ty "tuple")) (af (TC (.ty "list")) (au)))) (au))))) (aC (dq (TOr (TB (ak rNe (TUn (fW "tuple") (ah 0)) (TUn (fW "tuple") (ah 1)))) (TB (ak rNe (TUn (fW "list") (ah 0)) (TUn (fW "list") (ah 1))))) (aZ (TC (.bl false))) (bM)) (aZ (kr (ak rEq (aw dI (af (ah 0) (au))) (aw dI (af (ah 1) (au)))) (aw Mx (af (bQ (lg (af (ah 0) (af (ah 1) (au)))) (fg [0,1]) (dW) (aw sp_self (af (ah 0) (af (ah 1) (au)))) 2 []) (au)))))) (bM)) (aC (dq (TB (ak rIs (ah 1) (TC .non))) (aZ (ak rIs (ah 0) (TC .non))) (bM)) (aC (dq (TB (TUn (fW "str") (ah 1))) (aZ (kr (TUn (fW "str") (ah 0)) (ak rEq (ah 0) (ah 1)))) (bM)) (aC (dq (TOr (TB (TUn (fW "bool") (ah 1))) (TB (TUn (fW "bool") (ah 0)))) (aZ (kr (TUn (fW "bool") (ah 1)) (kr (TUn (fW "bool") (ah 0)) (ak rEq (ah 0) (ah 1))))) (bM)) (aZ (kr (TUn (fW "int") (ah 0)) (ak rEq (ah 0) (ah 1)))))))
theorem oq:∀ n ds μ Q,dg n ds μ Q->ds.length=2:=L3.BK
theorem rD (n:Nat):∀ ds μ Q,dg (n+1) ds μ Q->ju (dg n) { nx:=λ_ μ'=>RT Q .non μ',rt:=RT Q } (ini 2 ds) μ:=by
 intro ds μ Q h
 have h2:∃ x,ds=[x,x]/\pl n x=true/\Q (.bl true) μ:=by
  have h:jz n ds μ Q:=h
  unfold jz at h
  split at h
  ·obtain ⟨⟨rfl,hp⟩,k⟩:=h;exact ⟨_,rfl,hp,k⟩
  ·exact h.elim
 obtain ⟨x,rfl,hp,k⟩:=h2
 clear h
 walk_at "ini"
 unfold ju
 have fin:RT Q (.bl true) μ:=⟨_,.refl _,k⟩
 cases x with
 | non=>
  walk_at "go"
  refine ⟨by decide,?_⟩
  show kIf false _ _
  walk_at "go"
  exact fin
 | int i=>
  walk_at "go"
  refine ⟨by decide,?_⟩
  show kIf false _ _
  walk_at "go"
  show kIf false _ _
  walk_at "go"
  exact fin
 | str s=>
  walk_at "go"
  refine ⟨by decide,?_⟩
  show kIf false _ _
  walk_at "go"
  have hs:Xn s=true:=by cases n<;>simpa[pl] using hp
  show Xn s=true/\RT Q (.bl true) μ
  exact ⟨hs,fin⟩
 | tup ds=>
  cases n with
  | zero=>simp[pl] at hp
  | succ n=>
  simp only[pl,XY,decide_eq_true_eq] at hp
  walk_at "go"
  refine ⟨by decide,?_⟩
  show kIf true _ _
  walk_at "go"
  show kIf false _ (kIf false _ _)
  walk_at "go"
  exact CY hp.1 hp.2 fin
 | ls ds=>
  cases n with
  | zero=>simp[pl] at hp
  | succ n=>
  simp only[pl,XY,decide_eq_true_eq] at hp
  walk_at "go"
  refine ⟨by decide,?_⟩
  show kIf true _ _
  walk_at "go"
  show kIf false _ (kIf false _ _)
  walk_at "go"
  exact CY hp.1 hp.2 fin
 | _=>cases n<;>simp[pl] at hp
def stR (G:Int)(hf:Bool):RN:=if hf then ⟨.still,2*G+1,2,1,1,1,1,0,0,2*G+1,2⟩ else ⟨.still,G,1,1,1,1,1,0,0,G,1⟩
def stW (G:Int)(hf:Bool):D:=if hf then .tup [.int (2*G+1),.int 2] else .tup [.int G,.int 1]
theorem TM (G:Int)(hf:Bool):(stR G hf).toD=.tup [.str "still", stW G hf]:=by cases hf<;>rfl
theorem PF {G:Int}(h0:1<=G)(h1:G<=4)(hf:Bool):(stR G hf).Ok:=by
 have o:FrA 0 1 1 1:=ND (by decide) (by decide)
 have o6:FrA 0 60 1 1:=ND (by decide) (by decide)
 cases hf with
 | false=>
  have t:FrB 1 60 G 1:=⟨by decide,by decide,by simp,by lia,by lia⟩
  exact ⟨t,t,by show G*1<=G*1;lia,o6,(λz=>nomatch z),o,(λz=>by rcases z with z | z<;>cases z),(show (0:Int)<=0 by decide),(show (0:Int)<=0 by decide),(show (0:Int)<=60 by decide),λ_=>⟨rfl,rfl⟩⟩
 | true=>
  have gg:Ya (2*G+1) 2=1:=by
   have:G=1∨G=2∨G=3∨G=4:=by lia
   rcases this with rfl | rfl | rfl | rfl<;>decide
  have t:FrB 1 60 (2*G+1) 2:=⟨by decide,by decide,gg,by lia,by lia⟩
  exact ⟨t,t,by show (2*G+1)*2<=(2*G+1)*2;lia,o6,(λz=>nomatch z),o,(λz=>by rcases z with z | z<;>cases z),(show (0:Int)<=0 by decide),(show (0:Int)<=0 by decide),(show (0:Int)<=60 by decide),λ_=>⟨rfl,rfl⟩⟩
theorem QK (G:Int)(hf:Bool):(stR G hf).wd=.still:=by cases hf<;>rfl
theorem Vh {G g:Int}(hf:Bool)(h0:1<=g)(h1:g<=4):((stR G hf).p*g / (stR G hf).q) / g=G:=by
 have:g=1∨g=2∨g=3∨g=4:=by lia
 cases hf with
 | false=>
  show (G*g / 1) / g=G
  rcases this with rfl | rfl | rfl | rfl<;>lia
 | true=>
  show ((2*G+1)*g / 2) / g=G
  rcases this with rfl | rfl | rfl | rfl<;>lia
structure S45 (wn:List Str) (bb:List Int) (m:Int) (t:Sn×Int×Int):Prop where
 rd:∃ w∈wn,t.1.rd=[w]
 b:t.1.bt∈bb
 g0:0<=t.1.bg
 g1:t.1.bg<=40
 mn:∀ i,t.1.mn=some i->0<=i/\i<=20
 rl:∃ hf,t.1.rl=stR t.2.2 hf
 G0:1<=t.2.2
 G1:t.2.2<=m
 f:t.2.1=(d8 t.1.bg.toNat t.1.bt.toNat (t.1.mn.map Za) t.2.2.toNat:Nat)
def t45 (t:Sn×Int×Int):D:=.tup [t.1.toD,.int t.2.1,.int t.2.2]
def cE:FSp:=λds μ Q=>kcO ds λb ds=>kcS ds λnm ds=>kcL ds λws ds=>kcL ds λbs ds=>kcI ds λm ds=>kcN ds (∃ (c:Addr) (n:Nat) (wn:List Str) (bb:List Int) (e:Int),(Pq μ b c n/\n<=100000000/\(ws=wn.map .str/\0 < wn.length/\wn.length<=6)/\(bs=(bb++[e]).map .int/\0 < bb.length/\bb.length<=8/\∀ x∈bb,1<=x/\x<=8)/\1<=m/\m<=4)/\∀ (t:Sn×Int×Int) μ',t.1.nm=nm->S45 wn bb m t->mH b c (n+20) μ μ'->Q (t45 t) μ')
theorem oM:zz_l cE 5:=by walk_at "&OSLLI"
def eI:STr:=by walk_at "~50"
def kh:STr:=by walk_at "~51"
theorem qt:zz_q cE kh 12:=by
 walk_at "^kh! Ob Snm Lws Lbs Im"
 obtain ⟨c,n,wn,bb,e,⟨hB,hn,⟨rfl,w0,w1⟩,⟨rfl,l0,l1,hb⟩,m0,m1⟩,k⟩:=h
 refine tq hB (by lia) (by lia) (by lia) λk1 μ1 k10 k11 B1=>?_
 walk_at "go"
 generalize hG:1+k1=G
 have G0:1<=G:=by lia
 have G1:G<=m:=by lia
 refine ⟨.inl (.inl (by unfold S64;decide)),?_⟩
 refine tq B1.p (by lia) (by decide) (by decide) λk2 μ2 k20 k21 B2=>?_
 have rest:∀ hf:Bool,eI { nx:=λ_ μ'=>RT Q .non μ',rt:=RT Q } [some (.obj b),some (.str nm),some (.ls (wn.map .str)),some (.ls ((bb++[e]).map .int)),some (.int m),some (.int G),some (stW G hf),none,none,none,none,none] μ2:=λhf=>by
  unfold eI
  walk_at "go"
  rw[show (((((bb++[e]).map D.int).length:Nat):Int) - 1)=(bb.length:Int) by simp]
  refine tq B2.p (by lia) (by lia) (by lia) λk3 μ3 k30 k31 B3=>?_
  obtain ⟨j,rfl⟩:=Yk k30
  have hj:j < bb.length:=by lia
  walk_at "go"
  refine l7 (d:=.int bb[j]) (by rw[bU,Yp,Zn hj,Xx hj];rfl) ?_
  have hbt:=YM hj
  generalize bb[j]=bt at hbt ⊢
  obtain ⟨t0,t1⟩:=hb bt hbt
  walk_at "go"
  refine tq B3.p (by lia) (by decide) (by decide) λk4 μ4 k40 k41 B4=>?_
  walk_at "go"
  refine tq B4.p (by lia) (by decide) (by decide) λk5 μ5 k50 k51 B5=>?_
  walk_at "go"
  refine tq B5.p (by lia) (by decide) (by decide) λk6 μ6 k60 k61 B6=>?_
  obtain ⟨_,ex,bg,rfl,g0,g1⟩:=Cd (P:=λd=>∃ i:Int,d=.int i/\0<=i/\i<=40) (xs:=[.int 0,.int 0,.int k4,.int k5]) (by
   intro d hd
   simp only[Xr,XW,or_false] at hd
   rcases hd with rfl | rfl | rfl | rfl
   ·exact ⟨_,rfl,by decide,by decide⟩
   ·exact ⟨_,rfl,by decide,by decide⟩
   ·exact ⟨_,rfl,k40,by lia⟩
   ·exact ⟨_,rfl,k50,by lia⟩) k60 (by simp;lia)
  walk_at "go"
  refine l7 ex ?_
  walk_at "go"
  rw[Xc]
  refine tq B6.p (by lia) (by lia) (by lia) λk7 μ7 k70 k71 B7=>?_
  obtain ⟨i,rfl⟩:=Yk k70
  have hi:i < wn.length:=by lia
  walk_at "go"
  refine l7 (d:=.str wn[i]) (by rw[bU,Yp,Xx hi];rfl) ?_
  have hw:=YM hi
  generalize wn[i]=w at hw ⊢
  walk_at "go"
  have T7:=B1.trans (B2.trans (B3.trans (B4.trans (B5.trans (B6.trans B7)))))
  have fin:∀ (mn:Option Int) (f:Int) (μ':Mu),(∀ i,mn=some i->0<=i/\i<=20)->f=(d8 bg.toNat bt.toNat (mn.map Za) G.toNat:Nat)->mH b c (n+20) μ μ'->RT Q (.tup [.tup [.str nm,.tup [.str w],.int bt,.int bg,cI mn,.tup [.str "still", stW G hf]],.int f,.int G]) μ':=λmn f μ' hmn hf' B=>by
   have kk:=k (⟨nm,[w],bt,bg,mn,stR G hf⟩,f,G) μ' rfl ⟨⟨w,hw,rfl⟩,hbt,g0,g1,hmn,⟨hf,rfl⟩,G0,G1,hf'⟩ B
   unfold t45 Sn.toD at kk
   rw[TM] at kk
   exact ⟨_,.refl _,kk⟩
  have none1:∀ μ',mH b c (n+20) μ μ'->RT Q (.tup [.tup [.str nm,.tup [.str w],.int bt,.int bg,.non,.tup [.str "still", stW G hf]],.int (bg+1),.int G]) μ':=λμ' B=>fin none (bg+1) μ' (λ_ z=>nomatch z) (by show bg+1=((bg.toNat+1:Nat):Int);lia) B
  refine l7 (d:=.int e) (Hl (by simp) (by simp)) ?_
  walk_at "go"
  refine kif (λhe=>?_) λhe=>?_
  ·walk_at "go"
   refine tq B7.p (by lia) (by decide) (by decide) λk8 μ8 k80 k81 B8=>?_
   walk_at "go"
   refine kif (λh8=>?_) λh8=>?_
   ·walk_at "go"
    refine tq B8.p (by lia) (by decide) (by decide) λl μ9 l00 l01 B9=>?_
    have T9:=(T7.trans (B8.trans B9)).mono (show _<=n+20 by lia)
    walk_at "go"
    refine ⟨⟨by lia,by unfold j7;lia⟩,.inl (.inl (by unfold S64;lia)),?_⟩
    refine kif (λh0=>?_) λh0=>?_
    ·walk_at "go"
     refine fin (some l) _ μ9 (λi z=>by injection z with z;lia) ?_ T9
     have e1:d8 bg.toNat bt.toNat (some l.toNat) G.toNat=bg.toNat+1 - bt.toNat:=by unfold d8;exact if_pos (by lia)
     show _=((d8 bg.toNat bt.toNat (some l.toNat) G.toNat:Nat):Int)
     rw[e1]
     lia
    ·walk_at "go"
     refine fin (some l) _ μ9 (λi z=>by injection z with z;lia) ?_ T9
     have e1:d8 bg.toNat bt.toNat (some l.toNat) G.toNat=bg.toNat+bt.toNat*((l.toNat+G.toNat - 1) / G.toNat)+1:=by unfold d8;exact if_neg (by lia)
     show _=((d8 bg.toNat bt.toNat (some l.toNat) G.toNat:Nat):Int)
     rw[e1,ip (by lia)]
     have e2:(l+G - 1) / G=(((l.toNat+G.toNat - 1) / G.toNat:Nat):Int):=by
      rw[Int.natCast_ediv]
      congr 1<;>lia
     rw[e2]
     have e3:bt*(((l.toNat+G.toNat - 1) / G.toNat:Nat):Int)=((bt.toNat*((l.toNat+G.toNat - 1) / G.toNat):Nat):Int):=by
      rw[zeW]
      congr 1
      lia
     rw[e3]
     lia
   ·walk_at "go"
    exact none1 _ ((T7.trans B8).mono (by lia))
  ·walk_at "go"
   exact none1 _ (T7.mono (by lia))
 have two:k2=0∨k2=1:=by lia
 rcases two with rfl | rfl
 ·walk_at "go"
  exact rest false
 ·walk_at "go"
  exact rest true
theorem qL {μ:Mu}{a b:Addr}(h:b≠a):L3.dn μ a b=μ b:=if_neg h
def l6:List Str:=[OF "moor", OF "b", OF "zzzzzzzz", OF "a", OF "fen", OF "ab"]
theorem UW:∀ x∈l6,Xn x=true:=by decide +kernel
theorem Uy:l6.Nodup:=by decide +kernel
def l8:List Str:=[OF "a", OF "ab", OF "b", OF "moor", OF "q", OF "sun", OF "zz", OF "zzzzzzzz"]
theorem QJ:l8.Pairwise λa b=>ltS a b=true:=by decide +kernel
theorem TQ:∀ x∈l8,Xn x=true:=by decide +kernel
theorem okI (n:Nat)(l:List Int):cH n (l.map .int)=true:=by
 induction l with
 | nil=>rfl
 | cons a r ih=>show (okD n (.int a)&&cH n (r.map .int))=true;rw[ih];cases n<;>rfl
def dR:FSp:=λds μ Q=>kcL ds λxs ds=>kcN ds (∃ (bs:List Int) (M:Nat),(xs=bs.map .int/\bs.length<=8/\(∀ x∈bs,1<=x/\x<=8)/\1<=M/\M<=24/\∀ x∈bs,x.toNat ∣ M)/\∀ L:Nat,1<=L->L<=24->(∀ d:Nat,(∀ x∈bs,x.toNat ∣ d)↔L ∣ d)->Q (.int L) μ)
theorem m7:zz_l dR 1:=by walk_at "&L"
def jm:STr:=by walk_at "~52"
theorem ow:zz_q dR jm 2:=by
 walk_at "^jm! Lns"
 obtain ⟨bs,M,⟨rfl,bl,hb,M0,M1,hM⟩,k⟩:=h
 walk_at "go"
 refine ⟨λρ μ'=>μ'=μ/\∃ j:Nat,ρ=[some (.ls (bs.map .int)),some (.int (j:Nat))]/\1<=j/\j<=M/\∀ i,1<=i->i < j->¬ ∀ x∈bs,x.toNat ∣ i,λρ _=>match ρ with | [_,some (.int j)]=>(M - j.toNat) | _=>0,⟨rfl,1,rfl,Xq _,M0,λi h1 h2=>by lia⟩,?_⟩
 rintro ρ _ ⟨rfl,j,rfl,j0,jM,no⟩
 walk_at "go"
 refine i8 bs .int (λx=>if decide (0 < (j:Int).fmod x) then some (D.int x) else none) rfl (by lia) (λx hx μ' _ N m=>?_) ?_
 ·obtain ⟨x0,x1⟩:=hb x hx
  walk_at "go"
  refine ⟨by lia,?_⟩
  refine kif (λh=>?_) λh=>?_
  ·rw[decide_eq_true h] at m;exact m
  ·rw[decide_eq_false h] at m;exact m
 rw[show (bs.filterMap λx=>if decide (0 < (j:Int).fmod x) then some (D.int x) else none)=(bs.filter λx=>decide (0 < (j:Int).fmod x)).map .int by rw[← YY,zcG];rfl]
 have dv:∀ x∈bs,(¬ 0 < (j:Int).fmod x)↔x.toNat ∣ j:=λx hx=>by
  obtain ⟨x0,x1⟩:=hb x hx
  obtain ⟨y,rfl⟩:=Yk (show 0<=x by lia)
  rw[Int.fmod_eq_emod_of_nonneg _ (by lia),Z4]
  rcases b8 (b:=y) (by lia) (by lia) with rfl | rfl | rfl | rfl | rfl | rfl | rfl | rfl<;>lia
 cases hF:bs.filter λx=>decide (0 < (j:Int).fmod x) with
 | nil=>
  walk_at "go"
  have all:∀ x∈bs,x.toNat ∣ j:=λx hx=>(dv x hx).mp (by simpa using ZP.mp hF x hx)
  refine ⟨_,.refl _,k j j0 (by lia) λd=>⟨λh=>?_,λh x hx=>Nat.dvd_trans (all x hx) h⟩⟩
  refine Nat.dvd_of_mod_eq_zero (Nat.eq_zero_of_not_pos λr0=>no (d % j) r0 (Nat.mod_lt _ (by lia)) λx hx=>?_)
  exact (Nat.dvd_mod_iff (all x hx)).mpr (h x hx)
 | cons y r=>
  have hy:y∈bs.filter λx=>decide (0 < (j:Int).fmod x):=by rw[hF];exact Xl
  obtain ⟨y1,y2⟩:=XZ.mp hy
  have nd:¬ y.toNat ∣ j:=λz=>absurd (of_decide_eq_true y2) ((dv y y1).mpr z)
  have jl:j < M:=Nat.lt_of_le_of_ne jM λz=>nd (by rw[z];exact hM y y1)
  walk_at "go"
  refine ⟨okI ..,?_⟩
  walk_at "go"
  refine ⟨⟨j+1,by simp,by lia,by lia,λi h1 h2=>?_⟩,?_⟩
  ·by_cases z:i=j
   ·rw[z];exact λq=>nd (q y y1)
   ·exact no i h1 (by lia)
  ·show M - (((j:Nat):Int)+1).toNat < M - ((j:Nat):Int).toNat
   lia
abbrev gR:FSp:=L3.gR
theorem vS:∀ ds μ Q,gR ds μ Q->ds.length=1:=L3.vS
def Hs:STr:=by walk_at "~53"
theorem Ra:zz_q gR Hs 18:=by
 walk_at "^ L_"
 obtain ⟨⟨ns,rfl,hn⟩,k⟩:=h
 walk_at "ini"
 unfold Hs
 walk_at "go"
 refine ⟨ns,⟨rfl,hn⟩,λb c μ1 hB=>?_⟩
 walk_at "go"
 refine tq hB (by lia) (by decide) (by decide) λk1 μ2 k10 k11 B2=>?_
 obtain ⟨k1,rfl⟩:=Yk k10
 walk_at "go"
 have e6:cutD [D.str "moor", D.str "b", D.str "zzzzzzzz", D.str "a", D.str "fen", D.str "ab"] none (some (1+(k1:Int)))=(l6.take (1+k1)).map .str:=by
  rw[show (1:Int)+(k1:Int)=((1+k1:Nat):Int) by lia,oN,zax];rfl
 rw[e6]
 have wl:(l6.take (1+k1)).length=1+k1:=by rw[ZD,show l6.length=6 from rfl];lia
 have wok:∀ x∈l6.take (1+k1),Xn x=true:=λx hx=>UW x (zc2 hx)
 have wnd:(l6.take (1+k1)).Nodup:=Uy.sublist (zbH _ _)
 generalize l6.take (1+k1)=wn at wl wok wnd
 refine tq B2.p (by lia) (by decide) (by decide) λk2 μ3 k20 k21 B3=>?_
 obtain ⟨_,ex,bb,M,rfl,bb0,bb1,hbb,M0,M1,hM⟩:=Cd (P:=λd=>∃ (bb:List Int) (M:Nat),d=.ls (bb.map .int)/\0 < bb.length/\bb.length<=8/\(∀ x∈bb,1<=x/\x<=8)/\1<=M/\M<=24/\∀ x∈bb,x.toNat ∣ M) (xs:=[D.ls [D.int 1],D.ls [D.int 1,D.int 2,D.int 3,D.int 6],D.ls [D.int 2,D.int 4,D.int 8],D.ls [D.int 5,D.int 1],D.ls [D.int 7],D.ls [D.int 3,D.int 4],D.ls [D.int 2,D.int 5],D.ls [D.int 6,D.int 8]]) (by
  intro d hd
  simp only[Xr,XW,or_false] at hd
  rcases hd with rfl | rfl | rfl | rfl | rfl | rfl | rfl | rfl
  ·exact ⟨[1],1,rfl,by decide,by decide,by decide,by decide,by decide,by decide⟩
  ·exact ⟨[1,2,3,6],6,rfl,by decide,by decide,by decide,by decide,by decide,by decide⟩
  ·exact ⟨[2,4,8],8,rfl,by decide,by decide,by decide,by decide,by decide,by decide⟩
  ·exact ⟨[5,1],5,rfl,by decide,by decide,by decide,by decide,by decide,by decide⟩
  ·exact ⟨[7],7,rfl,by decide,by decide,by decide,by decide,by decide,by decide⟩
  ·exact ⟨[3,4],12,rfl,by decide,by decide,by decide,by decide,by decide,by decide⟩
  ·exact ⟨[2,5],10,rfl,by decide,by decide,by decide,by decide,by decide,by decide⟩
  ·exact ⟨[6,8],24,rfl,by decide,by decide,by decide,by decide,by decide,by decide⟩) k20 (by simp;lia)
 walk_at "go"
 refine l7 ex ?_
 walk_at "go"
 refine tq B3.p (by lia) (by decide) (by decide) λe μ4 e0 e1 B4=>?_
 walk_at "go"
 refine ⟨by simp;lia,?_⟩
 have eb:bb.map D.int++[D.int e]=(bb++[e]).map .int:=by rw[XE];rfl
 rw[eb]
 refine tq B4.p (by lia) (by decide) (by decide) λk4 μ5 k40 k41 B5=>?_
 obtain ⟨k4,rfl⟩:=Yk k40
 intro p5 h5 p6 h6 p7 h7
 walk_at "go"
 have e8:cutD [D.str "a", D.str "ab", D.str "b", D.str "moor", D.str "q", D.str "sun", D.str "zz", D.str "zzzzzzzz"] none (some (k4:Int))=(l8.take k4).map .str:=by
  rw[oN,zax];rfl
 rw[e8]
 have n65:p6≠p5:=λz=>by rw[z,ay] at h6;cases h6
 have h6':μ5 p6=none:=by rw[aE n65] at h6;exact h6
 have n76:p7≠p6:=λz=>by rw[z,ay] at h7;cases h7
 have n75:p7≠p5:=λz=>by rw[z,aE (XA n65),ay] at h7;cases h7
 have h7':μ5 p7=none:=by rw[aE n76,aE n75] at h7;exact h7
 have q5:=B5.p.nb h5
 have q6:=B5.p.nb h6'
 have q7:=B5.p.nb h7'
 have ll:(l8.take k4).length=k4:=by rw[ZD,show l8.length=8 from rfl];lia
 generalize hmm:(if (k4:Int) < 6 then (4:Int) else 2)=mm
 have mm0:1<=mm:=by rw[← hmm];split<;>decide
 have mm1:mm<=4:=by rw[← hmm];split<;>decide
 have mm2:mm*k4<=20:=by rw[← hmm];split<;>lia
 refine cJ (λr ρ μ'=>∃ (dn rs:List Str) (ts:List (Sn×Int×Int)) (v8 v9 v10 v11:Option D),r=rs.map .str/\dn++rs=l8.take k4/\ts.map (λt=>t.1.nm)=dn/\(∀ t∈ts,S45 wn bb mm t)/\ρ=[some (.ls (ns.map .int)),some (.obj b),some (.ls (wn.map .str)),some (.ls ((bb++[e]).map .int)),some (.int k4),some (.obj p5),some (.obj p6),some (.obj p7),v8,v9,v10,v11,none,none,none,none,none,none]/\Pq μ' b c (10+20*dn.length)/\μ' p5=some (.lst (ts.map λt=>t.1.toD))/\μ' p6=some (.lst ((0::ts.map λt=>t.2.1).map .int))/\μ' p7=some (.lst ((0::ts.map λt=>t.2.2).map .int))) ?_ ?_ _ _ _ ⟨[],l8.take k4,[],_,_,_,_,rfl,rfl,rfl,(λ_ h=>nomatch h),rfl,(((B5.p.up q5).up q6).up q7).mono (by lia),by rw[aE (XA n75),aE (XA n65)];exact ay,by rw[aE (XA n76)];exact ay,ay⟩
 rotate_left
 ·rintro d r ρ μ6 N ⟨dn,rs,ts,v8,v9,v10,v11,er,es,et,hS,rfl,P6,e5,e6',e7⟩ hN
  cases rs with
  | nil=>cases er
  | cons x rs=>
  cases er
  have dl:dn.length+(rs.length+1)=k4:=by rw[← ll,← es];simp
  have tl:ts.length=dn.length:=by rw[← et,Xc]
  have zcB:∀ (K:DK),(∀ (t:Sn×Int×Int) μ',t.1.nm=x->S45 wn bb mm t->mH b c (10+20*dn.length+20) μ6 μ'->K (t45 t) μ')->kIf (decide ((k4:Int) < 6)) (fb cE [.obj b,.str x,.ls (wn.map .str),.ls ((bb++[e]).map .int),.int 4] μ6 K) (fb cE [.obj b,.str x,.ls (wn.map .str),.ls ((bb++[e]).map .int),.int 2] μ6 K):=λK hK=>by
   refine kif (λh=>?_) λh=>?_
   ·rw[if_pos h] at hmm;subst hmm
    exact ⟨c,_,wn,bb,e,⟨P6,by lia,⟨rfl,by lia,by lia⟩,⟨rfl,bb0,bb1,hbb⟩,by decide,by decide⟩,hK⟩
   ·rw[if_neg h] at hmm;subst hmm
    exact ⟨c,_,wn,bb,e,⟨P6,by lia,⟨rfl,by lia,by lia⟩,⟨rfl,bb0,bb1,hbb⟩,by decide,by decide⟩,hK⟩
  walk_at "go"
  refine zcB _ λt μ7 tn tS B7=>?_
  have o5:μ7 p5=some (.lst (ts.map λt=>t.1.toD)):=by rw[B7.o p5 q5.1 q5.2];exact e5
  have o6:μ7 p6=some (.lst ((0::ts.map λt=>t.2.1).map .int)):=by rw[B7.o p6 q6.1 q6.2];exact e6'
  have o7:μ7 p7=some (.lst ((0::ts.map λt=>t.2.2).map .int)):=by rw[B7.o p7 q7.1 q7.2];exact e7
  refine (show fg [9,10,11] (.tup [t.1.toD,.int t.2.1,.int t.2.2]) _ _ _ from ?_)
  walk_at "go"
  refine aY o5 (aY o5 ⟨by rw[Xc];lia,?_⟩)
  have u6:up μ7 p5 (.lst ((ts.map λt=>t.1.toD)++[t.1.toD])) p6=some (.lst ((0::ts.map λt=>t.2.1).map .int)):=by rw[aE n65];exact o6
  refine aY u6 (aY u6 ⟨by simp;lia,?_⟩)
  have u7:up (up μ7 p5 (.lst ((ts.map λt=>t.1.toD)++[t.1.toD]))) p6 (.lst ((0::ts.map λt=>t.2.1).map .int++[D.int t.2.1])) p7=some (.lst ((0::ts.map λt=>t.2.2).map .int)):=by rw[aE n76,aE n75];exact o7
  refine aY u7 (aY u7 ⟨by simp;lia,?_⟩)
  refine hN _ _ ⟨dn++[x],rs,ts++[t],_,_,_,_,rfl,by rw[← es];simp,by rw[XE,et];simp[tn],λz hz=>?_,rfl,(((B7.p.up q5).up q6).up q7).mono (by rw[Xo];simp;lia),?_,?_,?_⟩
  ·rcases Yi.mp hz with z | z
   ·exact hS _ z
   ·rw[X9.mp z];exact tS
  ·rw[aE (XA n75),aE (XA n65),ay,XE];rfl
  ·rw[aE (XA n76),ay];simp
  ·rw[ay];simp
 rintro ρ μ6 ⟨dn,rs,ts,v8,v9,v10,v11,er,es,et,hS,rfl,P6,e5,e6',e7⟩
 have:rs=[]:=by cases rs with | nil=>rfl | cons=>cases er
 subst this
 rw[XU] at es
 have dl:dn.length=k4:=by rw[es,ll]
 have tl:ts.length=k4:=by rw[← dl,← et,Xc]
 walk_at "go"
 refine aY e7 ?_
 refine ⟨0::ts.map λt=>t.2.2,rfl,?_⟩
 walk_at "go"
 intro p13 h13
 have d5:L3.dn μ6 p7 p5=some (.lst (ts.map λt=>t.1.toD)):=by rw[qL (XA n75)];exact e5
 have d6:L3.dn μ6 p7 p6=some (.lst ((0::ts.map λt=>t.2.1).map .int)):=by rw[qL (XA n76)];exact e6'
 have dP:Pq (L3.dn μ6 p7) b c (10+20*dn.length):=by
  obtain ⟨ne,cs,t,l,u,is,f1,f2,rr⟩:=P6
  exact ⟨ne,cs,t,l,u,is,by rw[qL (XA q7.1)];exact f1,by rw[qL (XA q7.2)];exact f2,rr⟩
 generalize L3.dn μ6 p7=μ7 at h13 d5 d6 dP ⊢
 have q13:=dP.nb h13
 have Vd:p13≠p5:=λz=>by rw[z,d5] at h13;cases h13
 have UI:p13≠p6:=λz=>by rw[z,d6] at h13;cases h13
 have U1:0<=(0::ts.map λt=>t.2.2).sum/\(0::ts.map λt=>t.2.2).sum<=mm*ts.length:=by
  have:∀ l:List (Sn×Int×Int),(∀ t∈l,t∈ts)->0<=(l.map λt=>t.2.2).sum/\(l.map λt=>t.2.2).sum<=mm*l.length:=by
   intro l
   induction l with
   | nil=>intro _;simp
   | cons t l ih=>
    intro hl
    obtain ⟨i1,i2⟩:=ih λz hz=>hl z (Xp _ hz)
    have g0:=(hS t (hl t Xl)).G0
    have g1:=(hS t (hl t Xl)).G1
    rw[Xm,XT,XC,Int.natCast_succ,Int.mul_add]
    lia
  have:=this ts λ_ h=>h
  rw[XT]
  lia
 rw[tl] at U1
 generalize hS':(0::ts.map λt=>t.2.2).sum=sg at U1 ⊢
 generalize hpc:max 1 sg=pc
 have pc0:1<=pc/\pc<=20/\sg<=pc:=by lia
 refine cJ (λr ρ μ'=>∃ (dw rw':List Str) (vs:List Wy) (v8 v9 v10 v11 v14 v15:Option D),r=rw'.map .str/\dw++rw'=wn/\vs.map Wy.nm=dw/\(∀ w∈vs,(w.pc=pc/\pc<=w.rm/\w.rm<=pc+8)/\w.mr=none/\(w.tn=true->(ts.filter λt=>decide (t.1.rd=[w.nm])).length < 2))/\ρ=[some (.ls (ns.map .int)),some (.obj b),some (.ls (wn.map .str)),some (.ls ((bb++[e]).map .int)),some (.int k4),some (.obj p5),some (.obj p6),some (.obj p7),v8,v9,v10,v11,some (.int pc),some (.obj p13),v14,v15,none,none]/\Pq μ' b c (10+20*dn.length+10*dw.length)/\μ' p5=some (.lst (ts.map λt=>t.1.toD))/\μ' p6=some (.lst ((0::ts.map λt=>t.2.1).map .int))/\μ' p13=some (.lst (wyD vs))) ?_ ?_ _ _ _ ⟨[],wn,[],_,_,_,_,_,_,rfl,rfl,rfl,(λ_ h=>nomatch h),rfl,(dP.up q13).mono (by lia),by rw[aE (XA Vd)];exact d5,by rw[aE (XA UI)];exact d6,ay⟩
 rotate_left
 ·rintro d r ρ μ8 N ⟨dw,rw',vs,v8,v9,v10,v11,v14,v15,er,es',ev,hV,rfl,P8,f5,f6,f13⟩ hN
  cases rw' with
  | nil=>cases er
  | cons x rw'=>
  cases er
  have dwl:dw.length+(rw'.length+1)=1+k1:=by rw[← wl,← es'];simp
  have vl':vs.length=dw.length:=by rw[← ev,Xc]
  have xok:Xn x=true:=wok x (by rw[← es'];simp)
  walk_at "go"
  refine aY f5 ?_
  refine iq ts (λt=>t.1.toD) (λt=>if decide (t.1.rd=[x]) then some t.1.toD else none) rfl f5 (by lia) (λt ht μ' _ N m=>?_) ?_
  ·obtain ⟨w,hw,er⟩:=(hS t ht).rd
   walk_at "go"
   have eq1:kb (t.1.rd.map D.str) [D.str x]=decide (t.1.rd=[x]):=by
    rw[er]
    show (decide (w=x)&&true)=_
    rw[zbR]
    exact decide_eq_decide.mpr ⟨λz=>by rw[z],λz=>by injection z⟩
   have ok1:cH 39 (t.1.rd.map D.str)=true:=by
    rw[er]
    show (Xn w&&true)=true
    rw[wok w hw];rfl
   refine ⟨⟨ok1,xok⟩,?_⟩
   rw[eq1]
   refine kif (λh=>?_) λh=>?_
   ·rw[decide_eq_true h] at m;exact m
   ·rw[decide_eq_false h] at m;exact m
  rw[show (ts.filterMap λt=>if decide (t.1.rd=[x]) then some t.1.toD else none)=(ts.filter λt=>decide (t.1.rd=[x])).map λt=>t.1.toD by rw[← YY,zcG];rfl]
  walk_at "go"
  rw[Xc]
  generalize hgl:(ts.filter λt=>decide (t.1.rd=[x])).length=gl
  refine tq P8 (by lia) (by decide) (by decide) λk5 μ9 k50 k51 B9=>?_
  walk_at "go"
  refine ⟨.inl (.inl (by unfold S64;lia)),?_⟩
  have ix:∃ tn:Bool,atD [D.str "line", D.str "turns"] (k5*(if (gl:Int) < 2 then 1 else 0))=some (.str (zr tn))/\(tn=true->gl < 2):=by
   have two:k5=0∨k5=1:=by lia
   by_cases hl:(gl:Int) < 2
   ·rw[if_pos hl]
    rcases two with rfl | rfl
    ·exact ⟨false,rfl,λz=>nomatch z⟩
    ·exact ⟨true,rfl,λ_=>by lia⟩
   ·rw[if_neg hl,Int.mul_zero]
    exact ⟨false,rfl,λz=>nomatch z⟩
  obtain ⟨tn,ex1,htn⟩:=ix
  refine l7 ex1 ?_
  have m5:μ9 p5=some (.lst (ts.map λt=>t.1.toD)):=by rw[B9.o p5 q5.1 q5.2];exact f5
  have m6:μ9 p6=some (.lst ((0::ts.map λt=>t.2.1).map .int)):=by rw[B9.o p6 q6.1 q6.2];exact f6
  have m13:μ9 p13=some (.lst (wyD vs)):=by rw[B9.o p13 q13.1 q13.2];exact f13
  refine aY m13 ?_
  refine tq B9.p (by lia) (by decide) (by decide) λk6 μ10 k60 k61 B10=>?_
  walk_at "go"
  have o13:μ10 p13=some (.lst (wyD vs)):=by rw[B10.o p13 q13.1 q13.2];exact m13
  refine aY o13 ⟨by rw[Xc];lia,?_⟩
  refine hN _ _ ⟨dw++[x],rw',vs++[⟨x,pc,pc+k6,none,tn⟩],_,_,_,_,_,_,rfl,by rw[← es'];simp,by rw[XE,ev];rfl,λw hw=>?_,rfl,(B10.p.up q13).mono (by rw[Xo];simp;lia),by rw[aE (XA Vd),B10.o p5 q5.1 q5.2];exact m5,by rw[aE (XA UI),B10.o p6 q6.1 q6.2];exact m6,by rw[ay];show some (MO.lst (vs.map Wy.toD++_))=some (MO.lst ((vs++[_]).map Wy.toD));rw[XE];rfl⟩
  rcases Yi.mp hw with z | z
  ·exact hV w z
  ·rw[X9.mp z]
   exact ⟨⟨rfl,by show pc<=pc+k6;lia,by show pc+k6<=pc+8;lia⟩,rfl,λq=>by show (ts.filter λt=>decide (t.1.rd=[x])).length < 2;rw[hgl];exact htn q⟩
 rintro ρ μ8 ⟨dw,rw',vs,v8,v9,v10,v11,v14,v15,er,es',ev,hV,rfl,P8,f5,f6,f13⟩
 have:rw'=[]:=by cases rw' with | nil=>rfl | cons=>cases er
 subst this
 rw[XU] at es'
 have dwl:dw.length=1+k1:=by rw[es',wl]
 walk_at "go"
 refine tq P8 (by lia) (by decide) (by decide) λk9 μ9 k90 k91 B9=>?_
 have g5:μ9 p5=some (.lst (ts.map λt=>t.1.toD)):=by rw[B9.o p5 q5.1 q5.2];exact f5
 have g6:μ9 p6=some (.lst ((0::ts.map λt=>t.2.1).map .int)):=by rw[B9.o p6 q6.1 q6.2];exact f6
 have g13:μ9 p13=some (.lst (wyD vs)):=by rw[B9.o p13 q13.1 q13.2];exact f13
 walk_at "go"
 refine aY g13 (aY g5 ?_)
 walk_at "go"
 refine aY g6 ?_
 have i5:L3.dn μ9 p6 p5=some (.lst (ts.map λt=>t.1.toD)):=by rw[qL (XA n65)];exact g5
 have iP:Pq (L3.dn μ9 p6) b c (10+20*dn.length+10*dw.length+1):=by
  obtain ⟨ne,cs,t,l,u,is,f1,f2,rr⟩:=B9.p
  exact ⟨ne,cs,t,l,u,is,by rw[qL (XA q6.1)];exact f1,by rw[qL (XA q6.2)];exact f2,rr⟩
 generalize L3.dn μ9 p6=μ10 at i5 iP ⊢
 refine ⟨0::ts.map λt=>t.2.1,⟨rfl,by simp⟩,λS S1 S2=>?_⟩
 walk_at "go"
 refine aY i5 ?_
 refine iq ts (λt=>t.1.toD) (λt=>some (.int t.1.bt)) rfl i5 (by lia) (λt ht μ' _ N m=>?_) ?_
 ·walk_at "go"
  exact m
 rw[show (ts.filterMap λt=>some (D.int t.1.bt))=(ts.map λt=>t.1.bt).map .int by rw[Xk];exact congrFun (YY (f:=λt:Sn×Int×Int=>D.int t.1.bt)) ts]
 refine ⟨ts.map λt=>t.1.bt,M,⟨rfl,by rw[Xc];lia,λx hx=>?_,M0,M1,λx hx=>?_⟩,λL L0 L1 hL=>?_⟩
 ·obtain ⟨t,ht,rfl⟩:=Xh.mp hx
  exact hbb _ (hS t ht).b
 ·obtain ⟨t,ht,rfl⟩:=Xh.mp hx
  exact hM _ (hS t ht).b
 generalize hp:(⟨1+k9,vs,ts.map λt=>t.1⟩:Pn)=p
 have pg:p.g=1+k9:=by rw[← hp]
 have pws:p.ws=vs:=by rw[← hp]
 have pss:p.ss=ts.map λt=>t.1:=by rw[← hp]
 have pD:D.tup [D.int (1+k9),D.tup (wyD vs),D.tup (ts.map λt=>t.1.toD)]=p.toD:=by
  show _=D.tup [.int p.g,.tup (p.ws.map Wy.toD),.tup (p.ss.map Sn.toD)]
  rw[pg,pws,pss,Xk];rfl
 have GsI:∀ t∈ts,(t.1.rl.p*p.g / t.1.rl.q) / p.g=t.2.2:=λt ht=>by
  obtain ⟨hf,e⟩:=(hS t ht).rl
  rw[e,Vh hf (by lia) (by lia)]
 have GsN:∀ t∈ts,Gs p.g t.1=t.2.2.toNat:=λt ht=>by unfold Gs;rw[GsI t ht]
 have wnm:p.wn=wn:=by show p.ws.map Wy.nm=wn;rw[pws,ev,es']
 have snm:p.sn=l8.take k4:=by show p.ss.map Sn.nm=_;rw[pss,Xk,← es,← et];rfl
 have srt:p.sn.Pairwise λa b=>ltS a b=true:=by rw[snm];exact QJ.sublist (zbH _ _)
 have WL:(((p.ss.map (Gs p.g)).sum:Nat):Int)=sg:=by
  rw[pss,← hS',XT]
  have:∀ l:List (Sn×Int×Int),(∀ t∈l,t∈ts)->((((l.map λt=>t.1).map (Gs p.g)).sum:Nat):Int)=(l.map λt=>t.2.2).sum:=by
   intro l
   induction l with
   | nil=>intro _;rfl
   | cons t l ih=>
    intro hl
    have ht:=hl t Xl
    rw[Xm,Xm,XT,Xm,XT,zeY,ih λz hz=>hl z (Xp _ hz),GsN t ht]
    have:=(hS t ht).G0
    lia
  rw[this ts λ_ h=>h]
  lia
 have ssm:∀ s∈p.ss,∃ t∈ts,t.1=s:=λs hs=>by rw[pss] at hs;exact Xh.mp hs
 have K:p.Ok 7:=by
  refine ⟨by rw[pg];exact ⟨by lia,by lia⟩,?_,?_,by rw[wnm];exact wnd,λw hw=>?_,by rw[pss,Xc];lia,srt,λs hs=>?_⟩
  ·have:=congrArg Y6 wnm;rw[Xc] at this;lia
  ·have:=congrArg Y6 wnm;rw[Xc] at this;lia
  ·rw[pws] at hw
   obtain ⟨⟨w1,w2,w3⟩,w4,_⟩:=hV w hw
   exact ⟨wok w.nm (by rw[← es',← ev];exact Xh.mpr ⟨w,hw,rfl⟩),by lia,by lia,by lia,by lia,λi z=>by rw[w4] at z;cases z⟩
  ·obtain ⟨t,ht,rfl⟩:=ssm s hs
   have X:=hS t ht
   obtain ⟨w,hw,er⟩:=X.rd
   obtain ⟨b1,b2⟩:=hbb _ X.b
   obtain ⟨hf,e⟩:=X.rl
   have g0:=X.G0
   have g1:=X.G1
   have m0:=X.g0
   have m1:=X.g1
   have hm:t.1.nm∈p.sn:=Xh.mpr ⟨t.1,hs,rfl⟩
   rw[snm] at hm
   have hm:=TQ _ (zc2 hm)
   refine ⟨hm,by rw[er];simp,by rw[er,wnm];exact List.singleton_sublist.mpr hw,b1,b2,X.g0,by lia,λi z=>?_,by rw[e];exact PF g0 (by lia) hf,?_⟩
   ·have:=X.mn i z;lia
   ·rw[e]
    cases hf with
    | false=>show t.2.2<=7*1;lia
    | true=>show 2*t.2.2+1<=7*2;lia
 have QQ:Q45 p:=by
  refine ⟨λs hs=>?_,λs hs=>?_,λs hs=>?_,by rw[wnm];exact wnd,tT srt,λw hw=>?_,λw hw=>?_,λw hw ht s hs s' hs' e1 e2=>?_,λs hs=>?_⟩
  ·obtain ⟨t,ht,rfl⟩:=ssm s hs
   obtain ⟨hf,e⟩:=(hS t ht).rl
   rw[e,QK]
  ·obtain ⟨t,ht,rfl⟩:=ssm s hs
   rw[GsI t ht]
   have:=(hS t ht).G0
   lia
  ·obtain ⟨t,ht,rfl⟩:=ssm s hs
   obtain ⟨w,hw,er⟩:=(hS t ht).rd
   rw[← wnm] at hw
   obtain ⟨v,hv,e⟩:=Xh.mp hw
   exact ⟨v,hv,by rw[er,e]⟩
  ·rw[pws] at hw
   exact (hV w hw).2.1
  ·rw[pws] at hw
   have:=(hV w hw).1
   rw[WL]
   lia
  ·rw[pws] at hw
   obtain ⟨t,ht',rfl⟩:=ssm s hs
   obtain ⟨t',ht2,rfl⟩:=ssm s' hs'
   have:=(hV w hw).2.2 ht
   have m1:t∈ts.filter λt=>decide (t.1.rd=[w.nm]):=XZ.mpr ⟨ht',decide_eq_true e1⟩
   have m2:t'∈ts.filter λt=>decide (t.1.rd=[w.nm]):=XZ.mpr ⟨ht2,decide_eq_true e2⟩
   generalize (ts.filter λt=>decide (t.1.rd=[w.nm]))=l at this m1 m2
   cases l with
   | nil=>cases m1
   | cons z r=>
    cases r with
    | nil=>rw[X9.mp m1,X9.mp m2]
    | cons y r=>rw[XC,XC] at this;lia
  ·obtain ⟨t,ht,rfl⟩:=ssm s hs
   obtain ⟨b1,b2⟩:=hbb _ (hS t ht).b
   exact ⟨b1,b2,(hS t ht).g0,λi z=>((hS t ht).mn i z).1⟩
 have Ft:∀ t∈ts,((F45 p.g t.1:Nat):Int)=t.2.1/\F45 p.g t.1<=300:=λt ht=>by
  have X:=hS t ht
  have e:F45 p.g t.1=d8 t.1.bg.toNat t.1.bt.toNat (t.1.mn.map Za) t.2.2.toNat:=by unfold F45;rw[GsN t ht]
  refine ⟨by rw[e,X.f],?_⟩
  rw[e]
  obtain ⟨b1,b2⟩:=hbb _ X.b
  have m0:=X.g0
  have m1:=X.g1
  have g0:=X.G0
  have g1:=X.G1
  cases hm:t.1.mn with
  | none=>show t.1.bg.toNat+1<=300;lia
  | some i=>
   have:=X.mn i hm
   show d8 t.1.bg.toNat t.1.bt.toNat (some i.toNat) t.2.2.toNat<=300
   unfold d8
   dsimp only
   split
   ·lia
   ·have d1:=Nat.div_le_self (i.toNat+t.2.2.toNat - 1) t.2.2.toNat
    have d2:=Nat.mul_le_mul (show t.1.bt.toNat<=8 by lia) (show (i.toNat+t.2.2.toNat - 1) / t.2.2.toNat<=23 by lia)
    lia
 have S0:∃ sN:Nat,S=(sN:Int)/\(sN=0∨∃ s∈p.ss,F45 p.g s=sN)/\sN<=300:=by
  rcases Xr.mp S1 with z | z
  ·exact ⟨0,z,.inl rfl,by decide⟩
  ·obtain ⟨t,ht,e⟩:=Xh.mp z
   obtain ⟨f1,f2⟩:=Ft t ht
   exact ⟨F45 p.g t.1,by rw[f1];exact e.symm,.inr ⟨t.1,by rw[pss];exact Xh.mpr ⟨t,ht,rfl⟩,rfl⟩,f2⟩
 obtain ⟨sN,rfl,S3,S4⟩:=S0
 have A:=LH K QQ (λs hs=>by
   obtain ⟨t,ht,rfl⟩:=ssm s hs
   rw[GsN t ht]
   have:=(hS t ht).G0
   lia) (S:=sN) (L:=L) (by lia) (by lia) (λs hs=>by
   obtain ⟨t,ht,rfl⟩:=ssm s hs
   have:=S2 t.2.1 (Xp _ (Xh.mpr ⟨t,ht,rfl⟩))
   have:=(Ft t ht).1
   lia) S3 (λd=>by
   rw[← hL d,pss]
   constructor
   ·intro h x hx
    obtain ⟨t,ht,rfl⟩:=Xh.mp hx
    exact h t.1 (Xh.mpr ⟨t,ht,rfl⟩)
   ·intro h s hs
    obtain ⟨t,ht,rfl⟩:=Xh.mp hs
    exact h _ (Xh.mpr ⟨t,ht,rfl⟩))
 have ag1:∀ f,sN+L<=f->agD (agn p.ky f 0)=.tup [.int sN,.int ((sN:Int)+L)]:=λf hf=>by
  rw[A.1 f hf]
  show D.tup [.int (sN:Nat),.int ((sN+L:Nat):Int)]=_
  rw[zeY]
 walk_at "go"
 rw[pD]
 refine ⟨p,7,sN+L,⟨rfl,K,by lia,by lia⟩,?_⟩
 rw[ag1 _ (Xq _)]
 refine Ds rfl rfl ?_
 walk_at "go"
 refine ⟨p,7,sN+L - 1,⟨rfl,K,by lia,by lia⟩,?_⟩
 rw[A.2 _ (by lia)]
 show jv .non .non _ _
 walk_at "go"
 refine tq iP (by lia) (by decide) (by decide) λj11 μ11 j110 j111 B11=>?_
 obtain ⟨j11,rfl⟩:=Yk j110
 walk_at "go"
 refine ⟨p,7,sN+L+1+j11,⟨rfl,K,by lia,by lia⟩,?_⟩
 rw[ag1 _ (by lia)]
 exact Ds rfl rfl ⟨_,.refl _,k _⟩
theorem mX (ns:List Int)(h:ns.length<=63)(μ:Mu):gR [.ls (ns.map .int)] μ (λd _=>d=.bl true):=L3.mX ns h μ
open L2
theorem Uu {α:Type}{us:List α}(h:us.length=1):∃ x0,us=[x0]:=match us,h with | [x0],_=>⟨x0,rfl⟩
theorem U8 {α:Type}{us:List α}(h:us.length=2):∃ x0 x1,us=[x0,x1]:=match us,h with | [x0,x1],_=>⟨x0,x1,rfl⟩
theorem SY {α:Type}{us:List α}(h:us.length=3):∃ x0 x1 x2,us=[x0,x1,x2]:=match us,h with | [x0,x1,x2],_=>⟨x0,x1,x2,rfl⟩
theorem S5 {α:Type}{us:List α}(h:us.length=4):∃ x0 x1 x2 x3,us=[x0,x1,x2,x3]:=match us,h with | [x0,x1,x2,x3],_=>⟨x0,x1,x2,x3,rfl⟩
theorem US {α:Type}{us:List α}(h:us.length=5):∃ x0 x1 x2 x3 x4,us=[x0,x1,x2,x3,x4]:=match us,h with | [x0,x1,x2,x3,x4],_=>⟨x0,x1,x2,x3,x4,rfl⟩
def top (i:Nat):Stmt:=PySem.Challenge.pw_swellways_k45_again_known.main.body.getD i (.Pass ⟨0,0,0,0⟩)
abbrev nB:Stmt:=top 33
abbrev HG:Stmt:=top 34
abbrev Gf:Stmt:=top 35
abbrev C4:Stmt:=top 36
abbrev DI:Stmt:=top 37
abbrev Kn:Stmt:=top 38
abbrev qZ:Stmt:=top 39
abbrev xK:Stmt:=top 40
abbrev xS:Stmt:=top 45
abbrev pH:Stmt:=top 46
abbrev uJ:Stmt:=top 47
abbrev jx:Stmt:=top 48
abbrev m8:Stmt:=top 49
abbrev CV:Stmt:=top 50
abbrev Gx:Stmt:=top 51
abbrev qF:Stmt:=top 52
abbrev lQ:Stmt:=top 54
abbrev qT:Stmt:=top 55
abbrev gc:Stmt:=top 56
abbrev fY:Stmt:=top 57
abbrev uj:Stmt:=top 58
abbrev jE:Stmt:=top 60
abbrev oV:Stmt:=top 61
abbrev jJ:Stmt:=top 62
abbrev pC:Stmt:=top 63
abbrev qV:Stmt:=top 64
abbrev zd:Stmt:=top 65
abbrev eZ:Stmt:=top 66
abbrev ri:Stmt:=top 67
abbrev lB:Stmt:=top 68
abbrev nh:Stmt:=top 69
abbrev Kt:Stmt:=top 70
abbrev gs:Stmt:=top 71
abbrev nr:Stmt:=top 72
abbrev cF:Stmt:=top 73
abbrev cK:Stmt:=top 74
abbrev gn:Stmt:=top 76
abbrev dz:Stmt:=top 77
abbrev jN:Stmt:=top 78
abbrev md:Stmt:=top 79
abbrev km:Stmt:=top 80
abbrev s_again:Stmt:=top 82
abbrev qz:Stmt:=top 84
abbrev qx:Stmt:=top 85
abbrev ng:Stmt:=top 86
abbrev jy:Stmt:=top 87
abbrev kj:Stmt:=top 88
abbrev fT:Stmt:=top 89
abbrev Dn:Stmt:=top 90
set_option genInjectivity false in
set_option genSizeOfSpec false in
structure Adr where
 nc:Addr
 wZ:XB
 GU:Addr
 Q7:XB
 G3:Addr
 QF:XB
 C0:Addr
 Od:XB
 CL:Addr
 Lh:XB
 IE:Addr
 Qw:XB
 r8:Addr
 B0:XB
 xt:Addr
 FP:XB
 xm:Addr
 GP:XB
 qk:Addr
 BU:XB
 ue:Addr
 EE:XB
 i7:Addr
 pV:XB
 nO:Addr
 yC:XB
 Cr:Addr
 MW:XB
 F0:Addr
 P0:XB
 ql:Addr
 An:XB
 l4:Addr
 vX:XB
 pY:Addr
 Bm:XB
 nF:Addr
 zO:XB
 jL:Addr
 rM:XB
 uM:Addr
 E7:XB
 jh:Addr
 qw:XB
 DW:Addr
 Lp:XB
 nE:Addr
 yO:XB
 rS:Addr
 Bx:XB
 rT:Addr
 Bt:XB
 xo:Addr
 Gq:XB
 iY:Addr
 oB:XB
 yu:Addr
 FL:XB
 lW:Addr
 wJ:XB
 nA:Addr
 yt:XB
 Hf:Addr
 QX:XB
 nH:Addr
 xW:XB
 nT:Addr
 zx:XB
 js:Addr
 sj:XB
 tV:Addr
 Ez:XB
 gA:Addr
 lD:XB
 ik:Addr
 mT:XB
 uo:Addr
 Fd:XB
 lA:Addr
 wB:XB
 ke:Addr
 sD:XB
 CI:Addr
 Mq:XB
 q4:Addr
 AM:XB
 qU:Addr
 Bi:XB
 nN:Addr
 xc:XB
 gv:Addr
 gy:XB
 ki:Addr
 sA:XB
 jj:Addr
 pX:XB
 IX:Addr
 OJ:XB
structure Txt (Pm:ze7) (K:Xa) (mg:Str->Option Xe) (t:Adr):Prop where
 xX:mg "common_of" = some (.ref t.nc)
 xG:Fun K "common_of" "common_of" nB t.nc t.wZ
 Qr:mg "part" = some (.ref t.GU)
 SF:Fun K "part" "part" HG t.GU t.Q7
 SE:mg "plus" = some (.ref t.G3)
 RA:Fun K "plus" "plus" Gf t.G3 t.QF
 MK:mg "minus" = some (.ref t.C0)
 Oe:Fun K "minus" "minus" C4 t.C0 t.Od
 Lq:mg "times" = some (.ref t.CL)
 K3:Fun K "times" "times" DI t.CL t.Lh
 SD:mg "less" = some (.ref t.IE)
 Qk:Fun K "less" "less" Kn t.IE t.Qw
 zZ:mg "floor_of" = some (.ref t.r8)
 Ak:Fun K "floor_of" "floor_of" qZ t.r8 t.B0
 HP:mg "cut_by" = some (.ref t.xt)
 GD:Fun K "cut_by" "cut_by" xK t.xt t.FP
 Kd:mg "top_of" = some (.ref t.xm)
 F6:Fun K "top_of" "top_of" xS t.xm t.GP
 BR:mg "begun_by" = some (.ref t.qk)
 BJ:Fun K "begun_by" "begun_by" pH t.qk t.BU
 Ed:mg "is_idle" = some (.ref t.ue)
 Fl:Fun K "is_idle" "is_idle" uJ t.ue t.EE
 r9:mg "share_behind" = some (.ref t.i7)
 pK:Fun K "share_behind" "share_behind" jx t.i7 t.pV
 xA:mg "factor_of" = some (.ref t.nO)
 xN:Fun K "factor_of" "factor_of" m8 t.nO t.yC
 Nj:mg "moved" = some (.ref t.Cr)
 LB:Fun K "moved" "moved" CV t.Cr t.MW
 QR:mg "held" = some (.ref t.F0)
 So:Fun K "held" "held" Gx t.F0 t.P0
 Aj:mg "heard_by" = some (.ref t.ql)
 Ab:Fun K "heard_by" "heard_by" qF t.ql t.An
 vJ:mg "put_behind" = some (.ref t.l4)
 vQ:Fun K "put_behind" "put_behind" lQ t.l4 t.vX
 Bn:mg "taken_in" = some (.ref t.pY)
 Ar:Fun K "taken_in" "taken_in" qT t.pY t.Bm
 zC:mg "next_name" = some (.ref t.nF)
 xf:Fun K "next_name" "next_name" gc t.nF t.zO
 rF:mg "out_by_turns" = some (.ref t.jL)
 pG:Fun K "out_by_turns" "out_by_turns" fY t.jL t.rM
 D3:mg "let_out" = some (.ref t.uM)
 Fo:Fun K "let_out" "let_out" uj t.uM t.E7
 rN:mg "begun_sender" = some (.ref t.jh)
 pL:Fun K "begun_sender" "begun_sender" jE t.jh t.qw
 LU:mg "begun" = some (.ref t.DW)
 KW:Fun K "begun" "begun" oV t.DW t.Lp
 yo:mg "under_way" = some (.ref t.nE)
 zB:Fun K "under_way" "under_way" jJ t.nE t.yO
 A7:mg "new_ones" = some (.ref t.rS)
 Ac:Fun K "new_ones" "new_ones" pC t.rS t.Bx
 AA:mg "sent_off" = some (.ref t.rT)
 BW:Fun K "sent_off" "sent_off" qV t.rT t.Bt
 JG:mg "beaten" = some (.ref t.xo)
 Ip:Fun K "beaten" "beaten" zd t.xo t.Gq
 oK:mg "sent_in_order" = some (.ref t.iY)
 oH:Fun K "sent_in_order" "sent_in_order" eZ t.iY t.oB
 Hz:mg "passed" = some (.ref t.yu)
 JO:Fun K "passed" "passed" ri t.yu t.FL
 u4:mg "way_behind" = some (.ref t.lW)
 vL:Fun K "way_behind" "way_behind" lB t.lW t.wJ
 xx:mg "events_of" = some (.ref t.nA)
 zS:Fun K "events_of" "events_of" nh t.nA t.yt
 Qa:mg "aged" = some (.ref t.Hf)
 QC:Fun K "aged" "aged" Kt t.Hf t.QX
 xy:mg "way_after" = some (.ref t.nH)
 xE:Fun K "way_after" "way_after" gs t.nH t.xW
 zc:mg "due_after" = some (.ref t.nT)
 xY:Fun K "due_after" "due_after" nr t.nT t.zx
 rj:mg "sender_after" = some (.ref t.js)
 rO:Fun K "sender_after" "sender_after" cF t.js t.sj
 DZ:mg "stepped" = some (.ref t.tV)
 Fi:Fun K "stepped" "stepped" cK t.tV t.Ez
 lP:mg "letters_lowered" = some (.ref t.gA)
 lq:Fun K "letters_lowered" "letters_lowered" gn t.gA t.lD
 me:mg "sender_lowered" = some (.ref t.ik)
 mE:Fun K "sender_lowered" "sender_lowered" dz t.ik t.mT
 E9:mg "like_of" = some (.ref t.uo)
 Fy:Fun K "like_of" "like_of" jN t.uo t.Fd
 u9:mg "first_like" = some (.ref t.lA)
 vj:Fun K "first_like" "first_like" md t.lA t.wB
 sF:mg "like_behind" = some (.ref t.ke)
 sT:Fun K "like_behind" "like_behind" km t.ke t.sD
 KQ:mg "again" = some (.ref t.CI)
 N4:Fun K "again" "again" s_again t.CI t.Mq
 Ca:mg "_law_mix" = some (.ref t.q4)
 By:Fun K "_law_mix" "_law_mix" qz t.q4 t.AM
 Cj:mg "_law_pot" = some (.ref t.qU)
 AE:Fun K "_law_pot" "_law_pot" qx t.qU t.Bi
 yk:mg "_law_take" = some (.ref t.nN)
 xZ:Fun K "_law_take" "_law_take" ng t.nN t.xc
 nJ:mg "_law_same" = some (.ref t.gv)
 df:Fun K "_law_same" "_law_same" jy t.gv t.gy
 sG:mg "_law_sender" = some (.ref t.ki)
 sE:Fun K "_law_sender" "_law_sender" kj t.ki t.sA
 qG:mg "_law_divided" = some (.ref t.jj)
 rf:Fun K "_law_divided" "_law_divided" fT t.jj t.pX
 Uv:mg "law" = some (.ref t.IX)
 CC:Fun K "law" "law" Dn t.IX t.OJ
 Oo:mg "abs" = none
 Ur:mg "all" = none
 wF:mg "bool" = none
 JP:mg "dict" = none
 xF:mg "enumerate" = none
 OU:mg "int" = none
 bx:mg "isinstance" = none
 de:mg "len" = none
 mY:mg "list" = none
 rP:mg "max" = none
 TV:mg "min" = none
 u5:mg "range" = none
 yB:mg "sorted" = none
 O7:mg "str" = none
 Ou:mg "sum" = none
 bh:mg "tuple" = none
 qD:mg "zip" = none
 o8:GV K mg "AGAIN" (.int 6)
 Pd:GV K mg "AGE" (.int 2)
 Qq:GV K mg "BEAT" (.int 2)
 Nb:GV K mg "BEGIN" (.int 3)
 pZ:GV K mg "COMING" (.int 0)
 FV:GV K mg "DUE" (.int 1)
 AK:GV K mg "GOOD" (.int 8)
 HL:GV K mg "GRID" (.int 0)
 GN:GV K mg "HALF" (.tup [.int 1,.int 2])
 Dr:GV K mg "HOP" (.int 3)
 je:GV K mg "IS_MARKED" (.int 4)
 HW:GV K mg "LAST" (.int 2)
 mw:GV K mg "LEFT" (.int 5)
 mM:GV K mg "LOST" (.int 7)
 Qb:GV K mg "MANY" (.int 4)
 IY:GV K mg "MARK" (.int 3)
 zV:GV K mg "MARKED" (.int 9)
 bN:GV K mg "NAME" (.int 0)
 kP:GV K mg "NEXT" (.int 4)
 Hk:GV K mg "NOUGHT" (.tup [.int 0,.int 1])
 eT:GV K mg "NUMBER" (.int 1)
 JM:GV K mg "ONE" (.tup [.int 1,.int 1])
 Cb:GV K mg "PACE" (.int 1)
 Iu:GV K mg "ROAD" (.int 1)
 Qm:GV K mg "ROOM" (.int 2)
 IT:GV K mg "RULE" (.int 5)
 uH:GV K mg "SENDERS" (.int 2)
 LK:GV K mg "SHARE" (.int 3)
 Ph:GV K mg "SORT" (.int 4)
 kE:GV K mg "STANDING" (.int 1)
 fe:GV K mg "STATE_SENDERS" (.int 1)
 iB:GV K mg "STATE_WAYS" (.int 0)
 JT:GV K mg "WAIT" (.int 10)
 uS:GV K mg "WAYS" (.int 1)
 yJ:GV K mg "WINDOW" (.int 2)
local macro_rules | `(tactic| walk_at "sc")=>`(tactic| exact Uj rfl rfl rfl rfl (by decide +kernel))
section
variable {P:XO} {w:X0} {K:Xa} {mg:Str->Option Xe} {base:Heap} {t:Adr}
theorem dr:aF ["one", "other", "divisor", "rest", "behind"] ["one", "other"] (ao nB):=by walk_at "sc"
theorem yZ (T:Txt w.params K mg t):aQ P w K mg base 1 "common_of" ["one", "other"] L3.fJ:=aI T.xX T.xG dr L3.tJ L3.va (λ_ _ _ _ _ _ _ _=>by (rename_i hl;obtain ⟨x0,x1,e⟩:=U8 hl;subst e;rfl)) λ_ _ _ _ _ _ hr hu=>
by walk_at "~54"
theorem wa:aF ["top", "bottom", "divisor"] ["top", "bottom"] (ao HG):=by walk_at "sc"
theorem pO (T:Txt w.params K mg t):aQ P w K mg base 2 "part" ["top", "bottom"] L3.gw:=aI T.Qr T.SF wa L3.FX L3.M5 (λ_ _ _ _ _ _ _ _=>by (rename_i hl;obtain ⟨x0,x1,e⟩:=U8 hl;subst e;rfl)) λ_ _ _ _ _ _ hr hu=>
by walk_at "~55"
theorem K6:aF ["one", "other"] ["one", "other"] (ao Gf):=by walk_at "sc"
theorem JL (T:Txt w.params K mg t):aQ P w K mg base 3 "plus" ["one", "other"] L3.jV:=aI T.SE T.RA K6 L3.IM L3.Mj (λ_ _ _ _ _ _ _ _=>by (rename_i hl;obtain ⟨x0,x1,e⟩:=U8 hl;subst e;rfl)) λ_ _ _ _ _ _ hr hu=>
by walk_at "~56"
theorem Ju:aF ["one", "other"] ["one", "other"] (ao C4):=by walk_at "sc"
theorem wQ (T:Txt w.params K mg t):aQ P w K mg base 3 "minus" ["one", "other"] L3.hE:=aI T.MK T.Oe Ju L3.FG L3.GH (λ_ _ _ _ _ _ _ _=>by (rename_i hl;obtain ⟨x0,x1,e⟩:=U8 hl;subst e;rfl)) λ_ _ _ _ _ _ hr hu=>
by walk_at "~57"
theorem Hi:aF ["one", "other"] ["one", "other"] (ao DI):=by walk_at "sc"
theorem vP (T:Txt w.params K mg t):aQ P w K mg base 3 "times" ["one", "other"] L3.ir:=aI T.Lq T.K3 Hi L3.ED L3.J4 (λ_ _ _ _ _ _ _ _=>by (rename_i hl;obtain ⟨x0,x1,e⟩:=U8 hl;subst e;rfl)) λ_ _ _ _ _ _ hr hu=>
by walk_at "~58"
theorem Mi:aF ["one", "other"] ["one", "other"] (ao Kn):=by walk_at "sc"
theorem Jc (T:Txt w.params K mg t):aQ P w K mg base 1 "less" ["one", "other"] L3.lH:=aI T.SD T.Qk Mi L3.J9 L3.MR (λ_ _ _ _ _ _ _ _=>by (rename_i hl;obtain ⟨x0,x1,e⟩:=U8 hl;subst e;rfl)) λ_ _ _ _ _ _ hr hu=>
by walk_at "~59"
theorem y8:aF ["one"] ["one"] (ao qZ):=by walk_at "sc"
theorem Bv (T:Txt w.params K mg t):aQ P w K mg base 1 "floor_of" ["one"] L3.gi:=aI T.zZ T.Ak y8 L3.vx L3.y4 (λ_ _ _ _ _ _ _ _=>by (rename_i hl;obtain ⟨x0,e⟩:=Uu hl;subst e;rfl)) λ_ _ _ _ _ _ hr hu=>
by walk_at "~60"
theorem Ey:aF ["one", "grid"] ["one", "grid"] (ao xK):=by walk_at "sc"
theorem lX (T:Txt w.params K mg t):aQ P w K mg base 3 "cut_by" ["one", "grid"] L3.eM:=aI T.HP T.GD Ey L3.Ae L3.Fv (λ_ _ _ _ _ _ _ _=>by (rename_i hl;obtain ⟨x0,x1,e⟩:=U8 hl;subst e;rfl)) λ_ _ _ _ _ _ hr hu=>
by walk_at "~61"
theorem EG:aF ["rule"] ["rule"] (ao xS):=by walk_at "sc"
theorem yT (T:Txt w.params K mg t):aQ P w K mg base 1 "top_of" ["rule"] L3.g9:=aI T.Kd T.F6 EG L3.BO L3.Fq (λ_ _ _ _ _ _ _ _=>by (rename_i hl;obtain ⟨x0,e⟩:=Uu hl;subst e;rfl)) λ_ _ _ _ _ _ hr hu=>
by walk_at "~62"
theorem yE:aF ["rule", "grid"] ["rule", "grid"] (ao pH):=by walk_at "sc"
theorem Ai (T:Txt w.params K mg t):aQ P w K mg base 4 "begun_by" ["rule", "grid"] L3.gB:=aI T.BR T.BJ yE L3.wR L3.xH (λ_ _ _ _ _ _ _ _=>by (rename_i hl;obtain ⟨x0,x1,e⟩:=U8 hl;subst e;rfl)) λ_ _ _ _ _ _ hr hu=>
by walk_at "~63"
theorem Bu:aF ["rule", "heard"] ["rule", "heard"] (ao uJ):=by walk_at "sc"
theorem Eg (T:Txt w.params K mg t):aQ P w K mg base 1 "is_idle" ["rule", "heard"] L3.iG:=aI T.Ed T.Fl Bu L3.xJ L3.A1 (λ_ _ _ _ _ _ _ _=>by (rename_i hl;obtain ⟨x0,x1,e⟩:=U8 hl;subst e;rfl)) λ_ _ _ _ _ _ hr hu=>
by walk_at "~64"
theorem fh:aF ["rule", "grid", "share", "heard", "bad", "nearer"] ["rule", "grid", "share", "heard"] (ao jx):=by walk_at "sc"
theorem rG (T:Txt w.params K mg t):aQ P w K mg base 4 "share_behind" ["rule", "grid", "share", "heard"] L3.dQ:=aI T.r9 T.pK fh L3.mF L3.oo (λ_ _ _ _ _ _ _ _=>by (rename_i hl;obtain ⟨x0,x1,x2,x3,e⟩:=S5 hl;subst e;rfl)) λ_ _ _ _ _ _ hr hu=>
by walk_at "~65"
theorem vA:aF ["rule", "share", "heard"] ["rule", "share", "heard"] (ao m8):=by walk_at "sc"
theorem yf (T:Txt w.params K mg t):aQ P w K mg base 4 "factor_of" ["rule", "share", "heard"] L3.fv:=aI T.xA T.xN vA L3.tw L3.wM (λ_ _ _ _ _ _ _ _=>by (rename_i hl;obtain ⟨x0,x1,x2,e⟩:=SY hl;subst e;rfl)) λ_ _ _ _ _ _ hr hu=>
by walk_at "~66"
theorem HI:aF ["rule", "window", "heard"] ["rule", "window", "heard"] (ao CV):=by walk_at "sc"
theorem Lm (T:Txt w.params K mg t):aQ P w K mg base 4 "moved" ["rule", "window", "heard"] L3.lS:=aI T.Nj T.LB HI L3.Er L3.Iw (λ_ _ _ _ _ _ _ _=>by (rename_i hl;obtain ⟨x0,x1,x2,e⟩:=SY hl;subst e;rfl)) λ_ _ _ _ _ _ hr hu=>
by walk_at "~67"
theorem Ng:aF ["rule", "grid", "window"] ["rule", "grid", "window"] (ao Gx):=by walk_at "sc"
theorem FO (T:Txt w.params K mg t):aQ P w K mg base 4 "held" ["rule", "grid", "window"] L3.ma:=aI T.QR T.So Ng L3.Jz L3.KR (λ_ _ _ _ _ _ _ _=>by (rename_i hl;obtain ⟨x0,x1,x2,e⟩:=SY hl;subst e;rfl)) λ_ _ _ _ _ _ hr hu=>
by walk_at "~68"
theorem jc:aF ["rule", "grid", "window", "share", "heard", "nearer", "factor"] ["rule", "grid", "window", "share", "heard"] (ao qF):=by walk_at "sc"
theorem A9 (T:Txt w.params K mg t):aQ P w K mg base 5 "heard_by" ["rule", "grid", "window", "share", "heard"] L3.gh:=aI T.Aj T.Ab jc L3.vi L3.zQ (λ_ _ _ _ _ _ _ _=>by (rename_i hl;obtain ⟨x0,x1,x2,x3,x4,e⟩:=US hl;subst e;rfl)) λ_ _ _ _ _ _ hr hu=>
by walk_at "~69"
theorem sL:aF ["way", "letter", "ahead"] ["way", "letter", "ahead"] (ao lQ):=by walk_at "sc"
theorem vR (T:Txt w.params K mg t):aQ P w K mg base 1 "put_behind" ["way", "letter", "ahead"] L3.eQ:=aI T.vJ T.vQ sL L3.qj L3.sW (λ_ _ _ _ _ _ _ _=>by (rename_i hl;obtain ⟨x0,x1,x2,e⟩:=SY hl;subst e;rfl)) λ_ _ _ _ _ _ hr hu=>
by walk_at "~70"
theorem gf:aF ["way", "standing", "letters", "stands", "lost", "letter"] ["way", "standing", "letters"] (ao qT):=by walk_at "sc"
theorem Cg (T:Txt w.params K mg t):aQ P w K mg base 2 "taken_in" ["way", "standing", "letters"] L3.gx:=aI T.Bn T.Ar gf L3.wV L3.xk (λ_ _ _ _ _ _ _ _=>by (rename_i hl;obtain ⟨x0,x1,x2,e⟩:=SY hl;subst e;rfl)) λ_ _ _ _ _ _ hr hu=>
by walk_at "~71"
theorem iC:aF ["names", "owners", "last", "there", "behind"] ["names", "owners", "last"] (ao gc):=by walk_at "sc"
theorem zG (T:Txt w.params K mg t):aQ P w K mg base 1 "next_name" ["names", "owners", "last"] L3.fI:=aI T.zC T.xf iC L3.sX L3.vI (λ_ _ _ _ _ _ _ _=>by (rename_i hl;obtain ⟨x0,x1,x2,e⟩:=SY hl;subst e;rfl)) λ_ _ _ _ _ _ hr hu=>
by walk_at "~72"
theorem bX:aF ["way", "names", "standing", "last", "stands", "out", "name", "owners"] ["way", "names", "standing", "last"] (ao fY):=by walk_at "sc"
theorem rB (T:Txt w.params K mg t):aQ P w K mg base 2 "out_by_turns" ["way", "names", "standing", "last"] L3.dN:=aI T.rF T.pG bX L3.mj L3.oa (λ_ _ _ _ _ _ _ _=>by (rename_i hl;obtain ⟨x0,x1,x2,x3,e⟩:=S5 hl;subst e;rfl)) λ_ _ _ _ _ _ hr hu=>
by walk_at "~73"
theorem BC:aF ["way", "names", "standing", "last"] ["way", "names", "standing", "last"] (ao uj):=by walk_at "sc"
theorem Fw (T:Txt w.params K mg t):aQ P w K mg base 3 "let_out" ["way", "names", "standing", "last"] L3.iD:=aI T.D3 T.Fo BC L3.zk L3.AY (λ_ _ _ _ _ _ _ _=>by (rename_i hl;obtain ⟨x0,x1,x2,x3,e⟩:=S5 hl;subst e;rfl)) λ_ _ _ _ _ _ hr hu=>
by walk_at "~74"
theorem iX:aF ["grid", "sender", "first"] ["grid", "sender"] (ao jE):=by walk_at "sc"
theorem qu (T:Txt w.params K mg t):aQ P w K mg base 5 "begun_sender" ["grid", "sender"] L3.dM:=aI T.rN T.pL iX L3.mK L3.oh (λ_ _ _ _ _ _ _ _=>by (rename_i hl;obtain ⟨x0,x1,e⟩:=U8 hl;subst e;rfl)) λ_ _ _ _ _ _ hr hu=>
by walk_at "~75"
theorem xQ:aF ["plan", "ways"] ["plan"] (ao oV):=by walk_at "sc"
theorem NV (T:Txt w.params K mg t):aQ P w K mg base 6 "begun" ["plan"] L3.lU:=aI T.LU T.KW xQ L3.D5 L3.HH (λ_ _ _ _ _ _ _ _=>by (rename_i hl;obtain ⟨x0,e⟩:=Uu hl;subst e;rfl)) λ_ _ _ _ _ _ hr hu=>
by walk_at "~76"
theorem fo:aF ["state", "name", "count", "way"] ["state", "name"] (ao jJ):=by walk_at "sc"
theorem y6 (T:Txt w.params K mg t):aQ P w K mg base 1 "under_way" ["state", "name"] L3.fL:=aI T.yo T.zB fo L3.tI L3.vT (λ_ _ _ _ _ _ _ _=>by (rename_i hl;obtain ⟨x0,x1,e⟩:=U8 hl;subst e;rfl)) λ_ _ _ _ _ _ hr hu=>
by walk_at "~77"
theorem yD:aF ["kept", "places"] ["kept", "places"] (ao pC):=by walk_at "sc"
theorem A3 (T:Txt w.params K mg t):aQ P w K mg base 1 "new_ones" ["kept", "places"] L3.gk:=aI T.A7 T.Ac yD L3.vK L3.yH (λ_ _ _ _ _ _ _ _=>by (rename_i hl;obtain ⟨x0,x1,e⟩:=U8 hl;subst e;rfl)) λ_ _ _ _ _ _ hr hu=>
by walk_at "~78"
theorem dY:aF ["kept", "places", "old", "count", "first", "left", "filled"] ["kept", "places"] (ao qV):=by walk_at "sc"
theorem BQ (T:Txt w.params K mg t):aQ P w K mg base 2 "sent_off" ["kept", "places"] L3.gm:=aI T.AA T.BW dY L3.wL L3.zm (λ_ _ _ _ _ _ _ _=>by (rename_i hl;obtain ⟨x0,x1,e⟩:=U8 hl;subst e;rfl)) λ_ _ _ _ _ _ hr hu=>
by walk_at "~79"
theorem ig:aF ["grid", "sender", "kept", "state", "heard", "told", "again", "ready"] ["grid", "sender", "kept", "state"] (ao zd):=by walk_at "sc"
theorem IF (T:Txt w.params K mg t):aQ P w K mg base 6 "beaten" ["grid", "sender", "kept", "state"] L3.jZ:=aI T.JG T.Ip ig L3.Ax L3.Fe (λ_ _ _ _ _ _ _ _=>by (rename_i hl;obtain ⟨x0,x1,x2,x3,e⟩:=S5 hl;subst e;rfl)) λ_ _ _ _ _ _ hr hu=>
by walk_at "~80"
theorem cG:aF ["senders", "numbers", "sent", "turn", "sender", "own"] ["senders", "numbers"] (ao eZ):=by walk_at "sc"
theorem oE (T:Txt w.params K mg t):aQ P w K mg base 1 "sent_in_order" ["senders", "numbers"] L3.dA:=aI T.oK T.oH cG L3.lu L3.mP (λ_ _ _ _ _ _ _ _=>by (rename_i hl;obtain ⟨x0,x1,e⟩:=U8 hl;subst e;rfl)) λ_ _ _ _ _ _ hr hu=>
by walk_at "~81"
theorem jQ:aF ["way", "names", "kept", "sent", "came", "held", "told"] ["way", "names", "kept", "sent"] (ao ri):=by walk_at "sc"
theorem Kx (T:Txt w.params K mg t):aQ P w K mg base 4 "passed" ["way", "names", "kept", "sent"] L3.jO:=aI T.Hz T.JO jQ L3.A5 L3.EY (λ_ _ _ _ _ _ _ _=>by (rename_i hl;obtain ⟨x0,x1,x2,x3,e⟩:=S5 hl;subst e;rfl)) λ_ _ _ _ _ _ hr hu=>
by walk_at "~82"
theorem kn:aF ["roads", "letter", "road"] ["roads", "letter"] (ao lB):=by walk_at "sc"
theorem iM (T:Txt w.params K mg t):aQ P w K mg base 1 "way_behind" ["roads", "letter"] L3.cY:=aI T.u4 T.vL kn L3.qO L3.tK (λ_ _ _ _ _ _ _ _=>by (rename_i hl;obtain ⟨x0,x1,e⟩:=U8 hl;subst e;rfl)) λ_ _ _ _ _ _ hr hu=>
by walk_at "~83"
theorem cQ:aF ["way", "roads", "went", "events", "place", "letter", "word"] ["way", "roads", "went"] (ao nh):=by walk_at "sc"
theorem xP (T:Txt w.params K mg t):aQ P w K mg base 2 "events_of" ["way", "roads", "went"] L3.fA:=aI T.xx T.zS cQ L3.tf L3.wX (λ_ _ _ _ _ _ _ _=>by (rename_i hl;obtain ⟨x0,x1,x2,e⟩:=SY hl;subst e;rfl)) λ_ _ _ _ _ _ hr hu=>
by walk_at "~84"
theorem Ni:aF ["letter", "hops"] ["letter", "hops"] (ao Kt):=by walk_at "sc"
theorem Je (T:Txt w.params K mg t):aQ P w K mg base 1 "aged" ["letter", "hops"] L3.kU:=aI T.Qa T.QC Ni L3.JZ L3.MN (λ_ _ _ _ _ _ _ _=>by (rename_i hl;obtain ⟨x0,x1,e⟩:=U8 hl;subst e;rfl)) λ_ _ _ _ _ _ hr hu=>
by walk_at "~85"
theorem lT:aF ["way", "roads", "went", "out", "coming"] ["way", "roads", "went", "out"] (ao gs):=by walk_at "sc"
theorem xI (T:Txt w.params K mg t):aQ P w K mg base 2 "way_after" ["way", "roads", "went", "out"] L3.fz:=aI T.xy T.xE lT L3.tm L3.vM (λ_ _ _ _ _ _ _ _=>by (rename_i hl;obtain ⟨x0,x1,x2,x3,e⟩:=S5 hl;subst e;rfl)) λ_ _ _ _ _ _ hr hu=>
by walk_at "~86"
theorem vw:aF ["sender", "due"] ["sender", "due"] (ao nr):=by walk_at "sc"
theorem xn (T:Txt w.params K mg t):aQ P w K mg base 1 "due_after" ["sender", "due"] L3.fG:=aI T.zc T.xY vw L3.sQ L3.vn (λ_ _ _ _ _ _ _ _=>by (rename_i hl;obtain ⟨x0,x1,e⟩:=U8 hl;subst e;rfl)) λ_ _ _ _ _ _ hr hu=>
by walk_at "~87"
theorem bJ:aF ["sender", "kept", "lost", "taken", "numbers", "own", "marked", "wait", "heard", "start"] ["sender", "kept", "lost", "taken"] (ao cF):=by walk_at "sc"
theorem qH (T:Txt w.params K mg t):aQ P w K mg base 2 "sender_after" ["sender", "kept", "lost", "taken"] L3.dO:=aI T.rj T.rO bJ L3.mB L3.oI (λ_ _ _ _ _ _ _ _=>by (rename_i hl;obtain ⟨x0,x1,x2,x3,e⟩:=S5 hl;subst e;rfl)) λ_ _ _ _ _ _ hr hu=>
by walk_at "~88"
theorem bA:aF ["plan", "state", "senders", "names", "roads", "beats", "sent", "went", "events", "lost", "out", "way", "told", "taken", "ways", "after"] ["plan", "state"] (ao cK):=by walk_at "sc"
theorem FD (T:Txt w.params K mg t):aQ P w K mg base 7 "stepped" ["plan", "state"] L3.iV:=aI T.DZ T.Fi bA L3.zR L3.BV (λ_ _ _ _ _ _ _ _=>by (rename_i hl;obtain ⟨x0,x1,e⟩:=U8 hl;subst e;rfl)) λ_ _ _ _ _ _ hr hu=>
by walk_at "~89"
theorem cO:aF ["letters", "firsts", "lowered", "letter", "number"] ["letters", "firsts"] (ao gn):=by walk_at "sc"
theorem gj (T:Txt w.params K mg t):aQ P w K mg base 1 "letters_lowered" ["letters", "firsts"] bS:=aI T.lP T.lq cO j6 kx (λ_ _ _ _ _ _ _ _=>by (rename_i hl;obtain ⟨x0,x1,e⟩:=U8 hl;subst e;rfl)) λ_ _ _ _ _ _ hr hu=>
by walk_at "~90"
theorem d9:aF ["kept", "again", "lost"] ["kept"] (ao dz):=by walk_at "sc"
theorem mW (T:Txt w.params K mg t):aQ P w K mg base 1 "sender_lowered" ["kept"] c8:=aI T.me T.mE d9 kA lY (λ_ _ _ _ _ _ _ _=>by (rename_i hl;obtain ⟨x0,e⟩:=Uu hl;subst e;rfl)) λ_ _ _ _ _ _ hr hu=>
by walk_at "~91"
theorem iN:aF ["state", "firsts", "ways", "kept"] ["state"] (ao jN):=by walk_at "sc"
theorem uI (T:Txt w.params K mg t):aQ P w K mg base 2 "like_of" ["state"] fX:=aI T.E9 T.Fy iN xu Cc (λ_ _ _ _ _ _ _ _=>by (rename_i hl;obtain ⟨x0,e⟩:=Uu hl;subst e;rfl)) λ_ _ _ _ _ _ hr hu=>
by walk_at "~92"
theorem sZ:aF ["plan"] ["plan"] (ao md):=by walk_at "sc"
theorem vz (T:Txt w.params K mg t):aQ P w K mg base 7 "first_like" ["plan"] eO:=aI T.u9 T.vj sZ su sM (λ_ _ _ _ _ _ _ _=>by (rename_i hl;obtain ⟨x0,e⟩:=Uu hl;subst e;rfl)) λ_ _ _ _ _ _ hr hu=>
by walk_at "~93"
theorem pN:aF ["plan", "like"] ["plan", "like"] (ao km):=by walk_at "sc"
theorem tG (T:Txt w.params K mg t):aQ P w K mg base 8 "like_behind" ["plan", "like"] eF:=aI T.sF T.sT pN oi qQ (λ_ _ _ _ _ _ _ _=>by (rename_i hl;obtain ⟨x0,x1,e⟩:=U8 hl;subst e;rfl)) λ_ _ _ _ _ _ hr hu=>
by walk_at "~94"
theorem jG:aF ["plan", "most", "like", "seen", "turn"] ["plan", "most"] (ao s_again):=by walk_at "sc"
theorem vd (T:Txt w.params K mg t):aQ P w K mg base 9 "again" ["plan", "most"] gW:=aI T.KQ T.N4 jG Eb IH (λ_ _ _ _ _ _ _ _=>by (rename_i hl;obtain ⟨x0,x1,e⟩:=U8 hl;subst e;rfl)) λ_ _ _ _ _ _ hr hu=>
by walk_at "~95"
theorem nP:aF ["_law_number", "_law_turn", "_law_one"] ["_law_number", "_law_turn"] (ao qz):=by walk_at "sc"
theorem pR (T:Txt w.params K mg t):aQ P w K mg base 1 "_law_mix" ["_law_number", "_law_turn"] da:=aI T.Ca T.By nP ve xD (λ_ _ _ _ _ _ _ _=>by (rename_i hl;obtain ⟨x0,x1,e⟩:=U8 hl;subst e;rfl)) λ_ _ _ _ _ _ hr hu=>
by walk_at "~96"
theorem xp:aF ["_law_cells"] ["_law_cells"] (ao qx):=by walk_at "sc"
theorem Bg (T:Txt w.params K mg t):aQ P w K mg base 1 "_law_pot" ["_law_cells"] gu:=aI T.Cj T.AE xp uY xw (λ_ _ _ _ _ _ _ _=>by (rename_i hl;obtain ⟨x0,e⟩:=Uu hl;subst e;rfl)) λ_ _ _ _ _ _ hr hu=>
by walk_at "~97"
theorem dm:aF ["_law_pot_here", "_law_many", "_law_digit", "_law_cell", "_law_at"] ["_law_pot_here", "_law_many"] (ao ng):=by walk_at "sc"
theorem aW (T:Txt w.params K mg t):aQ P w K mg base 2 "_law_take" ["_law_pot_here", "_law_many"] aM:=aI T.yk T.xZ dm sY vN (λ_ _ _ _ _ _ _ _=>by (rename_i hl;obtain ⟨x0,x1,e⟩:=U8 hl;subst e;rfl)) λ_ _ _ _ _ _ hr hu=>
by walk_at "~98"
theorem lL:aF ["_law_one", "_law_due"] ["_law_one", "_law_due"] (ao jy):=by walk_at "sc"
theorem nL {Pm:ze7}(T:Txt Pm K mg t):Binds K t.gy ["_law_one", "_law_due"] []:=T.df.binds λ_ _ _ _ _ _ _ _=>by (rename_i hl;obtain ⟨x0,x1,e⟩:=U8 hl;subst e;rfl)
theorem kq (T:Txt w.params K mg t):∀ n:Nat,i4 P w K mg base CX0 (1+n) t.gv t.gy ["_law_one", "_law_due"] (lift K (dg n))
 | 0=>Vp T.df lL
 | n+1=>by
  refine Hx (k:=1+n) (T:=ju (dg n)) T.df lL (oq (n+1)) (λcdv A outer s H E hr=>?_) (rD n)
  have hu:=hr.units
  exact aj (bZ (i6 (aN D6 (J5 _) rfl T.bx rfl (aa (ae 1) (aa (aL (aa (OR rfl T.bh rfl) (aa (OR rfl T.mY rfl) (ai)))) (ai))))) (aj (bZ (LW.lt (zK (uC hu (fR rfl T.bx rfl (ae 0) rfl T.bh rfl) (fR rfl T.bx rfl (ae 1) rfl T.bh rfl)) (rA (uC hu (fR rfl T.bx rfl (ae 0) rfl T.mY rfl) (fR rfl T.bx rfl (ae 1) rfl T.mY rfl))))) (ax (aD (JH))) (bf)) (ax (aD (pA (le_eq hu (aN aV bD rfl T.de rfl (aa (ae 0) (ai))) (aN aV bD rfl T.de rfl (aa (ae 1) (ai)))) (pQ (aN (Fj rfl) MB rfl T.Ur rfl (aa (bI (fsc:=ao jy) ["_law_one", "_law_due"] ["_law_mine", "_law_its"] 2 [] rfl rfl (iL rfl T.qD (aa (ae 0) (aa (ae 1) (ai)))) (λcl C s₀ H₀ ex=>⟨gG rfl (bF 0 (show (["_law_mine", "_law_its"]:List Str).Nodup from by decide +kernel) (bF 1 (show (["_law_mine", "_law_its"]:List Str).Nodup from by decide +kernel) (eU))),bH,Ct (kq T n) (hr.mono (by lia)) rfl T.nJ T.df.kp (nL T) (aa (ae 0) (aa (ae 1) (ai)))⟩) rfl rfl (by decide +kernel)) (ai)))))))) (bf)) (aj (bZ (nQ (ae 1) (cZ)) (ax (aD (Uc (ae 0) (cZ)))) (bf)) (aj (bZ (i6 (fR rfl T.bx rfl (ae 1) rfl T.O7 rfl)) (ax (aD (pA (fR rfl T.bx rfl (ae 0) rfl T.O7 rfl) (pQ (le_eq hu (ae 0) (ae 1)))))) (bf)) (aj (bZ (LW.lt (zK (i6 (fR rfl T.bx rfl (ae 1) rfl T.wF rfl)) (rA (i6 (fR rfl T.bx rfl (ae 0) rfl T.wF rfl))))) (ax (aD (pA (fR rfl T.bx rfl (ae 1) rfl T.wF rfl) (pA (fR rfl T.bx rfl (ae 0) rfl T.wF rfl) (pQ (le_eq hu (ae 0) (ae 1))))))) (bf)) (ax (aD (pA (fR rfl T.bx rfl (ae 0) rfl T.OU rfl) (pQ (le_eq hu (ae 0) (ae 1)))))))))
theorem df (T:Txt w.params K mg t):i4 P w K mg base CX0 7 t.gv t.gy ["_law_one", "_law_due"] (lift K fH):=kq T 6
theorem nC (T:Txt w.params K mg t):aQ P w K mg base 7 "_law_same" ["_law_one", "_law_due"] fH:=⟨_,_,df T,T.nJ,T.df.kp,nL T⟩
theorem br:aF ["_law_pot_here", "_law_name", "_law_ways", "_law_beats", "_law_most", "_law_great", "_law_window", "_law_beat", "_law_begin", "_law_road", "_law_left", "_law_first"] ["_law_pot_here", "_law_name", "_law_ways", "_law_beats", "_law_most"] (ao kj):=by walk_at "sc"
theorem sI (T:Txt w.params K mg t):aQ P w K mg base 3 "_law_sender" ["_law_pot_here", "_law_name", "_law_ways", "_law_beats", "_law_most"] cE:=aI T.sG T.sE br oM qt (λ_ _ _ _ _ _ _ _=>by (rename_i hl;obtain ⟨x0,x1,x2,x3,x4,e⟩:=US hl;subst e;rfl)) λ_ _ _ _ _ _ hr hu=>
by walk_at "~99"
theorem eX:aF ["_law_numbers", "_law_number"] ["_law_numbers"] (ao fT):=by walk_at "sc"
theorem sk (T:Txt w.params K mg t):aQ P w K mg base 1 "_law_divided" ["_law_numbers"] dR:=aI T.qG T.rf eX m7 ow (λ_ _ _ _ _ _ _ _=>by (rename_i hl;obtain ⟨x0,e⟩:=Uu hl;subst e;rfl)) λ_ _ _ _ _ _ hr hu=>
by walk_at "~100"
theorem cV:aF ["_law_script", "_law_pot_here", "_law_names", "_law_beats", "_law_many", "_law_senders", "_law_firsts", "_law_greats", "_law_name", "_law_sender_here", "_law_first", "_law_great", "_law_pace", "_law_ways", "_law_goers", "_law_sort", "_law_plan", "_law_due"] ["_law_script"] (ao Dn):=by walk_at "sc"
theorem CC (T:Txt w.params K mg t):i4 P w K mg base CX0 10 t.IX t.OJ ["_law_script"] (lift K gR):=by
 refine Hx (T:=Hs) T.CC cV vS (λcdv A outer s H E hr=>?_) Ra
 have hu:=hr.units
 exact aj (aB 1 cV.nd (ar (Bg T) hr rfl (aa (ae 0) (ai)))) (aj (aB 2 cV.nd (gF (dF (aa (le_str) (aa (le_str) (aa (le_str) (aa (le_str) (aa (le_str) (aa (le_str) (ai)))))))) (h9) (dU (aH (le_int) (ar (aW T) hr rfl (aa (ae 1) (aa (le_int) (ai)))))))) (aj (aB 3 cV.nd (aq (dF (aa (dF (aa (le_int) (ai))) (aa (dF (aa (le_int) (aa (le_int) (aa (le_int) (aa (le_int) (ai)))))) (aa (dF (aa (le_int) (aa (le_int) (aa (le_int) (ai))))) (aa (dF (aa (le_int) (aa (le_int) (ai)))) (aa (dF (aa (le_int) (ai))) (aa (dF (aa (le_int) (aa (le_int) (ai)))) (aa (dF (aa (le_int) (aa (le_int) (ai)))) (aa (dF (aa (le_int) (aa (le_int) (ai)))) (ai)))))))))) (ar (aW T) hr rfl (aa (ae 1) (aa (le_int) (ai)))))) (aj (aB 3 cV.nd (aH (ae 3) (dF (aa (ar (aW T) hr rfl (aa (ae 1) (aa (le_int) (ai)))) (ai))))) (aj (aB 4 cV.nd (ar (aW T) hr rfl (aa (ae 1) (aa (le_int) (ai))))) (aj (MZ 5 6 7 rfl cV.nd (aa (eW (ai)) (aa (eW (aa (le_int) (ai))) (aa (eW (aa (le_int) (ai))) (ai))))) (aj (fc X7 rfl (bG (gF (dF (aa (le_str) (aa (le_str) (aa (le_str) (aa (le_str) (aa (le_str) (aa (le_str) (aa (le_str) (aa (le_str) (ai)))))))))) (h9) (dU (ae 4)))) (fM 8 cV.nd) (aj (Gy (ar (sI T) hr rfl (aa (ae 1) (aa (ae 8) (aa (ae 2) (aa (ae 3) (aa (gI (l3 (ae 4) (le_int)) (le_int) (le_int)) (ai))))))) (rY rfl (c9 9 cV.nd (c9 10 cV.nd (c9 11 cV.nd (kY)))))) (aj (cS (le_app (ae 5) (ae 9))) (aj (cS (le_app (ae 6) (ae 10))) (ax (cS (le_app (ae 7) (ae 11)))))))) (aj (aB 12 cV.nd (aN (j4 rfl) l9 rfl T.rP rfl (aa (le_int) (aa (aN (uw rfl) xV rfl T.Ou rfl (aa (qE (ae 7)) (ai))) (ai))))) (aj (aB 13 cV.nd (eW (ai))) (aj (fc X7 rfl (bG (ae 2)) (fM 8 cV.nd) (aj (aB 14 cV.nd (aN aV bD rfl T.de rfl (aa (mL (fsc:=ao Dn) ["_law_script", "_law_pot_here", "_law_names", "_law_beats", "_law_many", "_law_senders", "_law_firsts", "_law_greats", "_law_name", "_law_sender_here", "_law_first", "_law_great", "_law_pace", "_law_ways", "_law_goers", "_law_sort", "_law_plan", "_law_due"] ["_law_sender_here", "_law_name"] 1 [8] rfl rfl (ae 5) (λcl C s₀ H₀ ex=>⟨bj 0 (show (["_law_sender_here", "_law_name"]:List Str).Nodup from by decide +kernel),eR (lt_eq hu (aq (ae 0) (le_int)) (aL (aa (ae 1) (ai)))),ae 0⟩) rfl rfl (by decide +kernel)) (ai)))) (aj (aB 15 cV.nd (aq (dF (aa (le_str) (aa (le_str) (ai)))) (le_mul (ar (aW T) hr rfl (aa (ae 1) (aa (le_int) (ai)))) (aP EH Ol rfl T.OU rfl (aa (OG (ae 14) (le_int)) (ai)))))) (ax (cS (le_app (ae 13) (aL (aa (ae 8) (aa (ae 12) (aa (aH (ae 12) (ar (aW T) hr rfl (aa (ae 1) (aa (le_int) (ai))))) (aa (cZ) (aa (ae 15) (ai))))))))))))) (aj (aB 16 cV.nd (aL (aa (aH (le_int) (ar (aW T) hr rfl (aa (ae 1) (aa (le_int) (ai))))) (aa (aP aG aU rfl T.bh rfl (aa (ae 13) (ai))) (aa (aP aG aU rfl T.bh rfl (aa (ae 5) (ai))) (ai)))))) (aj (aB 10 cV.nd (aN (Eu rfl) GF rfl T.rP rfl (aa (qE (ae 6)) (ai)))) (aj (aB 17 cV.nd (aL (aa (ae 10) (aa (aH (ae 10) (ar (sk T) hr rfl (aa (mL (fsc:=ao Dn) ["_law_script", "_law_pot_here", "_law_names", "_law_beats", "_law_many", "_law_senders", "_law_firsts", "_law_greats", "_law_name", "_law_sender_here", "_law_first", "_law_great", "_law_pace", "_law_ways", "_law_goers", "_law_sort", "_law_plan", "_law_due"] ["_law_sender_here"] 1 [] rfl rfl (ae 5) (λcl C s₀ H₀ ex=>⟨bj 0 (show (["_law_sender_here"]:List Str).Nodup from by decide +kernel),bH,aq (ae 0) (le_int)⟩) rfl rfl (by decide +kernel)) (ai)))) (ai))))) (aj (bZ (LW.lt (zK (Qx (i6 (ar (nC T) hr rfl (aa (ar (vd T) hr rfl (aa (ae 16) (aa (aq (ae 17) (le_int)) (ai)))) (aa (ae 17) (ai)))))) (rA (F4 (ar (vd T) hr rfl (aa (ae 16) (aa (dj (aq (ae 17) (le_int)) (le_int)) (ai)))) (cZ))))) (ax (aD (JH))) (bf)) (ax (aD (ar (nC T) hr rfl (aa (ar (vd T) hr rfl (aa (ae 16) (aa (aH (aH (aq (ae 17) (le_int)) (le_int)) (ar (aW T) hr rfl (aa (ae 1) (aa (le_int) (ai))))) (ai)))) (aa (ae 17) (ai)))))))))))))))))))
end
theorem all_mk {l:zcr}{w:X0}{K:Xa}{mg:Str->Option Xe}{fa:Addr}{t:Adr}(hfa:mg "law" = some (.ref fa))(T:Txt w.params K mg t):∃ fd:XB,(∀ (s:Xg) (v:Xe),zdP s fd ⟨[v],[]⟩ [("_law_script", v)])/\∀ base:Heap,K.In base->base.Ns YJ mg->i4 l.prog w K mg base CX0 10 fa fd ["_law_script"] (lift K gR):=by
 have e:=hfa.symm.trans T.Uv
 injection e with e
 injection e with e
 subst e
 obtain ⟨oc,od,kV,dc,pm,an,cd,ct,sl,ed,_,_⟩:=T.CC.ex
 exact ⟨_,λs v=>.of_eq (by rw[ed];rfl),λbase _ _=>CC T⟩
end Kk
namespace PySem.W.Fast
def tw17000467656079115932:=0
def tw14884407987680582656:=0
def tw17213556405122135264:=0
def tw12216934332841779776:=0
def tw7676665171553965249:=0
def tw5688449050870028545:=0
def tw3365369852480339265:=0
def tw8319954809503414753:=0
def tw2387496833174957857:=0
def tw10390552512711195617:=0
def tw14632647358497656098:=0
def tw1564612267172045250:=0
def tw11344457801555291682:=0
def tw18308392369383235426:=0
def tw10095425623035185219:=0
def tw2886389358192666755:=0
def tw5133911142615360739:=0
def tw6165314315020183907:=0
def tw6559114754639044740:=0
def tw13372033504379126244:=0
def tw14932308186548012644:=0
def tw10783685546973451908:=0
def tw14352103533066823396:=0
def tw17234947058097508068:=0
def tw9729570965386799876:=0
def tw7563823375066186692:=0
def tw2070618669051592709:=0
def tw16692735632910672133:=0
def tw4589883098112221605:=0
def tw12893022639693744805:=0
def tw17344314738500695845:=0
def tw11454131864625424550:=0
def tw10166667043111573958:=0
def tw459220347643079398:=0
def tw9369345302838588423:=0
def tw9231050224135908711:=0
def tw5092809675099684647:=0
def tw14930092398542300999:=0
def tw12922941826361025383:=0
def tw1622093031599400488:=0
def tw18319194610239447912:=0
def tw12997479059783281897:=0
def tw2817111802604126505:=0
def tw16849606197825980841:=0
def tw12736270632886916553:=0
def tw7198961336949464745:=0
def tw2495617617981406314:=0
def tw18031983402960393450:=0
def tw4641043207761695658:=0
def tw8906747519006510058:=0
def tw364788999211694347:=0
def tw358529399067774635:=0
def tw16361915675119505067:=0
def tw4632496217051002956:=0
def tw10098745740397616492:=0
def tw18427001220133930476:=0
def tw10811801205559512588:=0
def tw14424265740007460556:=0
def tw12344438578557404269:=0
def tw1817711612369348813:=0
def tw3806074393479210381:=0
def tw2497664542314877325:=0
def tw10034753201368977869:=0
def tw9475782090572590605:=0
def tw8452411858591672174:=0
def tw18137092431803160591:=0
def tw7422010845047778383:=0
def tw5654487059930953903:=0
def tw1774278467825249551:=0
def tw11995524555344815503:=0
def tw5163329577849431471:=0
def tw10913512698214463087:=0
def tw3615827464753309359:=0
def tw10781606343803662095:=0
def tw4548360933065329744:=0
def tw5055140268562181232:=0
def tw8971800838475105424:=0
def tw17579689788253196432:=0
def tw14185804260348736816:=0
def tw1575263584366717232:=0
def tw16552199076451690832:=0
def tw12667146563131601712:=0
def tw17102376727127369680:=0
def tw734784392767306993:=0
def tw1089540962424648977:=0
def tw12800468065499224465:=0
def tw9505378315683535890:=0
def tw15331696736635117618:=0
def tw3945133363231902418:=0
def tw5764119829186041875:=0
def tw18270015234789001779:=0
def tw14216128583359611699:=0
def tw5289135725963216883:=0
def tw2561003840645209652:=0
def tw9834202762586964532:=0
def tw17041050595153075092:=0
def tw846426395480658997:=0
def tw6916984671036142933:=0
def tw7944760755729849941:=0
def tw5007307021823775573:=0
def tw17084342594326608918:=0
def tw308714941911461174:=0
def tw1739947096777661846:=0
def tw432361599351955862:=0
def tw16784711626131814070:=0
def tw2228880931115157174:=0
def tw3017840279288850455:=0
def tw9733732418372229303:=0
def tw11876831433403595255:=0
def tw4744131470789663671:=0
def tw910063495865378105:=0
def tw16571035944593973625:=0
def tw17807805035253060089:=0
def tw9626943105194010265:=0
def tw13042460533227374265:=0
def tw2911236569130363994:=0
def tw11798280328082959482:=0
def tw10252322520960409786:=0
def tw11236382817312125274:=0
def tw5927859894573520666:=0
def tw7867012607665831323:=0
def tw10831978683726897979:=0
def tw3261198034918333307:=0
def tw4419175240811882524:=0
def tw3514944749476857980:=0
def tw8686072452376719708:=0
def tw10565029512400105501:=0
def tw6691634736994484797:=0
def tw2468234344841625277:=0
def tw3406500304396623709:=0
def tw9657424507975348606:=0
def tw16304683050781434238:=0
def tw3614089999091947006:=0
def tw17321830760566861822:=0
def tw9044171135205503:=0
def tw16518277100598013247:=0
end PySem.W.Fast
open PySem PySem.W PyProof.Rows L2 L3
set_option maxRecDepth 100000 in
set_option maxHeartbeats 0 in
theorem PySem.Challenge.cw_swellways_k45_again_known_holds : PySem.Challenge.rw_swellways_k45_again_known.Holds := by
 w_on;o_law;k_head;(case hw=>w_witness2)
 k_fill
 refine L3.Uo (l:=PySem.Challenge.rw_swellways_k45_again_known) (k:=10) (sp:=Kk.gR) (x := "_law_script") rfl rfl ⟨rfl,by decide,by decide⟩ (λw h Y=>PySem.W.kIn_of Y) Kk.mX ?F
 case F=>
  intro w mg fa h KX G hmg
  refine' Kk.all_mk (t:=⟨_,_,_,_,_,_,_,_,_,_,_,_,_,_,_,_,_,_,_,_,_,_,_,_,_,_,_,_,_,_,_,_,_,_,_,_,_,_,_,_,_,_,_,_,_,_,_,_,_,_,_,_,_,_,_,_,_,_,_,_,_,_,_,_,_,_,_,_,_,_,_,_,_,_,_,_,_,_,_,_,_,_,_,_,_,_,_,_,_,_,_,_,_,_,_,_,_,_⟩) hmg ⟨Yq KX G ?_,aR ?_ ?_ ?_,Yq KX G ?_,aR ?_ ?_ ?_,Yq KX G ?_,aR ?_ ?_ ?_,Yq KX G ?_,aR ?_ ?_ ?_,Yq KX G ?_,aR ?_ ?_ ?_,Yq KX G ?_,aR ?_ ?_ ?_,Yq KX G ?_,aR ?_ ?_ ?_,Yq KX G ?_,aR ?_ ?_ ?_,Yq KX G ?_,aR ?_ ?_ ?_,Yq KX G ?_,aR ?_ ?_ ?_,Yq KX G ?_,aR ?_ ?_ ?_,Yq KX G ?_,aR ?_ ?_ ?_,Yq KX G ?_,aR ?_ ?_ ?_,Yq KX G ?_,aR ?_ ?_ ?_,Yq KX G ?_,aR ?_ ?_ ?_,Yq KX G ?_,aR ?_ ?_ ?_,Yq KX G ?_,aR ?_ ?_ ?_,Yq KX G ?_,aR ?_ ?_ ?_,Yq KX G ?_,aR ?_ ?_ ?_,Yq KX G ?_,aR ?_ ?_ ?_,Yq KX G ?_,aR ?_ ?_ ?_,Yq KX G ?_,aR ?_ ?_ ?_,Yq KX G ?_,aR ?_ ?_ ?_,Yq KX G ?_,aR ?_ ?_ ?_,Yq KX G ?_,aR ?_ ?_ ?_,Yq KX G ?_,aR ?_ ?_ ?_,Yq KX G ?_,aR ?_ ?_ ?_,Yq KX G ?_,aR ?_ ?_ ?_,Yq KX G ?_,aR ?_ ?_ ?_,Yq KX G ?_,aR ?_ ?_ ?_,Yq KX G ?_,aR ?_ ?_ ?_,Yq KX G ?_,aR ?_ ?_ ?_,Yq KX G ?_,aR ?_ ?_ ?_,Yq KX G ?_,aR ?_ ?_ ?_,Yq KX G ?_,aR ?_ ?_ ?_,Yq KX G ?_,aR ?_ ?_ ?_,Yq KX G ?_,aR ?_ ?_ ?_,Yq KX G ?_,aR ?_ ?_ ?_,Yq KX G ?_,aR ?_ ?_ ?_,Yq KX G ?_,aR ?_ ?_ ?_,Yq KX G ?_,aR ?_ ?_ ?_,Yq KX G ?_,aR ?_ ?_ ?_,Yq KX G ?_,aR ?_ ?_ ?_,Yq KX G ?_,aR ?_ ?_ ?_,Yq KX G ?_,aR ?_ ?_ ?_,Yq KX G ?_,aR ?_ ?_ ?_,Yq KX G ?_,aR ?_ ?_ ?_,Yq KX G ?_,aR ?_ ?_ ?_,Yq KX G ?_,aR ?_ ?_ ?_,Yz KX G ?_,Yz KX G ?_,Yz KX G ?_,Yz KX G ?_,Yz KX G ?_,Yz KX G ?_,Yz KX G ?_,Yz KX G ?_,Yz KX G ?_,Yz KX G ?_,Yz KX G ?_,Yz KX G ?_,Yz KX G ?_,Yz KX G ?_,Yz KX G ?_,Yz KX G ?_,Yz KX G ?_,bu KX G ?_,bu KX G ?_,bu KX G ?_,bu KX G ?_,bu KX G ?_,bu KX G ?_,bu KX G ?_,bu KX G ?_,Ag (its:=#[.int 1 _,.int 2 _]) (xs:=[V.int 1,V.int 2]) KX G ?_ ?_ ?_ ?_ ?_ (show 2<=sizeLine by decide) (.cons ⟨_,rfl⟩ (.cons ⟨_,rfl⟩ (.nil))) (λ_=>.cons (.int _) (.cons (.int _) (.nil))),bu KX G ?_,bu KX G ?_,bu KX G ?_,bu KX G ?_,bu KX G ?_,bu KX G ?_,bu KX G ?_,bu KX G ?_,bu KX G ?_,bu KX G ?_,Ag (its:=#[.int 0 _,.int 1 _]) (xs:=[V.int 0,V.int 1]) KX G ?_ ?_ ?_ ?_ ?_ (show 2<=sizeLine by decide) (.cons ⟨_,rfl⟩ (.cons ⟨_,rfl⟩ (.nil))) (λ_=>.cons (.int _) (.cons (.int _) (.nil))),bu KX G ?_,Ag (its:=#[.int 1 _,.int 1 _]) (xs:=[V.int 1,V.int 1]) KX G ?_ ?_ ?_ ?_ ?_ (show 2<=sizeLine by decide) (.cons ⟨_,rfl⟩ (.cons ⟨_,rfl⟩ (.nil))) (λ_=>.cons (.int _) (.cons (.int _) (.nil))),bu KX G ?_,bu KX G ?_,bu KX G ?_,bu KX G ?_,bu KX G ?_,bu KX G ?_,bu KX G ?_,bu KX G ?_,bu KX G ?_,bu KX G ?_,bu KX G ?_,bu KX G ?_,bu KX G ?_⟩
  all_goals try first | k_is | rfl
