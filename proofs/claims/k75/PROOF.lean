import PyProof.Rows.All
import Wide.All
import OpenK.AllK
import Wide.FinOn
import Lean
import PyProof.EqAt
import PyProof.EqKinds
import PyProof.TupleCall
import PyProof.P3Eq
import PyProof.NeKinds
import PyProof.NeData
import PyProof.ZipIter
import PyProof.EnumMake
import PyProof.EnumFor
import OpenK.KTop
import PyProof.IsRules
import PyProof.AttrMissHeap
import PyProof.DictUpdate
import KE.KDictOf
import PyProof.Rows.SortStr
import PyProof.FString5
import PyProof.StrOps
import PyProof.ListRange
import PyProof.TupleOfGen
import PyProof.Rows.SumAny
import PyProof.Rows.CallKwBuiltin
import PyProof.StrLoop
import PyProof.StrWalks
import PyProof.StrOps2
import PyProof.SliceStr2
import PyProof.StrBlockI
import PyProof.StrLaws
import PyProof.StrBlock
import PyProof.StrBlockL
import PyProof.StrCalls2
import KE.KStrOpen
import KE.KDictList
import PyProof.DictValues
import PyProof.DictTruth
import PyProof.MeetsDict
import PyProof.Rows.FStr
import PyProof.Rows.StrJoin2
import PyProof.CallStr
import PyProof.Rows.StrJoinMade
import PyProof.Rows.ReprOcc
import PySem.Challenge.RW_swellways_k75_plans_written
set_option Elab.async false
set_option linter.all false
set_option maxRecDepth 100000
set_option maxHeartbeats 4000000
namespace L2
open PySem PySem.Spec PyProof.Rows
abbrev Key:=Sum Int Str
def j3:Key→Value→Bool
  | .inl k,v=>Value.isInt k v
  | .inr x,v=>Value.isStrOf x v
def Be (w:World):Key→Int
  | .inl k=>hashInt k
  | .inr x=>hashStr w x
theorem a6:∀ {k:Key} {v:Value},j3 k v=true→(∃ i t,k=Sum.inl i∧v=Value.int i t)∨(∃ x t,k=Sum.inr x∧v=Value.str x t)
  | .inl i,v,h=>by
    obtain ⟨t,e⟩:=Value.isInt_shape (k:=i) (v:=v) h
    exact .inl ⟨i,t,rfl,e⟩
  | .inr x,v,h=>by
    obtain ⟨t,e⟩:=Value.isStrOf_shape (x:=x) (v:=v) h
    exact .inr ⟨x,t,rfl,e⟩
theorem qg (i:Int)(t:Tok):j3 (.inl i) (.int i t)=true:=by simp[j3,Value.isInt]
theorem qG (x:Str)(t:Tok):j3 (.inr x) (.str x t)=true:=by simp[j3,Value.isStrOf]
theorem xT (a b:Int):decide ((Sum.inl a:Key)=Sum.inl b)=(a == b):=by
  by_cases e:a=b
  · subst e;simp
  · have h:¬ (Sum.inl a:Key)=Sum.inl b:=fun q=>e (Sum.inl.inj q)
    rw[decide_eq_false h]
    exact (beq_eq_false_iff_ne.mpr e).symm
theorem zk (a b:Str):decide ((Sum.inr a:Key)=Sum.inr b)=decide (a=b):=by
  by_cases e:a=b
  · subst e;simp
  · have h:¬ (Sum.inr a:Key)=Sum.inr b:=fun q=>e (Sum.inr.inj q)
    rw[decide_eq_false h,decide_eq_false e]
theorem xG (a:Int)(b:Str):decide ((Sum.inl a:Key)=Sum.inr b)=false:=decide_eq_false (fun q=>nomatch q)
theorem yH (a:Str)(b:Int):decide ((Sum.inr a:Key)=Sum.inl b)=false:=decide_eq_false (fun q=>nomatch q)
def el (prog:Program)(w:World):PySem.KeyKind prog w Key where
  is:=j3
  hash:=Be w
  inj:=fun v a b ha hb=>by
    rcases a6 ha with ⟨i,t,rfl,rfl⟩ | ⟨x,t,rfl,rfl⟩
    · rcases a6 hb with ⟨j,u,rfl,e⟩ | ⟨y,u,rfl,e⟩
      · injection e with e1 _;rw[e1]
      · exact nomatch e
    · rcases a6 hb with ⟨j,u,rfl,e⟩ | ⟨y,u,rfl,e⟩
      · exact nomatch e
      · injection e with e1 _;rw[e1]
  byValue:=fun k v h=>by
    rcases a6 h with ⟨i,t,rfl,rfl⟩ | ⟨x,t,rfl,rfl⟩ <;> rfl
  pyHash:=fun hv h=>by
    rcases a6 hv with ⟨i,t,rfl,rfl⟩ | ⟨x,t,rfl,rfl⟩
    · exact wpAny_pyHash_int h
    · exact wpAny_pyHash_str h
  eqBool:=fun hu hv h=>by
    rcases a6 hu with ⟨i,t,rfl,rfl⟩ | ⟨x,t,rfl,rfl⟩
    · rcases a6 hv with ⟨j,u,rfl,rfl⟩ | ⟨y,u,rfl,rfl⟩
      · rw[xT] at h;exact wpAny_eqBool_int h
      · rw[xG] at h;exact SeqAt.EqAt.int_str i t y u _ _ _ _ h
    · rcases a6 hv with ⟨j,u,rfl,rfl⟩ | ⟨y,u,rfl,rfl⟩
      · rw[yH] at h;exact SeqAt.EqAt.str_int x t j u _ _ _ _ h
      · rw[zk] at h;exact wpAny_eqBool_str h
  «strs»:=fun k x t v h=>by
    rcases a6 h with ⟨i,u,rfl,e⟩ | ⟨y,u,rfl,e⟩
    · exact nomatch e
    · injection e with e1 _
      subst e1
      cases v<;>rfl
theorem mQ (prog:Program)(w:World)(i:Int)(t:Tok):(el prog w).is (.inl i) (.int i t)=true:=qg i t
theorem lY (prog:Program)(w:World)(x:Str)(t:Tok):(el prog w).is (.inr x) (.str x t)=true:=qG x t
end L2
namespace L2
open PySem PySem.Spec PyProof.Rows
inductive V where
  | non | bl (b:Bool) | int (i:Int) | str (x:Str) | byt (b:Array UInt8) | flt (b:UInt64) | ref (a:Addr) | ty (n:String)
  deriving DecidableEq
def RelV:V→Value→Prop
  | .non,u=>u=Value.none
  | .bl b,u=>u=Value.bool b
  | .int i,u=>∃ t,u=Value.int i t
  | .str x,u=>∃ t,u=Value.str x t
  | .byt b,u=>∃ t,u=Value.bytes b t
  | .flt b,u=>∃ t,u=Value.float b t
  | .ref a,u=>u=Value.ref a
  | .ty n,u=>u=Value.type n
abbrev Vals:List V→List Value→Prop:=Paired RelV
theorem Vals.length {xs:List V}{us:List Value}(r:Vals xs us):xs.length=us.length:=Paired.length r
theorem Vals.get:∀ {xs:List V} {us:List Value} {i:Nat} {x:V},Vals xs us→xs[i]? = some x→∃ u,us[i]? = some u∧RelV x u
  | _,_,_,_,.nil,e=>by simp at e
  | _,_,0,_,.cons r _,e=>by simp at e;subst e;exact ⟨_,rfl,r⟩
  | _,_,i+1,x,.cons _ t,e=>by
    obtain ⟨u,h1,h2⟩:=Vals.get (i:=i) (x:=x) t (by simpa using e)
    exact ⟨u,by simpa using h1,h2⟩
theorem Vals.set {x:V}{u:Value}(r:RelV x u):∀ {xs:List V} {us:List Value} (i:Nat),Vals xs us→Vals (xs.set i x) (us.set i u)
  | _,_,_,.nil=>.nil
  | _,_,0,.cons _ t=>.cons r t
  | _,_,i+1,.cons q t=>.cons q (Vals.set r i t)
theorem Vals.append:∀ {xs ys:List V} {us ws:List Value},Vals xs us→Vals ys ws→Vals (xs++ys) (us++ws)
  | _,_,_,_,.nil,s=>s
  | _,_,_,_,.cons r t,s=>.cons r (Vals.append t s)
theorem Vals.take:∀ {xs:List V} {us:List Value} (n:Nat),Vals xs us→Vals (xs.take n) (us.take n)
  | _,_,0,_=>.nil
  | _,_,_+1,.nil=>.nil
  | _,_,n+1,.cons r t=>.cons r (Vals.take n t)
theorem Vals.drop:∀ {xs:List V} {us:List Value} (n:Nat),Vals xs us→Vals (xs.drop n) (us.drop n)
  | _,_,0,r=>r
  | _,_,_+1,.nil=>.nil
  | _,_,n+1,.cons _ t=>Vals.drop n t
def l3:Option V→Option Value→Prop
  | some v,some u=>RelV v u
  | none,none=>True
  | _,_=>False
def KV {κ:Type}:List (κ×V)→List (κ×Value)→Prop:=Paired fun (p:κ×V) (q:κ×Value)=>p.1=q.1∧RelV p.2 q.2
def kV:Key→V
  | .inl i=>.int i
  | .inr x=>.str x
inductive HO where
    | lst (xs:List V)
    | tup (xs:List V)
    | dK (kvs:List (Key×V)) | dT (kvs:List (List Key×V))
    | set (S:Int→Bool) (n:Nat)
    | ins (C dx:Addr) (fs:List (Str×V))
    | own (x:Addr)
    | xd (fs:List (Str×V))
    | met (f x:Addr)
    | rng (lo hi:Int)
    | frz (o:Obj) (u:HO)
    | tbl (ps:Array Value)
    | ext (φ:Heap→Prop)
abbrev Hp:=Addr→Option HO
def upd (H:Hp)(a:Addr)(o:HO):Hp:=fun b=>if b=a then some o else H b
theorem aI {H:Hp}{a:Addr}{o:HO}:upd H a o a=some o:=by unfold upd;rw[if_pos rfl]
theorem aC {H:Hp}{a b:Addr}{o:HO}(h:b≠a):upd H a o b=H b:=by unfold upd;rw[if_neg h]
theorem kW {H:Hp}{a:Addr}{o u:HO}:upd (upd H a o) a u=upd H a u:=by
  funext b;unfold upd;split<;>rfl
theorem bP {H:Hp}{a b:Addr}{o:HO}(h:H a=some o)(h':H b=none):a≠b:=by
  intro e;subst e;rw[h] at h';cases h'
def mZ (h:Heap)(a:Addr)(items:Array Value):Prop:=∃ n,h.get? a=some { cls:=.type "tuple", data:=.seq items n }
theorem mZ.tup {h:Heap}{a:Addr}{items:Array Value}(p:mZ h a items):IsTup h a items:=by obtain ⟨n,e⟩:=p;exact ⟨_,e,rfl,n,rfl⟩
theorem mZ.new (h:Heap)(items:Array Value):mZ (h.push { cls:=.type "tuple", data:=.seq items }) h.objs.size items:=⟨_,Heap.get?_push_size _ rfl⟩
section
variable (P:Program) (w:World)
def cg (H:Hp)(h:Heap)(a:Addr):HO→Prop
  | .lst xs=>xs.length≤sizeLine∧∃ (its:List Value) (n:Nat),Vals xs its∧h.get? a=some { cls:=.type "list", data:=.seq its.toArray n }
  | .tup xs=>xs.length≤sizeLine∧∃ its:List Value,Vals xs its∧mZ h a its.toArray
  | .dK kvs=>kvs.length≤sizeLine∧(a == sysModules)=false∧∃ vs,KV kvs vs∧h.DictOf (el P w) a vs
  | .dT kvs=>kvs.length≤sizeLine∧(a == sysModules)=false∧∃ xs:List (List Key×Addr×Value),
      Paired (fun (p:List Key×V) (q:List Key×Addr×Value)=>p.1=q.1∧H q.2.1=some (.tup (p.1.map kV))∧RelV p.2 q.2.2) kvs xs∧
      ∃ o es ep,h.get? a=some o∧o.ExactDict∧o.data=.dict es ep∧es.toList=xs.map (entryOfKey (tupleKind (el P w)))∧(xs.map (·.1)).Nodup
  | .set S n=>h.SetOf (intKind P w) a S n
  | .ins C dx fs=>H dx=some (.own a)∧fs.length≤1000∧dx≠a∧h.get? a=some (PySem.W.instObj C dx)∧
      ∃ mA,h.Ns1 dx mA∧(∀ f,l3 (fs.lookup f) (mA f))∧PySem.Within mA (fs.map (·.1))
  | .own _=>∃ o,h.get? a=some o
  | .xd fs=>∃ mA,h.Ns1 a mA∧∀ f,l3 (fs.lookup f) (mA f)
  | .rng lo hi=>∃ t u v,h.get? a=some { cls:=.type "range", data:=.fields #[.int lo t,.int hi u,.int 1 v] }
  | .frz o u=>h.get? a=some o∧cg H h a u
  | .tbl ps=>h.get? a=some { cls:=.none,data:=.fields ps }
  | .met f x=>h.get? a=some (PySem.W.methodObj (.ref f) (.ref x))
  | .ext φ=>φ h∧(∃ o,h.get? a=some o)∧∀ h1 h2:Heap,φ h1→(∀ o,h1.get? a=some o→h2.get? a=some o)→φ h2
def HOk (H:Hp)(h:Heap):Prop:=∀ a o,H a=some o→cg P w H h a o
end
section
variable {P:Program} {w:World} {H H':Hp} {h h':Heap} {a:Addr} {o:HO}
theorem cg.lt (x:cg P w H h a o):a < h.objs.size:=by
  cases o with
  | lst xs=>obtain ⟨_,_,_,_,e⟩:=x;exact Heap.lt_size e
  | tup xs=>obtain ⟨_,_,_,p⟩:=x;exact p.tup.lt
  | dK kvs=>obtain ⟨_,_,_,_,o,_,_,e,_⟩:=x;exact Heap.lt_size e
  | dT kvs=>obtain ⟨_,_,_,_,o,_,_,e,_⟩:=x;exact Heap.lt_size e
  | set S n=>obtain ⟨o,_,_,_,e,_⟩:=x;exact Heap.lt_size e
  | ins C dx fs=>obtain ⟨_,_,_,e,_⟩:=x;exact Heap.lt_size e
  | own y=>obtain ⟨_,e⟩:=x;exact Heap.lt_size e
  | xd fs=>obtain ⟨_,⟨_,_,_,e,_⟩,_⟩:=x;exact Heap.lt_size e
  | rng lo hi=>obtain ⟨_,_,_,e⟩:=x;exact Heap.lt_size e
  | frz ob u=>obtain ⟨e,_⟩:=x;exact Heap.lt_size e
  | tbl ps=>exact Heap.lt_size (show h.get? a=some _ from x)
  | met f y=>exact Heap.lt_size (show h.get? a=some _ from x)
  | ext φ=>obtain ⟨_,⟨_,e⟩,_⟩:=x;exact Heap.lt_size e
theorem Paired.yz {α β:Type}{F G:α→β→Prop}:∀ {l₁:List α} {l₂:List β},Paired F l₁ l₂→(∀ a b,F a b→G a b)→Paired G l₁ l₂
  | _,_,.nil,_=>.nil
  | _,_,.cons r t,f=>.cons (f _ _ r) (Paired.yz t f)
theorem cg.kY (x:cg P w H h a o)(k:∀ b u,(b=a∨H b=some (.own a))→h.get? b=some u→h'.get? b=some u)
    (ho:∀ b,H b=some (.own a)→H' b=some (.own a)) (ht:∀ b xs,H b=some (.tup xs)→H' b=some (.tup xs)):cg P w H' h' a o:=by
  induction o with
  | lst xs=>obtain ⟨z,its,n,r,e⟩:=x;exact ⟨z,its,n,r,k _ _ (.inl rfl) e⟩
  | tup xs=>obtain ⟨z,its,r,m,e⟩:=x;exact ⟨z,its,r,m,k _ _ (.inl rfl) e⟩
  | dK kvs=>obtain ⟨z,y,vs,r,ob,es,ep,e,c⟩:=x;exact ⟨z,y,vs,r,ob,es,ep,k _ _ (.inl rfl) e,c⟩
  | dT kvs=>
    obtain ⟨z,y,xs,r,ob,es,ep,e,c⟩:=x
    exact ⟨z,y,xs,Paired.yz r fun p q z=>⟨z.1,ht _ _ z.2.1,z.2.2⟩,ob,es,ep,k _ _ (.inl rfl) e,c⟩
  | set S n=>obtain ⟨ob,es,ep,t,e,c⟩:=x;exact ⟨ob,es,ep,t,k _ _ (.inl rfl) e,c⟩
  | ins C dx fs=>
    obtain ⟨d,z,ne,e,mA,⟨od,es,ep,e2,c⟩,r⟩:=x
    exact ⟨ho _ d,z,ne,k _ _ (.inl rfl) e,mA,⟨od,es,ep,k _ _ (.inr d) e2,c⟩,r⟩
  | own y=>obtain ⟨ob,e⟩:=x;exact ⟨ob,k _ _ (.inl rfl) e⟩
  | xd fs=>obtain ⟨mA,⟨od,es,ep,e,c⟩,r⟩:=x;exact ⟨mA,⟨od,es,ep,k _ _ (.inl rfl) e,c⟩,r⟩
  | rng lo hi=>obtain ⟨t,u,v,e⟩:=x;exact ⟨t,u,v,k _ _ (.inl rfl) e⟩
  | frz ob u ih=>obtain ⟨e,q⟩:=x;exact ⟨k _ _ (.inl rfl) e,ih q⟩
  | tbl ps=>
    have e:h.get? a=some { cls:=.none,data:=.fields ps }:=x
    show h'.get? a=some { cls:=.none,data:=.fields ps }
    exact k a _ (.inl rfl) e
  | met f y=>
    have e:h.get? a=some (PySem.W.methodObj (.ref f) (.ref y)):=x
    show h'.get? a=some (PySem.W.methodObj (.ref f) (.ref y))
    exact k a _ (.inl rfl) e
  | ext φ=>obtain ⟨p,⟨o,e⟩,st⟩:=x;exact ⟨st _ _ p fun o q=>k _ _ (.inl rfl) q,⟨o,k _ _ (.inl rfl) e⟩,st⟩
theorem HOk.lt (x:HOk P w H h)(e:H a=some o):a < h.objs.size:=(x a o e).lt
theorem HOk.fresh (x:HOk P w H h)(e:h.objs.size≤a):H a=none:=by
  cases q:H a with
  | none=>rfl
  | some u=>exact absurd (Nat.lt_of_lt_of_le (x.lt q) e) (Nat.lt_irrefl _)
theorem HOk.kept (x:HOk P w H h)(k:∀ b u,h.get? b=some u→h'.get? b=some u):HOk P w H h':=fun a o e=>
  (x a o e).kY (fun b u _ q=>k b u q) (fun _ q=>q) fun _ _ q=>q
theorem HOk.laid (x:HOk P w H h)(k:∀ b u,h.get? b=some u→h'.get? b=some u)(hp:h.objs.size≤a)(new:cg P w (upd H a o) h' a o):HOk P w (upd H a o) h':=fun b u e=>by
  have hn:=x.fresh hp
  by_cases hb:b=a
  · subst hb;rw[aI] at e;cases e;exact new
  · rw[aC hb] at e
    exact (x b u e).kY (fun c v _ q=>k c v q) (fun c q=>by rw[aC (bP q hn)];exact q) fun c xs q=>by rw[aC (bP q hn)];exact q
end
def Rd (H:Hp)(a:Addr)(u:HO):Prop:=H a=some u∨∃ o,H a=some (.frz o u)
theorem Rd.of {H:Hp}{a:Addr}{u:HO}(h:H a=some u):Rd H a u:=.inl h
theorem Rd.ok {P:Program}{w:World}{H:Hp}{h:Heap}{a:Addr}{u:HO}(r:Rd H a u)(x:HOk P w H h):cg P w H h a u:=by
  rcases r with r | ⟨o,r⟩
  · exact x a u r
  · obtain ⟨_,q⟩:=x a _ r
    exact q
def Mut:Option HO→Prop
  | some (.lst _)=>True
  | some (.dK _)=>True
  | some (.dT _)=>True
  | some (.set _ _)=>True
  | some (.ins _ _ _)=>True
  | some (.ext _)=>True
  | _=>False
section
variable {P:Program} {w:World} {H:Hp} {h h':Heap} {x e:Addr} {o':HO}
theorem HOk.write (ok:HOk P w H h)(mu:Mut (H x))(he:e=x∨H e=some (.own x))(k:∀ b u,b≠e→h.get? b=some u→h'.get? b=some u)(heo:∃ u,h'.get? e=some u)
    (new:cg P w (upd H x o') h' x o'):HOk P w (upd H x o') h':=fun b u q=>by
  have z7:∀ c y,H c=some (.own y)→c≠x:=fun c y r z=>by subst z;rw[r] at mu;exact mu
  have BD:∀ c xs,H c=some (.tup xs)→c≠x:=fun c xs r z=>by subst z;rw[r] at mu;exact mu
  by_cases hb:b=x
  · subst hb;rw[aI] at q;cases q;exact new
  · rw[aC hb] at q
    by_cases hbe:b=e
    · have q':H b=some (.own x):=by
        rcases he with z | z
        · exact absurd (hbe.trans z) hb
        · rw[hbe];exact z
      rw[q] at q';cases q'
      obtain ⟨v,hv⟩:=heo
      exact ⟨v,by rw[hbe];exact hv⟩
    · refine (ok b u q).kY (fun c v hc r=>k c v ?_ r) (fun c r=>by rw[aC (z7 c b r)];exact r) fun c xs r=>by rw[aC (BD c xs r)];exact r
      rcases hc with rfl | hc
      · exact hbe
      · rintro rfl
        rcases he with z | z
        · exact z7 c b hc z
        · rw[hc] at z;cases z;exact hb rfl
end
structure Un (fs ex:List Addr) (H H':Hp) (h h':Heap):Prop where
  keep:∀ b o,h.get? b=some o→H b=none→b ∉ fs→b ∉ ex→h'.get? b=some o
  slot:∀ b o,h.get? b=some o→H b=none→b∈fs→b ∉ ex→∃ sl,h'.get? b=some { o with slots:=sl }
  free:∀ b o,h.get? b=some o→H b=none→b ∉ ex→H' b=none
  there:∀ b o,h.get? b=some o→b ∉ ex→∃ o',h'.get? b=some o'
  fH:∀ b xs,H b=some (.tup xs)→H' b=some (.tup xs)
  fq:∀ b o u,H b=some (.frz o u)→H' b=some (.frz o u)
  fI:∀ b ps,H b=some (.tbl ps)→∃ more,H' b=some (.tbl (ps++more))
section
variable {fs fs' ex ex':List Addr} {H H1 H2:Hp} {h h1 h2 h':Heap} {a x e:Addr} {o:HO}
theorem Un.any (u:Un fs ex H H1 h h1){b:Addr}{ob:Obj}(q:h.get? b=some ob)(n:H b=none)(hx:b ∉ ex):∃ sl,h1.get? b=some { ob with slots:=sl }:=by
  by_cases hb:b∈fs
  · exact u.slot b ob q n hb hx
  · exact ⟨ob.slots,u.keep b ob q n hb hx⟩
theorem Un.trans (a:Un fs ex H H1 h h1)(b:Un fs ex H1 H2 h1 h2):Un fs ex H H2 h h2 where
  keep:=fun c ob q n hc hx=>b.keep c ob (a.keep c ob q n hc hx) (a.free c ob q n hx) hc hx
  slot:=fun c ob q n hc hx=>by
    obtain ⟨sl,e1⟩:=a.slot c ob q n hc hx
    obtain ⟨sl',e2⟩:=b.slot c _ e1 (a.free c ob q n hx) hc hx
    exact ⟨sl',e2⟩
  free:=fun c ob q n hx=>by
    obtain ⟨o',e1⟩:=a.there c ob q hx
    exact b.free c o' e1 (a.free c ob q n hx) hx
  there:=fun c ob q hx=>by
    obtain ⟨o',e1⟩:=a.there c ob q hx
    exact b.there c o' e1 hx
  fH:=fun c xs q=>b.fH c xs (a.fH c xs q)
  fq:=fun c ob xs q=>b.fq c ob xs (a.fq c ob xs q)
  fI:=fun c ps q=>by
    obtain ⟨m1,e1⟩:=a.fI c ps q
    obtain ⟨m2,e2⟩:=b.fI c _ e1
    exact ⟨m1++m2,by rw[e2,Array.append_assoc]⟩
theorem Un.kept (k:∀ b u,h.get? b=some u→h'.get? b=some u):Un fs ex H H h h':=
  ⟨fun b ob q _ _ _=>k b ob q,fun b ob q _ _ _=>⟨ob.slots,k b ob q⟩,fun _ _ _ n _=>n,fun b ob q _=>⟨ob,k b ob q⟩,fun _ _ q=>q,fun _ _ _ q=>q,fun _ ps q=>⟨#[],by rw[q];simp⟩⟩
theorem Un.refl:Un fs ex H H h h:=Un.kept fun _ _ q=>q
theorem Un.laid (k:∀ b u,h.get? b=some u→h'.get? b=some u)(hp:h.objs.size≤a)(hn:H a=none):Un fs ex H (upd H a o) h h' where
  keep:=fun b u q _ _ _=>k b u q
  slot:=fun b u q _ _ _=>⟨u.slots,k b u q⟩
  free:=fun b u q n _=>by rw[aC (Nat.ne_of_lt (Nat.lt_of_lt_of_le (Heap.lt_size q) hp))];exact n
  there:=fun b u q _=>⟨u,k b u q⟩
  fH:=fun b xs q=>by rw[aC (bP q hn)];exact q
  fq:=fun b u xs q=>by rw[aC (bP q hn)];exact q
  fI:=fun b ps q=>⟨#[],by rw[aC (bP q hn),q];simp⟩
theorem Un.write (mu:Mut (H x))(he:e=x∨H e=some (.own x))(k:∀ b u,b≠e→h.get? b=some u→h'.get? b=some u)(heo:∃ u,h'.get? e=some u):Un fs ex H (upd H x o) h h':=by
  have hx:∀ b,H b=none→b≠x:=fun b n z=>by subst z;rw[n] at mu;exact mu
  have hb:∀ b,H b=none→b≠e:=fun b n z=>by
    subst z
    rcases he with r | r
    · exact hx b n r
    · rw[n] at r;cases r
  have hm:∀ b u,H b=some u→¬ Mut (some u)→b≠x:=fun b u q nm z=>by subst z;rw[q] at mu;exact nm mu
  refine ⟨fun b u q n _ _=>k b u (hb b n) q,fun b u q n _ _=>⟨u.slots,k b u (hb b n) q⟩,fun b u q n _=>by rw[aC (hx b n)];exact n,fun b u q _=>?_,
    fun b xs q=>by rw[aC (hm b _ q fun z=>z)];exact q,fun b u xs q=>by rw[aC (hm b _ q fun z=>z)];exact q,fun b ps q=>⟨#[],by rw[aC (hm b _ q fun z=>z),q];simp⟩⟩
  by_cases hbe:b=e
  · subst hbe;exact heo
  · exact ⟨u,k b u hbe q⟩
theorem Un.mono (u:Un fs ex H H1 h h1)(hs:∀ b∈fs,b∈fs')(hx:∀ b∈ex,b∈ex'):Un fs' ex' H H1 h h1:=
  ⟨fun b ob q n hb he=>u.keep b ob q n (fun z=>hb (hs b z)) fun z=>he (hx b z),fun _ _ q n _ he=>u.any q n fun z=>he (hx _ z),fun b ob q n he=>u.free b ob q n fun z=>he (hx b z),fun b ob q he=>u.there b ob q fun z=>he (hx b z),u.fH,u.fq,u.fI⟩
end
def trk (h:Heap)(H:Hp):List Addr:=(List.range h.objs.size).filter fun a=>(H a).isSome
def ky (h:Heap)(H:Hp):Heap:=PySem.W.hideAll h (trk h H)
theorem qt (h:Heap)(H:Hp):(ky h H).objs.size=h.objs.size:=PySem.W.hideAll_size _ _
theorem sQ {h:Heap}{H:Hp}{b:Addr}{o:Obj}(e:h.get? b=some o)(n:H b=none):(ky h H).get? b=some o:=
  PySem.W.hideAll_get _ e fun hm=>by
    have q:(H b).isSome=true:=(List.mem_filter.mp hm).2
    rw[n] at q;simp at q
theorem vW {h:Heap}{H:Hp}{b:Addr}{o:Obj}(e:(ky h H).get? b=some o):h.get? b=some o∧H b=none:=by
  have e':h.get? b=some o:=PySem.W.of_hideAll (trk h H) e
  refine ⟨e',?_⟩
  cases q:H b with
  | none=>rfl
  | some x=>
    have hm:b∈trk h H:=List.mem_filter.mpr ⟨List.mem_range.mpr (Heap.lt_size e'),by simp[q]⟩
    have z:(ky h H).get? b=none:=PySem.W.hideAll_none (trk h H) hm
    rw[z] at e;cases e
def vq (g h:Heap)(L:Addr):List (Addr×Obj):=(List.range h.objs.size).filterMap fun a=>if a=L∨(g.get? a).isSome=true then none else (h.get? a).map fun o=>(a,o)
def rest (g h:Heap)(L d:Addr):List (Addr×Obj):=(vq g h L).filter fun p=>decide (p.1≠d)
end L2
namespace L2
open PySem PySem.Spec PyProof.Rows
structure Mod (K:PySem.W.Frag) (mg:Str→Option Value) (base:Heap):Prop where
  kin:K.In base
  glob:base.Ns mainGlobals mg
  blt:∃ mb,base.Ns builtinsNs mb∧∀ x:Str,x ≠ "__name__" → mb x=bootBuiltins x
  nolimit:base.NoLimit
structure Cx where
  prog:Program
  w:World
  K:PySem.W.Frag
  mg:Str→Option Value
  base:Heap
  A:Around
  N:List Str
  s₀:Shared
  H₀:Hp
  env:Env
  outer:List Env
  stack:List Env
  ex:List Addr
  fn:Str→Bool
  calm:Bool
  pn:List (Addr×Obj)
  xe:Value→Shared→Prop
def frs (l:List Env):List Addr:=l.filterMap (·.frame)
abbrev Cx.fs (X:Cx):List Addr:=frs X.outer
def Vis (sc:Scope)(x:Str):Prop:=sc.names.lookup x=some .local∨sc.names.lookup x=some .cell∨sc.names.lookup x=some .free
def Loc (sc:Scope)(x:Str):Prop:=sc.names.lookup x=some .local∨sc.names.lookup x=some .cell
def Look (env:Env)(h:Heap)(m:Str→Option Value)(x:Str)(u:Value):Prop:=
  (env.kindOf x=some .local∧m x=some u)∨((env.kindOf x=some .cell∨env.kindOf x=some .free)∧∃ c,env.cells.lookup x=some c∧h.IsCell c (some u))
structure Cx.Ok (X:Cx):Prop where
  mod:Mod X.K X.mg X.base
  kind:X.env.scope.kind=.function
  glob:X.env.globals=mainGlobals
  blt:X.env.builtins=builtinsNs
  above:X.s₀.heap.objs.size≤X.env.locals
  inj:∀ x y c,X.env.cells.lookup x=some c→X.env.cells.lookup y=some c→x=y
  has:∀ x,(X.env.kindOf x=some .cell∨X.env.kindOf x=some .free)→∃ c,X.env.cells.lookup x=some c
  cab:∀ x c,X.fn x=true→X.env.cells.lookup x=some c→X.s₀.heap.objs.size≤c
  hd:X.calm=true→X.A.handled=none
  frames:X.A.frames=some X.stack
  stk:X.stack=X.outer∨(X.stack=X.env::X.outer∧X.env.frame=some X.env.locals)
  exf:∀ b∈X.ex,b≠X.env.locals∧∀ x c,X.env.cells.lookup x=some c→c≠b
  bs:∀ b o,X.base.get? b=some o→X.s₀.heap.get? b=some o∧X.H₀ b=none
  bsz:X.base.objs.size≤X.s₀.heap.objs.size
  sf:∀ b o,X.base.get? b=some o→b ∉ X.ex
  qW:∀ b∈X.ex,b ∉ X.fs
  iw:X.s₀.heap.FunFrames X.base X.outer
  frf:∀ b∈X.fs,X.H₀ b=none
structure Inv (X:Cx) (pins:List (Addr×Obj)) (σ:List (Option V)) (H:Hp) (s:Shared):Prop where
  ok:X.Ok
  os:s.os=X.s₀.os
  bare:AllBare s.gens
  base:Un X.fs X.ex X.H₀ H X.s₀.heap s.heap
  loc:∃ m,s.heap.Ns X.env.locals m∧∀ (i:Nat) (x:Str) (v:V),X.N[i]? = some x→σ[i]? = some (some v)→Vis X.env.scope x→∃ u,RelV v u∧Look X.env s.heap m x u
  cell:∀ x c,X.env.cells.lookup x=some c→∃ v,s.heap.IsCell c v
  free:H X.env.locals=none
  d8:∀ x c,X.env.cells.lookup x=some c→H c=none
  pin:∀ p∈X.pn++pins,s.heap.get? p.1=some p.2∧H p.1=none∧p.1≠X.env.locals∧p.1 ∉ X.fs∧∀ v,p.2.data≠.cell v
  hok:HOk X.prog X.w H s.heap
  len:σ.length=X.N.length
section
variable {X:Cx} {pins:List (Addr×Obj)} {σ:List (Option V)} {H H':Hp} {s:Shared} {h':Heap}
theorem Cx.Ok.Bv (ok:X.Ok){b:Addr}{o:Obj}(e:X.base.get? b=some o):b ∉ X.fs:=fun hb=>by
  have:=(ok.iw.mem hb).1
  rw[e] at this;cases this
theorem Inv.bs (I:Inv X pins σ H s):∀ b o,X.base.get? b=some o→s.heap.get? b=some o∧H b=none:=fun b o e=>
  ⟨I.base.keep b o (I.ok.bs b o e).1 (I.ok.bs b o e).2 (I.ok.Bv e) (I.ok.sf b o e),I.base.free b o (I.ok.bs b o e).1 (I.ok.bs b o e).2 (I.ok.sf b o e)⟩
theorem Inv.bk (I:Inv X pins σ H s):∀ b o,X.base.get? b=some o→s.heap.get? b=some o:=fun b o e=>(I.bs b o e).1
theorem Inv.mod (I:Inv X pins σ H s):Mod X.K X.mg X.base:=I.ok.mod
theorem Inv.kIn (I:Inv X pins σ H s):X.K.In s.heap:=I.ok.mod.kin.keeps I.bk
theorem Inv.nolimit (I:Inv X pins σ H s):s.heap.NoLimit:=I.ok.mod.nolimit.keeps I.bk
theorem Inv.fr (I:Inv X pins σ H s):∃ m,Fr X.base X.env.locals s.heap m:=
  let ⟨m,hn,_⟩:=I.loc
  ⟨m,hn,I.bk,Nat.le_trans I.ok.bsz I.ok.above⟩
theorem Inv.lt (I:Inv X pins σ H s):X.env.locals < s.heap.objs.size:=let ⟨_,hn,_⟩:=I.loc;hn.lt
theorem Inv.sz (I:Inv X pins σ H s):X.s₀.heap.objs.size≤s.heap.objs.size:=Nat.le_trans I.ok.above (Nat.le_of_lt I.lt)
theorem Inv.BK (I:Inv X pins σ H s){a:Addr}(h:s.heap.objs.size≤a):a ∉ X.fs:=fun hb=>by
  obtain ⟨_,o,ho,_⟩:=I.ok.iw.mem hb
  exact absurd (Nat.lt_of_lt_of_le (Heap.lt_size ho) (Nat.le_trans I.sz h)) (Nat.lt_irrefl _)
theorem Inv.cne (I:Inv X pins σ H s):∀ x c,X.env.cells.lookup x=some c→c≠X.env.locals:=fun x c e z=>by
  obtain ⟨v,o,ho,hd⟩:=I.cell x c e
  obtain ⟨m,⟨o',es,ep,ho',hd',_⟩,_⟩:=I.loc
  rw[z,ho'] at ho;cases ho;rw[hd'] at hd;cases hd
theorem Inv.iw (I:Inv X pins σ H s):s.heap.FunFrames X.base X.outer:=by
  have all:∀ (l:List Env),(∀ b∈frs l,b∈X.fs)→X.s₀.heap.FunFrames X.base l→s.heap.FunFrames X.base l:=by
    intro l
    induction l with
    | nil=>intro _ _;trivial
    | cons env r ih=>
      intro hs hl
      obtain ⟨hk,⟨L,o,hf,hn,ho,hd⟩,hr⟩:=hl
      have hL:L∈X.fs:=hs L (by unfold frs;rw[List.filterMap_cons,hf];exact List.mem_cons_self)
      obtain ⟨sl,e⟩:=I.base.slot L o ho (I.ok.frf L hL) hL fun z=>I.ok.qW L z hL
      exact ⟨hk,⟨L,_,hf,hn,e,hd⟩,ih (fun b hb=>hs b (by unfold frs;rw[List.filterMap_cons,hf];exact List.mem_cons_of_mem _ hb)) hr⟩
  exact all X.outer (fun _ hb=>hb) I.ok.iw
theorem Inv.stack (I:Inv X pins σ H s):s.heap.FunFrames X.base X.stack:=by
  rcases I.ok.stk with e | ⟨e,hf⟩
  · rw[e];exact I.iw
  · rw[e]
    obtain ⟨m,hn,_⟩:=I.loc
    refine .cons (by rw[I.ok.kind];decide) hf hn ?_ I.iw
    exact Heap.get?_none_of_le (Nat.le_trans I.ok.bsz I.ok.above)
theorem Inv.oX (I:Inv X pins σ H s):∀ b∈frs X.stack,b∈X.env.locals::X.fs:=fun b hb=>by
  rcases I.ok.stk with e | ⟨e,hf⟩
  · rw[e] at hb;exact List.mem_cons_of_mem _ hb
  · rw[e] at hb
    unfold frs at hb
    rw[List.filterMap_cons,hf] at hb
    exact hb
theorem Inv.pN (I:Inv X pins σ H s):∀ b∈frs X.stack,H b=none:=fun b hb=>by
  rcases List.mem_cons.mp (I.oX b hb) with e | hb
  · rw[e];exact I.free
  · obtain ⟨_,o,ho,_⟩:=I.ok.iw.mem hb
    exact I.base.free b o ho (I.ok.frf b hb) fun z=>I.ok.qW b z hb
theorem Inv.step {g':Array GenState}{t':Nat}{d':Drawn}{ch:List Addr}(I:Inv X pins σ H s)
    (hch:∀ b∈ch,(b∈X.ex∨X.s₀.heap.objs.size≤b)∧b≠X.env.locals∧(∀ x c,X.env.cells.lookup x=some c→c≠b)∧∀ p∈X.pn++pins,p.1≠b)
    (keep:∀ b o,b≠X.env.locals→b ∉ X.fs→b ∉ ch→s.heap.get? b=some o→H b=none→h'.get? b=some o)
    (slot:∀ b o,b≠X.env.locals→b∈X.fs→b ∉ ch→s.heap.get? b=some o→H b=none→∃ sl,h'.get? b=some { o with slots:=sl }) (free:∀ b o,b ∉ ch→s.heap.get? b=some o→H b=none→H' b=none)
    (there:∀ b o,b ∉ ch→s.heap.get? b=some o→∃ o',h'.get? b=some o')
    (fH:∀ b xs,H b=some (.tup xs)→H' b=some (.tup xs)) (fq:∀ b o u,H b=some (.frz o u)→H' b=some (.frz o u)) (fI:∀ b ps,H b=some (.tbl ps)→∃ more,H' b=some (.tbl (ps++more)))
    (ns:∀ m,s.heap.Ns X.env.locals m→h'.Ns X.env.locals m) (hok:HOk X.prog X.w H' h') (hg:AllBare g') :
    Inv X pins σ H' { s with heap:=h',gens:=g',drawn:=d',toks:=t' }:=by
  have neL:∀ b o,X.s₀.heap.get? b=some o→b≠X.env.locals:=fun b o e=>Nat.ne_of_lt (Nat.lt_of_lt_of_le (Heap.lt_size e) I.ok.above)
  have neC:∀ b o,X.s₀.heap.get? b=some o→b ∉ X.ex→b ∉ ch:=fun b o e hx hb=>by
    rcases (hch b hb).1 with z | z
    · exact hx z
    · exact absurd (Nat.lt_of_lt_of_le (Heap.lt_size e) z) (Nat.lt_irrefl _)
  have cellK:∀ x c,X.env.cells.lookup x=some c→∀ v,s.heap.IsCell c v→h'.IsCell c v:=fun x c e v ⟨o,ho,hd⟩=>by
    have nch:c ∉ ch:=fun z=>(hch c z).2.2.1 x c e rfl
    by_cases hc:c∈X.fs
    · obtain ⟨sl,q⟩:=slot c o (I.cne x c e) hc nch ho (I.d8 x c e)
      exact ⟨_,q,hd⟩
    · exact ⟨o,keep c o (I.cne x c e) hc nch ho (I.d8 x c e),hd⟩
  refine ⟨I.ok,I.os,hg,⟨fun b o e n hb hx=>?_,fun b o e n hb hx=>?_,fun b o e n hx=>?_,fun b o e hx=>?_,fun b xs e=>fH b xs (I.base.fH b xs e),fun b o xs e=>fq b o xs (I.base.fq b o xs e),fun b ps e=>?_⟩,?_,fun x c e=>?_,?_,fun x c e=>?_,fun p hp=>?_,hok,I.len⟩
  · exact keep b o (neL b o e) hb (neC b o e hx) (I.base.keep b o e n hb hx) (I.base.free b o e n hx)
  · obtain ⟨sl,e1⟩:=I.base.slot b o e n hb hx
    obtain ⟨sl',e2⟩:=slot b _ (neL b o e) hb (neC b o e hx) e1 (I.base.free b o e n hx)
    exact ⟨sl',e2⟩
  · obtain ⟨o',e1⟩:=I.base.there b o e hx
    exact free b o' (neC b o e hx) e1 (I.base.free b o e n hx)
  · obtain ⟨o',e1⟩:=I.base.there b o e hx
    exact there b o' (neC b o e hx) e1
  · obtain ⟨m1,e1⟩:=I.base.fI b ps e
    obtain ⟨m2,e2⟩:=fI b _ e1
    exact ⟨m1++m2,by rw[e2,Array.append_assoc]⟩
  · obtain ⟨m,hn,hl⟩:=I.loc
    refine ⟨m,ns m hn,fun i x v e1 e2 e3=>?_⟩
    obtain ⟨u,r,l⟩:=hl i x v e1 e2 e3
    refine ⟨u,r,?_⟩
    rcases l with l | ⟨k,c,e,z⟩
    · exact .inl l
    · exact .inr ⟨k,c,e,cellK x c e _ z⟩
  · obtain ⟨v,z⟩:=I.cell x c e
    exact ⟨v,cellK x c e v z⟩
  · obtain ⟨m,⟨o,_,_,ho,_⟩,_⟩:=I.loc
    exact free _ o (fun z=>(hch _ z).2.1 rfl) ho I.free
  · obtain ⟨v,o,ho,hd⟩:=I.cell x c e
    exact free c o (fun z=>(hch c z).2.2.1 x c e rfl) ho (I.d8 x c e)
  · obtain ⟨e,n,ne,nf,d⟩:=I.pin p hp
    have nch:p.1 ∉ ch:=fun z=>(hch p.1 z).2.2.2 p hp rfl
    exact ⟨keep p.1 p.2 ne nf nch e n,free p.1 p.2 nch e n,ne,nf,d⟩
theorem Inv.un {t':Nat}(I:Inv X pins σ H s)(u:Un X.fs [] H H' s.heap h')(hok:HOk X.prog X.w H' h'):Inv X pins σ H' { s with heap:=h',toks:=t' }:=by
  obtain ⟨m,⟨o,es,ep,ho,r⟩,_⟩:=id I.loc
  obtain ⟨sl,hL⟩:=u.any ho I.free (by simp)
  exact I.step (g':=s.gens) (d':=s.drawn) (ch:=[]) (fun _ z=>nomatch z) (fun b o _ hb _ e n=>u.keep b o e n hb (by simp)) (fun b o _ hb _ e n=>u.slot b o e n hb (by simp)) (fun b o _ e n=>u.free b o e n (by simp)) (fun b o _ e=>u.there b o e (by simp)) u.fH u.fq u.fI (fun m' hm=>by
    obtain ⟨o',es',ep',ho',r'⟩:=hm
    rw[ho] at ho';cases ho'
    exact ⟨_,es',ep',hL,r'⟩) hok I.bare
theorem Inv.call {g':Array GenState}{t':Nat}{d':Drawn}{ch:List Addr}(I:Inv X pins σ H s)(u:Un (frs X.stack) ch H H' s.heap h')(hok:HOk X.prog X.w H' h')(hg:AllBare g')
    (hch:∀ b∈ch,(b∈X.ex∨X.s₀.heap.objs.size≤b)∧b≠X.env.locals∧(∀ x c,X.env.cells.lookup x=some c→c≠b)∧∀ p∈X.pn++pins,p.1≠b) :
    Inv X pins σ H' { s with heap:=h',gens:=g',drawn:=d',toks:=t' }:=by
  obtain ⟨m,⟨o,es,ep,ho,r⟩,_⟩:=id I.loc
  obtain ⟨sl,hL⟩:=u.any ho I.free fun z=>(hch _ z).2.1 rfl
  exact I.step (ch:=ch) hch (fun b o hL hb hc e n=>u.keep b o e n (fun z=>(List.mem_cons.mp (I.oX b z)).elim hL hb) hc) (fun b o _ _ hc e n=>u.any e n hc) (fun b o hc e n=>u.free b o e n hc) (fun b o hc e=>u.there b o e hc) u.fH u.fq u.fI (fun m' hm=>by
    obtain ⟨o',es',ep',ho',r'⟩:=hm
    rw[ho] at ho';cases ho'
    exact ⟨_,es',ep',hL,r'⟩) hok hg
theorem Inv.turned {t':Nat}{it:Addr}(I:Inv X pins σ H s)(k:∀ b o,b≠it→s.heap.get? b=some o→h'.get? b=some o)(hn:H it=none)(hL:it≠X.env.locals)
    (h1:it∈X.ex∨X.s₀.heap.objs.size≤it) (h2:∀ x c,X.env.cells.lookup x=some c→c≠it) (h3:∀ p∈X.pn++pins,p.1≠it):Inv X pins σ H { s with heap:=h',toks:=t' }:=by
  have nit:∀ b u,H b=some u→b≠it:=fun b u e z=>by rw[z,hn] at e;cases e
  refine I.step (g':=s.gens) (d':=s.drawn) (ch:=[it]) (fun b hb=>?_) (fun b o _ _ hc e _=>k b o (fun z=>hc (by simp[z])) e) (fun b o _ _ hc e _=>⟨o.slots,k b o (fun z=>hc (by simp[z])) e⟩) (fun _ _ _ _ n=>n)
    (fun b o hc e=>⟨o,k b o (fun z=>hc (by simp[z])) e⟩) (fun _ _ e=>e) (fun _ _ _ e=>e) (fun b ps e=>⟨#[],by rw[e];simp⟩) (fun m hm=>?_) (fun b u e=>?_) I.bare
  · have e:b=it:=by simpa using hb
    subst e
    exact ⟨h1,hL,h2,h3⟩
  · obtain ⟨o,es,ep,ho,r⟩:=hm
    exact ⟨o,es,ep,k _ o (Ne.symm hL) ho,r⟩
  · refine (I.hok b u e).kY (fun c v hc q=>k c v ?_ q) (fun _ q=>q) fun _ _ q=>q
    rcases hc with z | z
    · rw[z];exact nit b u e
    · exact nit c _ z
theorem Inv.tok (I:Inv X pins σ H s)(t:Nat):Inv X pins σ H { s with toks:=t }:=I.un (h':=s.heap) (t':=t) Un.refl I.hok
theorem Inv.kept {t':Nat}(I:Inv X pins σ H s)(k:∀ b u,s.heap.get? b=some u→h'.get? b=some u):Inv X pins σ H { s with heap:=h',toks:=t' }:=I.un (Un.kept k) (I.hok.kept k)
theorem Inv.laid {a:Addr}{o:HO}{t':Nat}(I:Inv X pins σ H s)(k:∀ b u,s.heap.get? b=some u→h'.get? b=some u)(hp:s.heap.objs.size≤a)(new:cg X.prog X.w (upd H a o) h' a o) :
    Inv X pins σ (upd H a o) { s with heap:=h',toks:=t' }:=I.un (Un.laid k hp (I.hok.fresh hp)) (I.hok.laid k hp new)
theorem Inv.write {x e:Addr}{o:HO}{t':Nat}(I:Inv X pins σ H s)(mu:Mut (H x))(he:e=x∨H e=some (.own x))(k:∀ b u,b≠e→s.heap.get? b=some u→h'.get? b=some u)(heo:∃ u,h'.get? e=some u)
    (new:cg X.prog X.w (upd H x o) h' x o):Inv X pins σ (upd H x o) { s with heap:=h',toks:=t' }:=I.un (Un.write mu he k heo) (I.hok.write mu he k heo new)
theorem Inv.weak {σ':List (Option V)}(I:Inv X pins σ H s)(hl:σ'.length=σ.length)(w:∀ (i:Nat) v,σ'[i]? = some (some v)→σ[i]? = some (some v)):Inv X pins σ' H s:=
  ⟨I.ok,I.os,I.bare,I.base,let ⟨m,hn,hl'⟩:=I.loc;⟨m,hn,fun i x v e1 e2 e3=>hl' i x v e1 (w i v e2) e3⟩,I.cell,I.free,I.d8,I.pin,I.hok,hl.trans I.len⟩
theorem Inv.o5 {pins':List (Addr×Obj)}(I:Inv X pins σ H s)(h:∀ p∈pins',s.heap.get? p.1=some p.2∧H p.1=none∧p.1≠X.env.locals∧p.1 ∉ X.fs∧∀ v,p.2.data≠.cell v):Inv X pins' σ H s:=
  ⟨I.ok,I.os,I.bare,I.base,I.loc,I.cell,I.free,I.d8,fun p hp=>(List.mem_append.mp hp).elim (fun z=>I.pin p (List.mem_append_left _ z)) (h p),I.hok,I.len⟩
theorem mx {N:List Str}(hN:N.Nodup){i j:Nat}{x:Str}(a:N[i]? = some x)(b:N[j]? = some x):i=j:=by
  obtain ⟨h1,e1⟩:=List.getElem?_eq_some_iff.mp a
  obtain ⟨h2,e2⟩:=List.getElem?_eq_some_iff.mp b
  exact (List.getElem_inj hN).mp (e1.trans e2.symm)
theorem qi {M:Model}{A:Around}{E:Value→Shared→Prop}{i:Nat}{x:Str}{v:V}{u:Value}{Q:Unit→Shared→Prop}(I:Inv X pins σ H s)(hN:X.N.Nodup)(hi:X.N[i]? = some x)(hx:Loc X.env.scope x)(r:RelV v u)
    (h:∀ s',Inv X pins (σ.set i (some v)) H s'→(∃ a,Heap.SameBut a s.heap s'.heap∧(a=X.env.locals∨X.env.cells.lookup x=some a))→Q () s') (hf:X.fn x=true∨X.env.scope.names.lookup x=some .local:=by first | exact .inl rfl | exact .inr rfl | assumption):wpAny M A (storeName X.env x u) Q E s:=by
  obtain ⟨m,hn,hl⟩:=id I.loc
  have BA:(X.env.scope.kind == .class || (X.env.scope.kind == .module&&X.env.locals != X.env.globals))=false:=by rw[I.ok.kind];rfl
  have hiσ:i < σ.length:=by rw[I.len];exact (List.getElem?_eq_some_iff.mp hi).1
  have cne:=I.cne
  have tracked:∀ {a:Addr} {h':Heap},(∃ o,s.heap.get? a=some o∧H a=none)→Heap.SameBut a s.heap h'→HOk X.prog X.w H h':=fun {a h'} ha hs b ob e=>by
    obtain ⟨_,_,hfree⟩:=ha
    refine (I.hok b ob e).kY (fun c w' hc q=>(hs.2 c ?_).trans q) (fun _ q=>q) fun _ _ q=>q
    rintro rfl
    rcases hc with rfl | hc
    · rw[hfree] at e;cases e
    · rw[hfree] at hc;cases hc
  rcases hx with hk | hk
  · refine wpAny_storeName_local hk hn (fun h' hn' hs=>?_) BA
    obtain ⟨oL,_,_,hoL,_⟩:=id hn
    refine h _ ⟨I.ok,I.os,I.bare,⟨fun b o e n hb hx=>?_,fun b o e n hb hx=>?_,I.base.free,fun b o e hx=>?_,I.base.fH,I.base.fq,I.base.fI⟩,⟨_,hn',fun j y v' e1 e2 e3=>?_⟩,fun y c e=>?_,I.free,I.d8,fun p hp=>?_,tracked ⟨oL,hoL,I.free⟩ hs,by simpa using I.len⟩ ⟨_,hs,.inl rfl⟩
    · exact (hs.2 b (Nat.ne_of_lt (Nat.lt_of_lt_of_le (Heap.lt_size e) I.ok.above))).trans (I.base.keep b o e n hb hx)
    · obtain ⟨sl,e1⟩:=I.base.slot b o e n hb hx
      exact ⟨sl,(hs.2 b (Nat.ne_of_lt (Nat.lt_of_lt_of_le (Heap.lt_size e) I.ok.above))).trans e1⟩
    · obtain ⟨o',e1⟩:=I.base.there b o e hx
      exact ⟨o',(hs.2 b (Nat.ne_of_lt (Nat.lt_of_lt_of_le (Heap.lt_size e) I.ok.above))).trans e1⟩
    · by_cases hj:j=i
      · subst hj
        rw[hi] at e1;cases e1
        rw[List.getElem?_set_self hiσ] at e2
        cases e2
        exact ⟨u,r,.inl ⟨hk,by simp⟩⟩
      · rw[List.getElem?_set_ne (Ne.symm hj)] at e2
        obtain ⟨u',r',q⟩:=hl j y v' e1 e2 e3
        refine ⟨u',r',?_⟩
        rcases q with ⟨k,e⟩ | ⟨k,c,e,z⟩
        · refine .inl ⟨k,?_⟩
          have:y≠x:=fun e=>hj (mx hN e1 (e ▸ hi))
          simp[this,e]
        · exact .inr ⟨k,c,e,z.sameBut hs (cne y c e)⟩
    · obtain ⟨w',z⟩:=I.cell y c e
      exact ⟨w',z.sameBut hs (cne y c e)⟩
    · obtain ⟨e,n,ne,nf,d⟩:=I.pin p hp
      exact ⟨(hs.2 p.1 ne).trans e,n,ne,nf,d⟩
  · have hfn:X.fn x=true:=by
      rcases hf with z | z
      · exact z
      · rw[z] at hk;cases hk
    obtain ⟨c,hc⟩:=I.ok.has x (.inl hk)
    obtain ⟨w',z⟩:=I.cell x c hc
    refine wpAny_storeName_cell I.ok.kind hk hc z (fun h' hc' hs=>?_)
    obtain ⟨oc,hoc,hocd⟩:=id z
    refine h { s with heap:=h' } ⟨I.ok,I.os,I.bare,⟨fun b o e n hb hx=>?_,fun b o e n hb hx=>?_,I.base.free,fun b o e hx=>?_,I.base.fH,I.base.fq,I.base.fI⟩,⟨m,hn.sameBut hs (Ne.symm (cne x c hc)),fun j y v' e1 e2 e3=>?_⟩,fun y c' e=>?_,I.free,I.d8,fun p hp=>?_,tracked ⟨oc,hoc,I.d8 x c hc⟩ hs,by simpa using I.len⟩ ⟨c,hs,.inr hc⟩
    · exact (hs.2 b (Nat.ne_of_lt (Nat.lt_of_lt_of_le (Heap.lt_size e) (I.ok.cab x c hfn hc)))).trans (I.base.keep b o e n hb hx)
    · obtain ⟨sl,e1⟩:=I.base.slot b o e n hb hx
      exact ⟨sl,(hs.2 b (Nat.ne_of_lt (Nat.lt_of_lt_of_le (Heap.lt_size e) (I.ok.cab x c hfn hc)))).trans e1⟩
    · obtain ⟨o',e1⟩:=I.base.there b o e hx
      exact ⟨o',(hs.2 b (Nat.ne_of_lt (Nat.lt_of_lt_of_le (Heap.lt_size e) (I.ok.cab x c hfn hc)))).trans e1⟩
    · by_cases hj:j=i
      · subst hj
        rw[hi] at e1;cases e1
        rw[List.getElem?_set_self hiσ] at e2
        cases e2
        exact ⟨u,r,.inr ⟨.inl hk,c,hc,hc'⟩⟩
      · rw[List.getElem?_set_ne (Ne.symm hj)] at e2
        obtain ⟨u',r',q⟩:=hl j y v' e1 e2 e3
        refine ⟨u',r',?_⟩
        rcases q with q | ⟨k,c',e,z'⟩
        · exact .inl q
        · refine .inr ⟨k,c',e,z'.sameBut hs ?_⟩
          rintro rfl
          exact hj (mx hN e1 (I.ok.inj _ _ _ e hc ▸ hi))
    · by_cases hcc:c'=c
      · subst hcc;exact ⟨_,hc'⟩
      · obtain ⟨w2,z2⟩:=I.cell y c' e
        exact ⟨w2,z2.sameBut hs hcc⟩
    · obtain ⟨e,n,ne,nf,d⟩:=I.pin p hp
      refine ⟨(hs.2 p.1 ?_).trans e,n,ne,nf,d⟩
      intro q
      rw[q,hoc] at e
      have q':oc=p.2:=Option.some.inj e
      exact d w' (by rw[← q'];exact hocd)
theorem eS {M:Model}{A:Around}{E:Value→Shared→Prop}{i:Nat}{x:Str}{v:V}{u:Value}{Q:Unit→Shared→Prop}(I:Inv X pins σ H s)(hN:X.N.Nodup)(hi:X.N[i]? = some x)(hx:Loc X.env.scope x)(r:RelV v u)
    (h:∀ s',Inv X pins (σ.set i (some v)) H s'→Q () s') (hf:X.fn x=true∨X.env.scope.names.lookup x=some .local:=by first | exact .inl rfl | exact .inr rfl | assumption):wpAny M A (storeName X.env x u) Q E s:=
  qi I hN hi hx r (fun s' I' _=>h s' I') hf
theorem Inv.Ad {s':Shared}{ch:List Addr}(I:Inv X pins σ H s)(ho:s'.os=s.os)(u:Un (frs X.stack) ch H H' s.heap s'.heap)(hok:HOk X.prog X.w H' s'.heap)(hg:AllBare s'.gens)
    (hch:∀ b∈ch,(b∈X.ex∨X.s₀.heap.objs.size≤b)∧b≠X.env.locals∧(∀ x c,X.env.cells.lookup x=some c→c≠b)∧∀ p∈X.pn++pins,p.1≠b):Inv X pins σ H' s':=by
  obtain ⟨h',g',d',t',o'⟩:=s'
  have e:o'=s.os:=ho
  subst e
  exact I.call (g':=g') (t':=t') (d':=d') u hok hg hch
end
abbrev XK:=Value→Option Addr→Hp→Prop
abbrev St:=List (Option V)
abbrev VK:=V→Hp→Prop
abbrev TE:=St→Hp→VK→Prop
abbrev TT:=St→Hp→(Bool→Hp→Prop)→Prop
abbrev TA:=St→Hp→(List V→Hp→Prop)→Prop
structure Ends where
  nx:St→Hp→Prop
  rt:VK
  bk:St→Hp→Prop:=fun _ _=>False
  ct:St→Hp→Prop:=fun _ _=>False
abbrev TS:=Ends→St→Hp→Prop
def EP (X:Cx)(pins:List (Addr×Obj))(σ:St)(Q:VK)(u:Value)(s':Shared):Prop:=∃ v H',Inv X pins σ H' s'∧RelV v u∧Q v H'
def TP (X:Cx)(pins:List (Addr×Obj))(σ:St)(Q:Bool→Hp→Prop)(b:Bool)(s':Shared):Prop:=∃ H',Inv X pins σ H' s'∧Q b H'
def AP (X:Cx)(pins:List (Addr×Obj))(σ:St)(Q:List V→Hp→Prop)(us:List Value)(s':Shared):Prop:=∃ vs H',Inv X pins σ H' s'∧Vals vs us∧Q vs H'
def SP (X:Cx)(pins:List (Addr×Obj))(D:Ends)(f:Flow)(s':Shared):Prop:=
  match f with
  | .next=>∃ σ' H',Inv X pins σ' H' s'∧D.nx σ' H'
  | .brk=>∃ σ' H',Inv X pins σ' H' s'∧D.bk σ' H'
  | .cont=>∃ σ' H',Inv X pins σ' H' s'∧D.ct σ' H'
  | .ret u=>∃ v σ' H',Inv X pins σ' H' s'∧RelV v u∧D.rt v H'
def PE (X:Cx)(e:Expr)(t:TE):Prop:=
  ∀ (pins:List (Addr×Obj)) (s:Shared) (σ:St) (H:Hp) (Q:VK),Inv X pins σ H s→t σ H Q→wpAny (model X.prog X.w) X.A (eval e X.env) (EP X pins σ Q) X.xe s
def PT (X:Cx)(e:Expr)(t:TT):Prop:=
  ∀ (pins:List (Addr×Obj)) (s:Shared) (σ:St) (H:Hp) (Q:Bool→Hp→Prop),Inv X pins σ H s→t σ H Q→wpAny (model X.prog X.w) X.A (isTrue e X.env (eval e X.env)) (TP X pins σ Q) X.xe s
def PW (X:Cx)(e:Expr)(t:TT):Prop:=
  ∀ (whole:Sem Value) (pins:List (Addr×Obj)) (s:Shared) (σ:St) (H:Hp) (Q:Bool→Hp→Prop),Inv X pins σ H s→t σ H Q→wpAny (model X.prog X.w) X.A (isTrue e X.env whole) (TP X pins σ Q) X.xe s
theorem PW.pt {X:Cx}{e:Expr}{t:TT}(h:PW X e t):PT X e t:=h _
def PA (X:Cx)(es:List Expr)(t:TA):Prop:=
  ∀ (pos:Pos) (pins:List (Addr×Obj)) (s:Shared) (σ:St) (H:Hp) (Q:List V→Hp→Prop),Inv X pins σ H s→t σ H Q→wpAny (model X.prog X.w) X.A (spliced (backTo pos (starEach es X.env))) (AP X pins σ Q) X.xe s
def PS (X:Cx)(st:Stmt)(t:TS):Prop:=
  ∀ (pins:List (Addr×Obj)) (s:Shared) (σ:St) (H:Hp) (D:Ends),Inv X pins σ H s→t D σ H→wpAny (model X.prog X.w) X.A (exec st X.env) (SP X pins D) X.xe s
def PSs (X:Cx)(st:List Stmt)(t:TS):Prop:=
  ∀ (pins:List (Addr×Obj)) (s:Shared) (σ:St) (H:Hp) (D:Ends),Inv X pins σ H s→t D σ H→wpAny (model X.prog X.w) X.A (execs st X.env) (SP X pins D) X.xe s
theorem thn {α:Type}{t:Sem α}{Q Q':α→Shared→Prop}{M:Model}{A:Around}{E:Value→Shared→Prop}{s:Shared}(h:wpAny M A t Q E s)(hQ:∀ a s,Q a s→Q' a s):wpAny M A t Q' E s:=wpAny_mono h hQ fun _ _ x=>x
end L2
namespace L2
open PySem PySem.Spec PyProof.Rows
section
variable {X:Cx}
def z9 (i:Nat):TE:=fun σ H Q=>∃ v,σ[i]? = some (some v)∧Q v H
def tC (v:V):TE:=fun _ H Q=>Q v H
theorem rR {i:Nat}{x:Str}{pos:Pos}(hN:X.N[i]? = some x)(hv:Vis X.env.scope x)(hd:(x == ("__debug__" : Str))=false:=by decide)(hcd:(x == ("__classdict__" : Str))=false:=by decide):PE X (.Name x pos) (z9 i):=by
  intro pins s σ H Q I h
  obtain ⟨v,e,h⟩:=h
  obtain ⟨m,hn,hl⟩:=I.loc
  obtain ⟨u,r,l⟩:=hl i x v hN e hv
  have fin:EP X pins σ Q u s:=⟨v,H,I,r,h⟩
  rcases l with ⟨hk,hm⟩ | ⟨hk,c,hc,hcell⟩
  · exact wpAny_Name (wpAny_loadName_local I.ok.kind hk hn hm fin) hd
  · rcases hk with hk | hk
    · exact wpAny_Name (wpAny_loadName_cell I.ok.kind hk hc hcell fin) hd
    · exact wpAny_Name (wpAny_loadName_free I.ok.kind hk hc hcell fin hcd) hd
theorem yd {i j pos}:PE X (.Constant (.int i) j pos) (tC (.int i)):=fun _ _ _ H _ I h=>wpAny_Constant_int ⟨.int i,H,I.tok _,⟨_,rfl⟩,h⟩
theorem An {b j pos}:PE X (.Constant (.bool b) j pos) (tC (.bl b)):=fun _ _ _ H _ I h=>Constant_bool ⟨.bl b,H,I,rfl,h⟩
theorem yJ {j pos}:PE X (.Constant .none j pos) (tC .non):=fun _ _ _ H _ I h=>Constant_none ⟨.non,H,I,rfl,h⟩
theorem zi {x j pos}:PE X (.Constant (.str x) j pos) (tC (.str x)):=fun _ _ _ H _ I h=>Calls.Constant_str ⟨.str x,H,I.tok _,⟨_,rfl⟩,h⟩
def Gl (X:Cx)(x:Str):Prop:=X.env.kindOf x=some .globalImplicit
theorem pL {E:Value→Shared→Prop}{pins:List (Addr×Obj)}{s:Shared}{σ:St}{H:Hp}{x:Str}{u:Value}{pos:Pos}{Q:Value→Shared→Prop}(I:Inv X pins σ H s)(hg:Gl X x)(hm:X.mg x=some u)(h:Q u s)
    (hd:(x == ("__debug__" : Str))=false:=by decide):wpAny (model X.prog X.w) X.A (eval (.Name x pos) X.env) Q E s:=
  Calls.Name_function_global I.ok.kind hg (Calls.loadGlobal_global (by rw[I.ok.glob];exact I.mod.glob.keeps I.bk) hm h) hd
theorem k6 {E:Value→Shared→Prop}{pins:List (Addr×Obj)}{s:Shared}{σ:St}{H:Hp}{x:Str}{u:Value}{pos:Pos}{Q:Value→Shared→Prop}(I:Inv X pins σ H s)(hg:Gl X x)(hm:X.mg x=none)(hv:bootBuiltins x=some u)(h:Q u s)
    (hn:x ≠ "__name__" := by decide) (hd:(x == ("__debug__" : Str))=false:=by decide):wpAny (model X.prog X.w) X.A (eval (.Name x pos) X.env) Q E s:=by
  obtain ⟨mb,h1,h2⟩:=I.mod.blt
  exact Calls.Name_function_global I.ok.kind hg (Calls.loadGlobal_builtin (by rw[I.ok.glob];exact I.mod.glob.keeps I.bk) hm (by rw[I.ok.blt];exact h1.keeps I.bk) ((h2 x hn).trans hv) h) hd
theorem uV {x:Str}{v:V}{u:Value}{pos:Pos}(hg:Gl X x)(hm:X.mg x=some u)(r:RelV v u)(hd:(x == ("__debug__" : Str))=false:=by decide):PE X (.Name x pos) (tC v):=
  fun _ _ _ H _ I h=>pL I hg hm ⟨v,H,I,r,h⟩ hd
theorem vO {x:Str}{v:V}{u:Value}{pos:Pos}(hg:Gl X x)(hm:X.mg x=none)(hv:bootBuiltins x=some u)(r:RelV v u)(hn:x ≠ "__name__" := by decide)(hd:(x == ("__debug__" : Str))=false:=by decide):PE X (.Name x pos) (tC v):=
  fun _ _ _ H _ I h=>k6 I hg hm hv ⟨v,H,I,r,h⟩ hn hd
variable {a b:Expr} {ta tb:TE} {pos:Pos}
def tB (t:TE):TT:=fun σ H Q=>t σ H fun x H1=>∃ c,x=.bl c∧Q c H1
theorem xy {e:Expr}{t:TE}(h:PE X e t)(he:∀ whole,isTrue e X.env whole=(do let v ← whole;standAt e.pos;holding [v] (truthy v)):=by intro _;rfl):PT X e (tB t):=by
  intro pins s σ H Q I hw
  refine isTrue_plain (thn (h pins s σ H _ I hw) fun v s1 ⟨x,H1,I1,r1,q1⟩=>?_) (he _)
  obtain ⟨d,rfl,q⟩:=q1
  cases r1
  exact wpAny_truthy_bool ⟨H1,I1,q⟩
variable {tA tB':TT} {rest:List Expr}
def tOr (t u:TT):TT:=fun σ H Q=>t σ H fun c H1=>if c=true then Q true H1 else u σ H1 Q
def Bo (t:TT):TT:=fun σ H Q=>t σ H fun c H1=>Q (!c) H1
theorem pw_or1 (ha:PT X a tA):PW X (.BoolOp .Or [a] pos) tA:=by
  intro wh pins s σ H Q I h
  refine isTrue_or (thn (ha pins s σ H Q I h) fun c s1 e=>?_)
  cases c with
  | false=>exact isTrue_or_nil e
  | true=>exact e
theorem pw_or (ha:PT X a tA)(hb:PW X (.BoolOp .Or (b::rest) pos) tB'):PW X (.BoolOp .Or (a::b::rest) pos) (tOr tA tB'):=by
  intro wh pins s σ H Q I h
  refine isTrue_or (thn (ha pins s σ H _ I h) fun c s1 ⟨H1,I1,q1⟩=>?_)
  cases c with
  | true=>exact ⟨H1,I1,q1⟩
  | false=>exact hb wh pins s1 σ H1 Q I1 q1
theorem yD (ha:PT X a tA):PT X (.UnaryOp .Not a pos) (Bo tA):=by
  intro pins s σ H Q I h
  exact isTrue_not (ha pins s σ H (fun c H1=>Q (!c) H1) I h)
def tIf (t:TT)(ta tb:TE):TE:=fun σ H Q=>t σ H fun c H1=>if c=true then ta σ H1 Q else tb σ H1 Q
theorem sk {c:Expr}(hc:PT X c tA)(ha:PE X a ta)(hb:PE X b tb):PE X (.IfExp c a b pos) (tIf tA ta tb):=by
  intro pins s σ H Q I h
  refine wpAny_IfExp (thn (hc pins s σ H _ I h) fun d s1 ⟨H1,I1,q1⟩=>?_)
  cases d with
  | true=>exact ha pins s1 σ H1 Q I1 q1
  | false=>exact hb pins s1 σ H1 Q I1 q1
end
end L2
namespace L2
open PySem PySem.Spec PyProof.Rows
def SqL (K:PySem.W.Frag)(H:Hp)(a:Addr)(xs:List V):Prop:=
  Rd H a (.lst xs)∨
    ∃ (o:Obj) (its:Array Value) (n:Nat),K.lookup a=some o∧o.cls=.type "list" ∧ o.dict=none∧o.data=.seq its n∧its.size≤sizeLine∧Vals xs its.toList
def SqT (K:PySem.W.Frag)(H:Hp)(a:Addr)(xs:List V):Prop:=
  Rd H a (.tup xs)∨
    ∃ (o:Obj) (its:Array Value) (n:Nat),K.lookup a=some o∧o.cls=.type "tuple" ∧ o.dict=none∧o.data=.seq its n∧its.size≤sizeLine∧Vals xs its.toList
def Bt:Value→Option V
  | .none=>some .non
  | .bool b=>some (.bl b)
  | .int i _=>some (.int i)
  | .str x _=>some (.str x)
  | .bytes b _=>some (.byt b)
  | .float b _=>some (.flt b)
  | .ref a=>some (.ref a)
  | .type n=>some (.ty n)
  | _=>none
theorem RelV.abs {x:V}{u:Value}(r:RelV x u):Bt u=some x:=by
  cases x with
  | non=>cases r;rfl
  | bl _=>cases r;rfl
  | int _=>obtain ⟨t,rfl⟩:=r;rfl
  | str _=>obtain ⟨t,rfl⟩:=r;rfl
  | byt _=>obtain ⟨t,rfl⟩:=r;rfl
  | flt _=>obtain ⟨t,rfl⟩:=r;rfl
  | ref _=>cases r;rfl
  | ty _=>cases r;rfl
theorem RelV.inj {x y:V}{u:Value}(r:RelV x u)(q:RelV y u):x=y:=Option.some.inj (r.abs.symm.trans q.abs)
theorem Vals.inj:∀ {xs ys:List V} {us:List Value},Vals xs us→Vals ys us→xs=ys
  | _,_,_,.nil,.nil=>rfl
  | _,_,_,.cons r t,.cons r' t'=>by rw[r.inj r',Vals.inj t t']
section
variable {X:Cx} {pins:List (Addr×Obj)} {σ:St} {H:Hp} {s:Shared} {a:Addr} {xs ys:List V}
theorem SqL.of {K:PySem.W.Frag}(h:H a=some (.lst xs)):SqL K H a xs:=.inl (.inl h)
theorem SqT.of {K:PySem.W.Frag}(h:H a=some (.tup xs)):SqT K H a xs:=.inl (.inl h)
theorem Inv.list (I:Inv X pins σ H s)(h:SqL X.K H a xs):∃ its:List Value,Vals xs its∧PlainL s.heap a its.toArray∧xs.length≤sizeLine:=by
  rcases h with h | ⟨o,its,n,hk,hc,hd,hs,hz,r⟩
  · obtain ⟨z,its,n,r,e⟩:=h.ok I.hok
    exact ⟨its,r,⟨_,n,e,rfl,rfl,rfl⟩,z⟩
  · refine ⟨its.toList,r,⟨o,n,I.kIn a o hk,hc,hd,by simpa using hs⟩,?_⟩
    have e:=r.length
    simp only[Array.length_toList] at e
    omega
theorem Inv.tuple (I:Inv X pins σ H s)(h:SqT X.K H a xs):∃ its:List Value,Vals xs its∧IsTup s.heap a its.toArray∧xs.length≤sizeLine:=by
  rcases h with h | ⟨o,its,n,hk,hc,hdn,hs,hz,r⟩
  · obtain ⟨z,its,r,p⟩:=h.ok I.hok
    exact ⟨its,r,p.tup,z⟩
  · refine ⟨its.toList,r,⟨o,I.kIn a o hk,hc,n,by simpa using hs⟩,?_⟩
    have e:=r.length
    simp only[Array.length_toList] at e
    omega
theorem Inv.r8 (I:Inv X pins σ H s)(h:SqL X.K H a xs)(h':SqL X.K H a ys):xs=ys:=by
  obtain ⟨its,r,⟨o,n,e,_,_,d⟩,_⟩:=I.list h
  obtain ⟨its',r',⟨o',n',e',_,_,d'⟩,_⟩:=I.list h'
  rw[e] at e';cases e'
  rw[d] at d'
  injection d' with d1 _
  have:its=its':=by simpa using congrArg Array.toList d1
  subst this
  exact r.inj r'
theorem Inv.qv (I:Inv X pins σ H s)(h:SqT X.K H a xs)(h':SqT X.K H a ys):xs=ys:=by
  obtain ⟨its,r,⟨o,e,_,n,d⟩,_⟩:=I.tuple h
  obtain ⟨its',r',⟨o',e',_,n',d'⟩,_⟩:=I.tuple h'
  rw[e] at e';cases e'
  rw[d] at d'
  injection d' with d1 _
  have:its=its':=by simpa using congrArg Array.toList d1
  subst this
  exact r.inj r'
end
abbrev Cx.gM (X:Cx)(E:Value→Shared→Prop):Cx:={ X with xe:=E }
abbrev Cx.nox (X:Cx):Cx:=X.gM fun _ _=>False
theorem Cx.Ok.gM {X:Cx}(ok:X.Ok)(E:Value→Shared→Prop):(X.gM E).Ok:=
  ⟨ok.mod,ok.kind,ok.glob,ok.blt,ok.above,ok.inj,ok.has,ok.cab,ok.hd,ok.frames,ok.stk,ok.exf,ok.bs,ok.bsz,ok.sf,ok.qW,ok.iw,ok.frf⟩
theorem Cx.Ok.cB {X:Cx}{E:Value→Shared→Prop}(ok:(X.gM E).Ok):X.Ok:=
  ⟨ok.mod,ok.kind,ok.glob,ok.blt,ok.above,ok.inj,ok.has,ok.cab,ok.hd,ok.frames,ok.stk,ok.exf,ok.bs,ok.bsz,ok.sf,ok.qW,ok.iw,ok.frf⟩
section
variable {X:Cx} {pins:List (Addr×Obj)} {σ:St} {H:Hp} {s:Shared} {E:Value→Shared→Prop}
theorem Inv.gM (I:Inv X pins σ H s)(E:Value→Shared→Prop):Inv (X.gM E) pins σ H s:=⟨I.ok.gM E,I.os,I.bare,I.base,I.loc,I.cell,I.free,I.d8,I.pin,I.hok,I.len⟩
theorem Inv.cB (I:Inv (X.gM E) pins σ H s):Inv X pins σ H s:=⟨I.ok.cB,I.os,I.bare,I.base,I.loc,I.cell,I.free,I.d8,I.pin,I.hok,I.len⟩
theorem SP.cB {D:Ends}{f:Flow}{s':Shared}(h:SP (X.gM E) pins D f s'):SP X pins D f s':=by
  cases f with
  | next=>obtain ⟨σ',H',I,q⟩:=h;exact ⟨σ',H',I.cB,q⟩
  | brk=>obtain ⟨σ',H',I,q⟩:=h;exact ⟨σ',H',I.cB,q⟩
  | cont=>obtain ⟨σ',H',I,q⟩:=h;exact ⟨σ',H',I.cB,q⟩
  | ret u=>obtain ⟨v,σ',H',I,r,q⟩:=h;exact ⟨v,σ',H',I.cB,r,q⟩
theorem PE.nox {e:Expr}{t:TE}(h:PE X.nox e t):PE X e t:=fun pins s σ H Q I hw=>
  wpAny_mono (h pins s σ H Q (I.gM _) hw) (fun _ _ ⟨v,H',I',r,q⟩=>⟨v,H',I'.cB,r,q⟩) fun _ _ z=>False.elim z
theorem PT.nox {e:Expr}{t:TT}(h:PT X.nox e t):PT X e t:=fun pins s σ H Q I hw=>
  wpAny_mono (h pins s σ H Q (I.gM _) hw) (fun _ _ ⟨H',I',q⟩=>⟨H',I'.cB,q⟩) fun _ _ z=>False.elim z
theorem PSs.nox {st:List Stmt}{t:TS}(h:PSs X.nox st t):PSs X st t:=fun pins s σ H D I hw=>
  wpAny_mono (h pins s σ H D (I.gM _) hw) (fun _ _ q=>q.cB) fun _ _ z=>False.elim z
end
section
variable {X:Cx} {st:Stmt} {rest:List Stmt} {t u:TS} {e:Expr} {te:TE} {pos:Pos}
def AY:TS:=fun D σ H=>D.nx σ H
def Bw (t u:TS):TS:=fun D σ H=>t { D with nx:=u D } σ H
theorem uz:PSs X [] AY:=fun _ _ σ H _ I h=>wpAny_execs_nil ⟨σ,H,I,h⟩
theorem ue (h1:PS X st t)(h2:PSs X rest u):PSs X (st::rest) (Bw t u):=by
  intro pins s σ H D I h
  refine wpAny_execs_cons (thn (h1 pins s σ H { D with nx:=u D } I h) fun f s1 q=>?_)
  cases f with
  | next=>
    obtain ⟨σ',H',I',q⟩:=q
    exact h2 pins s1 σ' H' D I' q
  | ret v=>exact q
  | brk=>exact q
  | cont=>exact q
theorem uA (h1:PS X st t):PSs X [st] t:=by
  intro pins s σ H D I h
  refine wpAny_execs_cons (thn (h1 pins s σ H D I h) fun f s1 q=>?_)
  cases f with
  | next=>exact wpAny_execs_nil q
  | ret v=>exact q
  | brk=>exact q
  | cont=>exact q
theorem Inv.quiet {pins:List (Addr×Obj)}{σ:St}{H:Hp}{s:Shared}(I:Inv X pins σ H s):interactive X.env=false:=by simp[interactive,I.ok.kind]
def Af (te:TE):TS:=fun D σ H=>te σ H fun _ H1=>D.nx σ H1
theorem vt (he:PE X e te)(hs:swapsWith e none pos.line X.env=pure false:=by rfl):PS X (.Expr e pos) (Af te):=by
  intro pins s σ H D I h
  exact wpAny_Expr_any (thn (he pins s σ H _ I h) fun v s1 ⟨x,H1,I1,r1,q1⟩=>⟨σ,H1,I1,q1⟩) I.quiet hs
def Bu (te:TE):TS:=fun D σ H=>te σ H D.rt
theorem yW (he:PE X e te):PS X (.Return (some e) pos) (Bu te):=by
  intro pins s σ H D I h
  exact wpAny_Return_some (thn (he pins s σ H _ I h) fun v s1 ⟨x,H1,I1,r1,q1⟩=>⟨x,σ,H1,I1,r1,q1⟩)
def Br (c:TT)(t u:TS):TS:=fun D σ H=>c σ H fun b H1=>if b=true then t D σ H1 else u D σ H1
theorem AI {c:Expr}{a b:List Stmt}{tc:TT}(hc:PT X c tc)(ha:PSs X a t)(hb:PSs X b u):PS X (.If c a b pos) (Br tc t u):=by
  intro pins s σ H D I h
  refine wpAny_If (thn (hc pins s σ H _ I h) fun d s1 ⟨H1,I1,q1⟩=>?_)
  cases d with
  | true=>exact ha pins s1 σ H1 D I1 q1
  | false=>exact hb pins s1 σ H1 D I1 q1
end
abbrev TG:=V→St→Hp→(St→Hp→Prop)→Prop
abbrev TGs:=List V→St→Hp→(St→Hp→Prop)→Prop
def PG (X:Cx)(target:Expr)(t:TG):Prop:=
  ∀ (pins:List (Addr×Obj)) (s:Shared) (σ:St) (H:Hp) (v:V) (u:Value) (Q:St→Hp→Prop),Inv X pins σ H s→RelV v u→t v σ H Q→
    wpAny (model X.prog X.w) X.A (assign target X.env u) (fun _ s'=>∃ σ' H',Inv X pins σ' H' s'∧Q σ' H') X.xe s
def PGs (X:Cx)(ts:List Expr)(t:TGs):Prop:=
  ∀ (pins:List (Addr×Obj)) (s:Shared) (σ:St) (H:Hp) (vs:List V) (us:List Value) (Q:St→Hp→Prop),Inv X pins σ H s→Vals vs us→t vs σ H Q→
    wpAny (model X.prog X.w) X.A (assignInOrder ((assignEach ts X.env).map (·.2)) us) (fun _ s'=>∃ σ' H',Inv X pins σ' H' s'∧Q σ' H') X.xe s
abbrev xM:=V→V→V→Hp→(Hp→Prop)→Prop
def zC (X:Cx)(t:xM):Prop:=
  ∀ (pins:List (Addr×Obj)) (s:Shared) (σ:St) (H:Hp) (o i v:V) (ov iv u:Value) (Q:Hp→Prop),Inv X pins σ H s→RelV o ov→RelV i iv→RelV v u→t o i v H Q→
    wpAny (model X.prog X.w) X.A (setItem ov iv u) (fun _ s'=>∃ H',Inv X pins σ H' s'∧Q H') X.xe s
section
variable {X:Cx} {pos:Pos}
def qV (i:Nat):TG:=fun v σ H Q=>Q (σ.set i (some v)) H
theorem ke {i:Nat}{x:Str}(hN:X.N.Nodup)(hi:X.N[i]? = some x)(hx:Loc X.env.scope x)(hf:X.fn x=true∨X.env.scope.names.lookup x=some .local:=by first | exact .inl rfl | exact .inr rfl | assumption):PG X (.Name x pos) (qV i):=by
  intro pins s σ H v u Q I r h
  exact wpAny_assign_Name (eS I hN hi hx r (fun s' I'=>⟨_,H,I',h⟩) hf)
def BI:TGs:=fun vs σ H Q=>vs=[]∧Q σ H
def AB (t:TG)(u:TGs):TGs:=fun vs σ H Q=>∃ v r,vs=v::r∧t v σ H fun σ' H'=>u r σ' H' Q
theorem vd:PGs X [] BI:=by
  intro pins s σ H vs us Q I r h
  obtain ⟨e,h⟩:=h
  subst e
  cases r
  exact assignInOrder_nil ⟨σ,H,I,h⟩
theorem sA {e:Expr}{es:List Expr}{t:TG}{u:TGs}(h1:PG X e t)(h2:PGs X es u)
    (hs:(assignEach (e::es) X.env).map (·.2)=assign e X.env::(assignEach es X.env).map (·.2):=by rfl):PGs X (e::es) (AB t u):=by
  intro pins s σ H vs us Q I r h
  obtain ⟨v,vr,e1,h⟩:=h
  subst e1
  cases r with
  | cons r rr=>
    rw[hs]
    refine assignInOrder_cons (thn (h1 pins s σ H _ _ _ I r h) fun _ s1 ⟨σ1,H1,I1,q1⟩=>?_)
    exact h2 pins s1 σ1 H1 _ _ Q I1 rr q1
def Bh (K:PySem.W.Frag)(n:Nat)(t:TGs):TG:=fun v σ H Q=>∃ a xs,v=.ref a∧SqT K H a xs∧xs.length=n∧t xs σ H Q
theorem zh {es:List Expr}{k:Nat}{t:TGs}{n:Nat}(hc:X.calm=true)(h:PGs X es t)
    (hn:(assignEach es X.env).length=n:=by rfl) (hst:(assignEach es X.env).findIdx? (·.1)=none:=by rfl):PG X (.Tuple es k pos) (Bh X.K n t):=by
  intro pins s σ H v u Q I r hw
  obtain ⟨a,xs,e1,hq,hl,hw⟩:=hw
  subst e1
  cases r
  obtain ⟨its,rv,ht,hz⟩:=I.tuple hq
  refine assign_Tuple_tuple (I.ok.hd hc) ht (by simp[hn,← hl,rv.length]) hst fun h' hx=>?_
  have I1:Inv X pins σ H { s with heap:=h' }:=I.kept (t':=s.toks) fun b o e=>hx b o (Nat.ne_of_lt (Heap.lt_size e)) e
  exact h pins _ σ H xs _ Q I1 (by simpa using rv) hw
def Bj (to ti:TE)(t:xM):TG:=fun v σ H Q=>to σ H fun o H1=>ti σ H1 fun i H2=>t o i v H2 fun H3=>Q σ H3
theorem xK {o i:Expr}{to ti:TE}{t:xM}(ho:PE X o to)(hi:PE X i ti)(hs:zC X t)
    (ha:∀ v,assign (.Subscript o i pos) X.env v=(do
      let ov ← holding [v] (eval o X.env)
      let iv ← holding [v,ov] (eval i X.env)
      standAt pos
      holding [v,ov,iv] (setItem ov iv v)
      release [v,ov,iv] []):=by intro _;rfl):PG X (.Subscript o i pos) (Bj to ti t):=by
  intro pins s σ H v u Q I r h
  rw[ha]
  refine wpAny_bind (wpAny_holding (thn (ho pins s σ H _ I h) fun ov s1 ⟨x,H1,I1,r1,q1⟩=>?_))
  refine wpAny_bind (wpAny_holding (thn (hi pins s1 σ H1 _ I1 q1) fun iv s2 ⟨y,H2,I2,r2,q2⟩=>?_))
  refine wpAny_bind (wpAny_standAt (wpAny_bind (wpAny_holding (thn (hs pins s2 σ H2 x y v ov iv u _ I2 r1 r2 r q2) fun _ s3 ⟨H3,I3,q3⟩=>?_))))
  exact wpAny_release ⟨σ,H3,I3,q3⟩
def Ao (te:TE)(g:TG):TS:=fun D σ H=>te σ H fun x H1=>g x σ H1 D.nx
theorem rP {tg e:Expr}{te:TE}{g:TG}(he:PE X e te)(hg:PG X tg g)(hs:swapsWithSole [tg] e pos.line X.env=pure false:=by rfl)(hw:swappedStores [tg] e X.env=pure none:=by rfl)
    (h1:(assignEach [tg] X.env).map (·.2)=[assign tg X.env]:=by rfl):PS X (.Assign [tg] e pos) (Ao te g):=by
  intro pins s σ H D I h
  refine wpAny_Assign_stores (thn (he pins s σ H _ I h) fun v s1 ⟨x,H1,I1,r1,q1⟩=>?_) hs hw
  rw[h1]
  exact thn (hg pins s1 σ H1 x v _ I1 r1 q1) fun _ s2 q=>q
theorem wY {i:Nat}{x:Str}{e:Expr}{te:TE}{pos':Pos}(hN:X.N.Nodup)(hi:X.N[i]? = some x)(hx:Loc X.env.scope x)(he:PE X e te)(hs:swapsWith e (some (.Name x pos')) pos.line X.env=pure false:=by rfl)(hf:X.fn x=true∨X.env.scope.names.lookup x=some .local:=by first | exact .inl rfl | exact .inr rfl | assumption) :
    PS X (.Assign [.Name x pos'] e pos) (Ao te (qV i)):=by
  intro pins s σ H D I h
  refine wpAny_Assign_Name (thn (he pins s σ H _ I h) fun v s1 ⟨y,H1,I1,r1,q1⟩=>?_) hs
  exact eS I1 hN hi hx r1 (fun s2 I2=>⟨_,H1,I2,q1⟩) hf
def Bx (i j:Nat)(ta:TA):TS:=fun D σ H=>ta σ H fun vs H1=>∃ v w,vs=[v,w]∧D.nx ((σ.set i (some v)).set j (some w)) H1
theorem ym {i j:Nat}{x y:Str}{a b:Expr}{ta:TA}{px py pt:Pos}{kt k2 pt2}(hc:X.calm=true)(hN:X.N.Nodup)(hi:X.N[i]? = some x)(hj:X.N[j]? = some y)(hij:i≠j)
    (hx:X.env.scope.names.lookup x=some .local) (hy:X.env.scope.names.lookup y=some .local) (ha:PA X [a,b] ta)
    (hw:swappedStores [.Tuple [.Name x px,.Name y py] kt pt] (.Tuple [a,b] k2 pt2) X.env=pure (some [x,y]))
    (hs:swapsWithSole [.Tuple [.Name x px,.Name y py] kt pt] (.Tuple [a,b] k2 pt2) pos.line X.env=pure false:=by rfl) :
    PS X (.Assign [.Tuple [.Name x px,.Name y py] kt pt] (.Tuple [a,b] k2 pt2) pos) (Bx i j ta):=by
  intro pins s σ H D I h
  rw[exec_Assign_arm]
  refine wpAny_bind (wpAny_standAt ?_)
  rw[hs]
  refine wpAny_bind (wpAny_pure ?_)
  rw[if_neg (by decide)]
  refine wpAny_bind (Tuple_ (thn (ha _ pins s σ H _ I h) fun us s1 ⟨vs,H1,I1,r1,q1⟩=>?_))
  obtain ⟨v,w,e1,q1⟩:=q1
  subst e1
  obtain ⟨u1,u2,rfl,rv,rw'⟩:∃ u1 u2,us=[u1,u2]∧RelV v u1∧RelV w u2:=by
    cases r1 with
    | cons p q=>
      cases q with
      | cons p' q'=>
        cases q'
        exact ⟨_,_,rfl,p,p'⟩
  refine wpAny_newObj_type ?_ (by show 2≤sizeLine;decide)
  have I2:Inv X pins σ H1 { s1 with heap:=s1.heap.push { cls:=.type "tuple", data:=.seq [u1,u2].toArray } }:=I1.kept (t':=s1.toks) fun b o e=>Heap.get?_push_of_some _ e
  rw[hw]
  refine wpAny_bind (wpAny_pure ?_)
  show wpAny (model X.prog X.w) X.A (do rule "assign.swapped-stores";let items ← unpackItems (.ref s1.heap.objs.size) 2 none;assignInOrder [fun v=>bindName X.env y v,fun v=>bindName X.env x v] items.reverse;pure Flow.next) _ _ _
  refine wpAny_bind (wpAny_rule (wpAny_bind (unpackItems_tuple (items:=#[u1,u2]) (I.ok.hd hc) (IsTup.new s1.heap _) fun h' hx'=>?_)))
  have I3:=I2.kept (h':=h') (t':=s1.toks) fun b o e=>hx' b o (Nat.ne_of_lt (Heap.lt_size e)) e
  show wpAny _ _ (assignInOrder [fun v=>bindName X.env y v,fun v=>bindName X.env x v] [u2,u1] >>= fun _=>pure Flow.next) _ _ _
  refine wpAny_bind (assignInOrder_cons (wpAny_bindName (eS I3 hN hj (.inl hy) rw' (fun s2 I4=>?_) (.inr hy))))
  refine assignInOrder_cons (wpAny_bindName (eS I4 hN hi (.inl hx) rv (fun s3 I5=>assignInOrder_nil (wpAny_pure ?_)) (.inr hx)))
  rw[List.set_comm _ _ (Ne.symm hij)] at I5
  exact ⟨_,H1,I5,q1⟩
end
section
variable {X:Cx} {pos:Pos}
def y6 (c:TT)(tb:TS):TS:=fun D σ H=>∃ W:Nat→St→Hp→Prop,(∃ m,W m σ H)∧∀ m σ H,W m σ H→
  c σ H fun b H1=>if b=true then ∃ N:St→Hp→Prop,(∀ σ' H',N σ' H'→∃ m',m' < m∧W m' σ' H')∧tb { D with nx:=N,ct:=N,bk:=D.nx } σ H1 else D.nx σ H1
theorem qL {c:Expr}{body:List Stmt}{tc:TT}{tb:TS}(hp:PassesOwn (model X.prog X.w) X.A X.env X.xe)(hc:PT X c tc)(hb:PSs X body tb):PS X (.While c body [] pos) (y6 tc tb):=by
  intro pins s σ H D I h
  obtain ⟨W,⟨m0,w0⟩,turn⟩:=h
  refine wpAny_While (codeAny_whileLoop (fun n s'=>∃ σ' H',Inv X pins σ' H' s'∧W n σ' H') ?_ m0 ⟨σ,H,I,w0⟩)
  rintro n s1 ⟨σ1,H1,I1,w1⟩
  refine wpAny_passesOwn hp (thn (hc pins s1 σ1 H1 _ I1 (turn n σ1 H1 w1)) fun b s2 ⟨H2,I2,q2⟩=>?_)
  cases b with
  | true=>
    obtain ⟨N,hN,q2⟩:=q2
    rw[if_pos rfl]
    refine wpAny_passesOwn hp (thn (hb pins s2 σ1 H2 _ I2 q2) fun f s3 q3=>?_)
    cases f with
    | next=>
      obtain ⟨σ3,H3,I3,n3⟩:=q3
      obtain ⟨m',hm,w3⟩:=hN σ3 H3 n3
      exact ⟨m',hm,σ3,H3,I3,w3⟩
    | cont=>
      obtain ⟨σ3,H3,I3,n3⟩:=q3
      obtain ⟨m',hm,w3⟩:=hN σ3 H3 n3
      exact ⟨m',hm,σ3,H3,I3,w3⟩
    | brk=>exact q3
    | ret v=>exact q3
  | false=>
    rw[if_neg Bool.false_ne_true]
    exact wpAny_execs_nil ⟨σ1,H2,I2,q2⟩
end
structure It where
  go:Nat→Hp→Prop
  yld:Nat→Hp→V→Hp→Prop
  stop:Nat→Hp→Prop
def l9 (X:Cx)(pins:List (Addr×Obj))(H:Hp)(b:Addr):Prop:=
  H b=none∧b≠X.env.locals∧b ∉ X.fs∧(b∈X.ex∨X.s₀.heap.objs.size≤b)∧(∀ x c,X.env.cells.lookup x=some c→c≠b)∧∀ p∈X.pn++pins,p.1≠b
theorem Inv.zW {X:Cx}{pins:List (Addr×Obj)}{σ:St}{H H':Hp}{s:Shared}{b:Addr}(I:Inv X pins σ H s)(hb:s.heap.objs.size≤b)(hn:H' b=none):l9 X pins H' b:=by
  refine ⟨hn,Nat.ne_of_gt (Nat.lt_of_lt_of_le I.lt hb),I.BK hb,.inr (Nat.le_trans I.sz hb),fun x c e z=>?_,fun p hp z=>?_⟩
  · obtain ⟨v,q⟩:=I.cell x c e
    exact absurd (Nat.lt_of_lt_of_le q.lt (by rw[z];exact hb)) (Nat.lt_irrefl _)
  · exact absurd (Nat.lt_of_lt_of_le (Heap.lt_size (I.pin p hp).1) (by rw[z];exact hb)) (Nat.lt_irrefl _)
structure Turn (P:Program) (w:World) (K:PySem.W.Frag) (tg:Expr) (J:It) (fp:List Addr) (it:Addr) (tn:Nat→Heap→Prop):Prop where
  mem:it∈fp
  obj:∀ i h,tn i h→∀ b∈fp,∃ o,h.get? b=some o∧∀ v,o.data≠.cell v
  keep:∀ i h h',tn i h→(∀ b∈fp,∀ o,h.get? b=some o→h'.get? b=some o)→tn i h'
  item:∀ (X:Cx),X.prog=P→X.w=w→X.K=K→X.calm=true→∀ (i:Nat) (pins:List (Addr×Obj)) (s:Shared) (σ:St) (H:Hp) (E:Value→Shared→Prop),Inv X pins σ H s→(∀ b∈fp,l9 X pins H b)→tn i s.heap→J.go i H→
    wpAny (model P w) X.A (pyNext (.ref it)) (fun r s1=>∃ u,r=some u∧
      wpAny (model P w) X.A (letOwnedTupleGo tg (.ref it) u) (fun _ s2=>∃ x H',Inv X pins σ H' s2∧RelV x u∧J.yld i H x H'∧tn (i+1) s2.heap∧∀ b∈fp,H' b=none) E s1) E s
  done:∀ (X:Cx),X.prog=P→X.w=w→X.K=K→X.calm=true→∀ (i:Nat) (pins:List (Addr×Obj)) (s:Shared) (σ:St) (H:Hp) (E:Value→Shared→Prop),Inv X pins σ H s→(∀ b∈fp,l9 X pins H b)→tn i s.heap→J.stop i H→
    wpAny (model P w) X.A (pyNext (.ref it)) (fun r s1=>r=none∧Inv X pins σ H s1) E s
  self:∀ (A:Around) (i:Nat) (s:Shared) (Q:Value→Shared→Prop) (E:Value→Shared→Prop),tn i s.heap→Q (.ref it) s→wpAny (model P w) A (pyIter (.ref it)) Q E s
abbrev TI:=St→Hp→(It→Hp→Prop)→Prop
def PIE (X:Cx)(pins:List (Addr×Obj))(σ:St)(tg:Expr)(R:It→Hp→Prop)(itv:Value)(s2:Shared):Prop:=
  ∃ (it:Addr) (fp:List Addr) (tn:Nat→Heap→Prop) (J:It) (H':Hp),itv=.ref it∧Inv X pins σ H' s2∧Turn X.prog X.w X.K tg J fp it tn∧tn 0 s2.heap∧(∀ b∈fp,l9 X pins H' b)∧R J H'
def PI (X:Cx)(tg iter:Expr)(wi:TI):Prop:=
  ∀ (pins:List (Addr×Obj)) (s:Shared) (σ:St) (H:Hp) (R:It→Hp→Prop),Inv X pins σ H s→wi σ H R→
    wpAny (model X.prog X.w) X.A (eval iter X.env) (fun v s1=>wpAny (model X.prog X.w) X.A (pyIter v) (PIE X pins σ tg R) X.xe s1) X.xe s
theorem qH {M:Model}{A:Around}{E:Value→Shared→Prop}{s:Shared}{tg:Expr}{it:Addr}{u:Value}{o:Obj}{n:String}{vs:Array Value}{Q:Unit→Shared→Prop}(ho:s.heap.get? it=some o)(hc:o.cls=.type n)(hd:o.data=.fields vs)
    (hn:["enumerate", "zip", "dict_itemiterator", "dict_reverseitemiterator", "odict_iterator", "itertools.zip_longest", "itertools.pairwise"].contains n=false) (hQ:Q () s):wpAny M A (letOwnedTupleGo tg (.ref it) u) Q E s:=by
  unfold letOwnedTupleGo
  cases tg<;>first
    | exact wpAny_pure hQ
    | (cases u<;>first
        | exact wpAny_pure hQ
        | (refine wpAny_bind (wpAny_load ho ?_)
           rw[hc,hd]
           show wpAny M A (if (["enumerate", "zip", "dict_itemiterator", "dict_reverseitemiterator", "odict_iterator", "itertools.zip_longest", "itertools.pairwise"].contains n&&vs[0]? == some (rawInt _))=true then _ else _) Q E s
           rw[if_neg (by intro h;rw[hn,Bool.false_and] at h;cases h)]
           exact wpAny_pure hQ))
def Itl (K:PySem.W.Frag)(a:Addr):It:=
  ⟨fun i H=>∃ xs x,SqL K H a xs∧xs[i]? = some x,fun i H x H'=>H'=H∧∀ xs,SqL K H a xs→xs[i]? = some x,fun i H=>∃ xs,SqL K H a xs∧xs.length≤i⟩
def Itt (K:PySem.W.Frag)(a:Addr):It:=
  ⟨fun i H=>∃ xs x,SqT K H a xs∧xs[i]? = some x,fun i H x H'=>H'=H∧∀ xs,SqT K H a xs→xs[i]? = some x,fun i H=>∃ xs,SqT K H a xs∧xs.length≤i⟩
def Itr (lo:Int)(n:Nat):It:=⟨fun i _=>i < n,fun i H x H'=>H'=H∧x=.int (lo+i),fun i _=>n≤i⟩
theorem qw {P:Program}{w:World}{K:PySem.W.Frag}{tg:Expr}(a it:Addr):Turn P w K tg (Itl K a) [it] it (fun i h=>h.IsListIter it a i) where
  mem:=by simp
  obj:=fun i h st b hb=>by
    have e:b=it:=by simpa using hb
    subst e
    obtain ⟨o,e,c,d⟩:=st
    exact ⟨o,e,fun v z=>by rw[d] at z;cases z⟩
  keep:=fun i h h' st k=>st.at fun o e=>k it (by simp) o e
  item:=by
    intro X hP hw hK hc i pins s σ H E I hf st hg
    subst hP hw hK
    obtain ⟨xs,x,hq,hx⟩:=hg
    obtain ⟨its,rv,p,hz⟩:=I.list hq
    obtain ⟨u,hu,ru⟩:=rv.get hx
    obtain ⟨f0,f1,f2,f3,f4,f5⟩:=hf it (by simp)
    refine wpAny_pyNext_list_item st p.isList (x:=u) (by simpa using hu) fun h' st' sb=>?_
    have I1:Inv X pins σ H { s with heap:=h' }:=I.turned (t':=s.toks) (fun b o hb e=>(sb.2 b hb).trans e) f0 f1 f3 f4 f5
    obtain ⟨o,e,c,d⟩:=id st'
    exact ⟨u,rfl,qH (s:={ s with heap:=h' }) e c d (by decide) ⟨x,H,I1,ru,⟨rfl,fun ys hy=>by rw[I.r8 hy hq];exact hx⟩,st',fun b hb=>(hf b hb).1⟩⟩
  done:=by
    intro X hP hw hK hc i pins s σ H E I hf st hg
    subst hP hw hK
    obtain ⟨xs,hq,hx⟩:=hg
    obtain ⟨its,rv,p,hz⟩:=I.list hq
    obtain ⟨f0,f1,f2,f3,f4,f5⟩:=hf it (by simp)
    have hl:=rv.length
    exact wpAny_pyNext_list_end (I.ok.hd hc) st p.isList (by simp;omega) fun h' eb=>⟨rfl,I.turned (t':=s.toks) (fun b o hb e=>eb b o hb e) f0 f1 f3 f4 f5⟩
  self:=fun _ _ _ _ _ st h=>wpAny_pyIter_listiter st h
theorem nW {P:Program}{w:World}{K:PySem.W.Frag}{tg:Expr}(a it:Addr):Turn P w K tg (Itt K a) [it] it (fun i h=>h.IsTupleIter it a i) where
  mem:=by simp
  obj:=fun i h st b hb=>by
    have e:b=it:=by simpa using hb
    subst e
    obtain ⟨o,e,c,d⟩:=st
    exact ⟨o,e,fun v z=>by rw[d] at z;cases z⟩
  keep:=fun i h h' st k=>st.at fun o e=>k it (by simp) o e
  item:=by
    intro X hP hw hK hc i pins s σ H E I hf st hg
    subst hP hw hK
    obtain ⟨xs,x,hq,hx⟩:=hg
    obtain ⟨its,rv,p,hz⟩:=I.tuple hq
    obtain ⟨u,hu,ru⟩:=rv.get hx
    obtain ⟨f0,f1,f2,f3,f4,f5⟩:=hf it (by simp)
    refine wpAny_pyNext_tuple_item st (show s.heap.IsTuple a its.toArray from p) (x:=u) (by simpa using hu) fun h' st' sb=>?_
    have I1:Inv X pins σ H { s with heap:=h' }:=I.turned (t':=s.toks) (fun b o hb e=>(sb.2 b hb).trans e) f0 f1 f3 f4 f5
    obtain ⟨o,e,c,d⟩:=id st'
    exact ⟨u,rfl,qH (s:={ s with heap:=h' }) e c d (by decide) ⟨x,H,I1,ru,⟨rfl,fun ys hy=>by rw[I.qv hy hq];exact hx⟩,st',fun b hb=>(hf b hb).1⟩⟩
  done:=by
    intro X hP hw hK hc i pins s σ H E I hf st hg
    subst hP hw hK
    obtain ⟨xs,hq,hx⟩:=hg
    obtain ⟨its,rv,p,hz⟩:=I.tuple hq
    obtain ⟨f0,f1,f2,f3,f4,f5⟩:=hf it (by simp)
    have hl:=rv.length
    exact wpAny_pyNext_tuple_end (I.ok.hd hc) st (show s.heap.IsTuple a its.toArray from p) (by simp;omega) fun h' eb=>⟨rfl,I.turned (t':=s.toks) (fun b o hb e=>eb b o hb e) f0 f1 f3 f4 f5⟩
  self:=fun _ _ _ _ _ st h=>wpAny_pyIter_tupleiter st h
theorem nS {P:Program}{w:World}{K:PySem.W.Frag}{tg:Expr}(it:Addr)(lo:Int)(n:Nat):Turn P w K tg (Itr lo n) [it] it (fun i h=>IsRangeIter h it (lo+(i:Nat)*1) ((n:Int) - (i:Nat)) 1) where
  mem:=by simp
  obj:=fun i h st b hb=>by
    have e:b=it:=by simpa using hb
    subst e
    exact ⟨_,st,fun v z=>by
      have z':Data.fields _=Data.cell v:=z
      cases z'⟩
  keep:=fun i h h' st k=>k it (by simp) _ st
  item:=by
    intro X hP hw hK hc i pins s σ H E I hf st hg
    subst hP hw hK
    obtain ⟨f0,f1,f2,f3,f4,f5⟩:=hf it (by simp)
    have W:=Walks.range (prog:=X.prog) (w:=X.w) (I.ok.hd hc) it lo 1 n
    refine W.item i s _ _ hg st fun v h' tk hv st' kk=>?_
    obtain ⟨t,rfl⟩:=hv
    have I1:Inv X pins σ H { s with heap:=h',toks:=tk }:=I.turned (fun b o hb e=>kk b o (by simpa using hb) e) f0 f1 f3 f4 f5
    refine ⟨_,rfl,qH (s:={ s with heap:=h',toks:=tk }) (n := "range_iterator") st' rfl rfl (by decide) ⟨.int (lo+i),H,I1,⟨t,?_⟩,⟨rfl,rfl⟩,st',fun b hb=>(hf b hb).1⟩⟩
    rw[Int.mul_one]
  done:=by
    intro X hP hw hK hc i pins s σ H E I hf st hg
    subst hP hw hK
    obtain ⟨f0,f1,f2,f3,f4,f5⟩:=hf it (by simp)
    exact wpAny_pyNext_range_end (I.ok.hd hc) st (by have:n≤i:=hg;omega) fun h' eb=>⟨rfl,I.turned (t':=s.toks) (fun b o hb e=>eb b o hb e) f0 f1 f3 f4 f5⟩
  self:=fun _ _ _ _ _ st h=>wpAny_pyIter_rangeiter st h
end L2
namespace L2
open PySem PySem.Spec PyProof.Rows
section
variable {X:Cx} {tg:Expr}
theorem rf {pins:List (Addr×Obj)}{σ:St}{H:Hp}{s:Shared}{R:It→Hp→Prop}{E:Value→Shared→Prop}{lo hi:Int}{t u v:Tok}{tk:Nat}(I:Inv X pins σ H s)(h1:-(2 ^ 62)≤lo)(h2:lo < 2 ^ 62)(h3:-(2 ^ 62)≤hi)(h4:hi < 2 ^ 62)
    (q:R (Itr lo (hi - lo).toNat) H):wpAny (model X.prog X.w) X.A (pyIter (.ref s.heap.objs.size)) (PIE X pins σ tg R) E { s with heap:=s.heap.push { cls:=.type "range", data:=.fields #[.int lo t,.int hi u,.int 1 v] },toks:=tk }:=by
  refine wpAny_pyIter_range (IsRange.new ..) (small_one h1 h2 h3 h4) ?_
  have I1:Inv X pins σ H { s with heap:=s.heap.push { cls:=.type "range", data:=.fields #[.int lo t,.int hi u,.int 1 v] },toks:=tk }:=I.kept fun b o e=>Heap.get?_push_of_some _ e
  refine ⟨(s.heap.push { cls:=.type "range", data:=.fields #[.int lo t,.int hi u,.int 1 v] }).objs.size,[(s.heap.push { cls:=.type "range", data:=.fields #[.int lo t,.int hi u,.int 1 v] }).objs.size],_,_,H,rfl,
    I1.kept (t':=tk) fun b o e=>Heap.get?_push_of_some _ e,nS _ lo (hi - lo).toNat,?_,fun b hb=>?_,q⟩
  · have e1:lo+((0:Nat):Int)*1=lo:=by simp
    have e2:(((hi - lo).toNat:Nat):Int) - ((0:Nat):Int)=Builtin.Range.rangeSize lo hi 1:=by rw[rangeSize_one];split<;>omega
    show IsRangeIter _ _ (lo+((0:Nat):Int)*1) ((((hi - lo).toNat:Nat):Int) - ((0:Nat):Int)) 1
    rw[e1,e2]
    exact Heap.get?_push_size _ rfl
  · have e:b=(s.heap.push { cls:=.type "range", data:=.fields #[.int lo t,.int hi u,.int 1 v] }).objs.size:=by simpa using hb
    subst e
    exact I1.zW (Nat.le_refl _) (I1.hok.fresh (Nat.le_refl _))
def zK (ta:TA):TI:=fun σ H R=>ta σ H fun vs H1=>∃ j:Int,vs=[.int j]∧-(2 ^ 62)≤j∧j < 2 ^ 62∧R (Itr 0 j.toNat) H1
theorem qD {a:Expr}{ta:TA}{p pos:Pos}(hg:Gl X "range")(hm:X.mg "range" = none)(ha:PA X [a] ta)(hs:starEach [a] X.env=[(false,eval a X.env)]:=by rfl):PI X tg (.Call (.Name "range" p) [a] [] pos) (zK ta):=by
  intro pins s σ H R I h
  refine Call_ (k6 I hg hm boot_range (PyProof.Rows.callWith_type1 (thn (ha pos pins s σ H _ I h) fun us s1 ⟨vs,H1,I1,r1,q1⟩=>?_) hs rfl))
  obtain ⟨j,e,q1,q2,q⟩:=q1
  subst e
  cases r1 with
  | cons r rr=>
    cases rr
    obtain ⟨t,rfl⟩:=r
    exact call_range_1 (rf I1 (by omega) (by omega) q1 q2 (by simpa using q))
def Bc (wi:TI)(g:TG)(tb:TS):TS:=fun D σ H=>wi σ H fun J H1=>∃ W:Nat→Nat→St→Hp→Prop,(∃ m,W 0 m σ H1)∧∀ i m σ H,W i m σ H→
  (J.stop i H∧D.nx σ H)∨(J.go i H∧∃ N:St→Hp→Prop,(∀ σ' H',N σ' H'→∃ m',m' < m∧W (i+1) m' σ' H')∧∀ x H',J.yld i H x H'→g x σ H' fun σ2 H2=>tb { D with nx:=N,ct:=N,bk:=D.nx } σ2 H2)
def jd (fp:List Addr)(h:Heap):List (Addr×Obj):=fp.filterMap fun b=>(h.get? b).map fun o=>(b,o)
theorem da {fp:List Addr}{h:Heap}{b:Addr}{o:Obj}(hb:b∈fp)(e:h.get? b=some o):(b,o)∈jd fp h:=List.mem_filterMap.mpr ⟨b,hb,by rw[e];rfl⟩
theorem qj {fp:List Addr}{h:Heap}{p:Addr×Obj}(hp:p∈jd fp h):p.1∈fp∧h.get? p.1=some p.2:=by
  obtain ⟨b,hb,e⟩:=List.mem_filterMap.mp hp
  cases q:h.get? b with
  | none=>rw[q] at e;cases e
  | some o=>
    rw[q] at e
    have e':(b,o)=p:=Option.some.inj e
    subst e'
    exact ⟨hb,q⟩
theorem Inv.pinned {pins:List (Addr×Obj)}{σ:St}{H:Hp}{s:Shared}{fp:List Addr}(I:Inv X pins σ H s)(hf:∀ b∈fp,l9 X pins H b)(ho:∀ b∈fp,∃ o,s.heap.get? b=some o∧∀ v,o.data≠.cell v):Inv X (pins++jd fp s.heap) σ H s:=
  I.o5 fun p hp=>(List.mem_append.mp hp).elim (fun z=>I.pin p (List.mem_append_right _ z)) fun z=>by
    obtain ⟨hb,e⟩:=qj z
    obtain ⟨f0,f1,f2,_⟩:=hf p.1 hb
    obtain ⟨o,e',d⟩:=ho p.1 hb
    rw[e] at e';cases e'
    exact ⟨e,f0,f1,f2,d⟩
theorem Inv.fv {pins pl:List (Addr×Obj)}{σ:St}{H:Hp}{s:Shared}(I:Inv X (pins++pl) σ H s):Inv X pins σ H s:=I.o5 fun p hp=>I.pin p (List.mem_append_right _ (List.mem_append_left _ hp))
theorem yI {iter:Expr}{body:List Stmt}{wi:TI}{g:TG}{tb:TS}{pos:Pos}(hp:PassesOwn (model X.prog X.w) X.A X.env X.xe)(hc:X.calm=true)(hi:PI X tg iter wi)(hg:PG X tg g)(hb:PSs X body tb)
    (hs:∀ x,foldedSetIterable iter X.env x=pure x:=by intro _;rfl):PS X (.For tg iter body [] pos) (Bc wi g tb):=by
  intro pins s σ H D I h
  refine wpAny_For (thn (hi pins s σ H _ I h) fun v s1 h1=>thn h1 fun itv s2 h2=>?_) hs
  obtain ⟨it,fp,tn,J,H2,e,I2,T,st2,f2,W,⟨m0,w0⟩,turn⟩:=h2
  subst e
  -- what stays true of the iterator's objects through the loop
  have nI:∀ {H':Hp},(∀ b∈fp,H' b=none)→∀ b∈fp,l9 X pins H' b:=fun hn b hb=>⟨hn b hb,(f2 b hb).2⟩
  refine codeAny_forLoop_any (fun n s'=>∃ i σ' H',Inv X pins σ' H' s'∧tn i s'.heap∧(∀ b∈fp,H' b=none)∧W i n σ' H') ?_ m0 ⟨0,σ,H2,I2,st2,fun b hb=>(f2 b hb).1,w0⟩
  rintro n s3 ⟨i,σ3,H3,I3,st3,fr3,w3⟩
  rcases turn i n σ3 H3 w3 with ⟨stop,qn⟩ | ⟨go,N,hN,step⟩
  · refine wpAny_passesOwn hp (thn (T.done X rfl rfl rfl hc i pins s3 σ3 H3 X.xe I3 (nI fr3) st3 stop) fun r s4 ⟨hr,I4⟩=>?_)
    subst hr
    exact wpAny_execs_nil ⟨σ3,H3,I4,qn⟩
  · refine wpAny_passesOwn hp (thn (T.item X rfl rfl rfl hc i pins s3 σ3 H3 X.xe I3 (nI fr3) st3 go) fun r s4 ⟨u,hr,h4⟩=>?_)
    subst hr
    refine wpAny_passesOwn hp (thn h4 fun _ s5 ⟨x,H5,I5,r5,y5,st5,fr5⟩=>?_)
    have I5':=I5.pinned (nI fr5) (T.obj _ _ st5)
    refine wpAny_passesOwn hp (thn (hg _ s5 σ3 H5 x u _ I5' r5 (step x H5 y5)) fun _ s6 ⟨σ6,H6,I6,q6⟩=>?_)
    refine wpAny_passesOwn hp (thn (hb _ s6 σ6 H6 _ I6 q6) fun f s7 q7=>?_)
    have again:∀ {σ7:St} {H7:Hp},Inv X (pins++jd fp s5.heap) σ7 H7 s7→N σ7 H7→∃ m,m < n∧∃ i σ' H',Inv X pins σ' H' s7∧tn i s7.heap∧(∀ b∈fp,H' b=none)∧W i m σ' H':=fun {σ7 H7} I7 n7=>by
      obtain ⟨m',hm,w7⟩:=hN σ7 H7 n7
      refine ⟨m',hm,i+1,σ7,H7,I7.fv,T.keep _ _ _ st5 fun b hb o e=>(I7.pin (b,o) (List.mem_append_right _ (List.mem_append_right _ (da hb e)))).1,fun b hb=>?_,w7⟩
      obtain ⟨o,e,d⟩:=T.obj _ _ st5 b hb
      exact (I7.pin (b,o) (List.mem_append_right _ (List.mem_append_right _ (da hb e)))).2.1
    cases f with
    | next=>obtain ⟨σ7,H7,I7,n7⟩:=q7;exact again I7 n7
    | cont=>obtain ⟨σ7,H7,I7,n7⟩:=q7;exact again I7 n7
    | brk=>obtain ⟨σ7,H7,I7,q7⟩:=q7;exact ⟨σ7,H7,I7.fv,q7⟩
    | ret v=>obtain ⟨x7,σ7,H7,I7,r7,q7⟩:=q7;exact ⟨x7,σ7,H7,I7.fv,r7,q7⟩
end
end L2
namespace L2
open PySem PySem.Spec PyProof.Rows
abbrev R2:=V→V→Hp→VK→Prop
def OpR (X:Cx)(f:Value→Value→Sem Value)(r:R2):Prop:=
  ∀ (pins:List (Addr×Obj)) (s:Shared) (σ:St) (H:Hp) (x y:V) (v u:Value) (Q:VK),Inv X pins σ H s→RelV x v→RelV y u→r x y H Q→
    wpAny (model X.prog X.w) X.A (f v u) (EP X pins σ Q) X.xe s
def bj (X:Cx)(f:Value)(r:List V→Hp→VK→Prop):Prop:=
  ∀ (pins:List (Addr×Obj)) (s:Shared) (σ:St) (H:Hp) (xs:List V) (us:List Value) (Q:VK),Inv X pins σ H s→Vals xs us→r xs H Q→
    wpAny (model X.prog X.w) X.A (call f us) (EP X pins σ Q) X.xe s
def tOp (r:R2)(ta tb:TE):TE:=fun σ H Q=>ta σ H fun x H1=>tb σ H1 fun y H2=>r x y H2 Q
def rI (C:Int→Int→Prop)(g:Int→Int→V):R2:=fun x y H Q=>∃ i j,x=.int i∧y=.int j∧C i j∧Q (g i j) H
def rI0 (g:Int→Int→V):R2:=fun x y H Q=>∃ i j,x=.int i∧y=.int j∧Q (g i j) H
section
variable {X:Cx} {a b c:Expr} {ta tb tc:TE} {pos:Pos}
theorem yb (ha:PE X a ta)(hb:PE X b tb){pins:List (Addr×Obj)}{s:Shared}{σ:St}{H:Hp}{R:V→V→Hp→Prop}(I:Inv X pins σ H s)
    (h:ta σ H fun x H1=>tb σ H1 fun y H2=>R x y H2) {Q:Value→Shared→Prop} {f:Value→Value→Sem Value}
    (hf:∀ v u s2 x y H2,Inv X pins σ H2 s2→RelV x v→RelV y u→R x y H2→wpAny (model X.prog X.w) X.A (f v u) Q X.xe s2) :
    wpAny (model X.prog X.w) X.A (eval a X.env) (fun v s₁=>wpAny (model X.prog X.w) X.A (eval b X.env) (fun u s₂=>wpAny (model X.prog X.w) X.A (f v u) Q X.xe s₂) X.xe s₁) X.xe s:=by
  refine thn (ha pins s σ H _ I h) fun v s1 ⟨x,H1,I1,r1,q1⟩=>?_
  refine thn (hb pins s1 σ H1 _ I1 q1) fun u s2 ⟨y,H2,I2,r2,q2⟩=>?_
  exact hf v u s2 x y H2 I2 r1 r2 q2
theorem wR {op:Operator}{r:R2}(ho:OpR X (binaryOp op) r)(ha:PE X a ta)(hb:PE X b tb):PE X (.BinOp a op b pos) (tOp r ta tb):=by
  intro pins s σ H Q I h
  exact wpAny_BinOp (yb ha hb I h fun v u s2 x y H2 I2 rx ry q=>ho pins s2 σ H2 x y v u Q I2 rx ry q)
theorem opI {f:Value→Value→Sem Value}{C:Int→Int→Prop}{g:Int→Int→Int}
    (rule:∀ (i j:Int) (t u:Tok) (s:Shared) (Q:Value→Shared→Prop) (E:Value→Shared→Prop),C i j→Q (.int (g i j) s.toks) { s with toks:=s.toks+1 }→wpAny (model X.prog X.w) X.A (f (.int i t) (.int j u)) Q E s) :
    OpR X f (rI C fun i j=>.int (g i j)):=by
  intro pins s σ H x y v u Q I rx ry h
  obtain ⟨i,j,rfl,rfl,hc,q⟩:=h
  obtain ⟨t,rfl⟩:=rx
  obtain ⟨t',rfl⟩:=ry
  exact rule i j t t' s _ _ hc ⟨.int (g i j),H,I.tok _,⟨_,rfl⟩,q⟩
theorem Ai {f:Value→Value→Sem Value}{g:Int→Int→Int}
    (rule:∀ (i j:Int) (t u:Tok) (s:Shared) (Q:Value→Shared→Prop) (E:Value→Shared→Prop),Q (.int (g i j) s.toks) { s with toks:=s.toks+1 }→wpAny (model X.prog X.w) X.A (f (.int i t) (.int j u)) Q E s) :
    OpR X f (rI0 fun i j=>.int (g i j)):=by
  intro pins s σ H x y v u Q I rx ry h
  obtain ⟨i,j,rfl,rfl,q⟩:=h
  obtain ⟨t,rfl⟩:=rx
  obtain ⟨t',rfl⟩:=ry
  exact rule i j t t' s _ _ ⟨.int (g i j),H,I.tok _,⟨_,rfl⟩,q⟩
theorem xh {f:Value→Value→Sem Value}{g:Int→Int→Bool}
    (rule:∀ (i j:Int) (t u:Tok) (s:Shared) (Q:Value→Shared→Prop) (E:Value→Shared→Prop),Q (.bool (g i j)) s→wpAny (model X.prog X.w) X.A (f (.int i t) (.int j u)) Q E s) :
    OpR X f (rI0 fun i j=>.bl (g i j)):=by
  intro pins s σ H x y v u Q I rx ry h
  obtain ⟨i,j,rfl,rfl,q⟩:=h
  obtain ⟨t,rfl⟩:=rx
  obtain ⟨t',rfl⟩:=ry
  exact rule i j t t' s _ _ ⟨.bl (g i j),H,I,rfl,q⟩
def Bg (i j:Int):Prop:=0≤j∧j≤1000000∧i.natAbs < 2 ^ 64
def Ac (i j:Int):Prop:=(-(2 ^ 64) < i∧i < 2 ^ 64)∨(-(2 ^ 64) < j∧j < 2 ^ 64)
theorem Ac.ok {i j:Int}(h:Ac i j):IntMulOk i j:=by
  rcases h with ⟨h1,h2⟩ | ⟨h1,h2⟩
  · exact .of_left (intBits_le_64 h1 h2)
  · exact .of_right (intBits_le_64 h1 h2)
theorem yE:OpR X (binaryOp .Add) (rI0 fun i j=>.int (i+j)):=Ai fun _ _ _ _ _ _ _ q=>add_int q
theorem y4:OpR X (binaryOp .Sub) (rI0 fun i j=>.int (i - j)):=Ai fun _ _ _ _ _ _ _ q=>sub_int q
theorem vj:OpR X (binaryOp .Mod) (rI (fun _ j=>j≠0) fun i j=>.int (i.fmod j)):=opI fun _ _ _ _ _ _ _ hc q=>mod_int' hc q
theorem ya:OpR X (binaryOp .Pow) (rI Bg fun i j=>.int (i ^ j.toNat)):=opI fun _ _ _ _ _ _ _ hc q=>pow_int_small hc.1 hc.2.1 hc.2.2 q
end
def AD:V→V→Bool
  | .non,.non=>true | .non,.int _=>true | .int _,.non=>true | .non,.bl _=>true | .bl _,.non=>true | .non,.str _=>true | .str _,.non=>true
  | .int _,.int _=>true | .bl _,.bl _=>true | .str _,.str _=>true | .byt _,.byt _=>true
  | .int _,.str _=>true | .str _,.int _=>true | .bl _,.str _=>true | .str _,.bl _=>true
  | _,_=>false
def rEq:R2:=fun x y H Q=>AD x y=true∧Q (.bl (decide (x=y))) H
def rNe:R2:=fun x y H Q=>AD x y=true∧Q (.bl (!decide (x=y))) H
section
variable {X:Cx} {a b c:Expr} {ta tb tc:TE} {pos:Pos}
theorem rN {pins:List (Addr×Obj)}{σ:St}{H:Hp}{s:Shared}{Q:VK}{k k':Bool}(I:Inv X pins σ H s)(q:Q (.bl k) H)(e:k=k'):EP X pins σ Q (.bool k') s:=by
  subst e
  exact ⟨.bl k,H,I,rfl,q⟩
theorem zG:OpR X (compareOp .Lt) (rI0 fun i j=>.bl (decide (i < j))):=xh fun _ _ _ _ _ _ _ q=>lt_int q
theorem A1:OpR X (compareOp .Gt) (rI0 fun i j=>.bl (decide (j < i))):=xh fun _ _ _ _ _ _ _ q=>gt_int q
theorem zM:OpR X (compareOp .GtE) (rI0 fun i j=>.bl (decide (j≤i))):=xh fun _ _ _ _ _ _ _ q=>ge_int q
theorem za:OpR X (compareOp .Is) (fun x y H Q=>y=.non∧Q (.bl (decide (x=.non))) H):=by
  intro pins s σ H x y v u Q I rx ry h
  obtain ⟨rfl,q⟩:=h
  cases ry
  refine is_none_gen (rN I q ?_)
  cases x<;>first
    | (cases rx;rfl)
    | (obtain ⟨t,rfl⟩:=rx;rfl)
theorem uZ:OpR X (compareOp .IsNot) (fun x y H Q=>y=.non∧Q (.bl (!decide (x=.non))) H):=by
  intro pins s σ H x y v u Q I rx ry h
  obtain ⟨rfl,q⟩:=h
  cases ry
  refine isnot_none_gen (rN I q ?_)
  cases x<;>first
    | (cases rx;rfl)
    | (obtain ⟨t,rfl⟩:=rx;rfl)
theorem OpR.or {f:Value→Value→Sem Value}{r r':R2}(h:OpR X f r)(h':OpR X f r'):OpR X f (fun x y H Q=>r x y H Q∨r' x y H Q):=by
  intro pins s σ H x y v u Q I rx ry q
  rcases q with q | q
  · exact h pins s σ H x y v u Q I rx ry q
  · exact h' pins s σ H x y v u Q I rx ry q
theorem eO (b:Expr){op:CmpOp}(h:op≠.In:=by decide)(h2:op≠.NotIn:=by decide):behindInMarks op b=false:=by
  have e1:(op == CmpOp.In)=false:=by cases op<;>first | rfl | exact absurd rfl h
  have e2:(op == CmpOp.NotIn)=false:=by cases op<;>first | rfl | exact absurd rfl h2
  cases b<;>simp[behindInMarks,e1,e2]
theorem uW {op:CmpOp}{r:R2}(ho:OpR X (compareOp op) r)(ha:PE X a ta)(hb:PE X b tb)(hm:behindInMarks op b=false):PE X (.Compare a [op] [b] pos) (tOp r ta tb):=by
  intro pins s σ H Q I h
  exact wpAny_Compare1 (yb ha hb I h fun v u s2 x y H2 I2 rx ry q=>ho pins s2 σ H2 x y v u Q I2 rx ry q) hm
def wG (t:TE):TT:=fun σ H Q=>t σ H fun x H'=>∃ k,x=.bl k∧Q k H'
theorem vh {op:CmpOp}{r:R2}(ho:OpR X (compareOp op) r)(ha:PE X a ta)(hb:PE X b tb)(hm:behindInMarks op b=false):PT X (.Compare a [op] [b] pos) (wG (tOp r ta tb)):=by
  intro pins s σ H Q I h
  refine wpAny_isTrue_Compare1 (thn (ha pins s σ H _ I h) fun v s1 ⟨x,H1,I1,r1,q1⟩=>thn (hb pins s1 σ H1 _ I1 q1) fun u s2 ⟨y,H2,I2,r2,q2⟩=>
    thn (ho pins s2 σ H2 x y v u _ I2 r1 r2 q2) fun c s3 ⟨z,H3,I3,r3,k,e,q3⟩=>?_) hm
  subst e
  cases r3
  exact wpAny_truthy_bool ⟨H3,I3,q3⟩
theorem fK:(sizeLine:Nat) < 2 ^ 63:=by rw[sizeLine_eq];decide
theorem oE:OpR X (binaryOp .Add) (fun x y H Q=>∃ i j,x=.str i∧y=.str j∧i.length+j.length≤sizeLine∧Q (.str (i++j)) H):=by
  intro pins s σ H x y v u Q I rx ry h
  obtain ⟨i,j,rfl,rfl,hz,q⟩:=h
  obtain ⟨t,rfl⟩:=rx
  obtain ⟨t',rfl⟩:=ry
  exact add_str (fun t' tk=>⟨.str (i++j),H,I.tok _,⟨_,rfl⟩,q⟩) hz
theorem vals1 {x:V}{us:List Value}(r:Vals [x] us):∃ u,us=[u]∧RelV x u:=by
  cases r with
  | cons r1 r2=>cases r2;exact ⟨_,rfl,r1⟩
theorem hE:bj X (.builtin "abs") (fun xs H Q=>∃ i,xs=[.int i]∧Q (.int (if i < 0 then -i else i)) H):=by
  intro pins s σ H xs us Q I r h
  obtain ⟨i,rfl,q⟩:=h
  obtain ⟨u,rfl,t,rfl⟩:=vals1 r
  exact call_abs_int fun u tk=>⟨.int (if i < 0 then -i else i),H,I.tok _,⟨_,rfl⟩,q⟩
theorem qx:bj X (.type "int") (fun xs H Q=>(∃ i,xs=[.int i]∧Q (.int i) H)∨∃ k,xs=[.bl k]∧Q (.int (if k then 1 else 0)) H):=by
  intro pins s σ H xs us Q I r h
  rcases h with ⟨i,rfl,q⟩ | ⟨k,rfl,q⟩
  · obtain ⟨u,rfl,t,rfl⟩:=vals1 r
    exact call_int_int ⟨.int i,H,I,⟨_,rfl⟩,q⟩
  · obtain ⟨u,rfl,r1⟩:=vals1 r
    cases r1
    exact call_int_bool ⟨.int (if k then 1 else 0),H,I.tok _,⟨_,rfl⟩,q⟩
theorem kR:bj X (.type "str") (fun xs H Q=>∃ i,xs=[.int i]∧i.natAbs.log2 < 1920∧Q (.str (toString i)) H):=by
  intro pins s σ H xs us Q I r h
  obtain ⟨i,rfl,hz,q⟩:=h
  obtain ⟨u,rfl,t,rfl⟩:=vals1 r
  exact PySem.P.str_of_int hz ⟨.str _,H,I.tok _,⟨_,rfl⟩,q⟩
end
end L2
namespace L2
open PySem PySem.Spec PyProof.Rows
section
variable {prog:Program} {w:World} {A:Around} {E:Value→Shared→Prop} {s:Shared} {K:PySem.W.Frag} {x dx C f:Addr} {mA:Str→Option Value} {name:Str} {v:Value}
end
section
variable {P:Program} {w:World} {H H':Hp} {h h':Heap} {a C dx:Addr} {fs fs':List (Str×V)}
end
structure Cls (K:PySem.W.Frag) (C:Addr):Prop where
  pg:PySem.W.plainGet K C Str.empty=true
  hd:PySem.W.hasDictIn K C=true
  po:PySem.W.plainOver K C=true
  sa:PySem.W.findIn K (.ref C) "__setattr__" = some (some (.builtin "object.__setattr__"))
theorem Cls.get {K:PySem.W.Frag}{C:Addr}(c:Cls K C)(f:Str):PySem.W.plainGet K C f=true:=c.pg
section
variable {X:Cx} {pins:List (Addr×Obj)} {σ:St} {H:Hp} {s:Shared} {a C dx:Addr} {fs:List (Str×V)} {f:Str} {v:V} {A:Around} {E:Value→Shared→Prop}
end
section
variable {X:Cx} {o e value:Expr} {f:Str} {pos pos' tpos:Pos} {ta tv:TE}
def oU:V→V→Hp→VK→Prop:=fun x y H Q=>∃ i j,x=.int i∧y=.int j∧Q (.int (i - j)) H
end
section
variable {X:Cx} {pins:List (Addr×Obj)} {σ:St} {H:Hp} {s:Shared} {A:Around} {E:Value→Shared→Prop} {Q:Value→Shared→Prop} {c:Value} {b:Bool}
end
end L2
namespace L2
open PySem PySem.Spec PyProof.Rows
structure cc (k:Nat) (A:Around):Prop where
  hd:A.handled=none
  dp:A.depth+3*k+5 < recursionLimit
  un:A.units+16*k+200 < cLine
theorem cc.mono {j k:Nat}{A:Around}(r:cc k A)(h:j≤k):cc j A:=⟨r.hd,by have:=r.dp;omega,by have:=r.un;omega⟩
theorem cc.deeper {k:Nat}{A:Around}(r:cc (k+1) A)(env:Env):cc k (A.deeper env):=
  ⟨r.hd,by have:=r.dp;show A.depth+1+3*k+5 < _;omega,by have:=r.un;show A.units+3+16*k+200 < _;omega⟩
theorem cc.depth {k:Nat}{A:Around}(r:cc k A):A.depth < recursionLimit:=by have:=r.dp;omega
theorem cc.units {k:Nat}{A:Around}(r:cc k A):A.units+64 < cLine:=by have:=r.un;omega
def Bs:TA:=fun _ H Q=>Q [] H
def zI (ta:TE)(tr:TA):TA:=fun σ H Q=>ta σ H fun x H1=>tr σ H1 fun xs H2=>Q (x::xs) H2
section
variable {X:Cx} {e:Expr} {es:List Expr} {te:TE} {t:TA} {pos:Pos}
theorem eL:PA X [] Bs:=fun _ _ _ _ H Q I h=>Calls.spliced_nil ⟨[],H,I,.nil,h⟩
theorem cf (ha:PE X e te)(hr:PA X es t)(hs:starEach (e::es) X.env=(false,eval e X.env)::starEach es X.env:=by rfl):PA X (e::es) (zI te t):=by
  intro pos pins s σ H Q I h
  rw[hs]
  show wpAny _ _ (spliced ((false,eval e X.env)::backTo pos (starEach es X.env))) _ _ s
  refine Calls.spliced_cons (thn (ha pins s σ H _ I h) fun u s1 ⟨x,H1,I1,r1,q1⟩=>?_)
  exact thn (hr pos pins s1 σ H1 _ I1 q1) fun us s2 ⟨xs,H2,I2,r2,q2⟩=>⟨x::xs,H2,I2,.cons r1 r2,q2⟩
def Bp (t:TA):TE:=fun σ H Q=>t σ H fun xs H1=>xs.length≤sizeLine∧∀ p,H1 p=none→Q (.ref p) (upd H1 p (.tup xs))
def BG (t:TA):TE:=fun σ H Q=>t σ H fun xs H1=>xs.length≤sizeLine∧∀ p,H1 p=none→Q (.ref p) (upd H1 p (.lst xs))
theorem xb {x1}(h:PA X es t):PE X (.Tuple es x1 pos) (Bp t):=by
  intro pins s σ H Q I hq
  refine wpAny_Tuple_spliced (thn (h pos pins s σ H _ I hq) fun us s1 ⟨xs,H1,I1,r,z,q⟩=>⟨by rw[← r.length];exact z,?_⟩)
  have hf:H1 s1.heap.objs.size=none:=I1.hok.fresh (Nat.le_refl _)
  refine ⟨.ref s1.heap.objs.size,upd H1 s1.heap.objs.size (.tup xs),I1.laid (t':=s1.toks) (fun b u e=>Heap.get?_push_of_some _ e) (Nat.le_refl _) ?_,rfl,q _ hf⟩
  exact ⟨z,us,r,⟨_,Heap.get?_push_size _ rfl⟩⟩
theorem sH (h:PA X es t):PE X (.List es pos) (BG t):=by
  intro pins s σ H Q I hq
  refine wpAny_List_spliced (thn (h pos pins s σ H _ I hq) fun us s1 ⟨xs,H1,I1,r,z,q⟩=>⟨by rw[← r.length];exact z,?_⟩)
  have hf:H1 s1.heap.objs.size=none:=I1.hok.fresh (Nat.le_refl _)
  refine ⟨.ref s1.heap.objs.size,upd H1 s1.heap.objs.size (.lst xs),I1.laid (t':=s1.toks) (fun b u e=>Heap.get?_push_of_some _ e) (Nat.le_refl _) ?_,rfl,q _ hf⟩
  exact ⟨z,us,0,r,Heap.get?_push_size _ rfl⟩
end
abbrev Sp:=List V→Hp→VK→XK→Prop
abbrev CXT:=List Env→Hp→Shared→XK→Value→Shared→Prop
structure ux (P:Program) (w:World) (K:PySem.W.Frag) (mg:Str→Option Value) (base:Heap) (A:Around) (outer:List Env) (s:Shared) (H:Hp):Prop where
  frames:A.frames=some outer
  mod:Mod K mg base
  bs:∀ b o,base.get? b=some o→s.heap.get? b=some o∧H b=none
  bsz:base.objs.size≤s.heap.objs.size
  iw:s.heap.FunFrames base outer
  frf:∀ b∈frs outer,H b=none
  hok:HOk P w H s.heap
  bare:AllBare s.gens
def CE (outer:List Env)(P:Program)(w:World)(H:Hp)(s:Shared)(Q:VK)(u:Value)(s':Shared):Prop:=
  ∃ v H',s'.os=s.os∧AllBare s'.gens∧Un (frs outer) [] H H' s.heap s'.heap∧HOk P w H' s'.heap∧RelV v u∧Q v H'
def CR (CX:CXT)(outer:List Env)(P:Program)(w:World)(H:Hp)(s:Shared)(Q:VK)(E:XK)(r:Result)(s':Shared):Prop:=
  match r with
  | .ok (.ret u)=>CE outer P w H s Q u s'
  | .ok _=>False
  | .error e=>CX outer H s E e s'
structure eQ (P:Program) (w:World) (K:PySem.W.Frag) (mg:Str→Option Value) (base:Heap) (CX:CXT) (k:Nat) (f:Addr) (fd:FuncData) (ps:List Str) (sp:Sp):Prop where
  len:∀ vs H Q E,sp vs H Q E→vs.length=ps.length
  run:∀ (A:Around) (outer:List Env) (s:Shared) (H:Hp) (args:Args) (us:List Value) (vs:List V) (Q:VK) (E:XK),cc k A→ux P w K mg base A outer s H→BindsTo s fd args (ps.zip us)→Vals vs us→sp vs H Q E→
    codeAny (model P w) A (.call (.ref f) args) (CR CX outer P w H s Q E) s
theorem eQ.mono {P:Program}{w:World}{K:PySem.W.Frag}{mg:Str→Option Value}{base:Heap}{CX:CXT}{j k:Nat}{f:Addr}{fd:FuncData}{ps:List Str}{sp:Sp}(F:eQ P w K mg base CX j f fd ps sp)(h:j≤k) :
    eQ P w K mg base CX k f fd ps sp:=⟨F.len,fun A outer s H args us vs Q E hr=>F.run A outer s H args us vs Q E (hr.mono h)⟩
section
variable {X:Cx} {pins:List (Addr×Obj)} {σ:St} {H:Hp} {s s':Shared}
theorem Inv.BM (I:Inv X pins σ H s):ux X.prog X.w X.K X.mg X.base X.A X.stack s H:=
  ⟨I.ok.frames,I.ok.mod,I.bs,Nat.le_trans I.ok.bsz I.sz,I.stack,I.pN,I.hok,I.bare⟩
theorem Inv.after {Q:VK}{u:Value}(I:Inv X pins σ H s)(h:CE X.stack X.prog X.w H s Q u s'):EP X pins σ Q u s':=by
  obtain ⟨v,H',os,bare,un,hok,r,q⟩:=h
  obtain ⟨hh,g,d,t,os'⟩:=s'
  obtain rfl:os'=s.os:=os
  exact ⟨v,H',I.call (h':=hh) (g':=g) (d':=d) (t':=t) (ch:=[]) un hok bare (fun b z=>absurd z (by simp)),r,q⟩
end
def Bb (sp:Sp)(dvs:List V)(E:XK)(t:TA):TE:=fun σ H Q=>t σ H fun vs H1=>sp (vs++dvs) H1 Q E
def Binds (K:PySem.W.Frag)(fd:FuncData)(ps:List Str)(ds:List Value):Prop:=
  ∀ (s:Shared) (us:List Value),K.In s.heap→(us++ds).length=ps.length→BindsTo s fd ⟨us,[]⟩ (ps.zip (us++ds))
theorem Binds.all {K:PySem.W.Frag}{fd:FuncData}{ps:List Str}(h:∀ us:List Value,us.length=ps.length→bindArgs fd ⟨us,[]⟩=pure (ps.zip us)):Binds K fd ps []:=fun s us _ hl=>by
  rw[List.append_nil] at hl ⊢
  exact .of_eq (h us hl)
def Passes (CX:CXT)(X:Cx)(E:XK):Prop:=∀ (pins:List (Addr×Obj)) (σ:St) (H:Hp) (s:Shared) (e:Value) (s':Shared),Inv X pins σ H s→CX X.stack H s E e s'→X.xe e s'
section
variable {X:Cx} {CX:CXT} {k:Nat} {f C:Addr} {fd:FuncData} {ps:List Str} {sp:Sp} {dvs:List V} {ds:List Value} {E:XK} {x m:Str} {p pos apos:Pos} {e o:Expr} {es:List Expr} {ta:TE} {t:TA}
theorem ze {pins:List (Addr×Obj)}{σ:St}{H:Hp}{s:Shared}{Q:VK}{us:List Value}{vs:List V}(F:eQ X.prog X.w X.K X.mg X.base CX k f fd ps sp)(hr:cc k X.A)(hb:Binds X.K fd ps ds)(hd:Vals dvs ds)(hx:Passes CX X E)
    (I:Inv X pins σ H s) (r:Vals vs us) (h:sp (vs++dvs) H Q E):wpAny (model X.prog X.w) X.A (call (.ref f) us) (EP X pins σ Q) X.xe s:=by
  have r2:Vals (vs++dvs) (us++ds):=r.append hd
  have hl:(us++ds).length=ps.length:=by rw[← r2.length];exact F.len _ _ _ _ h
  refine wpAny_call (codeAny_mono (F.run X.A X.stack s H ⟨us,[]⟩ (us++ds) (vs++dvs) Q E hr I.BM (hb s us I.kIn hl) r2 h) fun r s' hq=>?_)
  cases r with
  | error e=>exact hx pins σ H s e s' I hq
  | ok fl=>
    cases fl with
    | ret u=>exact I.after hq
    | next=>exact False.elim hq
    | brk=>exact False.elim hq
    | cont=>exact False.elim hq
theorem vL (F:eQ X.prog X.w X.K X.mg X.base CX k f fd ps sp)(hr:cc k X.A)(hg:Gl X x)(hm:X.mg x=some (.ref f))(hk:PySem.W.keepIn X.K (.ref f)=true)(hb:Binds X.K fd ps ds)(hd:Vals dvs ds)(hx:Passes CX X E)
    (ha:PA X (e::es) t) (hdb:(x == ("__debug__" : Str))=false:=by decide) (he:starEach (e::es) X.env=(false,eval e X.env)::starEach es X.env:=by rfl) (hpl:(backTo pos (starEach es X.env)).any (·.1)=false:=by rfl) :
    PE X (.Call (.Name x p) (e::es) [] pos) (Bb sp dvs E t):=by
  intro pins s σ H Q I h
  refine wpAny_Call_Name_kw (pL I hg hm ?_ hdb)
  refine PySem.W.callWith_K (h₀:=X.base) I.ok.mod.kin hk (thn (ha pos pins s σ H _ I h) fun us s1 ⟨vs,H1,I1,r,q⟩=>⟨I1.kIn,?_⟩) he hpl
  exact ze F hr hb hd hx I1 r q
end
section
variable {X:Cx} {CX:CXT} {k:Nat} {f C:Addr} {fd:FuncData} {ps ks:List Str} {sp:Sp} {E:XK} {x m:Str} {p pos apos kpos:Pos} {e o:Expr} {es:List Expr} {kws:List Keyword} {te ta:TE} {t tk:TA} {nm:Option Str}
variable {g:List Value→List Value→List Value} {gV:List V→List V→List V}
end
structure aM (N P:List Str) (sc:Scope):Prop where
  kind:sc.kind=.function
  co:sc.isCoroutine=false
  gen:sc.isGenerator=false
  nd:N.Nodup
  pre:N.take P.length=P
  par:∀ x∈P,sc.names.lookup x=some .local∨sc.names.lookup x=some .cell
  zr:∀ y∈sc.names,y.2≠.free
theorem ka {kindOf:Str→Option NameKind}{x:Str}:∀ {binds:List (Str×Value)} {m:Str→Option Value},(∀ v,(x,v) ∉ binds)→bindL kindOf binds m x=m x
  | [],_,_=>rfl
  | (n,v)::r,m,h=>by
    unfold bindL
    rw[ka fun w hw=>h w (List.mem_cons_of_mem _ hw)]
    split
    · have:x≠n:=by rintro rfl;exact h v List.mem_cons_self
      simp[this]
    · rfl
theorem jW {kindOf:Str→Option NameKind}{x:Str}:∀ {binds:List (Str×Value)} {m:Str→Option Value},(∀ v,(x,v) ∉ binds)→bindC kindOf binds m x=m x
  | [],_,_=>rfl
  | (n,v)::r,m,h=>by
    unfold bindC
    rw[jW fun w hw=>h w (List.mem_cons_of_mem _ hw)]
    split
    · rfl
    · have:x≠n:=by rintro rfl;exact h v List.mem_cons_self
      simp[this]
theorem jY {kindOf:Str→Option NameKind}{x:Str}{v:Value}:∀ {P:List Str} {vs:List Value} {i:Nat} {m:Str→Option Value},P.Nodup→P[i]? = some x→vs[i]? = some v→kindOf x=some .local→
    bindL kindOf (P.zip vs) m x=some v
  | [],_,_,_,_,h,_,_=>by simp at h
  | _::_,[],_,_,_,_,h,_=>by simp at h
  | p::P,w::vs,0,m,nd,h1,h2,hk=>by
    simp at h1 h2;subst h1;subst h2
    show bindL kindOf ((p,w)::P.zip vs) m p=_
    unfold bindL
    rw[ka fun v hv=>(List.nodup_cons.mp nd).1 (List.of_mem_zip hv).1,if_pos hk]
    simp
  | p::P,w::vs,i+1,m,nd,h1,h2,hk=>by
    show bindL kindOf ((p,w)::P.zip vs) m x=_
    unfold bindL
    exact jY (i:=i) (List.nodup_cons.mp nd).2 (by simpa using h1) (by simpa using h2) hk
theorem jZ {kindOf:Str→Option NameKind}{x:Str}{v:Value}:∀ {P:List Str} {vs:List Value} {i:Nat} {m:Str→Option Value},P.Nodup→P[i]? = some x→vs[i]? = some v→kindOf x≠some .local→
    bindC kindOf (P.zip vs) m x=some v
  | [],_,_,_,_,h,_,_=>by simp at h
  | _::_,[],_,_,_,_,h,_=>by simp at h
  | p::P,w::vs,0,m,nd,h1,h2,hk=>by
    simp at h1 h2;subst h1;subst h2
    show bindC kindOf ((p,w)::P.zip vs) m p=_
    unfold bindC
    rw[jW fun v hv=>(List.nodup_cons.mp nd).1 (List.of_mem_zip hv).1,if_neg hk]
    simp
  | p::P,w::vs,i+1,m,nd,h1,h2,hk=>by
    show bindC kindOf ((p,w)::P.zip vs) m x=_
    unfold bindC
    exact jZ (i:=i) (List.nodup_cons.mp nd).2 (by simpa using h1) (by simpa using h2) hk
def start (N:List Str)(vs:List V):St:=vs.map some++List.replicate (N.length - vs.length) none
def mF (CX:CXT)(P:Program)(w:World)(K:PySem.W.Frag)(mg:Str→Option Value)(base:Heap)(N:List Str)(qual:Str)(scope:Scope)(f:Addr)(cd:Value)(A:Around)(outer:List Env)(s:Shared)(H:Hp)(E:XK):Cx where
  prog:=P
  w:=w
  K:=K
  mg:=mg
  base:=base
  A:=A.deeper (envOfC qual scope s.heap.objs.size f cd)
  N:=N
  s₀:=s
  H₀:=H
  env:=envOfC qual scope s.heap.objs.size f cd
  outer:=outer
  stack:=envOfC qual scope s.heap.objs.size f cd::outer
  ex:=[]
  calm:=true
  fn:=fun _=>true
  pn:=[]
  xe:=fun e s'=>wpAny (model P w) (A.deeper (envOfC qual scope s.heap.objs.size f cd)) (leaving (envOfC qual scope s.heap.objs.size f cd) e) (fun _ s''=>CX outer H s E e s'') (fun e' s''=>CX outer H s E e' s'') s'
theorem mV {sc:Scope}{n:Nat}{x:Str}(h:sc.names.lookup x=some .cell):∃ c,(cellsFrom n sc.names []).lookup x=some c:=by
  have q:=PySem.W.cellsFrom_some sc.names n [] (.inl h)
  exact Option.isSome_iff_exists.mp q
theorem qz {CX:CXT}{P:Program}{w:World}{K:PySem.W.Frag}{mg:Str→Option Value}{base:Heap}{N ps:List Str}{qual:Str}{scope:Scope}{f:Addr}{cd:Value}{A:Around}{outer:List Env}{s s1:Shared}{H:Hp}{E:XK}{us:List Value}{vs:List V}
    (S:aM N ps scope) (hd:A.handled=none) (e0:ux P w K mg base A outer s H) (hl:vs.length=ps.length) (r:Vals vs us)
    (x:InCallC s s.heap.objs.size (bindL (envOfC qual scope s.heap.objs.size f cd).kindOf (ps.zip us) fun _=>none) (cellsFrom (s.heap.objs.size+1) scope.names []) (bindC (envOfC qual scope s.heap.objs.size f cd).kindOf (ps.zip us) fun _=>none) s1) :
    Inv (mF CX P w K mg base N qual scope f cd A outer s H E) [] (start N vs) H s1:=by
  have hpl:ps.length≤N.length:=by have:=congrArg List.length S.pre;rw[List.length_take] at this;omega
  obtain ⟨h1,tk,rfl,hk⟩:=x.done
  have noA:∀ b:Addr,b ∉ (mF CX P w K mg base N qual scope f cd A outer s H E).ex:=fun b z=>absurd (show b∈([]:List Addr) from z) (by simp)
  refine ⟨⟨e0.mod,S.kind,rfl,rfl,Nat.le_refl _,fun y z c h1 h2=>?_,fun y hy=>?_,fun y c _ h=>?_,fun _=>hd,Around.frames_deeper e0.frames,.inr ⟨rfl,rfl⟩,fun b z=>absurd z (noA b),e0.bs,e0.bsz,fun b _ _=>noA b,fun b z=>absurd z (noA b),e0.iw,e0.frf⟩,
    rfl,e0.bare,Un.kept hk,⟨_,x.toInCall.ns,fun i y v h1 h2 h3=>?_⟩,fun y c h=>⟨_,x.cell y c h⟩,e0.hok.fresh (Nat.le_refl _),fun y c h=>?_,fun p hp=>absurd (show p∈([]:List (Addr×Obj)) from hp) (by simp),e0.hok.kept hk,?_⟩
  · exact name_of_addr x.apart (PySem.mem_of_lookup h1) (PySem.mem_of_lookup h2)
  · have hy:scope.names.lookup y=some .cell∨scope.names.lookup y=some .free:=hy
    rcases hy with hy | hy
    · exact mV hy
    · exact absurd rfl (S.zr _ (PySem.mem_of_lookup hy))
  · exact Nat.le_of_lt (x.above y c (PySem.mem_of_lookup h))
  · have hi:i < vs.length:=by
      unfold start at h2
      by_cases hi:i < vs.length
      · exact hi
      · rw[List.getElem?_append_right (by simpa using hi)] at h2
        rw[List.getElem?_replicate] at h2
        split at h2<;>cases h2
    have ha:vs[i]? = some v:=by
      unfold start at h2
      rw[List.getElem?_append_left (by simpa using hi),List.getElem?_map] at h2
      cases e:vs[i]? with
      | none=>rw[e] at h2;cases h2
      | some a=>rw[e] at h2;cases h2;rfl
    obtain ⟨u,hu,rv⟩:=r.get ha
    have hp:ps[i]? = some y:=by
      rw[← S.pre,List.getElem?_take_of_lt (by omega)];exact h1
    have ndP:ps.Nodup:=by rw[← S.pre];exact S.nd.sublist (List.take_sublist _ _)
    refine ⟨u,rv,?_⟩
    rcases S.par y (List.mem_of_getElem? hp) with k | k
    · exact .inl ⟨k,jY ndP hp hu k⟩
    · obtain ⟨c,e⟩:=mV (n:=s.heap.objs.size+1) k
      refine .inr ⟨.inl k,c,e,?_⟩
      have q:=x.cell y c e
      rw[jZ ndP hp hu (by show scope.names.lookup y≠_;rw[k];decide)] at q
      exact q
  · exact e0.hok.fresh (Nat.le_of_lt (x.above y c (PySem.mem_of_lookup h)))
  · unfold start
    show _=N.length
    rw[List.length_append,List.length_map,List.length_replicate]
    omega
theorem AR {CX:CXT}{P:Program}{w:World}{K:PySem.W.Frag}{mg:Str→Option Value}{base:Heap}{k:Nat}{f:Addr}{name qual:Str}{params:Arguments}{body:List Stmt}{scope:Scope}{dV kV doc pm cdv ct oc:Value}{an od:Option Addr}
    {osl:Array (Option Value)} {N ps:List Str} {sp:Sp} (lk:K.lookup f=some ⟨oc,od,.func (PySem.W.fnOf name qual params body scope dV kV doc pm an cdv ct),osl⟩) (hcd:PySem.W.codeIn K cdv qual=true) (S:aM N ps scope)
    (len:∀ vs H Q E,sp vs H Q E→vs.length=ps.length)
    (hbody:∀ (A:Around) (outer:List Env) (s:Shared) (H:Hp) (vs:List V) (Q:VK) (E:XK),cc k (A.deeper (envOfC qual scope s.heap.objs.size f cdv))→sp vs H Q E→
      ∃ t,PSs (mF CX P w K mg base N qual scope f cdv A outer s H E) body t∧t { nx:=fun _ H'=>Q .non H',rt:=Q } (start N vs) H) :
    eQ P w K mg base CX (k+1) f (PySem.W.fnOf name qual params body scope dV kV doc pm an cdv ct) ps sp:=by
  refine ⟨len,fun A outer s H args us vs Q E hr e0 hb r hsp=>?_⟩
  have hl:=len _ _ _ _ hsp
  have KX:K.In s.heap:=e0.mod.kin.keeps fun b o e=>(e0.bs b o e).1
  have lim:s.heap.NoLimit:=e0.mod.nolimit.keeps fun b o e=>(e0.bs b o e).1
  have iP:∀ y∈ps.zip us,scope.names.lookup y.1=some .local∨(scope.names.lookup y.1=some .cell∧((cellsFrom (s.heap.objs.size+1) scope.names []).lookup y.1).isSome=true):=fun ⟨n,v⟩ hy=>by
    rcases S.par n (List.of_mem_zip hy).1 with q | q
    · exact .inl q
    · exact .inr ⟨q,PySem.W.cellsFrom_some _ _ _ (.inl q)⟩
  refine codeAny_call_function hr.depth (KX _ _ lk) rfl S.co S.gen rfl (PySem.W.codeRec_of KX hcd) (hb _ _ _ _ ?_)
  refine wpAny_newFunctionEnv_cells S.kind iP fun env he s1 x=>?_
  subst he
  refine ⟨lim.keeps x.toInCall.keep,codeAny_func ?_⟩
  obtain ⟨t,ht,hq⟩:=hbody A outer s H vs Q E (hr.deeper _) hsp
  have I:Inv (mF CX P w K mg base N qual scope f cdv A outer s H E) [] (start N vs) H s1:=qz S hr.hd e0 hl r x
  refine wpAny_mono (ht [] s1 (start N vs) H _ I hq) (fun fl s' hs=>?_) fun e s' hs=>hs
  have fin:∀ {σ':St} {H':Hp} {v:V} {u:Value},Inv (mF CX P w K mg base N qual scope f cdv A outer s H E) [] σ' H' s'→RelV v u→Q v H'→CE outer P w H s Q u s':=
    fun {σ' H' v u} J rv q=>⟨v,H',J.os,J.bare,J.base,J.hok,rv,q⟩
  cases fl with
  | ret u=>
    obtain ⟨v,σ',H',J,rv,q⟩:=hs
    exact fin J rv q
  | next=>
    obtain ⟨σ',H',J,q⟩:=hs
    exact fin (v:=V.non) (u:=Value.none) J rfl q
  | brk=>
    obtain ⟨_,_,_,q⟩:=hs
    exact False.elim q
  | cont=>
    obtain ⟨_,_,_,q⟩:=hs
    exact False.elim q
end L2
namespace L2
open PySem PySem.Spec PyProof.Rows
section
variable {X:Cx} {x:Str} {p pos:Pos} {e:Expr} {es:List Expr} {t:TA} {id T:String} {r:List V→Hp→VK→Prop}
def tCB (r:List V→Hp→VK→Prop)(t:TA):TE:=fun σ H Q=>t σ H fun vs H1=>r vs H1 Q
theorem ig (hc:bj X (.builtin id) r)(hg:Gl X x)(hm:X.mg x=none)(hv:bootBuiltins x=some (.builtin id))(ha:PA X (e::es) t)(hn:x ≠ "__name__" := by decide)(hdb:(x == ("__debug__" : Str))=false:=by decide)
    (he:starEach (e::es) X.env=(false,eval e X.env)::starEach es X.env:=by rfl) (hpl:(backTo pos (starEach es X.env)).any (·.1)=false:=by rfl):PE X (.Call (.Name x p) (e::es) [] pos) (tCB r t):=by
  intro pins s σ H Q I h
  refine wpAny_Call_Name_kw (k6 I hg hm hv ?_ hn hdb)
  exact PyProof.Rows.callWith_builtin1 (thn (ha pos pins s σ H _ I h) fun us s1 ⟨vs,H1,I1,r1,q1⟩=>hc pins s1 σ H1 vs us Q I1 r1 q1) he hpl
theorem qB (hc:bj X (.type T) r)(hg:Gl X x)(hm:X.mg x=none)(hv:bootBuiltins x=some (.type T))(ha:PA X (e::es) t)(hn:x ≠ "__name__" := by decide)(hdb:(x == ("__debug__" : Str))=false:=by decide)
    (he:starEach (e::es) X.env=(false,eval e X.env)::starEach es X.env:=by rfl) (hpl:(backTo pos (starEach es X.env)).any (·.1)=false:=by rfl):PE X (.Call (.Name x p) (e::es) [] pos) (tCB r t):=by
  intro pins s σ H Q I h
  refine wpAny_Call_Name_kw (k6 I hg hm hv ?_ hn hdb)
  exact PyProof.Rows.callWith_type1 (thn (ha pos pins s σ H _ I h) fun us s1 ⟨vs,H1,I1,r1,q1⟩=>hc pins s1 σ H1 vs us Q I1 r1 q1) he hpl
end
end L2
namespace HT
open PySem PyProof.Rows
section
open PySem.SeqAt
open PySem.AutoSeq1 (wpAny_loadPart')
open PySem.MeetsSeq PySem.MeetsSeq2 PySem.MeetsSeq3
end
section
variable {prog:Program} {w:World} {A:Around} {E:Value→Shared→Prop} {s:Shared}
theorem u5 {t b:Addr}{vs ws:List Value}{Q:Value→Shared→Prop}(ht:IsTup s.heap t vs.toArray)(hb:IsTup s.heap b ws.toArray)(hv:vs≠[])
    (h1:ws=[]→Q (.ref t) s) (h2:ws≠[]→Q (.ref s.heap.objs.size) { s with heap:=s.heap.push { cls:=.type "tuple", data:=.seq (vs++ws).toArray } })
    (hsz:vs.length+ws.length≤sizeLine):wpAny (model prog w) A (binaryOp .Add (.ref t) (.ref b)) Q E s:=by
  obtain ⟨⟨cls,dd,data,sl⟩,ho,hc,n,hd⟩:=id ht
  obtain ⟨⟨cls2,dd2,data2,sl2⟩,ho2,hc2,n2,hd2⟩:=id hb
  simp only at hc hd hc2 hd2
  subst hc hd hc2 hd2
  have e:vs.toArray++ws.toArray=(vs++ws).toArray:=by simp
  by_cases hw:ws=[]
  · exact concat_meets ⟨_,ho,rfl⟩ ⟨_,ho2,rfl⟩ noFill_tuple_add seq_tuple_add PySem.F.slot_tuple_add PySem.F.entry_tuple_add (PySem.F.args_tuple_add_2 _ _)
      (tuple_addW1 t b vs.toArray ws.toArray n n2 dd dd2 sl sl2 (by simpa using hv) (by simp[hw])) ⟨ho,ho2,h1 hw⟩
  · refine concat_meets ⟨_,ho,rfl⟩ ⟨_,ho2,rfl⟩ noFill_tuple_add seq_tuple_add PySem.F.slot_tuple_add PySem.F.entry_tuple_add (PySem.F.args_tuple_add_2 _ _)
      (tuple_addW2 t b vs.toArray ws.toArray n n2 dd dd2 sl sl2 (by simpa using hv) (by simpa using hw) (by rw[List.size_toArray,List.size_toArray];exact hsz)) ⟨ho,ho2,?_⟩
    rw[e]
    exact h2 hw
def sIx (n d:Nat):Option Int→Nat
  | none=>d
  | some v=>if v < 0 then (v+(n:Int)).toNat else min v.toNat n
theorem mm (n d:Nat):sIx n d none=d:=rfl
theorem pC (n d k:Nat):sIx n d (some (k:Int))=min k n:=by
  show (if (k:Int) < 0 then ((k:Int)+(n:Int)).toNat else min (k:Int).toNat n)=min k n
  rw[if_neg (by omega),Int.toNat_natCast]
theorem yG (n d:Nat)(hd:d≤n)(o:Option Int):sIx n d o≤n:=by
  cases o with
  | none=>exact hd
  | some v=>
    show (if v < 0 then (v+(n:Int)).toNat else min v.toNat n)≤n
    by_cases hv:v < 0
    · rw[if_pos hv];omega
    · rw[if_neg hv];exact Nat.min_le_right _ _
theorem pw (v:Int)(n d:Nat):(if v < 0 then max (v+(n:Int)) 0 else min v (n:Int))=((sIx n d (some v):Nat):Int):=by
  show (if v < 0 then max (v+(n:Int)) 0 else min v (n:Int))=(((if v < 0 then (v+(n:Int)).toNat else min v.toNat n):Nat):Int)
  by_cases hv:v < 0
  · simp only[if_pos hv];omega
  · simp only[if_neg hv];omega
theorem oR (lo hi:Option Int)(n:Nat):Builtin.Slice.sliceAdjust lo hi 1 (n:Int)=(((sIx n 0 lo:Nat):Int),((sIx n n hi:Nat):Int)):=by
  have h1:¬ ((1:Int) < 0):=by omega
  unfold Builtin.Slice.sliceAdjust
  simp only[h1,if_false]
  refine Prod.ext ?_ ?_
  · cases lo with
    | none=>rfl
    | some v=>exact pw v n 0
  · cases hi with
    | none=>rfl
    | some v=>exact pw v n n
theorem ni (i j:Nat):Builtin.Slice.slicePlaces (i:Int) (j:Int) 1=j - i:=by
  unfold Builtin.Slice.slicePlaces
  have h1:(1:Int) > 0:=by omega
  simp only[h1,if_true,Int.ediv_one]
  split<;>omega
theorem hV {v:Value}{o:Option Int}{Q:Option Int→Shared→Prop}(p:IsPart v o)(h:Q o s):wpAny (model prog w) A (Builtin.Slice.slicePartIndex v) Q E s:=by
  cases p with
  | none=>exact slicePart_none h
  | int i t=>exact slicePart_int h
theorem cS {sl:Addr}{vl vu:Value}{lo hi:Option Int}{n:Nat}{Q:Int×Int×Nat→Shared→Prop}(hs:s.heap.IsSliceOf sl vl vu .none)(pl:IsPart vl lo)(pu:IsPart vu hi)
    (h:Q (((sIx n 0 lo:Nat):Int),1,sIx n n hi - sIx n 0 lo) s):wpAny (model prog w) A (Builtin.Slice.sliceApplied (.ref sl) (pure (n:Int))) Q E s:=by
  obtain ⟨os,hos,hcs,hds⟩:=id hs
  unfold Builtin.Slice.sliceApplied Builtin.Slice.sliceFields
  refine wpAny_bind (wpAny_bind (wpAny_field hos hds (x:=vl) rfl (wpAny_bind (wpAny_field hos hds (x:=vu) rfl (wpAny_bind (wpAny_field hos hds (x:=.none) rfl (wpAny_pure ?_)))))))
  refine wpAny_bind (slicePart_none ?_)
  show wpAny _ _ (if ((1:Int) == 0)=true then _ else _) _ _ s
  rw[if_neg (by decide)]
  refine wpAny_bind (hV pl (wpAny_bind (hV pu (wpAny_bind (wpAny_pure ?_)))))
  show wpAny _ _ (match Builtin.Slice.sliceAdjust lo hi 1 (n:Int) with | (lo,hi)=>pure (lo,(1:Int),Builtin.Slice.slicePlaces lo hi 1)) _ _ s
  rw[oR lo hi n]
  show wpAny _ _ (pure (((sIx n 0 lo:Nat):Int),(1:Int),Builtin.Slice.slicePlaces ((sIx n 0 lo:Nat):Int) ((sIx n n hi:Nat):Int) 1)) _ _ s
  rw[ni]
  exact wpAny_pure h
theorem rV (xs:Array Value)(i k:Nat):((List.range k).filterMap fun (m:Nat)=>xs[((i:Int)+(m:Int)*1).toNat]?).toArray=((xs.toList.drop i).take k).toArray:=by
  have e:(fun (m:Nat)=>xs[((i:Int)+(m:Int)*1).toNat]?)=fun m=>xs[i+m]?:=by
    funext m
    have:((i:Int)+(m:Int)*1).toNat=i+m:=by omega
    rw[this]
  rw[e]
  have:=pick_run xs i k
  rw[List.filterMap_map] at this
  have e2:((fun x=>xs[x]?) ∘ fun x=>i+x)=fun m=>xs[i+m]?:=rfl
  rw[e2] at this
  rw[this]
theorem fg {t sl:Addr}{items:Array Value}{vl vu:Value}{lo hi:Option Int}{Q:Value→Shared→Prop}(ht:IsTup s.heap t items)(hs:s.heap.IsSliceOf sl vl vu .none)(pl:IsPart vl lo)(pu:IsPart vu hi)
    (hw:¬ (sIx items.size 0 lo=0∧sIx items.size items.size hi=items.size))
    (h:Q (.ref s.heap.objs.size) { s with heap:=s.heap.push { cls:=.type "tuple", data:=.seq ((items.toList.drop (sIx items.size 0 lo)).take (sIx items.size items.size hi - sIx items.size 0 lo)).toArray } })
    (hsz:items.size≤sizeLine):wpAny (model prog w) A (getItem (.ref t) (.ref sl)) Q E s:=by
  have pO:sizeOk (.seq ((items.toList.drop (sIx items.size 0 lo)).take (sIx items.size items.size hi - sIx items.size 0 lo)).toArray):=by
    show ((items.toList.drop (sIx items.size 0 lo)).take (sIx items.size items.size hi - sIx items.size 0 lo)).toArray.size≤sizeLine
    rw[List.size_toArray,List.length_take,List.length_drop,Array.length_toList]
    omega
  have hj:sIx items.size items.size hi≤items.size:=yG _ _ (Nat.le_refl _) hi
  obtain ⟨os,hos,hcs,hds⟩:=id hs
  have hTs:s.TypeIs (.ref sl) "slice" := ⟨os,hos,hcs⟩
  unfold getItem
  try with_reducible refine wpAny_holding ?_
  first | refine wpAny_bind (wpAny_pure ?_) | skip
  refine wpAny_bind (wpAny_sequenceKey ht.typeIs (by decide) ?_)
  refine wpAny_bind (wpAny_callSpecial?_slot (name:=Str.ofString "__getitem__") ht.typeIs PyProof.Rows.slot_tuple_getitem
    (wpAny_call_entry PyProof.Rows.slot_tuple_getitem ht.typeIs entry_tuple_getitem ?_ (args_tuple_getitem _ _)))
  show wpAny _ _ (Builtin.Tuple.tupleItemsOf (.ref t) >>= _) _ _ s
  refine wpAny_bind (tupleItemsOf_ ht ?_)
  refine wpAny_bind (wpAny_typeOf hTs ?_)
  rw[if_pos (by decide)]
  refine wpAny_bind (cS hs pl pu ?_)
  have hno:¬ ((((sIx items.size 0 lo:Nat):Int) == 0&&(1:Int) == 1&&(sIx items.size items.size hi - sIx items.size 0 lo) == items.size)=true):=by
    intro q
    rw[Bool.and_eq_true,Bool.and_eq_true] at q
    have q1:((sIx items.size 0 lo:Nat):Int)=0:=eq_of_beq q.1.1
    have q2:sIx items.size items.size hi - sIx items.size 0 lo=items.size:=eq_of_beq q.2
    exact hw ⟨by omega,by omega⟩
  show wpAny _ _ (if (((sIx items.size 0 lo:Nat):Int) == 0&&(1:Int) == 1&&(sIx items.size items.size hi - sIx items.size 0 lo) == items.size)=true then _ else _) _ _ s
  rw[if_neg hno,rV]
  first
    | exact wpAny_bind (m:=Builtin.Tuple.tupleExact _) (wpAny_newObj_type (wpAny_pure ⟨_,rfl,wpAny_pure h⟩) pO)
    | exact wpAny_bind (m:=Builtin.Tuple.tupleExact _) (wpAny_newObj_type (wpAny_bind (wpAny_pure (wpAny_pure ⟨_,rfl,wpAny_pure h⟩))) pO)
    | exact wpAny_bind (wpAny_bind (m:=Builtin.Tuple.tupleExact _) (wpAny_newObj_type (wpAny_pure (wpAny_pure ⟨_,rfl,wpAny_pure h⟩)) pO))
    | exact wpAny_bind (wpAny_bind (m:=Builtin.Tuple.tupleExact _) (wpAny_newObj_type (wpAny_pure ⟨_,rfl,wpAny_pure h⟩) pO))
end
end HT
namespace L2
open PySem PySem.Spec PyProof.Rows
abbrev TO:=St→Hp→(Option Int→Hp→Prop)→Prop
def PO (X:Cx)(e:Option Expr)(t:TO):Prop:=
  ∀ (pins:List (Addr×Obj)) (s:Shared) (σ:St) (H:Hp) (Q:Option Int→Hp→Prop),Inv X pins σ H s→t σ H Q→
    wpAny (model X.prog X.w) X.A (evalPart e X.env) (fun u s'=>∃ o H',Inv X pins σ H' s'∧IsPart u o∧Q o H') X.xe s
def uC:TO:=fun _ H Q=>Q none H
def Ae (t:TE):TO:=fun σ H Q=>t σ H fun x H1=>∃ i,x=.int i∧Q (some i) H1
section
variable {X:Cx} {e:Expr} {te:TE} {lo hi:Option Expr} {tl th:TO} {pos p2:Pos}
theorem vv:PO X none uC:=by
  intro pins s σ H Q I h
  rw[evalPart_none]
  exact wpAny_pure ⟨none,H,I,.none,h⟩
theorem vD (h:PE X e te):PO X (some e) (Ae te):=by
  intro pins s σ H Q I hw
  rw[evalPart_some]
  refine thn (h pins s σ H _ I hw) fun u s1 ⟨x,H1,I1,r1,q1⟩=>?_
  obtain ⟨i,rfl,q⟩:=q1
  obtain ⟨t,rfl⟩:=r1
  exact ⟨some i,H1,I1,.int i t,q⟩
def SlR (X:Cx)(r:V→Option Int→Option Int→Hp→VK→Prop):Prop:=
  ∀ (pins:List (Addr×Obj)) (s:Shared) (σ:St) (H:Hp) (x:V) (v vl vu:Value) (lo hi:Option Int) (sl:Addr) (Q:VK),Inv X pins σ H s→RelV x v→s.heap.IsSliceOf sl vl vu .none→IsPart vl lo→IsPart vu hi→r x lo hi H Q→
    ∃ T id,typeLookup (.type T) "__getitem__" = pure (some (.builtin id))∧s.TypeIs v T∧wpAny (model X.prog X.w) X.A (getItem v (.ref sl)) (EP X pins σ Q) X.xe s
theorem SlR.or {r r':V→Option Int→Option Int→Hp→VK→Prop}(h:SlR X r)(h':SlR X r'):SlR X (fun x lo hi H Q=>r x lo hi H Q∨r' x lo hi H Q):=by
  intro pins s σ H x v vl vu lo hi sl Q I rx hs pl pu q
  rcases q with q | q
  · exact h pins s σ H x v vl vu lo hi sl Q I rx hs pl pu q
  · exact h' pins s σ H x v vl vu lo hi sl Q I rx hs pl pu q
def tSl (r:V→Option Int→Option Int→Hp→VK→Prop)(te:TE)(tl th:TO):TE:=fun σ H Q=>te σ H fun x H1=>tl σ H1 fun l H2=>th σ H2 fun u H3=>r x l u H3 Q
theorem tR {r:V→Option Int→Option Int→Hp→VK→Prop}(hr:SlR X r)(he:PE X e te)(hl:PO X lo tl)(hu:PO X hi th):PE X (.Subscript e (.Slice lo hi none p2) pos) (tSl r te tl th):=by
  intro pins s σ H Q I h
  refine Subscript_ (thn (he pins s σ H _ I h) fun v s1 ⟨x,H1,I1,r1,q1⟩=>?_)
  refine wpAny_Slice (thn (hl pins s1 σ H1 _ I1 q1) fun vl s2 ⟨l,H2,I2,pl,q2⟩=>thn (hu pins s2 σ H2 _ I2 q2) fun vu s3 ⟨u,H3,I3,pu,q3⟩=>?_)
  rw[evalPart_none]
  refine wpAny_pure ?_
  have I4:Inv X pins σ H3 { s3 with heap:=s3.heap.push { cls:=.type "slice", data:=.fields #[vl,vu,.none] } }:=I3.kept (t':=s3.toks) fun b ob q=>Heap.get?_push_of_some _ q
  obtain ⟨T,id,hT,ht,hg⟩:=hr pins { s3 with heap:=s3.heap.push { cls:=.type "slice", data:=.fields #[vl,vu,.none] } } σ H3 x v vl vu l u s3.heap.objs.size Q I4 r1 (Heap.IsSliceOf.new ..) pl pu q3
  show wpAny (model X.prog X.w) X.A (subscriptTail e (.Slice lo hi none p2) v (.ref s3.heap.objs.size)) (EP X pins σ Q) X.xe { s3 with heap:=s3.heap.push { cls:=.type "slice", data:=.fields #[vl,vu,.none] } }
  exact tail_any (ops:=[.ref s3.heap.objs.size,v]) ht hT hg (by with_unfolding_all rfl)
def lV (xs:List V)(lo hi:Option Int):List V:=(xs.drop (HT.sIx xs.length 0 lo)).take (HT.sIx xs.length xs.length hi - HT.sIx xs.length 0 lo)
theorem gq (xs:List V)(lo hi:Option Int):(lV xs lo hi).length≤xs.length:=by
  unfold lV
  rw[List.length_take,List.length_drop]
  omega
def Bz (K:PySem.W.Frag):V→Option Int→Option Int→Hp→VK→Prop:=fun x lo hi H Q=>∃ a xs,x=.ref a∧SqT K H a xs∧
  ¬ (HT.sIx xs.length 0 lo=0∧HT.sIx xs.length xs.length hi=xs.length)∧∀ p,H p=none→Q (.ref p) (upd H p (.tup (lV xs lo hi)))
theorem xI:SlR X (Bz X.K):=by
  intro pins s σ H x v vl vu lo hi sl Q I rx hs pl pu h
  obtain ⟨a,xs,rfl,hx,hw,q⟩:=h
  cases rx
  obtain ⟨its,r,ht,hz⟩:=I.tuple hx
  have hlen:its.toArray.size=xs.length:=by rw[List.size_toArray];exact r.length.symm
  refine ⟨"tuple", _,PyProof.Rows.slot_tuple_getitem.lookup,ht.typeIs,?_⟩
  refine HT.fg ht hs pl pu (by rw[hlen];exact hw) ?_ (by rw[hlen];exact hz)
  rw[hlen]
  refine ⟨.ref s.heap.objs.size,_,I.laid (t':=s.toks) (o:=.tup (lV xs lo hi)) (fun b ob q=>Heap.get?_push_of_some _ q) (Nat.le_refl _) ?_,rfl,q _ (I.hok.fresh (Nat.le_refl _))⟩
  exact ⟨Nat.le_trans (gq xs lo hi) hz,_,(r.drop (HT.sIx xs.length 0 lo)).take (HT.sIx xs.length xs.length hi - HT.sIx xs.length 0 lo),mZ.new _ _⟩
def wo (K:PySem.W.Frag):R2:=fun x y H Q=>∃ a b xs ys,x=.ref a∧y=.ref b∧SqT K H a xs∧SqT K H b ys∧xs≠[]∧xs.length+ys.length≤sizeLine∧
  (ys=[]→Q (.ref a) H)∧(ys≠[]→∀ p,H p=none→Q (.ref p) (upd H p (.tup (xs++ys))))
theorem Vals.lE {xs:List V}{us:List Value}(r:Vals xs us):us=[]↔xs=[]:=by
  cases r with
  | nil=>simp
  | cons _ _=>simp
theorem uI:OpR X (binaryOp .Add) (wo X.K):=by
  intro pins s σ H x y v u Q I rx ry h
  obtain ⟨a,b,xs,ys,rfl,rfl,ha,hb,hx,hz,q1,q2⟩:=h
  cases rx
  cases ry
  obtain ⟨its,r1,p1,_⟩:=I.tuple ha
  obtain ⟨its2,r2,p2,_⟩:=I.tuple hb
  refine HT.u5 p1 p2 (fun z=>hx (r1.lE.mp z)) (fun z=>⟨.ref a,H,I,rfl,q1 (r2.lE.mp z)⟩) (fun z=>?_) (by rw[← r1.length,← r2.length];exact hz)
  refine ⟨.ref s.heap.objs.size,_,I.laid (t':=s.toks) (o:=.tup (xs++ys)) (fun b ob q=>Heap.get?_push_of_some _ q) (Nat.le_refl _) ?_,rfl,q2 (fun w=>z (r2.lE.mpr w)) _ (I.hok.fresh (Nat.le_refl _))⟩
  exact ⟨by rw[List.length_append];exact hz,_,r1.append r2,mZ.new _ _⟩
end
end L2
namespace L2
open PySem PySem.Spec PyProof.Rows
def ixN (n:Nat)(i:Int):Option Nat:=if 0≤i then (if i < n then some i.toNat else none) else if -(n:Int)≤i then some (i+n).toNat else none
def atI {α:Type}(xs:List α)(i:Int):Option α:=(ixN xs.length i).bind fun j=>xs[j]?
theorem pQ {n:Nat}{i:Int}{j:Nat}(h:ixN n i=some j):seqIndex? i n=some j∧j < n∧-(n:Int)≤i∧i < n:=by
  unfold ixN at h
  by_cases h0:0≤i
  · rw[if_pos h0] at h
    by_cases h1:i < n
    · rw[if_pos h1] at h
      have e:i.toNat=j:=Option.some.inj h
      exact ⟨by rw[seqIndex_of h0 h1,e],by omega,by omega,h1⟩
    · rw[if_neg h1] at h;cases h
  · rw[if_neg h0] at h
    by_cases h1:-(n:Int)≤i
    · rw[if_pos h1] at h
      have e:(i+n).toNat=j:=Option.some.inj h
      exact ⟨by rw[seqIndex_neg (by omega) h1,e],by omega,h1,by omega⟩
    · rw[if_neg h1] at h;cases h
theorem lJ {α:Type}{xs:List α}{i:Int}{v:α}(h:atI xs i=some v):∃ j,seqIndex? i xs.length=some j∧xs[j]? = some v∧j < xs.length∧-(xs.length:Int)≤i∧i < xs.length:=by
  unfold atI at h
  cases e:ixN xs.length i with
  | none=>rw[e] at h;cases h
  | some j=>
    rw[e] at h
    obtain ⟨h1,h2,h3,h4⟩:=pQ e
    exact ⟨j,h1,h,h2,h3,h4⟩
def lM (b:Expr):Prop:=∀ o i,subscripted b false o i=operate [o,i] (getItem o i)
def IxR (X:Cx)(r:R2):Prop:=
  ∀ (value slice:Expr) (pins:List (Addr×Obj)) (s:Shared) (σ:St) (H:Hp) (x y:V) (v u:Value) (Q:VK),Inv X pins σ H s→RelV x v→RelV y u→r x y H Q→
    subscripted slice false v u=operate [v,u] (getItem v u)→wpAny (model X.prog X.w) X.A (subscriptTail value slice v u) (EP X pins σ Q) X.xe s
def MtR (X:Cx)(id:String)(r:V→List V→Hp→VK→Prop):Prop:=
  ∀ (pins:List (Addr×Obj)) (s:Shared) (σ:St) (H:Hp) (x:V) (xs:List V) (v:Value) (us:List Value) (Q:VK),Inv X pins σ H s→RelV x v→Vals xs us→r x xs H Q→
    wpAny (model X.prog X.w) X.A (call (.builtin id) (v::us)) (EP X pins σ Q) X.xe s
section
variable {X:Cx} {a b:Expr} {ta tb:TE} {pos:Pos}
theorem IxR.or {r r':R2}(h:IxR X r)(h':IxR X r'):IxR X (fun x y H Q=>r x y H Q∨r' x y H Q):=by
  intro value slice pins s σ H x y v u Q I rx ry q hs
  rcases q with q | q
  · exact h value slice pins s σ H x y v u Q I rx ry q hs
  · exact h' value slice pins s σ H x y v u Q I rx ry q hs
theorem MtR.or {id:String}{r r':V→List V→Hp→VK→Prop}(h:MtR X id r)(h':MtR X id r'):MtR X id (fun x xs H Q=>r x xs H Q∨r' x xs H Q):=by
  intro pins s σ H x xs v us Q I rx rs q
  rcases q with q | q
  · exact h pins s σ H x xs v us Q I rx rs q
  · exact h' pins s σ H x xs v us Q I rx rs q
theorem wJ {r:R2}(hr:IxR X r)(ha:PE X a ta)(hb:PE X b tb)(hs:lM b):PE X (.Subscript a b pos) (tOp r ta tb):=by
  intro pins s σ H Q I h
  exact Subscript_ (yb ha hb I h fun v u s2 x y H2 I2 rx ry q=>hr a b pins s2 σ H2 x y v u Q I2 rx ry q (hs _ _))
def Ah (K:PySem.W.Frag):R2:=fun x y H Q=>∃ p xs i v,x=.ref p∧y=.int i∧SqL K H p xs∧atI xs i=some v∧Q v H
def AW (K:PySem.W.Frag):R2:=fun x y H Q=>∃ p xs i v,x=.ref p∧y=.int i∧SqT K H p xs∧atI xs i=some v∧Q v H
def xN:R2:=fun x y H Q=>∃ z i c,x=.str z∧y=.int i∧z.length≤sizeLine∧atI z.cps.toList i=some c∧Q (.str ⟨#[c]⟩) H
theorem uS:IxR X (Ah X.K):=by
  intro value slice pins s σ H x y v u Q I rx ry h hs
  obtain ⟨p,xs,i,z,rfl,rfl,hq,he,q⟩:=h
  cases rx
  obtain ⟨t,rfl⟩:=ry
  obtain ⟨its,r,pl,hz⟩:=I.list hq
  obtain ⟨j,h1,h2,h3,h4,h5⟩:=lJ he
  obtain ⟨w,ew,rw'⟩:=r.get h2
  have hl:=r.length
  have hn:=fK
  have fin:EP X pins σ Q w s:=⟨z,H,I,rw',q⟩
  by_cases h0:0≤i
  · have hj:i.toNat=j:=by
      rw[seqIndex_of h0 h5] at h1
      exact Option.some.inj h1
    exact item_listR pl.isList h0 (by omega) (by rw[hj];simpa using ew) fin hs
  · have hj:(i+(its.toArray.size:Int)).toNat=j:=by
      rw[seqIndex_neg (by omega) h4] at h1
      rw[List.size_toArray,← hl]
      exact Option.some.inj h1
    exact subscriptTail_builtinR (x:=w) pl.isList.typeIs slot_list_getitem.lookup
      (wpAny_getItem_list_neg (Q:=fun r s'=>r=w∧EP X pins σ Q r s') pl.isList (by omega) (by rw[List.size_toArray]<;>omega) (by omega) (by rw[hj];simpa using ew) ⟨rfl,fin⟩) hs
theorem w4:IxR X (AW X.K):=by
  intro value slice pins s σ H x y v u Q I rx ry h hs
  obtain ⟨p,xs,i,z,rfl,rfl,hq,he,q⟩:=h
  cases rx
  obtain ⟨t,rfl⟩:=ry
  obtain ⟨its,r,pl,hz⟩:=I.tuple hq
  obtain ⟨j,h1,h2,h3,h4,h5⟩:=lJ he
  obtain ⟨w,ew,rw'⟩:=r.get h2
  have hl:=r.length
  have hn:=fK
  have fin:EP X pins σ Q w s:=⟨z,H,I,rw',q⟩
  exact subscriptTail_builtinR (x:=w) pl.typeIs slot_tuple_getitem.lookup
    (getItem_tuple (j:=j) (Q:=fun r s'=>r=w∧EP X pins σ Q r s') pl (by omega) (by omega) (by rw[List.size_toArray,← hl];exact h1) (by simpa using ew) ⟨rfl,fin⟩) hs
theorem tw:IxR X xN:=by
  intro value slice pins s σ H x y v u Q I rx ry h hs
  obtain ⟨z,i,c,rfl,rfl,hz,he,q⟩:=h
  obtain ⟨t,rfl⟩:=rx
  obtain ⟨t',rfl⟩:=ry
  obtain ⟨j,h1,h2,h3,h4,h5⟩:=lJ he
  have hl:z.cps.toList.length=z.length:=by simp[Str.length]
  rw[hl] at h1 h4 h5
  have hn:=fK
  exact tail_any (typeIs_str s z t) slot_str_getitem.lookup (getItem_str (c:=c) (by
    have e1:decide (i < -(2 ^ 63:Int))=false:=decide_eq_false (by omega)
    have e2:decide (i ≥ 2 ^ 63)=false:=decide_eq_false (by omega)
    rw[e1,e2,Bool.or_false]) (by rw[h1];simpa using h2) ⟨.str ⟨#[c]⟩,H,I.tok _,⟨_,rfl⟩,q⟩) hs
def rIx (K:PySem.W.Frag):R2:=fun x y H Q=>Ah K x y H Q∨AW K x y H Q∨xN x y H Q
theorem zt:IxR X (rIx X.K):=uS.or (w4.or tw)
theorem n4 (its:List Value)(n j:Nat)(u:Value):Obj.mapSeq (·.setIfInBounds j u) { cls:=.type "list", data:=.seq its.toArray n }={ cls:=.type "list", data:=.seq (its.set j u).toArray n }:=by
  simp[Obj.mapSeq]
theorem Inv.lst {pins:List (Addr×Obj)}{σ:St}{H:Hp}{s:Shared}{p:Addr}{xs:List V}(I:Inv X pins σ H s)(h:H p=some (.lst xs)) :
    ∃ (its:List Value) (n:Nat),Vals xs its∧s.heap.get? p=some { cls:=.type "list", data:=.seq its.toArray n }∧xs.length≤sizeLine:=by
  obtain ⟨z,its,n,r,e⟩:=I.hok p _ h
  exact ⟨its,n,r,e,z⟩
theorem Inv.yo {pins:List (Addr×Obj)}{σ:St}{H:Hp}{s:Shared}{p:Addr}{xs ys:List V}{its its':List Value}{n n':Nat}{f:Obj→Obj}(I:Inv X pins σ H s)(h:H p=some (.lst xs))
    (ho:s.heap.get? p=some { cls:=.type "list", data:=.seq its.toArray n }) (hf:f { cls:=.type "list", data:=.seq its.toArray n }={ cls:=.type "list", data:=.seq its'.toArray n' }) (r:Vals ys its') (hz:ys.length≤sizeLine) (t:Nat) :
    Inv X pins σ (upd H p (.lst ys)) { s with heap:=s.heap.update p f,toks:=t }:=by
  have e:(s.heap.update p f).get? p=some { cls:=.type "list", data:=.seq its'.toArray n' }:=by
    rw[Heap.get?_update_self f ho (by rw[hf]<;>rfl),hf]
  refine I.write (x:=p) (e:=p) (by rw[h];trivial) (.inl rfl) (fun b u hb q=>(Heap.get?_update_other _ _ (Ne.symm hb)).trans q) ⟨_,e⟩ ?_
  exact ⟨hz,its',n',r,e⟩
def Ap:V→V→V→Hp→(Hp→Prop)→Prop:=fun o i v H Q=>∃ p xs k j,o=.ref p∧i=.int k∧H p=some (.lst xs)∧ixN xs.length k=some j∧Q (upd H p (.lst (xs.set j v)))
theorem set_list:zC X Ap:=by
  intro pins s σ H o i v ov iv u Q I ro ri rv h
  obtain ⟨p,xs,k,j,rfl,rfl,hp,hj,q⟩:=h
  cases ro
  obtain ⟨t,rfl⟩:=ri
  obtain ⟨its,n,r,ho,hz⟩:=I.lst hp
  obtain ⟨h1,h2,h3,h4⟩:=pQ hj
  have hl:=r.length
  have hn:=fK
  have I':Inv X pins σ (upd H p (.lst (xs.set j v))) { s with heap:=s.heap.update p (Obj.mapSeq (·.setIfInBounds j u)) }:=
    I.yo hp ho (n4 its n j u) (r.set rv j) (by rw[List.length_set];exact hz) s.toks
  by_cases h0:0≤k
  · have hk:k.toNat=j:=by
      rw[seqIndex_of h0 h4] at h1
      exact Option.some.inj h1
    exact PySem.W.ki_setAt ho h0 (by omega) (by rw[List.size_toArray,← hl];exact h4) (by rw[hk];exact ⟨_,I',q⟩)
  · have hk:(k+(its.toArray.size:Int)).toNat=j:=by
      rw[seqIndex_neg (by omega) h3] at h1
      rw[List.size_toArray,← hl]
      exact Option.some.inj h1
    exact PySem.W.ki_setBack ho (by omega) (by rw[List.size_toArray,← hl];exact h3) (by omega) (by rw[hk];exact ⟨_,I',q⟩)
theorem lG (lo hi:Option Int)(n:Nat):(sliceBounds lo hi none n).1=((HT.sIx n 0 lo:Nat):Int)∧(sliceBounds lo hi none n).2.1=((HT.sIx n n hi:Nat):Int)∧(sliceBounds lo hi none n).2.2=1:=by
  refine ⟨?_,?_,rfl⟩
  · cases lo with
    | none=>simp[sliceBounds,HT.sIx]
    | some i=>
      simp only[sliceBounds,HT.sIx,Option.getD_none,show (1:Int) > 0 by decide,if_true]
      by_cases h:i < 0
      · simp only[h,if_true]<;>omega
      · simp only[h,if_false]<;>omega
  · cases hi with
    | none=>simp[sliceBounds,HT.sIx]
    | some i=>
      simp only[sliceBounds,HT.sIx,Option.getD_none,show (1:Int) > 0 by decide,if_true]
      by_cases h:i < 0
      · simp only[h,if_true]<;>omega
      · simp only[h,if_false]<;>omega
theorem jC (its:List Value)(lo hi:Option Int):slicePick its.toArray lo hi none=((its.drop (HT.sIx its.length 0 lo)).take (HT.sIx its.length its.length hi - HT.sIx its.length 0 lo)).toArray:=by
  obtain ⟨h1,h2,h3⟩:=lG lo hi its.toArray.size
  unfold slicePick
  rw[h1,h2,h3]
  simp only[sliceRange_one,pick_run,List.size_toArray]<;>rfl
def BL (K:PySem.W.Frag):V→Option Int→Option Int→Hp→VK→Prop:=fun x lo hi H Q=>∃ a xs,x=.ref a∧SqL K H a xs∧∀ p,H p=none→Q (.ref p) (upd H p (.lst (lV xs lo hi)))
theorem uR:SlR X (BL X.K):=by
  intro pins s σ H x v vl vu lo hi sl Q I rx hs pl pu h
  obtain ⟨a,xs,rfl,hx,q⟩:=h
  cases rx
  obtain ⟨its,r,ht,hz⟩:=I.list hx
  have hlen:=r.length
  refine ⟨"list", _,slot_list_getitem.lookup,ht.isList.typeIs,?_⟩
  refine wpAny_getItem_list_slice ht.isList hs pl pu .none (by simp) ?_ (by rw[List.size_toArray]<;>omega)
  rw[jC,← hlen]
  refine ⟨.ref s.heap.objs.size,_,I.laid (t':=s.toks) (o:=.lst (lV xs lo hi)) (fun b ob q=>Heap.get?_push_of_some _ q) (Nat.le_refl _) ?_,rfl,q _ (I.hok.fresh (Nat.le_refl _))⟩
  exact ⟨Nat.le_trans (gq xs lo hi) hz,_,0,(r.drop (HT.sIx xs.length 0 lo)).take (HT.sIx xs.length xs.length hi - HT.sIx xs.length 0 lo),Heap.get?_push_size _ rfl⟩
def wV:V→Bool
  | .non=>true
  | .bl _=>true
  | .int _=>true
  | .str _=>true
  | _=>false
def eqV:V→V→Bool
  | .non,.non=>true
  | .bl a,.bl b=>a == b
  | .bl a,.int b=>(if a then 1 else 0) == b
  | .int a,.bl b=>a == (if b then 1 else 0)
  | .int a,.int b=>a == b
  | .str a,.str b=>a == b
  | _,_=>false
def inV (x:V)(xs:List V):Bool:=xs.any fun y=>eqV y x
def rIn (K:PySem.W.Frag)(neg:Bool):R2:=fun x y H Q=>∃ p xs,y=.ref p∧(SqL K H p xs∨SqT K H p xs)∧wV x=true∧xs.all wV=true∧Q (.bl (if neg then !inV x xs else inV x xs)) H
theorem km:bj X (.builtin "len") (fun xs H Q=>∃ p ys,xs=[.ref p]∧(SqL X.K H p ys∨SqT X.K H p ys)∧Q (.int ys.length) H):=by
  intro pins s σ H xs us Q I r h
  obtain ⟨p,ys,rfl,hq,q⟩:=h
  obtain ⟨u,rfl,rx⟩:=vals1 r
  cases rx
  have hn:=fK
  rcases hq with hq | hq
  · obtain ⟨its,r',pl,hz⟩:=I.list hq
    have hlen:=r'.length
    exact Calls.call_len_list pl.isList (by simp only[List.size_toArray]<;>omega) ⟨.int ys.length,H,I.tok _,⟨s.toks+1,by rw[List.size_toArray,hlen]⟩,q⟩
  · obtain ⟨its,r',pl,hz⟩:=I.tuple hq
    have hlen:=r'.length
    exact len_tuple pl (by simp only[List.size_toArray]<;>omega) ⟨.int ys.length,H,I.tok _,⟨s.toks+1,by rw[List.size_toArray,hlen]⟩,q⟩
theorem kj:bj X (.builtin "len") (fun xs H Q=>∃ z,xs=[.str z]∧z.length≤sizeLine∧Q (.int z.length) H):=by
  intro pins s σ H xs us Q I r h
  obtain ⟨z,rfl,hz,q⟩:=h
  obtain ⟨u,rfl,t,rfl⟩:=vals1 r
  have hn:=fK
  exact len_str (by omega) ⟨.int z.length,H,I.tok _,⟨_,rfl⟩,q⟩
theorem bj.or {f:Value}{r r':List V→Hp→VK→Prop}(h:bj X f r)(h':bj X f r'):bj X f (fun xs H Q=>r xs H Q∨r' xs H Q):=by
  intro pins s σ H xs us Q I rs q
  rcases q with q | q
  · exact h pins s σ H xs us Q I rs q
  · exact h' pins s σ H xs us Q I rs q
theorem bC:bj X (.type "tuple") (fun xs H Q=>∃ p ys,xs=[.ref p]∧((SqL X.K H p ys∧∀ l,H l=none→Q (.ref l) (upd H l (.tup ys)))∨(SqT X.K H p ys∧Q (.ref p) H))):=by
  intro pins s σ H xs us Q I r h
  obtain ⟨p,ys,rfl,h⟩:=h
  obtain ⟨u,rfl,rx⟩:=vals1 r
  cases rx
  rcases h with ⟨hq,q⟩ | ⟨hq,q⟩
  · obtain ⟨its,r',pl,hz⟩:=I.list hq
    have hlen:=r'.length
    refine call_tuple_list pl.isList (fun h' kp=>?_) (by simp only[List.size_toArray]<;>omega)
    have I1:Inv X pins σ H { s with heap:=h' }:=I.kept (t':=s.toks) kp
    have I2:Inv X pins σ (upd H h'.objs.size (.tup ys)) { s with heap:=h'.push { cls:=.type "tuple", data:=.seq its.toArray } }:=
      I1.laid (t':=s.toks) (fun b o e=>Heap.get?_push_of_some _ e) (Nat.le_refl _) (show cg X.prog X.w _ _ _ (.tup ys) from ⟨hz,its,r',mZ.new _ _⟩)
    exact ⟨.ref h'.objs.size,_,I2,rfl,q _ (I1.hok.fresh (Nat.le_refl _))⟩
  · obtain ⟨its,r',pl,hz⟩:=I.tuple hq
    exact call_tuple_same pl ⟨.ref p,H,I,rfl,q⟩
def tyV (K:PySem.W.Frag)(T:String)(x:V)(H:Hp):Prop:=match x with
  | .str _=>T = "str"
  | .int _=>T = "int"
  | .ref p=>(T = "list" ∧ ∃ xs,SqL K H p xs)∨(T = "tuple" ∧ ∃ o,K.lookup p=some o∧o.cls=.type "tuple" ∧ o.dict=none)∨
      (T = "dict" ∧ ((∃ kvs,H p=some (.dK kvs))∨∃ kvs,H p=some (.dT kvs)))∨(T = "set" ∧ ∃ S n,H p=some (.set S n))
  | _=>False
theorem xu {pins:List (Addr×Obj)}{σ:St}{H:Hp}{s:Shared}{T:String}{x:V}{v:Value}(I:Inv X pins σ H s)(r:RelV x v)(ty:tyV X.K T x H) :
    s.TypeIs v T∧∀ a,v=.ref a→∃ ob,s.heap.get? a=some ob∧ob.dict=none:=by
  cases x with
  | str z=>
    obtain ⟨t,rfl⟩:=r
    cases (show T = "str" from ty)
    exact ⟨typeIs_str s z t,fun _ e=>nomatch e⟩
  | int i=>
    obtain ⟨t,rfl⟩:=r
    cases (show T = "int" from ty)
    exact ⟨typeIs_int s i t,fun _ e=>nomatch e⟩
  | ref p=>
    cases r
    rcases ty with ⟨rfl,xs,hq⟩ | ⟨rfl,o,hk,hc,hd⟩ | ⟨rfl,hk⟩ | ⟨rfl,S,n,hk⟩
    · obtain ⟨its,_,pl,_⟩:=I.list hq
      refine ⟨pl.isList.typeIs,fun a e=>?_⟩
      cases e
      obtain ⟨o,n,e,c,hd,_⟩:=pl
      exact ⟨o,e,hd⟩
    · refine ⟨⟨o,I.kIn p o hk,hc⟩,fun a e=>?_⟩
      cases e
      exact ⟨o,I.kIn _ o hk,hd⟩
    · have z:∃ o,s.heap.get? p=some o∧o.ExactDict:=by
        rcases hk with ⟨kvs,hk⟩ | ⟨kvs,hk⟩
        · obtain ⟨_,_,_,_,o,_,_,e,ex,_⟩:=I.hok p _ hk
          exact ⟨o,e,ex⟩
        · obtain ⟨_,_,_,_,o,_,_,e,ex,_⟩:=I.hok p _ hk
          exact ⟨o,e,ex⟩
      obtain ⟨o,e,ex⟩:=z
      refine ⟨⟨o,e,ex.1⟩,fun a e2=>?_⟩
      cases e2
      exact ⟨o,e,ex.2.1⟩
    · obtain ⟨o,_,_,_,e,ex,_⟩:=I.hok p _ hk
      refine ⟨⟨o,e,ex.1⟩,fun a e2=>?_⟩
      cases e2
      exact ⟨o,e,ex.2.1⟩
  | _=>exact False.elim ty
def tBM (K:PySem.W.Frag)(T:String)(r:V→List V→Hp→VK→Prop)(to:TE)(t:TA):TE:=fun σ H Q=>to σ H fun x H1=>tyV K T x H1∧t σ H1 fun xs H2=>r x xs H2 Q
variable {o e:Expr} {es:List Expr} {to:TE} {t:TA} {name:Str} {apos cpos:Pos} {T id:String} {r:V→List V→Hp→VK→Prop}
theorem wB (pa:PlainAttrs T)(slot:Slot T name id)(hty:typeOf (.builtin id)=pure (.type "method_descriptor"))(hm:MtR X id r)(ho:PE X o to)(ha:PA X (e::es) t)
    (hbase:attributeBase o name X.env (eval o X.env)=eval o X.env:=by rfl)
    (hfew:((backTo cpos (starEach (e::es) X.env)).all (fun x=>!x.1)&&(backToKw cpos (keywordEach [] X.env)).all (fun x=>x.1.isSome)
      && decide ((e::es).length+([]:List Keyword).length+(if ([]:List Keyword).isEmpty then 0 else 1) < 30))=true:=by rfl)
    (hline:(apos.endLine == cpos.line)=true:=by rfl) (hs:starEach (e::es) X.env=(false,eval e X.env)::starEach es X.env:=by rfl) (hplain:(backTo cpos (starEach es X.env)).any (·.1)=false:=by rfl) :
    PE X (.Call (.Attribute o name apos) (e::es) [] cpos) (tBM X.K T r to t):=by
  intro pins s σ H Q I h
  refine wpAny_Call_method_late hbase hfew hline rfl (thn (ho pins s σ H _ I h) fun v s1 ⟨x,H1,I1,r1,ty,q1⟩=>?_)
  obtain ⟨h1,h2⟩:=xu I1 r1 ty
  refine ⟨T,id,pa,slot,hty,h1,h2,?_⟩
  have hA:=ha cpos pins s1 σ H1 _ I1 q1
  rw[hs] at hA ⊢
  refine Calls.callWith_builtin (by show (false || (backTo cpos (starEach es X.env)).any (·.1))=false;rw[hplain]<;>rfl) (Calls.evalArgs_plain ?_)
  exact thn hA fun us s2 ⟨vs,H2,I2,r2,q2⟩=>hm pins s2 σ H2 x vs v us Q I2 r1 r2 q2
end
end L2
namespace L2
open PySem PySem.Spec PyProof.Rows
def MtM (X:Cx)(id:String)(r:V→List V→Hp→VK→Prop):Prop:=
  ∀ (pins:List (Addr×Obj)) (s:Shared) (σ:St) (H:Hp) (x:V) (xs:List V) (v:Value) (us:List Value) (Q:VK),Inv X pins σ H s→RelV x v→Vals xs us→r x xs H Q→
    wpAny (model X.prog X.w) X.A (call (.builtin id) (v::us)) (EP X pins σ Q) X.xe s
theorem Vals.one:∀ {x:V} {us:List Value},Vals [x] us→∃ u,us=[u]∧RelV x u
  | _,_,.cons r .nil=>⟨_,rfl,r⟩
theorem Vals.zero:∀ {us:List Value},Vals [] us→us=[]
  | _,.nil=>rfl
theorem Vals.reverse {xs:List V}{us:List Value}(h:Vals xs us):Vals xs.reverse us.reverse:=by
  induction h with
  | nil=>exact .nil
  | cons r t ih=>rw[List.reverse_cons,List.reverse_cons];exact Vals.append ih (.cons r .nil)
theorem Vals.rep {xs:List V}{us:List Value}(h:Vals xs us):∀ k:Nat,Vals (List.replicate k xs).flatten (List.replicate k us).flatten
  | 0=>.nil
  | k+1=>by
    rw[List.replicate_succ,List.replicate_succ,List.flatten_cons,List.flatten_cons]
    exact Vals.append h (Vals.rep h k)
section
variable {X:Cx} {pins:List (Addr×Obj)} {σ:St} {H:Hp} {s:Shared} {l b:Addr} {xs ys zs:List V}
theorem Inv.zb {its its':List Value}{n:Nat}{f:Array Value→Array Value}{t':Nat}(I:Inv X pins σ H s)(hH:H l=some (.lst xs))
    (e:s.heap.get? l=some { cls:=.type "list", data:=.seq its.toArray n }) (hf:f its.toArray=its'.toArray) (hv:Vals ys its') (hz:ys.length≤sizeLine) :
    Inv X pins σ (upd H l (.lst ys)) { s with heap:=s.heap.update l (Obj.mapSeq f),toks:=t' }:=by
  have q:=PySem.IsL.update e f
  rw[hf] at q
  refine I.write (x:=l) (e:=l) (by rw[hH];exact trivial) (.inl rfl) (fun b' u hb hu=>(Heap.get?_update_other s.heap (Obj.mapSeq f) (Ne.symm hb)).trans hu) ⟨_,q⟩ ?_
  exact ⟨hz,its',_,hv,q⟩
theorem Inv.Bi {its:List Value}{t':Nat}(I:Inv X pins σ H s)(hv:Vals ys its)(hz:ys.length≤sizeLine) :
    Inv X pins σ (upd H s.heap.objs.size (.lst ys)) { s with heap:=s.heap.push { cls:=.type "list", data:=.seq its.toArray },toks:=t' }:=
  I.laid (fun _ _ q=>Heap.get?_push_of_some _ q) (Nat.le_refl _) ⟨hz,its,0,hv,Heap.get?_push_size _ rfl⟩
theorem Inv.fresh (I:Inv X pins σ H s):H s.heap.objs.size=none:=I.hok.fresh (Nat.le_refl _)
theorem Inv.xl (I:Inv X pins σ H s)(hH:H l=some (.lst xs)):xs.length≤sizeLine∧∃ (its:List Value) (n:Nat),Vals xs its∧xs.length=its.length∧s.heap.get? l=some { cls:=.type "list", data:=.seq its.toArray n }:=by
  obtain ⟨z,its,n,r,e⟩:=I.hok l _ hH
  exact ⟨z,its,n,r,r.length,e⟩
theorem mK {n:Nat}(h:n≤sizeLine):Builtin.List.listTooLong n=false:=by
  unfold Builtin.List.listTooLong
  exact decide_eq_false (by omega)
end
section
variable {X:Cx}
def vP:V→List V→Hp→VK→Prop:=fun x vs H Q=>∃ l xs y,x=.ref l∧vs=[y]∧H l=some (.lst xs)∧xs.length < sizeLine∧Q .non (upd H l (.lst (xs++[y])))
theorem j8:MtM X "list.append" vP:=by
  intro pins s σ H x vs v us Q I rx rv h
  obtain ⟨l,xs,y,rfl,rfl,hH,hz,q⟩:=h
  cases rx
  obtain ⟨u,rfl,ru⟩:=rv.one
  obtain ⟨z,its,n,r,hl,e⟩:=I.xl hH
  refine call_meets F.slot_list_append ⟨_,e,rfl⟩ F.entry_list_append (F.args_list_append_2 _ _) (PySem.list_append l its.toArray n u (by rw[List.size_toArray];omega)) ⟨e,?_⟩
  refine ⟨.non,_,I.zb (its':=its++[u]) hH e (by simp) (r.append (.cons ru .nil)) ?_,rfl,q⟩
  rw[List.length_append,List.length_singleton]
  omega
end
section
variable {prog:Program} {w:World} {A:Around} {E:Value→Shared→Prop} {s:Shared}
end
section
variable {X:Cx}
end
end L2
namespace Att
open PySem PySem.W PySem.Calls PyProof.Rows
theorem gF {P:Params}{h:Heap}:∀ (ns:List Int) (vs:List Value),WellAll P h vs (ns.map WData.int)→IntsAre vs ns:=by
  intro ns
  induction ns with
  | nil=>
    intro vs w
    rw[List.map_nil] at w
    cases w
    exact .nil
  | cons n ns ih=>
    intro vs w
    rw[List.map_cons] at w
    cases w with
    | cons a b=>
      cases a
      exact .cons _ _ (ih _ b)
theorem qr {l:OpenLaw}{n:Nat}(hn:l.most=some n){P:Params}{h:Heap}{args:List WData}{vals:List Value}
    (hpre:l.row.toRowW.claim.pre args=true) (hwl:WellAll P h vals args) :
    ∃ a vs ns,vals=[Value.ref a]∧args=[WData.list (ns.map WData.int)]∧h.get? a=some { cls:=.type "list", data:=.seq vs.toArray }∧IntsAre vs ns∧ns.length≤n:=by
  have hsh:WShape.hasAll [] args [.list .int]=true:=(pre_splitW hpre).1
  have hc:l.pre.holds [] { args:=args }=true:=(pre_splitW hpre).2
  obtain ⟨d,r,rfl,h1,h2⟩:=hasAllW_cons hsh
  obtain rfl:=hasAllW_nil h2
  obtain ⟨xs,rfl,h3⟩:=hasW_list h1
  obtain ⟨ns,rfl⟩:=items_int h3
  have hlen:ns.length≤n:=by
    unfold OpenLaw.pre at hc
    have h4:(WTm.not (.lt (.lit (.int (n:Int))) (.len (.arg 0)))).holds [] { args:=[.list (ns.map .int)] }=true:=by
      have h4:=(holds_andW hc).1
      rw[hn] at h4
      exact h4
    have h5:=condW_of h4 (w_not (w_lt w_lit (w_len_list (w_arg rfl))))
    rw[List.length_map] at h5
    refine Nat.le_of_not_lt fun q=>?_
    have q':(n:Int) < ((ns.length:Nat):Int):=by omega
    first
      | (rw[decide_eq_true q'] at h5;exact absurd h5 (by decide))
      | (simp at h5;omega)
  cases hwl with
  | cons w1 w2=>
    cases w2
    cases w1 with
    | list ho hall=>exact ⟨_,_,ns,rfl,rfl,ho,gF ns _ hall,hlen⟩
theorem qy (l:OpenLaw)(args:List WData):l.row.toRowW.claim.post args (.bool true) args=true:=
  postW_of (r:=l.row.toRowW) (X:=(true == true))
    (show WShape.has [] (.bool true) .bool=true by first | rfl | decide | simp[WShape.has,WShape.arms,WShape.armsAll])
    (show (WTm.eq .res (.lit (.bool true))).value [] { args:=args,res:=some (.bool true),after:=args }=some (.bool (true == true)) from w_eq_bool (w_res rfl) w_lit) rfl
theorem mP {l:OpenLaw}{n:Nat}{q:Program}{loose:List Str}{XP:(Str→Option Value)→Heap→Prop}{YP:World→Heap→Prop}{d:DefRec}
    (hn:l.most=some n) (hdf:d.params.defaults=[])
    (call:∀ (w:World) (s₀ s₁:Shared) (mg mb:Str→Option Value) (fa:Addr) (o:Obj) (pm cd doc:Value) (a:Addr) (vs:List Value) (ns:List Int),
      Ground q loose [] XP w s₀ mg mb s₁.heap→YP w s₁.heap→
      s₁.heap.get? fa=some o→o.data=.func (docDef d.name d.params d.body d.scope pm cd doc)→s₁.heap.CodeRec cd d.name→mg d.name=some (.ref fa)→
      s₁.heap.get? a=some { cls:=.type "list", data:=.seq vs.toArray }→IntsAre vs ns→ns.length≤n→s₁.gens = #[]→
      codeAny (model l.prog w) callerA (.call (.ref fa) ⟨[.ref a],[]⟩) (fun r s'=>r=.ok (.ret (.bool true))∧OldK s₁.heap s'.heap∧s'.os=s₁.os∧AllBare s'.gens) s₁) :
    WalkO q loose XP YP l.row.toRowW d [] (fun f vs=>PySem.call f vs):=by
  intro w s₀ s₁ mg mb G Y fa o pm cd doc dV kV ho hd hcd hD hmg hg args vals as hpre hlay hrd hwl hlo
  obtain rfl:dV=.none:=Dflts.none hD hdf
  obtain rfl:kV=.none:=Dflts.noKw hD
  obtain ⟨a,vs,ns,rfl,rfl,hobj,hints,hlen⟩:=qr hn hpre hwl
  refine enter_call (codeAny_mono (call w s₀ s₁ mg mb fa o pm cd doc a vs ns G Y ho (fd_plain hd) hcd hmg hobj hints hlen hg) fun r s' hq=>?_)
  obtain ⟨rfl,h2,h3,h4⟩:=hq
  exact ⟨.inl ⟨.bool true,.bool true,[],rfl,fun _=>rfl,.bool true,qy l _,fun _=>⟨List.Pairwise.nil,fun _ hm=>(nomatch hm)⟩⟩,h2,h3,h4⟩
section
variable {prog:Program} {w:World} {A:Around} {E:Value→Shared→Prop} {s:Shared} {K:Frag}
end
end Att
namespace L2
open PySem PySem.Spec PyProof.Rows
theorem kd:∀ {vs:List Value} {ns:List Int},IntsAre vs ns→Vals (ns.map V.int) vs
  | _,_,.nil=>.nil
  | _,_,.cons n t h=>.cons ⟨t,rfl⟩ (kd h)
def vX (H:Hp):Prop:=∀ b,H b=none∨∃ o xs,H b=some (.frz o (.lst xs))
theorem tL {P:Program}{w:World}{K:PySem.W.Frag}{mg mb:Str→Option Value}{CX:CXT}{k:Nat}{fa a:Addr}{fd:FuncData}{x:Str}{sp:Sp}{s₁:Shared}{vs:List Value}{ns:List Int}
    (KX:K.In s₁.heap) (hns:s₁.heap.Ns mainGlobals mg) (hb:s₁.heap.Ns builtinsNs mb) (hbb:∀ x:Str,x ≠ "__name__" → mb x=bootBuiltins x) (hlim:s₁.heap.NoLimit) (hg:s₁.gens = #[])
    (ha:s₁.heap.get? a=some { cls:=.type "list", data:=.seq vs.toArray }) (hi:IntsAre vs ns) (hl:ns.length≤sizeLine) (hr:cc k callerA)
    (F:∀ base:Heap,K.In base→base.Ns mainGlobals mg→eQ P w K mg base CX k fa fd [x] sp) (hbind:∀ (s:Shared) (u:Value),BindsTo s fd ⟨[u],[]⟩ [(x,u)])
    (hsp:∀ H:Hp,vX H→SqL K H a (ns.map V.int)→sp [.ref a] H (fun v _=>v=.bl true) fun _ _ _=>False)
    (hCX:∀ H e s',CX [] H s₁ (fun _ _ _=>False) e s'→False) :
    codeAny (model P w) callerA (.call (.ref fa) ⟨[.ref a],[]⟩) (fun r s'=>r=.ok (.ret (.bool true))∧OldK s₁.heap s'.heap∧s'.os=s₁.os∧AllBare s'.gens) s₁:=by
  have rv:=kd hi
  have BB:=hi.length
  -- from an abstract heap in which nothing but the script may be tracked
  have core:∀ H:Hp,vX H→SqL K H a (ns.map V.int)→HOk P w H s₁.heap→(∀ b,H b≠none→b=a)→(H a≠none→K.lookup a=none)→
      codeAny (model P w) callerA (.call (.ref fa) ⟨[.ref a],[]⟩) (fun r s'=>r=.ok (.ret (.bool true))∧OldK s₁.heap s'.heap∧s'.os=s₁.os∧AllBare s'.gens) s₁:=by
    intro H hO hS hok hA hK
    have base_of:∀ {b:Addr} {o:Obj},s₁.heap.get? b=some o→H b=none→(ky s₁.heap H).get? b=some o:=fun e n=>sQ e n
    have noA:∀ {b:Addr} {o:Obj} {es:Array DictEntry} {ep:Nat},s₁.heap.get? b=some o→o.data=.dict es ep→H b=none:=fun {b o es ep} e d=>by
      cases q:H b with
      | none=>rfl
      | some u=>
        have e':b=a:=hA b (by rw[q];simp)
        subst e'
        rw[ha] at e;cases e
        have d':Data.seq vs.toArray _=Data.dict es ep:=d
        cases d'
    have nsK:∀ {b:Addr} {m:Str→Option Value},s₁.heap.Ns b m→(ky s₁.heap H).Ns b m:=fun {b m} ⟨o,es,ep,e,d,r⟩=>⟨o,es,ep,base_of e (noA e d),d,r⟩
    have hKb:K.In (ky s₁.heap H):=fun b o e=>base_of (KX b o e) (by
      cases q:H b with
      | none=>rfl
      | some u=>
        have e':b=a:=hA b (by rw[q];simp)
        subst e'
        rw[hK (by rw[q];simp)] at e;cases e)
    have hM:Mod K mg (ky s₁.heap H):=⟨hKb,nsK hns,⟨mb,nsK hb,hbb⟩,let ⟨mc,h1,h2⟩:=hlim;⟨mc,nsK h1,h2⟩⟩
    have e0:ux P w K mg (ky s₁.heap H) callerA [] s₁ H:=⟨rfl,hM,fun b o e=>vW e,Nat.le_of_eq (qt _ _),trivial,fun b hb=>absurd (show b∈([]:List Addr) from hb) (by simp),hok,.of_eq hg⟩
    refine codeAny_mono ((F _ hKb (nsK hns)).run callerA [] s₁ H ⟨[.ref a],[]⟩ [.ref a] [.ref a] _ _ hr e0 (hbind s₁ (.ref a)) (.cons rfl .nil) (hsp H hO hS)) fun r s' h=>?_
    cases r with
    | error e=>exact (hCX H e s' h).elim
    | ok fl=>
      cases fl with
      | next=>exact False.elim h
      | brk=>exact False.elim h
      | cont=>exact False.elim h
      | ret u=>
        obtain ⟨v,H',os,bare,un,hok',r',q⟩:=h
        have q':v=.bl true:=q
        subst q'
        obtain rfl:u=Value.bool true:=r'
        refine ⟨rfl,OldK.of_keep fun b o e=>?_,os,bare⟩
        cases q:H b with
        | none=>exact un.keep b o e q (by intro z;exact absurd (show b∈([]:List Addr) from z) (by simp)) (by simp)
        | some u=>
          rcases hO b with z | ⟨ob,xs,z⟩
          · rw[q] at z;cases z
          · have z2:=un.fq b ob _ z
            obtain ⟨e1,_⟩:=hok b _ z
            obtain ⟨e2,_⟩:=hok' b _ z2
            rw[e] at e1;cases e1
            exact e2
  cases hk:K.lookup a with
  | some o=>
    -- the script is one of the module's own objects
    have e:=KX a o hk
    rw[ha] at e
    cases e
    refine core (fun _=>none) (fun _=>.inl rfl) (.inr ⟨_,vs.toArray,_,hk,rfl,rfl,rfl,by rw[List.size_toArray,BB];exact hl,by simpa using rv⟩) (fun b u z=>by have z':(none:Option HO)=some u:=z;cases z') (fun b z=>absurd rfl z) fun z=>absurd rfl z
  | none=>
    refine core (fun b=>if b=a then some (.frz { cls:=.type "list", data:=.seq vs.toArray } (.lst (ns.map V.int))) else none) (fun b=>?_) (.inl (.inr ⟨{ cls:=.type "list", data:=.seq vs.toArray },if_pos rfl⟩)) (fun b u z=>?_) (fun b z=>?_) fun _=>hk
    · by_cases hb:b=a
      · exact .inr ⟨_,_,if_pos hb⟩
      · exact .inl (if_neg hb)
    · by_cases hb:b=a
      · have z':=(if_pos hb).symm.trans z
        cases z'
        subst hb
        exact ⟨ha,by rw[List.length_map];exact hl,vs,_,rv,ha⟩
      · have z':=(if_neg hb).symm.trans z
        cases z'
    · by_cases hb:b=a
      · exact hb
      · exact absurd (if_neg hb) z
end L2
namespace L2
open PySem PySem.Spec PyProof.Rows
theorem vm {l:PySem.W.OpenLaw}{n k:Nat}{q:Program}{loose:List Str}{XP:(Str→Option Value)→Heap→Prop}{YP:World→Heap→Prop}{d:DefRec}{K:Params→PySem.W.Frag}{CX:World→CXT}{sp:World→Sp}{x:Str}
    (hn:l.most=some n) (hn2:n≤sizeLine) (hdf:d.params.defaults=[]) (hr:cc k callerA)
    (hY:∀ (w:World) (h:Heap),YP w h→(K w.params).In h)
    (F:∀ (w:World) (mg:Str→Option Value) (fa:Addr) (h:Heap),(K w.params).In h→h.Ns mainGlobals mg→mg d.name=some (.ref fa)→
      ∃ fd:FuncData,(∀ (s:Shared) (u:Value),BindsTo s fd ⟨[u],[]⟩ [(x,u)])∧
        ∀ base:Heap,(K w.params).In base→base.Ns mainGlobals mg→eQ l.prog w (K w.params) mg base (CX w) k fa fd [x] (sp w))
    (hsp:∀ (w:World) (H:Hp) (a:Addr) (ns:List Int),ns.length≤n→vX H→SqL (K w.params) H a (ns.map V.int)→sp w [.ref a] H (fun v _=>v=.bl true) fun _ _ _=>False)
    (hCX:∀ (w:World) (H:Hp) (s:Shared) (e:Value) (s':Shared),CX w [] H s (fun _ _ _=>False) e s'→False) :
    PySem.W.WalkO q loose XP YP l.row.toRowW d [] (fun f vs=>PySem.call f vs):=by
  refine Att.mP hn hdf fun w s₀ s₁ mg mb fa o pm cd doc a vs ns G Y ho hd hcd hmg hobj hints hlen hg=>?_
  have KX:=hY w _ Y
  obtain ⟨fd,hb,hF⟩:=F w mg fa _ KX G.T.g hmg
  exact tL KX G.T.g G.T.b G.T.builtins G.T.nolimit hg hobj hints (Nat.le_trans hlen hn2) hr hF hb (fun H hO hS=>hsp w H a ns hlen hO hS) fun H e s'=>hCX w H s₁ e s'
end L2
namespace L2
open PySem PySem.Spec PyProof.Rows
def e7 (s:Stmt):Arguments:=match s with
  | .FunctionDef _ a _ _ _ _ _ _ _ _=>a
  | _=>{ posonlyargs:=[],args:=[],vararg:=none,kwonlyargs:=[],kw_defaults:=[],kwarg:=none,defaults:=[] }
def cq (s:Stmt):List Stmt:=match s with
  | .FunctionDef _ _ b _ _ _ _ _ _ _=>b
  | _=>[]
def ax (s:Stmt):Scope:=match s with
  | .FunctionDef _ _ _ _ _ _ sc _ _ _=>sc
  | _=>{ kind:=.function,names:=[],isGenerator:=false,isCoroutine:=false }
abbrev CX0:CXT:=fun _ _ _ _ _ _=>False
abbrev E0:XK:=fun _ _ _=>False
theorem Ak {X:Cx}:Passes CX0 X E0:=fun _ _ _ _ _ _ _ h=>h.elim
structure Fun (K:PySem.W.Frag) (x qual:Str) (st:Stmt) (f:Addr) (fd:FuncData):Prop where
  ex:∃ (oc:Value) (od:Option Addr) (kV doc pm:Value) (an:Option Addr) (cdv ct:Value) (osl:Array (Option Value)),
    fd=PySem.W.fnOf x qual (e7 st) (cq st) (ax st) .none kV doc pm an cdv ct∧K.lookup f=some ⟨oc,od,.func fd,osl⟩∧PySem.W.codeIn K cdv qual=true
  kp:PySem.W.keepIn K (.ref f)=true
section
variable {P:Program} {w:World} {K:PySem.W.Frag} {mg:Str→Option Value} {base:Heap}
theorem Fun.ok {x qual:Str}{st:Stmt}{f:Addr}{fd:FuncData}{N ps:List Str}{k:Nat}{sp:Sp}(F:Fun K x qual st f fd)(S:aM N ps (ax st))(len:∀ vs H Q E,sp vs H Q E→vs.length=ps.length)
    (hbody:∀ (cdv:Value) (A:Around) (outer:List Env) (s:Shared) (H:Hp) (vs:List V) (Q:VK) (E:XK),cc k (A.deeper (envOfC qual (ax st) s.heap.objs.size f cdv))→sp vs H Q E→
      ∃ t,PSs (mF CX0 P w K mg base N qual (ax st) f cdv A outer s H E).nox (cq st) t∧t { nx:=fun _ H'=>Q .non H',rt:=Q } (start N vs) H):eQ P w K mg base CX0 (k+1) f fd ps sp:=by
  obtain ⟨oc,od,kV,doc,pm,an,cdv,ct,osl,rfl,lk,hcd⟩:=F.ex
  refine AR lk hcd S len fun A outer s H vs Q E hr hsp=>?_
  obtain ⟨t,h,q⟩:=hbody cdv A outer s H vs Q E hr hsp
  exact ⟨t,h.nox,q⟩
theorem Fun.binds {x qual:Str}{st:Stmt}{f:Addr}{fd:FuncData}{ps:List Str}(F:Fun K x qual st f fd)
    (h:∀ (kV doc pm:Value) (an:Option Addr) (cdv ct:Value) (us:List Value),us.length=ps.length→bindArgs (PySem.W.fnOf x qual (e7 st) (cq st) (ax st) .none kV doc pm an cdv ct) ⟨us,[]⟩=pure (ps.zip us)):Binds K fd ps []:=by
  obtain ⟨oc,od,kV,doc,pm,an,cdv,ct,osl,rfl,lk,hcd⟩:=F.ex
  exact .all (h kV doc pm an cdv ct)
theorem bc {x qual:Str}{st:Stmt}{f:Addr}{oc:Value}{od an:Option Addr}{osl:Array (Option Value)}{kV doc pm cdv ct:Value}(l:K.lookup f=some ⟨oc,od,.func (PySem.W.fnOf x qual (e7 st) (cq st) (ax st) .none kV doc pm an cdv ct),osl⟩)
    (c:PySem.W.codeIn K cdv qual=true) (k:PySem.W.keepIn K (.ref f)=true):Fun K x qual st f (PySem.W.fnOf x qual (e7 st) (cq st) (ax st) .none kV doc pm an cdv ct):=⟨⟨oc,od,kV,doc,pm,an,cdv,ct,osl,rfl,l,c⟩,k⟩
end
section
variable {X:Cx}
theorem pv (i:Nat){x:Str}{pos:Pos}(hN:X.N[i]? = some x:=by rfl)(hv:Vis X.env.scope x:=by first | exact Or.inl rfl | exact Or.inr (Or.inl rfl) | exact Or.inr (Or.inr rfl))(hd:(x == ("__debug__" : Str))=false:=by decide)
    (hcd:(x == ("__classdict__" : Str))=false:=by decide):PE X (.Name x pos) (z9 i):=rR hN hv hd hcd
end
theorem sv {A B:Prop}(h:B):if false=true then A else B:=by
  rw[if_neg Bool.false_ne_true]
  exact h
theorem uh {A B:Prop}(h:A):if true=true then A else B:=by
  rw[if_pos rfl]
  exact h
def jh (H H':Hp):Prop:=∀ b o,H b=some o→H' b=some o
theorem jh.refl (H:Hp):jh H H:=fun _ _ h=>h
theorem jh.trans {H H1 H2:Hp}(a:jh H H1)(b:jh H1 H2):jh H H2:=fun c o h=>b c o (a c o h)
theorem jh.free {H H':Hp}(e:jh H H'){l:Addr}(h:H' l=Option.none):H l=Option.none:=by
  cases q:H l with
  | none=>rfl
  | some o=>
    rw[e l o q] at h
    cases h
theorem jh.seq {K:PySem.W.Frag}{H H':Hp}{a:Addr}{xs:List V}(e:jh H H')(h:SqL K H a xs):SqL K H' a xs:=by
  rcases h with (h | ⟨o,h⟩) | h
  · exact .inl (.inl (e _ _ h))
  · exact .inl (.inr ⟨o,e _ _ h⟩)
  · exact .inr h
end L2
namespace L2
open PySem PySem.Spec PyProof.Rows
section
variable {κ:Type} [DecidableEq κ]
def gH (kvs:List (κ×V))(k:κ):Option V:=(kvs.find? fun kv=>decide (kv.1=k)).map (·.2)
def putK (kvs:List (κ×V))(k:κ)(v:V):List (κ×V):=
  if (kvs.any fun kv=>decide (kv.1=k))=true then kvs.map (fun kv=>if kv.1=k then (kv.1,v) else kv) else kvs++[(k,v)]
def wQ (kvs:List (κ×V))(k:κ):List (κ×V):=kvs.filter fun kv=>decide (kv.1≠k)
theorem iX {p:κ×V}{r:List (κ×V)}{k:κ}(e:p.1=k):gH (p::r) k=some p.2:=by simp[gH,List.find?_cons,e]
theorem iq {p:κ×V}{r:List (κ×V)}{k:κ}(e:¬ p.1=k):gH (p::r) k=gH r k:=by simp[gH,List.find?_cons,e]
theorem mY (k:κ):∀ kvs:List (κ×V),(kvs.any fun kv=>decide (kv.1=k))=(gH kvs k).isSome
  | []=>rfl
  | p::r=>by
    rw[List.any_cons]
    by_cases e:p.1=k
    · simp only[iX e,decide_eq_true e,Bool.true_or,Option.isSome_some]
    · rw[iq e,decide_eq_false e,Bool.false_or];exact mY k r
theorem l3.qo {o:Option V}{u:Option Value}(r:l3 o u):o.isSome=u.isSome:=by
  cases o with
  | none=>cases u with
    | none=>rfl
    | some _=>exact (show False from r).elim
  | some _=>cases u with
    | none=>exact (show False from r).elim
    | some _=>rfl
theorem l3.getD {o:Option V}{u:Option Value}{d:V}{d':Value}(r:l3 o u)(rd:RelV d d'):RelV (o.getD d) (u.getD d'):=by
  cases o with
  | none=>cases u with
    | none=>exact rd
    | some _=>exact (show False from r).elim
  | some _=>cases u with
    | none=>exact (show False from r).elim
    | some _=>exact r
theorem KV.val {kvs:List (κ×V)}{vs:List (κ×Value)}(r:KV kvs vs)(k:κ):l3 (gH kvs k) (valueAt vs k):=by
  unfold KV at r
  induction r with
  | nil=>exact True.intro
  | @cons p q ps qs h t ih=>
    obtain ⟨h1,h2⟩:=h
    by_cases e:p.1=k
    · have e':q.1=k:=h1.symm.trans e
      have b:valueAt (q::qs) k=some q.2:=by simp[valueAt,List.find?_cons,e']
      rw[iX e,b];exact h2
    · have e':¬ q.1=k:=fun z=>e (h1.trans z)
      have b:valueAt (q::qs) k=valueAt qs k:=by simp[valueAt,List.find?_cons,e']
      rw[iq e,b];exact ih
theorem KV.any {kvs:List (κ×V)}{vs:List (κ×Value)}(r:KV kvs vs)(k:κ):(kvs.any fun kv=>decide (kv.1=k))=vs.any fun kv=>decide (kv.1=k):=by
  unfold KV at r
  induction r with
  | nil=>rfl
  | cons h t ih=>rw[List.any_cons,List.any_cons,ih,h.1]
theorem KV.xZ {kvs:List (κ×V)}{vs:List (κ×Value)}(r:KV kvs vs)(k:κ){y:V}{u:Value}(ry:RelV y u) :
    KV (kvs.map fun kv=>if kv.1=k then (kv.1,y) else kv) (vs.map fun kv=>if kv.1=k then (kv.1,u) else kv):=by
  unfold KV at r ⊢
  induction r with
  | nil=>exact .nil
  | @cons p q ps qs h t ih=>
    rw[List.map_cons,List.map_cons]
    refine .cons ?_ ih
    obtain ⟨h1,h2⟩:=h
    by_cases e:p.1=k
    · rw[if_pos e,if_pos (h1.symm.trans e)];exact ⟨h1,ry⟩
    · rw[if_neg e,if_neg (fun z=>e (h1.trans z))];exact ⟨h1,h2⟩
theorem KV.put {kvs:List (κ×V)}{vs:List (κ×Value)}(r:KV kvs vs)(k:κ){y:V}{u:Value}(ry:RelV y u):KV (putK kvs k y) (stored vs k u):=by
  unfold putK stored
  rw[r.any k]
  by_cases e:(vs.any fun kv=>decide (kv.1=k))=true
  · rw[if_pos e,if_pos e];exact r.xZ k ry
  · rw[if_neg e,if_neg e];exact Paired.snoc r ⟨rfl,ry⟩
theorem KV.drop {kvs:List (κ×V)}{vs:List (κ×Value)}(r:KV kvs vs)(k:κ):KV (wQ kvs k) (without vs k):=by
  unfold KV at r ⊢
  unfold wQ without
  induction r with
  | nil=>exact .nil
  | @cons p q ps qs h t ih=>
    obtain ⟨h1,h2⟩:=h
    rw[List.filter_cons,List.filter_cons]
    by_cases e:p.1=k
    · have a:¬ decide (p.1≠k)=true:=by simp[e]
      have b:¬ decide (q.1≠k)=true:=by simp[h1.symm.trans e]
      rw[if_neg a,if_neg b];exact ih
    · have e':¬ q.1=k:=fun z=>e (h1.trans z)
      have a:decide (p.1≠k)=true:=by simp[e]
      have b:decide (q.1≠k)=true:=by simp[e']
      rw[if_pos a,if_pos b];exact .cons ⟨h1,h2⟩ ih
theorem KV.length {kvs:List (κ×V)}{vs:List (κ×Value)}(r:KV kvs vs):kvs.length=vs.length:=Paired.length r
end
theorem AG {P:Program}{w:World}{k:Key}{u:Value}(r:RelV (kV k) u):(el P w).is k u=true:=by
  cases k with
  | inl i=>obtain ⟨t,e⟩:=(show ∃ t,u=Value.int i t from r);subst e;exact mQ P w i t
  | inr x=>obtain ⟨t,e⟩:=(show ∃ t,u=Value.str x t from r);subst e;exact lY P w x t
abbrev KT (H:Hp):List (List Key×V)→List (List Key×Addr×Value)→Prop:=Paired fun p q=>p.1=q.1∧H q.2.1=some (.tup (p.1.map kV))∧RelV p.2 q.2.2
theorem KT.val {H:Hp}{kvs:List (List Key×V)}{xs:List (List Key×Addr×Value)}(r:KT H kvs xs)(k:List Key):l3 (gH kvs k) ((atKey xs k).map (·.2)):=by
  induction r with
  | nil=>exact True.intro
  | @cons p q ps qs h t ih=>
    obtain ⟨h1,_,h2⟩:=h
    by_cases e:p.1=k
    · have e':q.1=k:=h1.symm.trans e
      have b:atKey (q::qs) k=some q.2:=by simp[atKey,List.find?_cons,e']
      rw[iX e,b];exact h2
    · have e':¬ q.1=k:=fun z=>e (h1.trans z)
      have b:atKey (q::qs) k=atKey qs k:=by simp[atKey,List.find?_cons,e']
      rw[iq e,b];exact ih
theorem KT.xZ {H:Hp}{kvs:List (List Key×V)}{xs:List (List Key×Addr×Value)}(r:KT H kvs xs)(k:List Key){y:V}{u:Value}(ry:RelV y u) :
    KT H (kvs.map fun kv=>if kv.1=k then (kv.1,y) else kv) (xs.map (putAt k u)):=by
  induction r with
  | nil=>exact .nil
  | @cons p q ps qs h t ih=>
    rw[List.map_cons,List.map_cons]
    refine .cons ?_ ih
    obtain ⟨h1,h2,h3⟩:=h
    unfold putAt
    by_cases e:p.1=k
    · rw[if_pos e,if_pos (h1.symm.trans e)];exact ⟨h1,h2,ry⟩
    · rw[if_neg e,if_neg (fun z=>e (h1.trans z))];exact ⟨h1,h2,h3⟩
theorem KT.put {H:Hp}{kvs:List (List Key×V)}{xs:List (List Key×Addr×Value)}(r:KT H kvs xs)(k:List Key){b:Addr}{y:V}{u:Value}(hb:H b=some (.tup (k.map kV)))(ry:RelV y u) :
    KT H (putK kvs k y) (storedH xs k b u):=by
  have e:(kvs.any fun kv=>decide (kv.1=k))=(atKey xs k).isSome:=by
    rw[mY,(r.val k).qo,Option.isSome_map]
  unfold putK storedH
  rw[e]
  by_cases q:(atKey xs k).isSome=true
  · rw[if_pos q,if_pos q];exact r.xZ k ry
  · rw[if_neg q,if_neg q];exact Paired.snoc r ⟨rfl,hb,ry⟩
theorem KT.keeps {H H':Hp}{kvs:List (List Key×V)}{xs:List (List Key×Addr×Value)}(r:KT H kvs xs)(ht:∀ b ys,H b=some (.tup ys)→H' b=some (.tup ys)):KT H' kvs xs:=
  Paired.yz r fun _ _ z=>⟨z.1,ht _ _ z.2.1,z.2.2⟩
section
variable {P:Program} {w:World} {H:Hp} {h:Heap} {a:Addr}
end
def u3 (H:Hp)(a:Addr)(y:V)(r:Option V):Prop:=
  (∃ kvs k,Rd H a (.dK kvs)∧y=kV k∧r=gH kvs k)∨∃ kvs k b,Rd H a (.dT kvs)∧y=.ref b∧H b=some (.tup (k.map kV))∧r=gH kvs k
def u7 (H:Hp)(a:Addr)(y v:V)(H':Hp):Prop:=
  (∃ kvs k,H a=some (.dK kvs)∧y=kV k∧kvs.length < sizeLine∧H'=upd H a (.dK (putK kvs k v)))∨
  ∃ kvs k b,H a=some (.dT kvs)∧y=.ref b∧H b=some (.tup (k.map kV))∧kvs.length < sizeLine∧H'=upd H a (.dT (putK kvs k v))
theorem u3.k {H:Hp}{a:Addr}{kvs:List (Key×V)}{k:Key}(e:H a=some (.dK kvs)):u3 H a (kV k) (gH kvs k):=.inl ⟨kvs,k,.inl e,rfl,rfl⟩
theorem u3.t {H:Hp}{a b:Addr}{kvs:List (List Key×V)}{k:List Key}(e:H a=some (.dT kvs))(eb:H b=some (.tup (k.map kV))):u3 H a (.ref b) (gH kvs k):=.inr ⟨kvs,k,b,.inl e,rfl,eb,rfl⟩
theorem u7.k {H:Hp}{a:Addr}{kvs:List (Key×V)}{k:Key}{v:V}(e:H a=some (.dK kvs))(hl:kvs.length < sizeLine):u7 H a (kV k) v (upd H a (.dK (putK kvs k v))):=.inl ⟨kvs,k,e,rfl,hl,rfl⟩
theorem u7.t {H:Hp}{a b:Addr}{kvs:List (List Key×V)}{k:List Key}{v:V}(e:H a=some (.dT kvs))(eb:H b=some (.tup (k.map kV)))(hl:kvs.length < sizeLine) :
    u7 H a (.ref b) v (upd H a (.dT (putK kvs k v))):=.inr ⟨kvs,k,b,e,rfl,eb,hl,rfl⟩
section
variable {X:Cx} {pins:List (Addr×Obj)} {σ:St} {H:Hp} {s:Shared} {a:Addr} {y v:V} {u r:Value} {o:Option V} {A:Around} {E:Value→Shared→Prop}
theorem Inv.big (I:Inv X pins σ H s):sysModules < s.heap.objs.size:=by
  have h:mainGlobals < s.heap.objs.size:=(I.mod.glob.keeps I.bk).lt
  exact Nat.lt_trans (by decide) h
end
section
variable {X:Cx} {pins:List (Addr×Obj)} {σ:St} {H:Hp} {s:Shared} {a:Addr} {kvs:List (Key×V)} {k:Key} {u:Value} {A:Around} {E:Value→Shared→Prop}
end
section
variable {X:Cx} {o i e value:Expr} {pos pos' tpos:Pos} {td ty tv:TE}
end
section
variable {X:Cx} {pos:Pos}
end
section
variable {X:Cx} {pins:List (Addr×Obj)} {σ:St} {H:Hp} {s:Shared} {a:Addr} {y d:V} {u r:Value} {o:Option V} {A:Around} {E:Value→Shared→Prop}
end
section
variable {X:Cx} {o e f:Expr} {apos cpos:Pos} {td ty tx:TE}
end
section
variable {X:Cx} {pins:List (Addr×Obj)} {σ:St} {H:Hp} {s:Shared} {a:Addr} {kvs:List (Key×V)} {A:Around} {E:Value→Shared→Prop}
end
section
variable {X:Cx} {pins:List (Addr×Obj)} {σ:St} {H:Hp} {s:Shared} {a:Addr} {y:V} {u:Value} {A:Around} {E:Value→Shared→Prop}
end
end L2
namespace L3
open PySem
local macro_rules | `(tactic| walk_at "ln")=>`(tactic| (intro ds μ Q h;split at h;rfl;exact h.elim))
theorem Jn {p q:Prop}(a:p)(b:q):p∧q:=⟨a,b⟩
inductive D where
  | non | bl (b:Bool) | int (i:Int) | str (x:Str) | ty (n:String) | tup (ds:List D) | ls (ds:List D) | obj (a:Addr)
inductive MO where
  | lst (ds:List D)
  | dct (kvs:List (L2.Key×D))
abbrev Mu:=Addr→Option MO
def up (μ:Mu)(a:Addr)(o:MO):Mu:=fun b=>if b=a then some o else μ b
theorem aP {μ:Mu}{a:Addr}{o:MO}:up μ a o a=some o:=by unfold up;rw[if_pos rfl]
theorem bN {μ:Mu}{a b:Addr}{o:MO}(h:b≠a):up μ a o b=μ b:=by unfold up;rw[if_neg h]
theorem gk {μ:Mu}{a:Addr}{o u:MO}:up (up μ a o) a u=up μ a u:=by
  funext b;unfold up;split<;>rfl
abbrev ST:=List (Option D)
abbrev DK:=D→Mu→Prop
abbrev ETr:=ST→Mu→DK→Prop
abbrev TTr:=ST→Mu→(Bool→Mu→Prop)→Prop
abbrev ATr:=ST→Mu→(List D→Mu→Prop)→Prop
abbrev DR:=D→Mu→DK→Prop
abbrev DR2:=D→D→Mu→DK→Prop
abbrev FSp:=List D→Mu→DK→Prop
structure En where
  nx:ST→Mu→Prop
  rt:DK
  bk:ST→Mu→Prop:=fun _ _=>False
  ct:ST→Mu→Prop:=fun _ _=>False
abbrev STr:=En→ST→Mu→Prop
abbrev GTr:=D→ST→Mu→(ST→Mu→Prop)→Prop
def kIf (c:Bool)(A B:Prop):Prop:=match c with
  | true=>A
  | false=>B
def kB (x:D)(f:Bool→Prop):Prop:=match x with
  | .bl c=>f c
  | _=>False
def kI (x:D)(f:Int→Prop):Prop:=match x with
  | .int c=>f c
  | _=>False
def kO (x:Option D)(f:D→Prop):Prop:=match x with
  | some d=>f d
  | none=>False
def kS (x:D)(f:List D→Prop):Prop:=match x with
  | .tup ds=>f ds
  | .ls ds=>f ds
  | _=>False
def k2 (ds:List D)(f:D→D→Prop):Prop:=match ds with
  | [v,w]=>f v w
  | _=>False
def kL (μ:Mu)(a:Addr)(f:List D→Prop):Prop:=match μ a with
  | some (.lst ds)=>f ds
  | _=>False
def kN (x:Option Nat)(f:Nat→Prop):Prop:=match x with
  | some d=>f d
  | none=>False
def lk:ST→Nat→Option D
  | [],_=>none
  | o::_,0=>o
  | _::r,n+1=>lk r n
def ah (i:Nat):ETr:=fun ρ μ Q=>kO (lk ρ i) fun d=>Q d μ
def TC (d:D):ETr:=fun _ μ Q=>Q d μ
def aq (r:DR2)(a b:ETr):ETr:=fun ρ μ Q=>a ρ μ fun x μ1=>b ρ μ1 fun y μ2=>r x y μ2 Q
def TUn (r:DR)(a:ETr):ETr:=fun ρ μ Q=>a ρ μ fun x μ1=>r x μ1 Q
def S64 (i:Int):Prop:=-18446744073709551616 < i∧i < 18446744073709551616
def cG (i:Int):Prop:=-115792089237316195423570985008687907853269984665640564039457584007913129639936 < i∧i < 115792089237316195423570985008687907853269984665640564039457584007913129639936
def MulOk (i j:Int):Prop:=(S64 i∨S64 j)∨(cG i∧cG j)
def eh (j:Int):Prop:=j≠0∧cG j
def hZ (i j:Int):Prop:=0≤j∧j≤1000000∧i.natAbs < 18446744073709551616
def oU:DR2:=fun x y μ Q=>match x,y with
  | .int i,.int j=>Q (.int (i - j)) μ
  | _,_=>False
def e5:DR2:=fun x y μ Q=>match x,y with
  | .int i,.int j=>MulOk i j∧Q (.int (i*j)) μ
  | _,_=>False
def gO:DR2:=fun x y μ Q=>match x,y with
  | .int i,.int j=>eh j∧Q (.int (i.fdiv j)) μ
  | _,_=>False
def fb:DR2:=fun x y μ Q=>match x,y with
  | .int i,.int j=>j≠0∧Q (.int (i.fmod j)) μ
  | _,_=>False
def oa:DR2:=fun x y μ Q=>match x,y with
  | .int i,.int j=>hZ i j∧Q (.int (i ^ j.toNat)) μ
  | _,_=>False
def BJ:DR:=fun x μ Q=>match x with
  | .int i=>Q (.int (-i)) μ
  | _=>False
def tN (p:Int→Int→Bool):DR2:=fun x y μ Q=>match x,y with
  | .int i,.int j=>Q (.bl (p i j)) μ
  | _,_=>False
def rLt:DR2:=tN fun i j=>decide (i < j)
def rLe:DR2:=tN fun i j=>decide (i≤j)
def rGt:DR2:=tN fun i j=>decide (j < i)
def rGe:DR2:=tN fun i j=>decide (j≤i)
mutual
def eqD:D→D→Bool
  | .non,.non=>true
  | .bl a,.bl b=>a == b
  | .int a,.int b=>decide (a=b)
  | .bl a,.int b=>decide ((if a then 1 else 0:Int)=b)
  | .int a,.bl b=>decide (a=(if b then 1 else 0:Int))
  | .str a,.str b=>decide (a=b)
  | .tup a,.tup b=>eM a b
  | .ls a,.ls b=>eM a b
  | _,_=>false
def eM:List D→List D→Bool
  | [],[]=>true
  | a::r,b::s=>eqD a b&&eM r s
  | _,_=>false
end
mutual
def okD:Nat→D→Bool
  | _,.non=>true
  | _,.bl _=>true
  | _,.int _=>true
  | _,.str x=>PyData.strOk x
  | n+1,.tup ds=>bU n ds
  | n+1,.ls ds=>bU n ds
  | _,_=>false
def bU:Nat→List D→Bool
  | _,[]=>true
  | n,d::ds=>okD n d&&bU n ds
end
def rEq:DR2:=fun x y μ Q=>(okD 40 x=true∧okD 40 y=true)∧Q (.bl (eqD x y)) μ
def rNe:DR2:=fun x y μ Q=>(okD 40 x=true∧okD 40 y=true)∧Q (.bl (!eqD x y)) μ
def rIs:DR2:=fun x y μ Q=>match y with
  | .non=>(match x with
    | .non=>Q (.bl true) μ
    | _=>Q (.bl false) μ)
  | _=>False
def dr:DR2:=fun x y μ Q=>match y with
  | .non=>(match x with
    | .non=>Q (.bl false) μ
    | _=>Q (.bl true) μ)
  | _=>False
def sW (a b:ETr):ETr:=fun ρ μ Q=>a ρ μ fun x μ1=>kB x fun c=>kIf c (b ρ μ1 Q) (Q (.bl false) μ1)
def xw (a b:ETr):ETr:=fun ρ μ Q=>a ρ μ fun x μ1=>kB x fun c=>kIf c (Q (.bl true) μ1) (b ρ μ1 Q)
def rC (a:ETr):ETr:=fun ρ μ Q=>a ρ μ fun x μ1=>kB x fun c=>Q (.bl (!c)) μ1
def TB (t:ETr):TTr:=fun ρ μ Q=>t ρ μ fun x μ1=>kB x fun c=>Q c μ1
def xJ (t u:TTr):TTr:=fun ρ μ Q=>t ρ μ fun c μ1=>kIf c (u ρ μ1 Q) (Q false μ1)
def TOr (t u:TTr):TTr:=fun ρ μ Q=>t ρ μ fun c μ1=>kIf c (Q true μ1) (u ρ μ1 Q)
def lT (t:TTr):TTr:=fun ρ μ Q=>t ρ μ fun c μ1=>Q (!c) μ1
def nQ (c:TTr)(a b:ETr):ETr:=fun ρ μ Q=>c ρ μ fun k μ1=>kIf k (a ρ μ1 Q) (b ρ μ1 Q)
def oj (r r':DR2)(a b c:ETr):ETr:=fun ρ μ Q=>a ρ μ fun x μ1=>b ρ μ1 fun y μ2=>r x y μ2 fun z μ3=>kB z fun k=>kIf k (c ρ μ3 fun y' μ4=>r' y y' μ4 Q) (Q (.bl false) μ3)
def au:ATr:=fun _ μ Q=>Q [] μ
def ae (a:ETr)(r:ATr):ATr:=fun ρ μ Q=>a ρ μ fun x μ1=>r ρ μ1 fun xs μ2=>Q (x::xs) μ2
def a7 (t:ATr):ETr:=fun ρ μ Q=>t ρ μ fun ds μ1=>ds.length≤1000000∧Q (.tup ds) μ1
def cD (t:ATr):ETr:=fun ρ μ Q=>t ρ μ fun ds μ1=>ds.length≤1000000∧Q (.ls ds) μ1
def gP (t:ATr):ETr:=fun ρ μ Q=>t ρ μ fun ds μ1=>ds.length≤1000000∧∀ p,μ1 p=none→Q (.obj p) (up μ1 p (.lst ds))
def av (sp:FSp)(t:ATr):ETr:=fun ρ μ Q=>t ρ μ fun ds μ1=>sp ds μ1 Q
def atD (ds:List D)(i:Int):Option D:=L2.atI ds i
def rIx:DR2:=fun x y μ Q=>match x,y with
  | .tup ds,.int i=>kO (atD ds i) fun d=>Q d μ
  | .ls ds,.int i=>kO (atD ds i) fun d=>Q d μ
  | .obj a,.int i=>kL μ a fun ds=>kO (atD ds i) fun d=>Q d μ
  | _,_=>False
def nr:FSp:=fun ds μ Q=>match ds with
  | [.int i]=>Q (.int (if i < 0 then -i else i)) μ
  | _=>False
def zB:FSp:=fun ds μ Q=>match ds with
  | [.int i,.int j]=>Q (.int (if j > i then j else i)) μ
  | _=>False
def zF:FSp:=fun ds μ Q=>match ds with
  | [.int i,.int j]=>Q (.int (if j < i then j else i)) μ
  | _=>False
def p9:FSp:=fun ds μ Q=>match ds with
  | [.int i]=>Q (.int i) μ
  | [.bl k]=>Q (.int (if k then 1 else 0)) μ
  | _=>False
def g7:FSp:=fun ds μ Q=>match ds with
  | [.tup xs]=>Q (.int xs.length) μ
  | [.ls xs]=>Q (.int xs.length) μ
  | [.str x]=>x.length≤1000000∧Q (.int x.length) μ
  | [.obj a]=>kL μ a fun xs=>Q (.int xs.length) μ
  | _=>False
def tyD:D→Option String
  | .non=>some "NoneType"
  | .bl _=>some "bool"
  | .int _=>some "int"
  | .str _=>some "str"
  | .tup _=>some "tuple"
  | .ls _=>some "list"
  | _=>none
def aU (t c:String):Bool:=t == c || (t == "bool" && c == "int")
def fF (c:String):DR:=fun x μ Q=>match tyD x with
  | some t=>Q (.bl (aU t c)) μ
  | none=>False
def bL:STr:=fun E ρ μ=>E.nx ρ μ
def aH (t u:STr):STr:=fun E ρ μ=>t { E with nx:=u E } ρ μ
def nh:STr:=fun E ρ μ=>E.bk ρ μ
def sC:STr:=fun E ρ μ=>E.ct ρ μ
def cQ (e:ETr):STr:=fun E ρ μ=>e ρ μ fun _ μ1=>E.nx ρ μ1
def br (e:ETr):STr:=fun E ρ μ=>e ρ μ E.rt
def sI:STr:=fun E _ μ=>E.rt .non μ
def cP (c:TTr)(t u:STr):STr:=fun E ρ μ=>c ρ μ fun b μ1=>kIf b (t E ρ μ1) (u E ρ μ1)
def aw (i:Nat):GTr:=fun d ρ μ k=>k (ρ.set i (some d)) μ
def aR (e:ETr)(g:GTr):STr:=fun E ρ μ=>e ρ μ fun d μ1=>g d ρ μ1 E.nx
def nK (i j:Nat)(a:ATr):STr:=fun E ρ μ=>a ρ μ fun ds μ1=>k2 ds fun v w=>E.nx ((ρ.set i (some v)).set j (some w)) μ1
def u6 (x z y:D)(μ:Mu)(f:Mu→Prop):Prop:=match x,z with
  | .obj a,.int n=>kL μ a fun ds=>kN (L2.ixN ds.length n) fun j=>f (up μ a (.lst (ds.set j y)))
  | _,_=>False
def cO (o k e:ETr):STr:=fun E ρ μ=>e ρ μ fun y μ1=>o ρ μ1 fun x μ2=>k ρ μ2 fun z μ3=>u6 x z y μ3 fun μ4=>E.nx ρ μ4
def sF (c:TTr)(b:STr):STr:=fun E ρ μ=>∃ (P:ST→Mu→Prop) (m:ST→Mu→Nat),P ρ μ∧∀ ρ μ,P ρ μ→
  c ρ μ fun k μ1=>kIf k (b { E with nx:=fun ρ' μ'=>P ρ' μ'∧m ρ' μ' < m ρ μ,ct:=fun ρ' μ'=>P ρ' μ'∧m ρ' μ' < m ρ μ,bk:=E.nx } ρ μ1) (E.nx ρ μ1)
def forR (g:GTr)(b:STr)(E:En):List D→ST→Mu→Prop
  | [],ρ,μ=>E.nx ρ μ
  | d::r,ρ,μ=>g d ρ μ fun ρ1 μ1=>b { E with nx:=forR g b E r,ct:=forR g b E r,bk:=E.nx } ρ1 μ1
def i9 (it:ATr)(g:GTr)(b:STr):STr:=fun E ρ μ=>it ρ μ fun ds μ1=>forR g b E ds ρ μ1
def dX (lo:Int)(n:Nat):List D:=(List.range n).map fun i=>.int (lo+(i:Nat))
def cn (a:ETr):ATr:=fun ρ μ Q=>a ρ μ fun x μ1=>kI x fun j=>(-4611686018427387904≤j∧j < 4611686018427387904)∧Q (dX 0 j.toNat) μ1
def eA (a:ETr):ATr:=fun ρ μ Q=>a ρ μ fun x μ1=>kS x fun ds=>Q ds μ1
def dn (μ:Mu)(a:Addr):Mu:=fun b=>if b=a then none else μ b
theorem sj {μ:Mu}{a:Addr}{o:MO}(h:μ a=none):dn (up μ a o) a=μ:=by
  funext b
  unfold dn up
  by_cases hb:b=a
  · subst hb;simp[h]
  · simp[hb]
def jF (ρ:ST)(n:Nat)(caps:List Nat):ST:=List.replicate n none++caps.map (lk ρ)
def fj (p:Addr)(G:GTr)(tt:TTr)(te:ETr)(ρc:ST)(K:Mu→Prop):List D→Mu→Prop
  | [],μ=>K μ
  | d::r,μ=>G d ρc μ fun ρ1 μ1=>tt ρ1 μ1 fun b μ2=>kIf b (te ρ1 μ2 fun y μ3=>kL μ3 p fun zs=>zs.length < 1000000∧fj p G tt te ρc K r (up μ3 p (.lst (zs++[y])))) (fj p G tt te ρc K r μ2)
def cW (it:ATr)(G:GTr)(tt:TTr)(te:ETr)(n:Nat)(caps:List Nat):ETr:=fun ρ μ Q=>it ρ μ fun ds μ1=>∀ p,μ1 p=none→
  fj p G tt te (jF ρ n caps) (fun μ'=>kL μ' p fun zs=>Q (.ls zs) (dn μ' p)) ds (up μ1 p (.lst []))
def eZ:TTr:=fun _ μ Q=>Q true μ
theorem b7 {g:GTr}{b:STr}{E:En}(P:List D→ST→Mu→Prop)(hnil:∀ ρ μ,P [] ρ μ→E.nx ρ μ)
    (hcons:∀ d r ρ μ (N:ST→Mu→Prop),P (d::r) ρ μ→(∀ ρ' μ',P r ρ' μ'→N ρ' μ')→g d ρ μ fun ρ1 μ1=>b { E with nx:=N,ct:=N,bk:=E.nx } ρ1 μ1) :
    ∀ (ds:List D) (ρ:ST) (μ:Mu),P ds ρ μ→forR g b E ds ρ μ
  | [],ρ,μ,h=>hnil ρ μ h
  | d::r,ρ,μ,h=>hcons d r ρ μ _ h fun ρ' μ' q=>b7 P hnil hcons r ρ' μ' q
section
open PySem PySem.Spec PyProof.Rows L2
def SqF (K:PySem.W.Frag)(H:Hp)(a:Addr)(xs:List V):Prop:=
  (∃ o,H a=some (.frz o (.lst xs)))∨
    ∃ (o:Obj) (its:Array Value) (n:Nat),K.lookup a=some o∧o.cls=.type "list" ∧ o.dict=none∧o.data=.seq its n∧its.size≤sizeLine∧Vals xs its.toList
theorem SqF.sq {K:PySem.W.Frag}{H:Hp}{a:Addr}{xs:List V}(h:SqF K H a xs):SqL K H a xs:=by
  rcases h with h | h
  · exact .inl (.inr h)
  · exact .inr h
mutual
inductive Dp (K:PySem.W.Frag) (H:Hp):V→D→Prop
  | non:Dp K H .non .non
  | bl (b:Bool):Dp K H (.bl b) (.bl b)
  | int (n:Int):Dp K H (.int n) (.int n)
  | str (z:Str):Dp K H (.str z) (.str z)
  | ty (n:String):Dp K H (.ty n) (.ty n)
  | tup {a:Addr} {xs:List V} {ds:List D}:SqT K H a xs→DpL K H xs ds→Dp K H (.ref a) (.tup ds)
  | ls {a:Addr} {xs:List V} {ds:List D}:SqF K H a xs→DpL K H xs ds→Dp K H (.ref a) (.ls ds)
  | obj (a:Addr):Dp K H (.ref a) (.obj a)
inductive DpL (K:PySem.W.Frag) (H:Hp):List V→List D→Prop
  | nil:DpL K H [] []
  | cons {v:V} {d:D} {vs:List V} {ds:List D}:Dp K H v d→DpL K H vs ds→DpL K H (v::vs) (d::ds)
end
structure Tk (H H':Hp):Prop where
  tup:∀ a xs,H a=some (.tup xs)→H' a=some (.tup xs)
  frz:∀ a o u,H a=some (.frz o u)→H' a=some (.frz o u)
theorem Tk.refl (H:Hp):Tk H H:=⟨fun _ _ h=>h,fun _ _ _ h=>h⟩
theorem Tk.trans {H H1 H2:Hp}(a:Tk H H1)(b:Tk H1 H2):Tk H H2:=⟨fun c xs h=>b.tup c xs (a.tup c xs h),fun c o u h=>b.frz c o u (a.frz c o u h)⟩
theorem Tk.upd {H:Hp}{a:Addr}{o:HO}(h1:∀ xs,H a≠some (.tup xs))(h2:∀ o u,H a≠some (.frz o u)):Tk H (L2.upd H a o):=
  ⟨fun b xs h=>by rw[aC (fun z=>by subst z;exact h1 _ h)];exact h,fun b o u h=>by rw[aC (fun z=>by subst z;exact h2 _ _ h)];exact h⟩
theorem Tk.new {H:Hp}{a:Addr}{o:HO}(h:H a=none):Tk H (L2.upd H a o):=.upd (fun _ e=>by rw[h] at e;cases e) fun _ _ e=>by rw[h] at e;cases e
theorem Tk.sqT {K:PySem.W.Frag}{H H':Hp}{a:Addr}{xs:List V}(t:Tk H H')(h:SqT K H a xs):SqT K H' a xs:=by
  rcases h with (h | ⟨o,h⟩) | h
  · exact .inl (.inl (t.tup _ _ h))
  · exact .inl (.inr ⟨o,t.frz _ _ _ h⟩)
  · exact .inr h
theorem Tk.sqF {K:PySem.W.Frag}{H H':Hp}{a:Addr}{xs:List V}(t:Tk H H')(h:SqF K H a xs):SqF K H' a xs:=by
  rcases h with ⟨o,h⟩ | h
  · exact .inl ⟨o,t.frz _ _ _ h⟩
  · exact .inr h
mutual
theorem Dp.mono {K:PySem.W.Frag}{H H':Hp}(t:Tk H H'):∀ {v:V} {d:D},Dp K H v d→Dp K H' v d
  | _,_,.non=>.non
  | _,_,.bl b=>.bl b
  | _,_,.int i=>.int i
  | _,_,.str x=>.str x
  | _,_,.ty n=>.ty n
  | _,_,.tup h l=>.tup (t.sqT h) (DpL.mono t l)
  | _,_,.ls h l=>.ls (t.sqF h) (DpL.mono t l)
  | _,_,.obj a=>.obj a
theorem DpL.mono {K:PySem.W.Frag}{H H':Hp}(t:Tk H H'):∀ {vs:List V} {ds:List D},DpL K H vs ds→DpL K H' vs ds
  | _,_,.nil=>.nil
  | _,_,.cons h l=>.cons (Dp.mono t h) (DpL.mono t l)
end
theorem DpL.length {K:PySem.W.Frag}{H:Hp}:∀ {vs:List V} {ds:List D},DpL K H vs ds→vs.length=ds.length
  | _,_,.nil=>rfl
  | _,_,.cons _ l=>by rw[List.length_cons,List.length_cons,DpL.length l]
theorem DpL.get {K:PySem.W.Frag}{H:Hp}:∀ {vs:List V} {ds:List D} {i:Nat} {d:D},DpL K H vs ds→ds[i]? = some d→∃ v,vs[i]? = some v∧Dp K H v d
  | _,_,_,_,.nil,e=>by simp at e
  | _,_,0,_,.cons h _,e=>by simp at e;subst e;exact ⟨_,rfl,h⟩
  | _,_,i+1,d,.cons _ l,e=>by
    obtain ⟨v,e1,h⟩:=DpL.get (i:=i) (d:=d) l (by simpa using e)
    exact ⟨v,by simpa using e1,h⟩
theorem DpL.get' {K:PySem.W.Frag}{H:Hp}:∀ {vs:List V} {ds:List D} {i:Nat} {v:V},DpL K H vs ds→vs[i]? = some v→∃ d,ds[i]? = some d∧Dp K H v d
  | _,_,_,_,.nil,e=>by simp at e
  | _,_,0,_,.cons h _,e=>by simp at e;subst e;exact ⟨_,rfl,h⟩
  | _,_,i+1,d,.cons _ l,e=>by
    obtain ⟨v,e1,h⟩:=DpL.get' (i:=i) (v:=d) l (by simpa using e)
    exact ⟨v,by simpa using e1,h⟩
theorem DpL.set {K:PySem.W.Frag}{H:Hp}{v:V}{d:D}(h:Dp K H v d):∀ {vs:List V} {ds:List D} (i:Nat),DpL K H vs ds→DpL K H (vs.set i v) (ds.set i d)
  | _,_,_,.nil=>.nil
  | _,_,0,.cons _ l=>.cons h l
  | _,_,i+1,.cons q l=>.cons q (DpL.set h i l)
theorem DpL.append {K:PySem.W.Frag}{H:Hp}:∀ {vs ws:List V} {ds es:List D},DpL K H vs ds→DpL K H ws es→DpL K H (vs++ws) (ds++es)
  | _,_,_,_,.nil,s=>s
  | _,_,_,_,.cons h l,s=>.cons h (DpL.append l s)
theorem DpL.at {K:PySem.W.Frag}{H:Hp}{vs:List V}{ds:List D}{i:Int}{d:D}(l:DpL K H vs ds)(e:atD ds i=some d):∃ v,atI vs i=some v∧Dp K H v d:=by
  unfold atD atI at e
  unfold atI
  rw[l.length]
  cases q:ixN ds.length i with
  | none=>rw[q] at e;cases e
  | some j=>
    rw[q] at e
    exact l.get e
def DpK (K:PySem.W.Frag)(H:Hp)(xs:List (Key×V))(kvs:List (Key×D)):Prop:=xs.map (·.1)=kvs.map (·.1)∧DpL K H (xs.map (·.2)) (kvs.map (·.2))
theorem DpK.mono {K:PySem.W.Frag}{H H':Hp}(t:Tk H H'){xs:List (Key×V)}{kvs:List (Key×D)}(h:DpK K H xs kvs):DpK K H' xs kvs:=⟨h.1,h.2.mono t⟩
def nB (K:PySem.W.Frag)(H:Hp)(a:Addr):MO→Prop
  | .lst ds=>∃ xs,H a=some (.lst xs)∧DpL K H xs ds
  | .dct kvs=>∃ xs,H a=some (.dK xs)∧DpK K H xs kvs
theorem nB.go {K:PySem.W.Frag}{H H':Hp}{a:Addr}{o:MO}(h:nB K H a o)(t:Tk H H')(k:∀ u,H a=some u→H' a=some u):nB K H' a o:=by
  cases o with
  | lst ds=>obtain ⟨xs,z,l⟩:=h;exact ⟨xs,k _ z,l.mono t⟩
  | dct kvs=>obtain ⟨xs,z,l⟩:=h;exact ⟨xs,k _ z,l.mono t⟩
theorem nB.ne {K:PySem.W.Frag}{H:Hp}{a q:Addr}{o:MO}{u:HO}(h:nB K H a o)(t:Tk H (L2.upd H q u))(k:a≠q):nB K (L2.upd H q u) a o:=h.go t fun _ e=>by rw[aC k];exact e
def bD (K:PySem.W.Frag)(H:Hp)(μ:Mu):Prop:=∀ a o,μ a=some o→nB K H a o
theorem bD.free {K:PySem.W.Frag}{H:Hp}{μ:Mu}(h:bD K H μ){a:Addr}(e:H a=none):μ a=none:=by
  cases q:μ a with
  | none=>rfl
  | some o=>
    cases o with
    | lst ds=>obtain ⟨xs,z,_⟩:=h a _ q;rw[e] at z;cases z
    | dct ds=>obtain ⟨xs,z,_⟩:=h a _ q;rw[e] at z;cases z
theorem bD.keep {K:PySem.W.Frag}{H H':Hp}{μ:Mu}(h:bD K H μ)(t:Tk H H')(k:∀ a u,μ a≠none→H a=some u→H' a=some u):bD K H' μ:=fun a o e=>by
  exact (h a _ e).go t fun u z=>k a u (by rw[e];simp) z
def Sub (μ μ':Mu):Prop:=∀ a o,μ a=some o→μ' a=some o
theorem Sub.refl (μ:Mu):Sub μ μ:=fun _ _ h=>h
theorem Sub.new {μ:Mu}{p:Addr}{o:MO}(h:μ p=none):Sub μ (up μ p o):=fun a u e=>by
  rw[bN (fun z=>by subst z;rw[h] at e;cases e)];exact e
theorem Sub.trans {μ μ1 μ2:Mu}(a:Sub μ μ1)(b:Sub μ1 μ2):Sub μ μ2:=fun c o h=>b c o (a c o h)
theorem bD.sub {K:PySem.W.Frag}{H:Hp}{μ μ':Mu}(h:bD K H μ')(s:Sub μ μ'):bD K H μ:=fun a o e=>h a o (s a o e)
structure Rl (K:PySem.W.Frag) (σ:L2.St) (H:Hp) (ρ:ST) (μ:Mu):Prop where
  len:ρ.length=σ.length
  loc:∀ i d,lk ρ i=some d→∃ v,σ[i]? = some (some v)∧Dp K H v d
  mu:bD K H μ
theorem Rl.go {K:PySem.W.Frag}{σ:L2.St}{H H':Hp}{ρ:ST}{μ μ':Mu}(r:Rl K σ H ρ μ)(t:Tk H H')(m:bD K H' μ'):Rl K σ H' ρ μ':=
  ⟨r.len,fun i d e=>let ⟨v,h1,h2⟩:=r.loc i d e;⟨v,h1,h2.mono t⟩,m⟩
theorem qZ:∀ (ρ:ST) (i j:Nat) (d:D),lk (ρ.set i (some d)) j=if i=j∧i < ρ.length then some d else lk ρ j
  | [],i,j,d=>by simp[lk]
  | o::r,0,0,d=>by simp[lk]
  | o::r,0,j+1,d=>by simp[lk]
  | o::r,i+1,0,d=>by simp[lk]
  | o::r,i+1,j+1,d=>by
    show lk (r.set i (some d)) j=_
    rw[qZ r i j d]
    simp[lk]
theorem Rl.set {K:PySem.W.Frag}{σ:L2.St}{H:Hp}{ρ:ST}{μ:Mu}(r:Rl K σ H ρ μ){v:V}{d:D}(h:Dp K H v d)(i:Nat):Rl K (σ.set i (some v)) H (ρ.set i (some d)) μ:=by
  refine ⟨by simp[r.len],fun j e q=>?_,r.mu⟩
  rw[qZ] at q
  split at q
  · rename_i hc
    obtain ⟨rfl,hlt⟩:=hc
    cases q
    exact ⟨v,by rw[List.getElem?_set_self (by rw[← r.len];exact hlt)],h⟩
  · rename_i hc
    obtain ⟨u,h1,h2⟩:=r.loc j e q
    by_cases hij:i=j
    · subst hij
      have:¬ i < ρ.length:=fun z=>hc ⟨rfl,z⟩
      have hn:σ[i]? = none:=List.getElem?_eq_none_iff.mpr (by rw[← r.len];omega)
      rw[hn] at h1;cases h1
    · exact ⟨u,by rw[List.getElem?_set_ne hij];exact h1,h2⟩
abbrev eH (K:PySem.W.Frag)(H:Hp)(Q:DK)(Q':VK):Prop:=∀ v H' d μ',Tk H H'→bD K H' μ'→Dp K H' v d→Q d μ'→Q' v H'
def Sim (K:PySem.W.Frag)(t:TE)(T:ETr):Prop:=∀ σ H ρ μ (Q:DK) (Q':VK),Rl K σ H ρ μ→T ρ μ Q→eH K H Q Q'→t σ H Q'
def uo (K:PySem.W.Frag)(t:TT)(T:TTr):Prop:=∀ σ H ρ μ (Q:Bool→Mu→Prop) (Q':Bool→Hp→Prop),Rl K σ H ρ μ→T ρ μ Q→(∀ b H' μ',Tk H H'→bD K H' μ'→Q b μ'→Q' b H')→t σ H Q'
def A0 (K:PySem.W.Frag)(t:TA)(T:ATr):Prop:=∀ σ H ρ μ (Q:List D→Mu→Prop) (Q':List V→Hp→Prop),Rl K σ H ρ μ→T ρ μ Q→(∀ vs H' ds μ',Tk H H'→bD K H' μ'→DpL K H' vs ds→Q ds μ'→Q' vs H')→t σ H Q'
abbrev mU (K:PySem.W.Frag)(H:Hp)(N:ST→Mu→Prop)(N':L2.St→Hp→Prop):Prop:=∀ σ' H' ρ' μ',Tk H H'→Rl K σ' H' ρ' μ'→N ρ' μ'→N' σ' H'
structure sL (K:PySem.W.Frag) (H:Hp) (E:En) (E':Ends):Prop where
  nx:mU K H E.nx E'.nx
  rt:eH K H E.rt E'.rt
  bk:mU K H E.bk E'.bk
  ct:mU K H E.ct E'.ct
theorem sL.go {K:PySem.W.Frag}{H H1:Hp}{E:En}{E':Ends}(e:sL K H E E')(t:Tk H H1):sL K H1 E E':=
  ⟨fun _ _ _ _ t'=>e.nx _ _ _ _ (t.trans t'),fun _ _ _ _ t'=>e.rt _ _ _ _ (t.trans t'),fun _ _ _ _ t'=>e.bk _ _ _ _ (t.trans t'),fun _ _ _ _ t'=>e.ct _ _ _ _ (t.trans t')⟩
def yf (K:PySem.W.Frag)(t:TS)(T:STr):Prop:=∀ σ H ρ μ (E:En) (E':Ends),Rl K σ H ρ μ→T E ρ μ→sL K H E E'→t E' σ H
def yy (K:PySem.W.Frag)(g:TG)(G:GTr):Prop:=∀ σ H ρ μ v d (k:ST→Mu→Prop) (k':L2.St→Hp→Prop),Rl K σ H ρ μ→Dp K H v d→G d ρ μ k→mU K H k k'→g v σ H k'
structure LE (X:Cx) (e:Expr) (T:ETr):Prop where
  ex:∃ t,PE X e t∧Sim X.K t T
structure LT (X:Cx) (e:Expr) (T:TTr):Prop where
  ex:∃ t,PT X e t∧uo X.K t T
structure LW (X:Cx) (e:Expr) (T:TTr):Prop where
  ex:∃ t,PW X e t∧uo X.K t T
structure LA (X:Cx) (es:List Expr) (T:ATr):Prop where
  ex:∃ t,PA X es t∧A0 X.K t T
structure LS (X:Cx) (st:Stmt) (T:STr):Prop where
  ex:∃ t,PS X st t∧yf X.K t T
structure LSs (X:Cx) (sts:List Stmt) (T:STr):Prop where
  ex:∃ t,PSs X sts t∧yf X.K t T
structure LG (X:Cx) (tg:Expr) (G:GTr):Prop where
  ex:∃ g,PG X tg g∧yy X.K g G
section
variable {X:Cx} {a b c e:Expr} {Ta Tb Tc:ETr} {pos:Pos}
theorem af (i:Nat){x:Str}(hN:X.N[i]? = some x:=by rfl)(hv:Vis X.env.scope x:=by first | exact Or.inl rfl | exact Or.inr (Or.inl rfl) | exact Or.inr (Or.inr rfl))(hd:(x == ("__debug__" : Str))=false:=by decide)
    (hcd:(x == ("__classdict__" : Str))=false:=by decide):LE X (.Name x pos) (ah i):=
  ⟨_,rR hN hv hd hcd,fun σ H ρ μ Q Q' r h k=>by
    have h:kO (lk ρ i) fun d=>Q d μ:=h
    cases q:lk ρ i with
    | none=>rw[q] at h;exact False.elim h
    | some d=>
      rw[q] at h
      have h:Q d μ:=h
      obtain ⟨v,e1,p⟩:=r.loc i d q
      exact ⟨v,e1,k v H d μ (.refl H) r.mu p h⟩⟩
theorem le_int {i:Int}{j}:LE X (.Constant (.int i) j pos) (TC (.int i)):=⟨_,yd,fun σ H ρ μ Q Q' r h k=>k _ H _ μ (.refl H) r.mu (.int i) h⟩
theorem pf {b:Bool}{j}:LE X (.Constant (.bool b) j pos) (TC (.bl b)):=⟨_,An,fun σ H ρ μ Q Q' r h k=>k _ H _ μ (.refl H) r.mu (.bl b) h⟩
theorem eP {j}:LE X (.Constant .none j pos) (TC .non):=⟨_,yJ,fun σ H ρ μ Q Q' r h k=>k _ H _ μ (.refl H) r.mu .non h⟩
theorem le_str {x:Str}{j}:LE X (.Constant (.str x) j pos) (TC (.str x)):=⟨_,zi,fun σ H ρ μ Q Q' r h k=>k _ H _ μ (.refl H) r.mu (.str x) h⟩
def cm (K:PySem.W.Frag)(r:R2)(R:DR2):Prop:=∀ H μ x y dx dy (Q:DK) (Q':VK),bD K H μ→Dp K H x dx→Dp K H y dy→R dx dy μ Q→eH K H Q Q'→r x y H Q'
theorem eH.go {K:PySem.W.Frag}{H H1:Hp}{Q:DK}{Q':VK}(k:eH K H Q Q')(t:Tk H H1):eH K H1 Q Q':=fun v H' d μ' t'=>k v H' d μ' (t.trans t')
theorem ft {K:PySem.W.Frag}{r:R2}{R:DR2}{ta tb:TE}(hr:cm K r R)(ha:Sim K ta Ta)(hb:Sim K tb Tb):Sim K (tOp r ta tb) (aq R Ta Tb):=fun σ H ρ μ Q Q' rl h k=>
  ha σ H ρ μ _ _ rl h fun x H1 dx μ1 t1 m1 p1 h1=>hb σ H1 ρ μ1 _ _ (rl.go t1 m1) h1 fun y H2 dy μ2 t2 m2 p2 h2=>hr H2 μ2 x y dx dy Q Q' m2 (p1.mono t2) p2 h2 (k.go (t1.trans t2))
theorem fL {op:Operator}{r:R2}{R:DR2}(ho:OpR X (binaryOp op) r)(hr:cm X.K r R)(ha:LE X a Ta)(hb:LE X b Tb):LE X (.BinOp a op b pos) (aq R Ta Tb):=by
  obtain ⟨ta,pa,sa⟩:=ha.ex
  obtain ⟨tb,pb,sb⟩:=hb.ex
  exact ⟨_,wR ho pa pb,ft hr sa sb⟩
theorem vZ {op:CmpOp}{r:R2}{R:DR2}(ho:OpR X (compareOp op) r)(hr:cm X.K r R)(ha:LE X a Ta)(hb:LE X b Tb)(hm:behindInMarks op b=false):LE X (.Compare a [op] [b] pos) (aq R Ta Tb):=by
  obtain ⟨ta,pa,sa⟩:=ha.ex
  obtain ⟨tb,pb,sb⟩:=hb.ex
  exact ⟨_,uW ho pa pb hm,ft hr sa sb⟩
theorem yq {K:PySem.W.Frag}{t:TE}{T:ETr}(h:Sim K t T):uo K (wG t) (TB T):=fun σ H ρ μ Q Q' rl hh k=>
  h σ H ρ μ _ _ rl hh fun v H' d μ' t' m' p' h'=>by
    cases p' with
    | bl c=>exact ⟨c,rfl,k c H' μ' t' m' h'⟩
    | _=>exact False.elim h'
theorem yX {K:PySem.W.Frag}{t:TE}{T:ETr}(h:Sim K t T):uo K (tB t) (TB T):=fun σ H ρ μ Q Q' rl hh k=>
  h σ H ρ μ _ _ rl hh fun v H' d μ' t' m' p' h'=>by
    cases p' with
    | bl c=>exact ⟨c,rfl,k c H' μ' t' m' h'⟩
    | _=>exact False.elim h'
theorem eu {op:CmpOp}{r:R2}{R:DR2}(ho:OpR X (compareOp op) r)(hr:cm X.K r R)(ha:LE X a Ta)(hb:LE X b Tb)(hm:behindInMarks op b=false):LT X (.Compare a [op] [b] pos) (TB (aq R Ta Tb)):=by
  obtain ⟨ta,pa,sa⟩:=ha.ex
  obtain ⟨tb,pb,sb⟩:=hb.ex
  exact ⟨_,vh ho pa pb hm,yq (ft hr sa sb)⟩
theorem OpR.or {f:Value→Value→Sem Value}{r r':R2}(h:OpR X f r)(h':OpR X f r'):OpR X f (fun x y H Q=>r x y H Q∨r' x y H Q):=fun pins s σ H x y v u Q I rx ry q=>by
  rcases q with q | q
  · exact h pins s σ H x y v u Q I rx ry q
  · exact h' pins s σ H x y v u Q I rx ry q
theorem lu {K:PySem.W.Frag}{C:Int→Int→Prop}{g:Int→Int→V}{R:DR2}(f:Int→Int→D)(hg:∀ H i j,Dp K H (g i j) (f i j))(hR:∀ i j μ Q,R (.int i) (.int j) μ Q→C i j∧Q (f i j) μ)
    (hn:∀ dx dy μ Q,R dx dy μ Q→(∃ i,dx=.int i)∧∃ j,dy=.int j):cm K (rI C g) R:=fun H μ x y dx dy Q Q' m px py h k=>by
  obtain ⟨⟨i,rfl⟩,j,rfl⟩:=hn _ _ _ _ h
  cases px;cases py
  obtain ⟨h1,h2⟩:=hR _ _ _ _ h
  exact ⟨i,j,rfl,rfl,h1,k _ H _ μ (.refl H) m (hg H i j) h2⟩
theorem pM {K:PySem.W.Frag}{g:Int→Int→V}{R:DR2}(f:Int→Int→D)(hg:∀ H i j,Dp K H (g i j) (f i j))(hR:∀ i j μ Q,R (.int i) (.int j) μ Q→Q (f i j) μ)
    (hn:∀ dx dy μ Q,R dx dy μ Q→(∃ i,dx=.int i)∧∃ j,dy=.int j):cm K (rI0 g) R:=fun H μ x y dx dy Q Q' m px py h k=>by
  obtain ⟨⟨i,rfl⟩,j,rfl⟩:=hn _ _ _ _ h
  cases px;cases py
  exact ⟨i,j,rfl,rfl,k _ H _ μ (.refl H) m (hg H i j) (hR _ _ _ _ h)⟩
theorem oi (ha:LE X a Ta)(hb:LE X b Tb):LE X (.BinOp a .Sub b pos) (aq oU Ta Tb):=fL y4 (pM (fun i j=>.int (i - j)) (fun _ _ _=>.int _) (fun _ _ _ _ h=>h) (fun dx dy μ Q h=>by cases dx<;>cases dy<;>first | exact ⟨⟨_,rfl⟩,_,rfl⟩ | exact False.elim h)) ha hb
theorem cG.abs {j:Int}(h:cG j):j.natAbs < 2 ^ 256:=by
  have e:(2:Nat) ^ 256=115792089237316195423570985008687907853269984665640564039457584007913129639936:=by decide +kernel
  rw[e]
  obtain ⟨h1,h2⟩:=h
  omega
theorem MulOk.ok {i j:Int}(h:MulOk i j):IntMulOk i j:=by
  rcases h with (⟨h1,h2⟩ | ⟨h1,h2⟩) | ⟨h1,h2⟩
  · exact .of_left (intBits_le_64 h1 h2)
  · exact .of_right (intBits_le_64 h1 h2)
  · exact .of_le (PyProof.Rows.intBits_le h1.abs) (PyProof.Rows.intBits_le h2.abs) (by decide)
theorem vp:OpR X (binaryOp .Mult) (rI MulOk fun i j=>.int (i*j)):=opI fun _ _ _ _ _ _ _ hc q=>mul_int q hc.ok
theorem eh.np {i j:Int}(h:eh j):Builtin.divisionGoesByPylong i j=false:=by
  refine PyProof.noPylong_of_log2 ?_
  have h0:j.natAbs≠0:=by have:=h.1;omega
  have:=(Nat.log2_lt h0).mpr h.2.abs
  omega
theorem uG:OpR X (binaryOp .FloorDiv) (rI (fun _ j=>eh j) fun i j=>.int (i.fdiv j)):=opI fun _ _ _ _ _ _ _ hc q=>floordiv_int hc.1 q (.inl hc.np)
theorem de (ha:LE X a Ta)(hb:LE X b Tb):LE X (.BinOp a .FloorDiv b pos) (aq gO Ta Tb):=fL uG (lu (fun i j=>.int (i.fdiv j)) (fun _ _ _=>.int _) (fun _ _ _ _ h=>⟨h.1,h.2⟩) (fun dx dy μ Q h=>by cases dx<;>cases dy<;>first | exact ⟨⟨_,rfl⟩,_,rfl⟩ | exact False.elim h)) ha hb
theorem le_mul (ha:LE X a Ta)(hb:LE X b Tb):LE X (.BinOp a .Mult b pos) (aq e5 Ta Tb):=fL vp (lu (fun i j=>.int (i*j)) (fun _ _ _=>.int _) (fun _ _ _ _ h=>⟨h.1,h.2⟩) (fun dx dy μ Q h=>by cases dx<;>cases dy<;>first | exact ⟨⟨_,rfl⟩,_,rfl⟩ | exact False.elim h)) ha hb
theorem cb (ha:LE X a Ta)(hb:LE X b Tb):LE X (.BinOp a .Mod b pos) (aq fb Ta Tb):=fL vj (lu (fun i j=>.int (i.fmod j)) (fun _ _ _=>.int _) (fun _ _ _ _ h=>⟨h.1,h.2⟩) (fun dx dy μ Q h=>by cases dx<;>cases dy<;>first | exact ⟨⟨_,rfl⟩,_,rfl⟩ | exact False.elim h)) ha hb
theorem le_pow (ha:LE X a Ta)(hb:LE X b Tb):LE X (.BinOp a .Pow b pos) (aq oa Ta Tb):=fL ya (lu (fun i j=>.int (i ^ j.toNat)) (fun _ _ _=>.int _) (fun _ _ _ _ h=>⟨h.1,h.2⟩) (fun dx dy μ Q h=>by cases dx<;>cases dy<;>first | exact ⟨⟨_,rfl⟩,_,rfl⟩ | exact False.elim h)) ha hb
theorem lL {K:PySem.W.Frag}(p:Int→Int→Bool):cm K (rI0 fun i j=>.bl (p i j)) (tN p):=pM (fun i j=>.bl (p i j)) (fun _ _ _=>.bl _) (fun _ _ _ _ h=>h) (fun dx dy μ Q h=>by cases dx<;>cases dy<;>first | exact ⟨⟨_,rfl⟩,_,rfl⟩ | exact False.elim h)
theorem Al (ha:LE X a Ta)(hb:LE X b Tb):LE X (.Compare a [.GtE] [b] pos) (aq rGe Ta Tb):=vZ zM (lL _) ha hb (eO _)
theorem Ag (ha:LE X a Ta)(hb:LE X b Tb):LT X (.Compare a [.Lt] [b] pos) (TB (aq rLt Ta Tb)):=eu zG (lL _) ha hb (eO _)
theorem tX (ha:LE X a Ta)(hb:LE X b Tb):LT X (.Compare a [.Gt] [b] pos) (TB (aq rGt Ta Tb)):=eu A1 (lL _) ha hb (eO _)
theorem iL (ha:LE X a Ta)(he:∀ whole,isTrue a X.env whole=(do let v ← whole;standAt a.pos;holding [v] (truthy v)):=by intro _;rfl):LT X a (TB Ta):=by
  obtain ⟨ta,pa,sa⟩:=ha.ex
  exact ⟨_,xy pa he,yX sa⟩
variable {tA tB' tC':TTr} {rest:List Expr}
theorem oP (ha:LT X a tA):LT X (.UnaryOp .Not a pos) (lT tA):=by
  obtain ⟨ta,pa,sa⟩:=ha.ex
  exact ⟨_,yD pa,fun σ H ρ μ Q Q' rl h k=>sa σ H ρ μ _ _ rl h fun c H1 μ1 t1 m1 h1=>k (!c) H1 μ1 t1 m1 h1⟩
theorem LW.lt (h:LW X a tA):LT X a tA:=by
  obtain ⟨ta,pa,sa⟩:=h.ex
  exact ⟨_,pa.pt,sa⟩
theorem rU (ha:LT X a tA):LW X (.BoolOp .Or [a] pos) tA:=by
  obtain ⟨ta,pa,sa⟩:=ha.ex
  exact ⟨_,pw_or1 pa,sa⟩
theorem wy (ha:LT X a tA)(hb:LW X (.BoolOp .Or (b::rest) pos) tB'):LW X (.BoolOp .Or (a::b::rest) pos) (TOr tA tB'):=by
  obtain ⟨ta,pa,sa⟩:=ha.ex
  obtain ⟨tb,pb,sb⟩:=hb.ex
  refine ⟨_,pw_or pa pb,fun σ H ρ μ Q Q' rl h k=>sa σ H ρ μ _ _ rl h fun c H1 μ1 t1 m1 h1=>?_⟩
  cases c with
  | true=>exact uh (k true H1 μ1 t1 m1 h1)
  | false=>exact sv (sb σ H1 ρ μ1 Q Q' (rl.go t1 m1) h1 fun b H2 μ2 t2=>k b H2 μ2 (t1.trans t2))
theorem sO (hc:LT X c tC')(ha:LE X a Ta)(hb:LE X b Tb):LE X (.IfExp c a b pos) (nQ tC' Ta Tb):=by
  obtain ⟨tc,pc,sc⟩:=hc.ex
  obtain ⟨ta,pa,sa⟩:=ha.ex
  obtain ⟨tb,pb,sb⟩:=hb.ex
  refine ⟨_,sk pc pa pb,fun σ H ρ μ Q Q' rl h k=>sc σ H ρ μ _ _ rl h fun q H1 μ1 t1 m1 h1=>?_⟩
  cases q with
  | true=>exact uh (sa σ H1 ρ μ1 Q Q' (rl.go t1 m1) h1 (k.go t1))
  | false=>exact sv (sb σ H1 ρ μ1 Q Q' (rl.go t1 m1) h1 (k.go t1))
variable {es:List Expr} {At:ATr}
theorem ag:LA X [] au:=⟨_,eL,fun σ H ρ μ Q Q' rl h k=>k [] H [] μ (.refl H) rl.mu .nil h⟩
theorem aa (ha:LE X e Ta)(hr:LA X es At)(hs:starEach (e::es) X.env=(false,eval e X.env)::starEach es X.env:=by rfl):LA X (e::es) (ae Ta At):=by
  obtain ⟨ta,pa,sa⟩:=ha.ex
  obtain ⟨tr,pr,sr⟩:=hr.ex
  exact ⟨_,cf pa pr hs,fun σ H ρ μ Q Q' rl h k=>sa σ H ρ μ _ _ rl h fun x H1 dx μ1 t1 m1 p1 h1=>sr σ H1 ρ μ1 _ _ (rl.go t1 m1) h1 fun xs H2 ds μ2 t2 m2 p2 h2=>k _ H2 _ μ2 (t1.trans t2) m2 (.cons (p1.mono t2) p2) h2⟩
theorem cK {K:PySem.W.Frag}{H:Hp}{μ:Mu}{p:Addr}{o:HO}(m:bD K H μ)(hp:H p=none):bD K (L2.upd H p o) μ:=m.keep (.new hp) fun a' xs' _ e=>by rw[aC (bP e hp)];exact e
theorem big {n:Nat}(h:n≤1000000):n≤sizeLine:=Nat.le_trans h (by decide)
theorem aE {x1}(h:LA X es At):LE X (.Tuple es x1 pos) (a7 At):=by
  obtain ⟨ta,pa,sa⟩:=h.ex
  refine ⟨_,xb pa,fun σ H ρ μ Q Q' rl h k=>sa σ H ρ μ _ _ rl h fun xs H1 ds μ1 t1 m1 p1 h1=>⟨by rw[p1.length];exact big h1.1,fun p hp=>?_⟩⟩
  exact k _ _ _ μ1 (t1.trans (.new hp)) (cK m1 hp) (.tup (SqT.of aI) (p1.mono (.new hp))) h1.2
theorem eN (h:LA X es At):LE X (.List es pos) (gP At):=by
  obtain ⟨ta,pa,sa⟩:=h.ex
  refine ⟨_,sH pa,fun σ H ρ μ Q Q' rl h k=>sa σ H ρ μ _ _ rl h fun xs H1 ds μ1 t1 m1 p1 h1=>⟨by rw[p1.length];exact big h1.1,fun p hp=>?_⟩⟩
  refine k _ _ _ (up μ1 p (.lst ds)) (t1.trans (.new hp)) (fun a o e=>?_) (.obj p) (h1.2 p (m1.free hp))
  by_cases ha:a=p
  · subst ha
    rw[aP] at e;cases e
    exact ⟨xs,aI,p1.mono (.new hp)⟩
  · rw[bN ha] at e
    exact cK m1 hp a o e
def zU (t:TE):TE:=fun σ H Q=>t σ H fun v H1=>∃ a xs,v=.ref a∧H1 a=some (.lst xs)∧∀ o,Q v (L2.upd H1 a (.frz o (.lst xs)))
theorem iZ {t:TE}(h:PE X e t):PE X e (zU t):=by
  intro pins s σ H Q I hh
  refine thn (h pins s σ H _ I hh) fun u s1 ⟨v,H1,I1,r,a,xs,ev,ea,q⟩=>?_
  obtain ⟨z,its,n,rv,hg⟩:=(show cg X.prog X.w H1 s1.heap a (.lst xs) from I1.hok a _ ea)
  have nl:∀ b o,H1 b=some o→(∀ ys,o≠.lst ys)→b≠a:=fun b o e1 e2 z=>by subst z;rw[ea] at e1;cases e1;exact e2 _ rfl
  refine ⟨v,_,I1.un (h':=s1.heap) (t':=s1.toks) (H':=L2.upd H1 a (.frz { cls:=.type "list", data:=.seq its.toArray n } (.lst xs))) ⟨fun b o e _ _ _=>e,fun b o e _ _ _=>⟨o.slots,e⟩,fun b o e n _=>?_,fun b o e _=>⟨o,e⟩,fun b ys e=>?_,fun b o u e=>?_,fun b ps e=>⟨#[],?_⟩⟩ (fun b u e=>?_),r,q _⟩
  · rw[aC (fun z=>by subst z;rw[ea] at n;cases n)];exact n
  · rw[aC (nl b _ e (fun _=>nofun))];exact e
  · rw[aC (nl b _ e (fun _=>nofun))];exact e
  · rw[aC (nl b _ e (fun _=>nofun)),e];simp
  · by_cases hb:b=a
    · subst hb
      rw[aI] at e;cases e
      exact ⟨hg,z,its,n,rv,hg⟩
    · rw[aC hb] at e
      refine (I1.hok b u e).kY (fun c w _ q=>q) (fun c q=>?_) fun c ys q=>?_
      · rw[aC (nl c _ q (fun _=>nofun))];exact q
      · rw[aC (nl c _ q (fun _=>nofun))];exact q
theorem bB (h:LA X es At):LE X (.List es pos) (cD At):=by
  obtain ⟨ta,pa,sa⟩:=h.ex
  refine ⟨_,iZ (sH pa),fun σ H ρ μ Q Q' rl h k=>sa σ H ρ μ _ _ rl h fun xs H1 ds μ1 t1 m1 p1 h1=>⟨by rw[p1.length];exact big h1.1,fun p hp=>⟨p,xs,rfl,aI,fun o=>?_⟩⟩⟩
  have e:L2.upd (L2.upd H1 p (.lst xs)) p (.frz o (.lst xs))=L2.upd H1 p (.frz o (.lst xs)):=kW
  rw[e]
  exact k _ _ _ μ1 (t1.trans (.new hp)) (cK m1 hp) (.ls (.inl ⟨o,aI⟩) (p1.mono (.new hp))) h1.2
end
end
section
open PySem PySem.Spec PyProof.Rows L2
mutual
def toP:D→PyData
  | .non=>.none
  | .bl b=>.bool b
  | .int i=>.int i
  | .str x=>.str x
  | .tup ds=>.tuple (eV ds)
  | .ls ds=>.list (eV ds)
  | .ty _=>.none
  | .obj _=>.none
def eV:List D→List PyData
  | []=>[]
  | d::r=>toP d::eV r
end
mutual
theorem fA:∀ (n:Nat) (d:D),okD n d=true→(toP d).canLay0=true∧(toP d).depth≤n
  | n,.non,_=>⟨rfl,Nat.zero_le _⟩
  | n,.bl b,_=>⟨rfl,Nat.zero_le _⟩
  | n,.int i,_=>⟨rfl,Nat.zero_le _⟩
  | n,.str x,h=>⟨by cases n<;>exact h,Nat.zero_le _⟩
  | n+1,.tup ds,h=>by
    obtain ⟨h1,h2⟩:=iE n ds h
    exact ⟨h1,Nat.succ_le_succ h2⟩
  | n+1,.ls ds,h=>by
    obtain ⟨h1,h2⟩:=iE n ds h
    exact ⟨h1,Nat.succ_le_succ h2⟩
  | 0,.tup ds,h=>by cases h
  | 0,.ls ds,h=>by cases h
  | n,.ty _,h=>by cases n<;>cases h
  | n,.obj _,h=>by cases n<;>cases h
theorem iE:∀ (n:Nat) (ds:List D),bU n ds=true→PyData.canLayAll0 (eV ds)=true∧PyData.depthAll (eV ds)≤n
  | n,[],_=>⟨rfl,Nat.zero_le _⟩
  | n,d::r,h=>by
    have h':okD n d=true∧bU n r=true:=by simpa[bU] using h
    obtain ⟨a1,a2⟩:=fA n d h'.1
    obtain ⟨b1,b2⟩:=iE n r h'.2
    refine ⟨?_,?_⟩
    · show (PyData.canLay0 (toP d)&&PyData.canLayAll0 (eV r))=true
      rw[a1,b1];rfl
    · show max (PyData.depth (toP d)) (PyData.depthAll (eV r))≤n
      exact Nat.max_le.mpr ⟨a2,b2⟩
end
theorem str_beq (a b:Str):(a == b)=decide (a=b):=by
  by_cases h:a=b
  · subst h;simp
  · rw[decide_eq_false h];exact beq_eq_false_iff_ne.mpr h
mutual
theorem lr:∀ (n m:Nat) (a b:D),okD n a=true→okD m b=true→PyData.eqv (toP a) (toP b)=eqD a b
  | n,m,.non,b,_,hb=>by cases b<;>first | rfl | (cases m<;>cases hb)
  | n,m,.bl x,b,_,hb=>by
    cases b with
    | int y=>simp only[toP,PyData.eqv,eqD];rw[Bool.beq_eq_decide_eq]
    | ty _=>cases m<;>cases hb
    | obj _=>cases m<;>cases hb
    | _=>rfl
  | n,m,.int x,b,_,hb=>by
    cases b with
    | int y=>simp only[toP,PyData.eqv,eqD];rw[Bool.beq_eq_decide_eq]
    | bl y=>simp only[toP,PyData.eqv,eqD];rw[Bool.beq_eq_decide_eq]
    | ty _=>cases m<;>cases hb
    | obj _=>cases m<;>cases hb
    | _=>rfl
  | n,m,.str x,b,_,hb=>by
    cases b with
    | str y=>simp only[toP,PyData.eqv,eqD];exact str_beq x y
    | ty _=>cases m<;>cases hb
    | obj _=>cases m<;>cases hb
    | _=>rfl
  | n+1,m,.tup xs,b,ha,hb=>by
    cases b with
    | tup ys=>
      cases m with
      | zero=>cases hb
      | succ m=>simp only[toP,PyData.eqv,eqD];exact iB n m xs ys ha hb
    | ty _=>cases m<;>cases hb
    | obj _=>cases m<;>cases hb
    | _=>rfl
  | n+1,m,.ls xs,b,ha,hb=>by
    cases b with
    | ls ys=>
      cases m with
      | zero=>cases hb
      | succ m=>simp only[toP,PyData.eqv,eqD];exact iB n m xs ys ha hb
    | ty _=>cases m<;>cases hb
    | obj _=>cases m<;>cases hb
    | _=>rfl
  | 0,_,.tup ds,_,h,_=>by cases h
  | 0,_,.ls ds,_,h,_=>by cases h
  | n,_,.ty _,_,h,_=>by cases n<;>cases h
  | n,_,.obj _,_,h,_=>by cases n<;>cases h
theorem iB:∀ (n m:Nat) (a b:List D),bU n a=true→bU m b=true→PyData.eqvAll (eV a) (eV b)=eM a b
  | _,_,[],[],_,_=>rfl
  | _,_,[],_::_,_,_=>by simp[eV,PyData.eqvAll,eM]
  | _,_,_::_,[],_,_=>by simp[eV,PyData.eqvAll,eM]
  | n,m,a::r,b::s,ha,hb=>by
    have ha':okD n a=true∧bU n r=true:=by simpa[bU] using ha
    have hb':okD m b=true∧bU m s=true:=by simpa[bU] using hb
    show (PyData.eqv (toP a) (toP b)&&PyData.eqvAll (eV r) (eV s))=(eqD a b&&eM r s)
    rw[lr n m a b ha'.1 hb'.1,iB n m r s ha'.2 hb'.2]
end
section
variable {X:Cx} {pins:List (Addr×Obj)} {σ:L2.St} {H:Hp} {s:Shared}
mutual
theorem ee (I:Inv X pins σ H s):∀ {n:Nat} {v:V} {d:D} {u:Value},Dp X.K H v d→okD n d=true→RelV v u→∃ as,Reads s.heap u (toP d) as
  | n,_,_,u,.non,_,r=>by cases (show u=Value.none from r);exact ⟨_,.none⟩
  | n,_,_,u,.bl b,_,r=>by cases (show u=Value.bool b from r);exact ⟨_,.bool b⟩
  | n,_,_,u,.int i,_,r=>by obtain ⟨t,e⟩:=(show ∃ t,u=Value.int i t from r);subst e;exact ⟨_,.int i t⟩
  | n,_,_,u,.str x,_,r=>by obtain ⟨t,e⟩:=(show ∃ t,u=Value.str x t from r);subst e;exact ⟨_,.str x t⟩
  | n,_,_,u,.ty _,h,_=>by cases n<;>cases h
  | n+1,_,_,u,@Dp.tup _ _ a xs ds q l,h,r=>by
    cases (show u=Value.ref a from r)
    obtain ⟨its,rv,⟨o,e1,e2,k,e3⟩,_⟩:=I.tuple q
    obtain ⟨as,ra⟩:=dQ I (n:=n) l h rv
    exact ⟨_,.tuple e1 e2 e3 (by simpa using ra)⟩
  | n+1,_,_,u,@Dp.ls _ _ a xs ds q l,h,r=>by
    cases (show u=Value.ref a from r)
    obtain ⟨its,rv,⟨o,k,e1,e2,_,e3⟩,_⟩:=I.list q.sq
    obtain ⟨as,ra⟩:=dQ I (n:=n) l h rv
    exact ⟨_,.list e1 e2 e3 (by simpa using ra)⟩
  | 0,_,_,u,@Dp.tup _ _ a xs ds q l,h,r=>by cases h
  | 0,_,_,u,@Dp.ls _ _ a xs ds q l,h,r=>by cases h
  | n,_,_,u,.obj _,h,_=>by cases n<;>cases h
theorem dQ (I:Inv X pins σ H s):∀ {n:Nat} {vs:List V} {ds:List D} {us:List Value},DpL X.K H vs ds→bU n ds=true→Vals vs us→∃ as,ReadsAll s.heap us (eV ds) as
  | n,_,_,_,.nil,_,.nil=>⟨_,.nil⟩
  | n,_,_,_,@DpL.cons _ _ v d vs ds h l,ho,.cons r rs=>by
    have ho':okD n d=true∧bU n ds=true:=by simpa[bU] using ho
    obtain ⟨as,ra⟩:=ee I h ho'.1 r
    obtain ⟨bs,rb⟩:=dQ I l ho'.2 rs
    exact ⟨_,.cons ra rb⟩
end
end
def vQ (K:PySem.W.Frag)(f:Bool→Bool):R2:=fun x y H Q=>∃ dx dy,Dp K H x dx∧Dp K H y dy∧okD 40 dx=true∧okD 40 dy=true∧Q (.bl (f (eqD dx dy))) H
section
variable {X:Cx} {a b c e:Expr} {Ta Tb Tc:ETr} {pos:Pos}
theorem y8 (hu:X.A.units+64 < cLine):OpR X (compareOp .Eq) (vQ X.K id):=fun pins s σ H x y v u Q I rx ry ⟨dx,dy,px,py,ox,oy,q⟩=>by
  obtain ⟨as,ra⟩:=ee I px ox rx
  obtain ⟨bs,rb⟩:=ee I py oy ry
  obtain ⟨l1,d1⟩:=fA 40 dx ox
  obtain ⟨l2,d2⟩:=fA 40 dy oy
  exact SeqAt.compareEq_reads ra rb l1 l2 (by have:=Nat.min_le_left (toP dx).depth (toP dy).depth;omega) ⟨.bl _,H,I,rfl,by rw[lr 40 40 dx dy ox oy];exact q⟩
theorem xj (hu:X.A.units+64 < cLine):OpR X (compareOp .NotEq) (vQ X.K not):=fun pins s σ H x y v u Q I rx ry ⟨dx,dy,px,py,ox,oy,q⟩=>by
  obtain ⟨as,ra⟩:=ee I px ox rx
  obtain ⟨bs,rb⟩:=ee I py oy ry
  obtain ⟨l1,d1⟩:=fA 40 dx ox
  obtain ⟨l2,d2⟩:=fA 40 dy oy
  exact SeqAt.compareNe_reads ra rb l1 l2 (by have:=Nat.min_le_left (toP dx).depth (toP dy).depth;omega) ⟨.bl _,H,I,rfl,by rw[lr 40 40 dx dy ox oy];exact q⟩
theorem y9 {K:PySem.W.Frag}:cm K (vQ K id) rEq:=fun H μ x y dx dy Q Q' m px py h k=>⟨dx,dy,px,py,h.1.1,h.1.2,k _ H _ μ (.refl H) m (.bl _) h.2⟩
theorem zu {K:PySem.W.Frag}:cm K (vQ K not) rNe:=fun H μ x y dx dy Q Q' m px py h k=>⟨dx,dy,px,py,h.1.1,h.1.2,k _ H _ μ (.refl H) m (.bl _) h.2⟩
theorem lt_eq (hu:X.A.units+64 < cLine)(ha:LE X a Ta)(hb:LE X b Tb):LT X (.Compare a [.Eq] [b] pos) (TB (aq rEq Ta Tb)):=eu (y8 hu) y9 ha hb (eO _)
theorem A7 (hu:X.A.units+64 < cLine)(ha:LE X a Ta)(hb:LE X b Tb):LT X (.Compare a [.NotEq] [b] pos) (TB (aq rNe Ta Tb)):=eu (xj hu) zu ha hb (eO _)
theorem yM {K:PySem.W.Frag}:cm K (fun x y H Q=>y=.non∧Q (.bl (decide (x=.non))) H) rIs:=fun H μ x y dx dy Q Q' m px py h k=>by
  cases py with
  | non=>
    refine ⟨rfl,?_⟩
    cases px with
    | non=>exact k _ H _ μ (.refl H) m (.bl _) h
    | _=>exact k _ H _ μ (.refl H) m (.bl _) h
  | _=>exact False.elim h
theorem qm {K:PySem.W.Frag}:cm K (fun x y H Q=>y=.non∧Q (.bl (!decide (x=.non))) H) dr:=fun H μ x y dx dy Q Q' m px py h k=>by
  cases py with
  | non=>
    refine ⟨rfl,?_⟩
    cases px with
    | non=>exact k _ H _ μ (.refl H) m (.bl _) h
    | _=>exact k _ H _ μ (.refl H) m (.bl _) h
  | _=>exact False.elim h
theorem z8 (ha:LE X a Ta)(hb:LE X b Tb):LT X (.Compare a [.Is] [b] pos) (TB (aq rIs Ta Tb)):=eu za yM ha hb (eO _)
theorem lZ (ha:LE X a Ta)(hb:LE X b Tb):LT X (.Compare a [.IsNot] [b] pos) (TB (aq dr Ta Tb)):=eu uZ qm ha hb (eO _)
theorem nq {o:Option D}{f:D→Prop}(h:kO o f):∃ d,o=some d∧f d:=by
  cases o with
  | none=>exact False.elim h
  | some d=>exact ⟨d,rfl,h⟩
theorem bQ {μ:Mu}{a:Addr}{f:List D→Prop}(h:kL μ a f):∃ ds,μ a=some (.lst ds)∧f ds:=by
  unfold kL at h
  cases e:μ a with
  | none=>rw[e] at h;exact False.elim h
  | some o=>cases o with
    | lst ds=>rw[e] at h;exact ⟨ds,rfl,h⟩
    | dct ds=>rw[e] at h;exact False.elim h
theorem rK {o:Option Nat}{f:Nat→Prop}(h:kN o f):∃ d,o=some d∧f d:=by
  cases o with
  | none=>exact False.elim h
  | some d=>exact ⟨d,rfl,h⟩
theorem xP {K:PySem.W.Frag}:cm K (L2.rIx K) L3.rIx:=fun H μ x y dx dy Q Q' m px py h k=>by
  cases px with
  | @tup a xs ds q l=>
    cases py with
    | int i=>
      obtain ⟨d,e,h'⟩:=nq h
      obtain ⟨v,e1,p⟩:=l.at e
      exact .inr (.inl ⟨a,xs,i,v,rfl,rfl,q,e1,k _ H _ μ (.refl H) m p h'⟩)
    | _=>exact False.elim h
  | @ls a xs ds q l=>
    cases py with
    | int i=>
      obtain ⟨d,e,h'⟩:=nq h
      obtain ⟨v,e1,p⟩:=l.at e
      exact .inl ⟨a,xs,i,v,rfl,rfl,q.sq,e1,k _ H _ μ (.refl H) m p h'⟩
    | _=>exact False.elim h
  | obj a=>
    cases py with
    | int i=>
      obtain ⟨ds,e0,h1⟩:=bQ h
      obtain ⟨d,e,h'⟩:=nq h1
      obtain ⟨xs,ex,l⟩:=m a _ e0
      obtain ⟨v,e1,p⟩:=l.at e
      exact .inl ⟨a,xs,i,v,rfl,rfl,SqL.of ex,e1,k _ H _ μ (.refl H) m p h'⟩
    | _=>exact False.elim h
  | _=>cases py<;>exact False.elim h
theorem aF (ha:LE X a Ta)(hb:LE X b Tb)(hs:lM b:=by intro _ _;rfl):LE X (.Subscript a b pos) (aq L3.rIx Ta Tb):=by
  obtain ⟨ta,pa,sa⟩:=ha.ex
  obtain ⟨tb,pb,sb⟩:=hb.ex
  exact ⟨_,wJ zt pa pb hs,ft xP sa sb⟩
variable {es:List Expr} {At:ATr} {x:Str} {p:Pos} {id T:String}
def mS (K:PySem.W.Frag)(r:List V→Hp→VK→Prop)(R:FSp):Prop:=∀ H μ xs ds (Q:DK) (Q':VK),bD K H μ→DpL K H xs ds→R ds μ Q→eH K H Q Q'→r xs H Q'
theorem j4 {K:PySem.W.Frag}{r:List V→Hp→VK→Prop}{R:FSp}{ta:TA}(hr:mS K r R)(ha:A0 K ta At):Sim K (tCB r ta) (av R At):=fun σ H ρ μ Q Q' rl h k=>
  ha σ H ρ μ _ _ rl h fun xs H1 ds μ1 t1 m1 p1 h1=>hr H1 μ1 xs ds Q Q' m1 p1 h1 (k.go t1)
theorem cY {r:List V→Hp→VK→Prop}{R:FSp}(hc:bj X (.builtin id) r)(hr:mS X.K r R)(hg:Gl X x)(hm:X.mg x=none)(hv:bootBuiltins x=some (.builtin id))(ha:LA X (e::es) At)(hn:x ≠ "__name__" := by decide)(hdb:(x == ("__debug__" : Str))=false:=by decide)
    (h1:starEach (e::es) X.env=(false,eval e X.env)::starEach es X.env:=by rfl) (h2:(backTo pos (starEach es X.env)).any (·.1)=false:=by rfl):LE X (.Call (.Name x p) (e::es) [] pos) (av R At):=by
  obtain ⟨ta,pa,sa⟩:=ha.ex
  exact ⟨_,ig hc hg hm hv pa hn hdb h1 h2,j4 hr sa⟩
theorem aJ {r:List V→Hp→VK→Prop}{R:FSp}(hc:bj X (.type T) r)(hr:mS X.K r R)(hg:Gl X x)(hm:X.mg x=none)(hv:bootBuiltins x=some (.type T))(ha:LA X (e::es) At)(hn:x ≠ "__name__" := by decide)(hdb:(x == ("__debug__" : Str))=false:=by decide)
    (h1:starEach (e::es) X.env=(false,eval e X.env)::starEach es X.env:=by rfl) (h2:(backTo pos (starEach es X.env)).any (·.1)=false:=by rfl):LE X (.Call (.Name x p) (e::es) [] pos) (av R At):=by
  obtain ⟨ta,pa,sa⟩:=ha.ex
  exact ⟨_,qB hc hg hm hv pa hn hdb h1 h2,j4 hr sa⟩
theorem lA {K:PySem.W.Frag}:mS K (fun xs H Q=>∃ i,xs=[.int i]∧Q (.int (if i < 0 then -i else i)) H) nr:=fun H μ xs ds Q Q' m p h k=>by
  unfold nr at h
  split at h
  · cases p with | cons p1 p2=>cases p2;cases p1;exact ⟨_,rfl,k _ H _ μ (.refl H) m (.int _) h⟩
  · exact False.elim h
theorem vc {K:PySem.W.Frag}:mS K (fun xs H Q=>(∃ i,xs=[.int i]∧Q (.int i) H)∨∃ k,xs=[.bl k]∧Q (.int (if k then 1 else 0)) H) p9:=fun H μ xs ds Q Q' m p h k=>by
  unfold p9 at h
  split at h
  · cases p with | cons p1 p2=>cases p2;cases p1;exact .inl ⟨_,rfl,k _ H _ μ (.refl H) m (.int _) h⟩
  · cases p with | cons p1 p2=>cases p2;cases p1;exact .inr ⟨_,rfl,k _ H _ μ (.refl H) m (.int _) h⟩
  · exact False.elim h
theorem bj.or {f:Value}{r r':List V→Hp→VK→Prop}(h:bj X f r)(h':bj X f r'):bj X f (fun xs H Q=>r xs H Q∨r' xs H Q):=fun pins s σ H xs us Q I rx q=>by
  rcases q with q | q
  · exact h pins s σ H xs us Q I rx q
  · exact h' pins s σ H xs us Q I rx q
theorem lO {K:PySem.W.Frag}:mS K (fun xs H Q=>(∃ p ys,xs=[.ref p]∧(SqL K H p ys∨SqT K H p ys)∧Q (.int ys.length) H)∨∃ z,xs=[.str z]∧z.length≤sizeLine∧Q (.int z.length) H) g7:=fun H μ xs ds Q Q' m p h k=>by
  unfold g7 at h
  split at h
  · cases p with | cons p1 p2=>cases p2;cases p1 with | tup q l=>exact .inl ⟨_,_,rfl,.inr q,k _ H _ μ (.refl H) m (by rw[l.length];exact .int _) h⟩
  · cases p with | cons p1 p2=>cases p2;cases p1 with | ls q l=>exact .inl ⟨_,_,rfl,.inl q.sq,k _ H _ μ (.refl H) m (by rw[l.length];exact .int _) h⟩
  · cases p with | cons p1 p2=>cases p2;cases p1;exact .inr ⟨_,rfl,big h.1,k _ H _ μ (.refl H) m (.int _) h.2⟩
  · rename_i a
    cases p with | cons p1 p2=>
    cases p2;cases p1
    obtain ⟨ys,e0,h⟩:=bQ h
    obtain ⟨xs,ex,l⟩:=m a _ e0
    exact .inl ⟨_,_,rfl,.inl (SqL.of ex),k _ H _ μ (.refl H) m (by rw[l.length];exact .int _) h⟩
  · exact False.elim h
theorem fJ:bj X (.builtin "len") (fun xs H Q=>(∃ p ys,xs=[.ref p]∧(SqL X.K H p ys∨SqT X.K H p ys)∧Q (.int ys.length) H)∨∃ z,xs=[.str z]∧z.length≤sizeLine∧Q (.int z.length) H):=bj.or km kj
end
end
section
open PySem PySem.Spec PyProof.Rows L2
def tys:List String:=["NoneType", "bool", "int", "str", "tuple", "list"]
def u4:List String:=["bool", "int", "str", "tuple", "list", "dict"]
theorem um (K:PySem.W.Frag):∀ t∈tys,∀ c∈u4,PySem.W.kitOne K (.type t) (.type c)=some (aU t c):=by
  intro t ht c hc
  simp only[tys,List.mem_cons,List.not_mem_nil,or_false] at ht
  simp only[u4,List.mem_cons,List.not_mem_nil,or_false] at hc
  rcases ht with rfl | rfl | rfl | rfl | rfl | rfl<;>rcases hc with rfl | rfl | rfl | rfl | rfl | rfl<;>with_unfolding_all rfl
theorem yR {d:D}{t:String}(h:tyD d=some t):t∈tys:=by
  cases d<;>simp[tyD] at h<;>subst h<;>decide
def AA (K:PySem.W.Frag):List V→Hp→VK→Prop:=fun xs H Q=>∃ x d t c,xs=[x,.ty c]∧Dp K H x d∧tyD d=some t∧c∈u4∧Q (.bl (aU t c)) H
theorem qS {X:Cx}:bj X (.builtin "isinstance") (AA X.K):=fun pins s σ H xs us Q I rx ⟨x,d,t,c,ex,px,et,hc,q⟩=>by
  subst ex
  cases rx with | @cons _ u _ _ r1 r2=>cases r2 with | cons r2 r3=>
  cases r3
  cases (show _=Value.type c from r2)
  have e:=um X.K t (yR et) c hc
  have fin:∀ tk,EP X pins σ Q (.bool (aU t c)) { s with toks:=tk }:=fun tk=>⟨.bl _,H,I.tok tk,rfl,q⟩
  cases px with
  | non=>cases et;cases (show u=Value.none from r1);exact PySem.W.kia_one PySem.W.kitx_none I.kIn True.intro e (fun z=>nomatch z) fin
  | bl y=>cases et;cases (show u=Value.bool y from r1);exact PySem.W.kia_one PySem.W.kitx_bool I.kIn True.intro e (fun z=>nomatch z) fin
  | int i=>cases et;obtain ⟨t,z⟩:=(show ∃ t,u=Value.int i t from r1);cases z;exact PySem.W.kia_one PySem.W.kitx_int I.kIn True.intro e (fun z=>nomatch z) fin
  | str y=>cases et;obtain ⟨t,z⟩:=(show ∃ t,u=Value.str y t from r1);cases z;exact PySem.W.kia_one PySem.W.kitx_str I.kIn True.intro e (fun z=>nomatch z) fin
  | ty _=>cases et
  | obj _=>cases et
  | @tup a xs ds sq l=>
    cases et
    cases (show u=Value.ref a from r1)
    obtain ⟨its,_,⟨o,h1,h2,_⟩,_⟩:=I.tuple sq
    exact PySem.W.kia_one PySem.W.kitx_tuple I.kIn ⟨o,h1,h2⟩ e (fun z=>nomatch z) fin
  | @ls a xs ds sq l=>
    cases et
    cases (show u=Value.ref a from r1)
    obtain ⟨its,_,⟨o,n,h1,h2,_⟩,_⟩:=I.list sq.sq
    exact PySem.W.kia_one PySem.W.kitx_list I.kIn ⟨o,h1,h2⟩ e (fun z=>nomatch z) fin
theorem nu {X:Cx}{x y:Str}{p p2 pos:Pos}{c:String}{e:Expr}{Ta:ETr}(hg:Gl X x)(hm:X.mg x=none)(hv:bootBuiltins x=some (.builtin "isinstance"))(ha:LE X e Ta)(hg2:Gl X y)(hm2:X.mg y=none)(hv2:bootBuiltins y=some (.type c))(hc:c∈u4:=by decide)
    (hn:x ≠ "__name__" := by decide) (hdb:(x == ("__debug__" : Str))=false:=by decide) (hn2:y ≠ "__name__" := by decide) (hdb2:(y == ("__debug__" : Str))=false:=by decide)
    (h0:starEach [.Name y p2] X.env=[(false,eval (.Name y p2) X.env)]:=by rfl) (h1:starEach (e::[.Name y p2]) X.env=(false,eval e X.env)::starEach [.Name y p2] X.env:=by rfl) (h2:(backTo pos (starEach [.Name y p2] X.env)).any (·.1)=false:=by rfl) :
    LE X (.Call (.Name x p) [e,.Name y p2] [] pos) (TUn (fF c) Ta):=by
  obtain ⟨ta,pa,sa⟩:=ha.ex
  refine ⟨_,ig qS hg hm hv (cf pa (cf (vO hg2 hm2 hv2 (v:=.ty c) rfl hn2 hdb2) eL h0) h1) hn hdb h1 h2,fun σ H ρ μ Q Q' rl h k=>sa σ H ρ μ _ _ rl h fun v H1 d μ1 t1 m1 p1 h1=>?_⟩
  have h1':(match tyD d with | some t=>Q (.bl (aU t c)) μ1 | none=>False):=h1
  cases et:tyD d with
  | none=>rw[et] at h1';exact False.elim h1'
  | some t=>rw[et] at h1';exact ⟨v,d,t,c,rfl,p1,et,hc,k _ H1 _ μ1 t1 m1 (.bl _) h1'⟩
section
variable {X:Cx} {a b c e tg o:Expr} {Ta Tb Tc:ETr} {pos:Pos} {es:List Expr} {At:ATr} {x:Str} {p:Pos} {id T:String} {st:Stmt} {rest:List Stmt} {T1 T2:STr} {tA:TTr}
theorem bo:LSs X [] bL:=⟨_,uz,fun σ H ρ μ E E' rl h k=>k.nx _ _ _ _ (.refl H) rl h⟩
theorem aj (h1:LS X st T1)(h2:LSs X rest T2):LSs X (st::rest) (aH T1 T2):=by
  obtain ⟨t1,p1,s1⟩:=h1.ex
  obtain ⟨t2,p2,s2⟩:=h2.ex
  exact ⟨_,ue p1 p2,fun σ H ρ μ E E' rl h k=>s1 σ H ρ μ _ _ rl h ⟨fun σ' H' ρ' μ' t' r' q=>s2 σ' H' ρ' μ' E E' r' q (k.go t'),k.rt,k.bk,k.ct⟩⟩
theorem ay (h1:LS X st T1):LSs X [st] T1:=by
  obtain ⟨t1,p1,s1⟩:=h1.ex
  exact ⟨_,uA p1,s1⟩
theorem cv (he:LE X e Ta)(hs:swapsWith e none pos.line X.env=pure false:=by rfl):LS X (.Expr e pos) (cQ Ta):=by
  obtain ⟨ta,pa,sa⟩:=he.ex
  exact ⟨_,vt pa hs,fun σ H ρ μ E E' rl h k=>sa σ H ρ μ _ _ rl h fun v H' d μ' t' m' p' h'=>k.nx _ _ _ _ t' (rl.go t' m') h'⟩
theorem aO (he:LE X e Ta):LS X (.Return (some e) pos) (br Ta):=by
  obtain ⟨ta,pa,sa⟩:=he.ex
  exact ⟨_,yW pa,fun σ H ρ μ E E' rl h k=>sa σ H ρ μ _ _ rl h k.rt⟩
theorem b3 {sa sb:List Stmt}(hc:LT X c tA)(ha:LSs X sa T1)(hb:LSs X sb T2):LS X (.If c sa sb pos) (cP tA T1 T2):=by
  obtain ⟨tc,pc,sc⟩:=hc.ex
  obtain ⟨t1,p1,s1⟩:=ha.ex
  obtain ⟨t2,p2,s2⟩:=hb.ex
  refine ⟨_,AI pc p1 p2,fun σ H ρ μ E E' rl h k=>sc σ H ρ μ _ _ rl h fun q H1 μ1 t1' m1 h1=>?_⟩
  cases q with
  | true=>exact uh (s1 σ H1 ρ μ1 E E' (rl.go t1' m1) h1 (k.go t1'))
  | false=>exact sv (s2 σ H1 ρ μ1 E E' (rl.go t1' m1) h1 (k.go t1'))
theorem kc {K:PySem.W.Frag}(i:Nat):yy K (qV i) (aw i):=fun σ H ρ μ v d k k' rl p h q=>q _ _ _ _ (.refl H) (rl.set p i) h
theorem kF (i:Nat)(hN:X.N.Nodup)(hi:X.N[i]? = some x:=by rfl)(hx:Loc X.env.scope x:=by first | exact Or.inl rfl | exact Or.inr rfl)(hf:X.fn x=true∨X.env.scope.names.lookup x=some .local:=by first | exact .inl rfl | exact .inr rfl | assumption):LG X (.Name x pos) (aw i):=
  ⟨_,ke hN hi hx hf,kc i⟩
theorem aB (i:Nat){pos':Pos}(hN:X.N.Nodup)(he:LE X e Ta)(hi:X.N[i]? = some x:=by rfl)(hx:Loc X.env.scope x:=by first | exact Or.inl rfl | exact Or.inr rfl)(hs:swapsWith e (some (.Name x pos')) pos.line X.env=pure false:=by rfl)
    (hf:X.fn x=true∨X.env.scope.names.lookup x=some .local:=by first | exact .inl rfl | exact .inr rfl | assumption):LS X (.Assign [.Name x pos'] e pos) (aR Ta (aw i)):=by
  obtain ⟨ta,pa,sa⟩:=he.ex
  exact ⟨_,wY hN hi hx pa hs hf,fun σ H ρ μ E E' rl h k=>sa σ H ρ μ _ _ rl h fun v H' d μ' t' m' p' h'=>kc i σ H' ρ μ' v d _ _ (rl.go t' m') p' h' (k.go t').nx⟩
theorem tJ (i j:Nat){y:Str}{px py pt:Pos}{kt k2 pt2}(hc:X.calm=true)(hN:X.N.Nodup)(ha:LA X [a,b] At)(hi:X.N[i]? = some x:=by rfl)(hj:X.N[j]? = some y:=by rfl)(hij:i≠j:=by decide)
    (hx:X.env.scope.names.lookup x=some .local:=by rfl) (hy:X.env.scope.names.lookup y=some .local:=by rfl)
    (hw:swappedStores [.Tuple [.Name x px,.Name y py] kt pt] (.Tuple [a,b] k2 pt2) X.env=pure (some [x,y]):=by rfl)
    (hs:swapsWithSole [.Tuple [.Name x px,.Name y py] kt pt] (.Tuple [a,b] k2 pt2) pos.line X.env=pure false:=by rfl) :
    LS X (.Assign [.Tuple [.Name x px,.Name y py] kt pt] (.Tuple [a,b] k2 pt2) pos) (nK i j At):=by
  obtain ⟨ta,pa,sa⟩:=ha.ex
  refine ⟨_,ym hc hN hi hj hij hx hy pa hw hs,fun σ H ρ μ E E' rl h k=>sa σ H ρ μ _ _ rl h fun vs H' ds μ' t' m' p' h'=>?_⟩
  unfold L3.k2 at h'
  split at h'
  · rename_i dv dw
    cases p' with | cons p1 p2=>cases p2 with | cons p2 p3=>
    cases p3
    exact ⟨_,_,rfl,k.nx _ _ _ _ t' (((rl.go t' m').set p1 i).set p2 j) h'⟩
  · exact False.elim h'
theorem dS {Tk':ETr}{tpos:Pos}(ho:LE X o Ta)(hi:LE X b Tk')(he:LE X e Tb)
    (ha:∀ v,assign (.Subscript o b tpos) X.env v=(do
      let ov ← holding [v] (eval o X.env)
      let iv ← holding [v,ov] (eval b X.env)
      standAt tpos
      holding [v,ov,iv] (setItem ov iv v)
      release [v,ov,iv] []):=by intro _;rfl)
    (hs:swapsWithSole [.Subscript o b tpos] e pos.line X.env=pure false:=by rfl) (hw:swappedStores [.Subscript o b tpos] e X.env=pure none:=by rfl)
    (h1:(assignEach [.Subscript o b tpos] X.env).map (·.2)=[assign (.Subscript o b tpos) X.env]:=by rfl):LS X (.Assign [.Subscript o b tpos] e pos) (cO Ta Tk' Tb):=by
  obtain ⟨to,po,so⟩:=ho.ex
  obtain ⟨ti,pi,si⟩:=hi.ex
  obtain ⟨te,pe,se⟩:=he.ex
  refine ⟨_,rP pe (xK po pi set_list ha) hs hw h1,fun σ H ρ μ E E' rl h k=>se σ H ρ μ _ _ rl h fun y H1 dy μ1 t1 m1 p1 h1=>so σ H1 ρ μ1 _ _ (rl.go t1 m1) h1 fun ov H2 dov μ2 t2 m2 p2 h2=>
    si σ H2 ρ μ2 _ _ (rl.go (t1.trans t2) m2) h2 fun iv H3 div μ3 t3 m3 p3 h3=>?_⟩
  cases p2 with
  | obj q=>
    cases p3 with
    | int n=>
      obtain ⟨ds,e0,h3'⟩:=bQ h3
      obtain ⟨j,e1,h4⟩:=rK h3'
      obtain ⟨xs,ex,l⟩:=m3 q _ e0
      refine ⟨q,xs,n,j,rfl,rfl,ex,by rw[l.length];exact e1,?_⟩
      have t4:Tk H3 (L2.upd H3 q (.lst (xs.set j y))):=.upd (fun ys z=>by rw[ex] at z;cases z) fun o' u z=>by rw[ex] at z;cases z
      have t14:=t1.trans (t2.trans (t3.trans t4))
      refine k.nx _ _ ρ _ t14 (rl.go t14 (fun a' o' e'=>?_)) h4
      by_cases haq:a'=q
      · subst haq
        rw[aP] at e';cases e'
        exact ⟨_,aI,(l.set (p1.mono (t2.trans t3)) j).mono t4⟩
      · rw[bN haq] at e'
        exact (m3 a' _ e').ne t4 haq
    | _=>exact False.elim h3
  | _=>cases p3<;>exact False.elim h3
theorem sS {body:List Stmt}(hp:PassesOwn (model X.prog X.w) X.A X.env X.xe)(hc:LT X c tA)(hb:LSs X body T1):LS X (.While c body [] pos) (sF tA T1):=by
  obtain ⟨tc,pc,sc⟩:=hc.ex
  obtain ⟨t1,p1,s1⟩:=hb.ex
  refine ⟨_,qL hp pc p1,fun σ H ρ μ E E' rl h k=>?_⟩
  obtain ⟨P,m,h0,hs⟩:=h
  refine ⟨fun n σ' H'=>∃ ρ' μ',Tk H H'∧Rl X.K σ' H' ρ' μ'∧P ρ' μ'∧n=m ρ' μ',⟨_,ρ,μ,.refl H,rl,h0,rfl⟩,?_⟩
  rintro n σ1 H1 ⟨ρ1,μ1,t1',rl1,hP,rfl⟩
  refine sc σ1 H1 ρ1 μ1 _ _ rl1 (hs ρ1 μ1 hP) fun q H2 μ2 t2 m2 h2=>?_
  have t12:=t1'.trans t2
  cases q with
  | true=>
    refine uh ⟨fun σ' H'=>∃ ρ' μ',Tk H H'∧Rl X.K σ' H' ρ' μ'∧P ρ' μ'∧m ρ' μ' < m ρ1 μ1,fun σ' H' ⟨ρ',μ',a1,a2,a3,a4⟩=>⟨_,a4,ρ',μ',a1,a2,a3,rfl⟩,?_⟩
    have h2':=h2
    refine s1 σ1 H2 ρ1 μ2 _ _ (rl1.go t2 m2) h2' ⟨fun σ' H' ρ' μ' t' r' q=>⟨ρ',μ',t12.trans t',r',q.1,q.2⟩,(k.go t12).rt,(k.go t12).nx,fun σ' H' ρ' μ' t' r' q=>⟨ρ',μ',t12.trans t',r',q.1,q.2⟩⟩
  | false=>exact sv (k.nx _ _ _ _ t12 (rl1.go t2 m2) h2)
end
def lift (K:PySem.W.Frag)(sp:FSp):Sp:=fun vs H Q _=>∃ ds μ QQ,DpL K H vs ds∧bD K H μ∧sp ds μ QQ∧eH K H QQ Q
def RT (Q:DK):DK:=fun d μ'=>∃ μ,Sub μ μ'∧Q d μ
def ini (n:Nat)(ds:List D):ST:=ds.map some++List.replicate (n - ds.length) none
theorem yT:∀ (ds:List D) (n i:Nat) (d:D),lk (ini n ds) i=some d→ds[i]? = some d:=by
  intro ds
  have rep:∀ m i (d:D),lk (List.replicate m none) i=some d→False:=by
    intro m
    induction m with
    | zero=>intro i d h;cases i<;>cases h
    | succ m ih=>intro i d h;cases i with
      | zero=>cases h
      | succ i=>exact ih i d h
  have gen:∀ (ds:List D) m i d,lk (ds.map some++List.replicate m none) i=some d→ds[i]? = some d:=by
    intro ds
    induction ds with
    | nil=>intro m i d h;exact (rep m i d h).elim
    | cons x r ih=>intro m i d h;cases i with
      | zero=>simpa[lk] using h
      | succ i=>simpa using ih m i d h
  exact fun n i d h=>gen ds _ i d h
section
variable {P:Program} {w:World} {K:PySem.W.Frag} {mg:Str→Option Value} {base:Heap}
theorem wI {x qual:Str}{st:Stmt}{f:Addr}{fd:FuncData}{N ps:List Str}{k:Nat}{sp:FSp}{T:STr}(F:Fun K x qual st f fd)(S:aM N ps (ax st))(len:∀ ds μ Q,sp ds μ Q→ds.length=ps.length)
    (hb:∀ (cdv:Value) (A:Around) (outer:List Env) (s:Shared) (H:Hp) (E:XK),cc k (A.deeper (envOfC qual (ax st) s.heap.objs.size f cdv))→
      LSs (mF CX0 P w K mg base N qual (ax st) f cdv A outer s H E).nox (cq st) T)
    (hr:∀ ds μ Q,sp ds μ Q→T { nx:=fun _ μ'=>RT Q .non μ',rt:=RT Q } (ini N.length ds) μ):eQ P w K mg base CX0 (k+1) f fd ps (lift K sp):=by
  refine F.ok S (fun vs H Q E h=>?_) (fun cdv A outer s H vs Q E hroom h=>?_)
  · obtain ⟨ds,μ,QQ,l,m,h1,k⟩:=h
    rw[l.length];exact len ds μ QQ h1
  · obtain ⟨ds,μ,QQ,l,m,h1,k⟩:=h
    obtain ⟨t,pt,stt⟩:=(hb cdv A outer s H E hroom).ex
    have hl:vs.length=ds.length:=l.length
    refine ⟨t,pt,stt (L2.start N vs) H (ini N.length ds) μ _ _ ⟨?_,fun i d e=>?_,m⟩ (hr ds μ QQ h1) ⟨fun σ' H' ρ' μ' t' r' q=>?_,fun v H' d μ' t' m' p' q=>?_,fun _ _ _ _ _ _ q=>q,fun _ _ _ _ _ _ q=>q⟩⟩
    · unfold ini L2.start;simp[hl]
    · have e':=yT ds _ i d e
      obtain ⟨v,e1,p⟩:=l.get e'
      refine ⟨v,?_,p⟩
      unfold L2.start
      have hi:i < vs.length:=(List.getElem?_eq_some_iff.mp e1).1
      rw[List.getElem?_append_left (by simpa using hi),List.getElem?_map,e1]
      rfl
    · obtain ⟨μ2,s2,q2⟩:=q
      exact k _ _ _ μ2 t' (r'.mu.sub s2) .non q2
    · obtain ⟨μ2,s2,q2⟩:=q
      exact k _ _ _ μ2 t' (m'.sub s2) p' q2
end
section
variable {X:Cx} {k:Nat} {f:Addr} {fd:FuncData} {ps:List Str} {sp:FSp} {x:Str} {p pos:Pos} {e:Expr} {es:List Expr} {At:ATr}
theorem vB (F:eQ X.prog X.w X.K X.mg X.base CX0 k f fd ps (lift X.K sp))(hr:cc k X.A)(hg:Gl X x)(hm:X.mg x=some (.ref f))(hk:PySem.W.keepIn X.K (.ref f)=true)(hb:Binds X.K fd ps [])
    (ha:LA X (e::es) At) (hdb:(x == ("__debug__" : Str))=false:=by decide) (he:starEach (e::es) X.env=(false,eval e X.env)::starEach es X.env:=by rfl) (hpl:(backTo pos (starEach es X.env)).any (·.1)=false:=by rfl) :
    LE X (.Call (.Name x p) (e::es) [] pos) (av sp At):=by
  obtain ⟨ta,pa,sa⟩:=ha.ex
  refine ⟨_,vL F hr hg hm hk hb .nil Ak pa hdb he hpl,fun σ H ρ μ Q Q' rl h k=>sa σ H ρ μ _ _ rl h fun xs H1 ds μ1 t1 m1 p1 h1=>?_⟩
  rw[List.append_nil]
  exact ⟨ds,μ1,Q,p1,m1,h1,k.go t1⟩
end
end
section
open PySem PySem.Spec PyProof.Rows L2
theorem DpL.ints {K:PySem.W.Frag}{H:Hp}:∀ ns:List Int,DpL K H (ns.map V.int) (ns.map D.int)
  | []=>.nil
  | n::r=>.cons (.int n) (DpL.ints r)
theorem SqF.only {K:PySem.W.Frag}{H:Hp}{a:Addr}{xs:List V}(hO:vX H)(h:SqL K H a xs):SqF K H a xs:=by
  rcases h with (h | h) | h
  · rcases hO a with z | ⟨o,ys,z⟩
    · rw[h] at z;cases z
    · rw[h] at z;cases z
  · exact .inl h
  · exact .inr h
theorem zO {l:PySem.W.OpenLaw}{k:Nat}{q:Program}{loose:List Str}{XP:(Str→Option Value)→Heap→Prop}{YP:World→Heap→Prop}{d:DefRec}{K:Params→PySem.W.Frag}{sp:FSp}{x:Str}
    (hn:l.most=some 63) (hdf:d.params.defaults=[]) (hr:cc k callerA) (hY:∀ (w:World) (h:Heap),YP w h→(K w.params).In h)
    (hl:∀ ns:List Int,ns.length≤63→∀ μ,sp [.ls (ns.map .int)] μ (fun d _=>d=.bl true))
    (F:∀ (w:World) (mg:Str→Option Value) (fa:Addr) (h:Heap),(K w.params).In h→h.Ns mainGlobals mg→mg d.name=some (.ref fa)→
      ∃ fd:FuncData,(∀ (s:Shared) (u:Value),BindsTo s fd ⟨[u],[]⟩ [(x,u)])∧∀ base:Heap,(K w.params).In base→base.Ns mainGlobals mg→eQ l.prog w (K w.params) mg base CX0 k fa fd [x] (lift (K w.params) sp)) :
    PySem.W.WalkO q loose XP YP l.row.toRowW d [] (fun f vs=>PySem.call f vs):=
  L2.vm (n:=63) (k:=k) (x:=x) (CX:=fun _=>CX0) (sp:=fun w=>lift (K w.params) sp) hn (by decide) hdf hr hY F
    (fun w H a ns hl' hO hS=>⟨[.ls (ns.map .int)],fun _=>none,_,.cons (.ls (.only hO hS) (.ints ns)) .nil,(fun a o e=>by cases e),hl ns hl' _,fun v H' d μ' _ _ p e=>by
      have e':d=.bl true:=e
      subst e'
      cases p;rfl⟩) fun _ _ _ _ _ z=>z
end
section
open PySem PySem.Spec PyProof.Rows L2
structure bb (P:Program) (w:World) (K:PySem.W.Frag) (mg:Str→Option Value) (base:Heap) (k:Nat) (x:Str) (ps:List Str) (sp:FSp):Prop where
  ex:∃ f fd,eQ P w K mg base CX0 k f fd ps (lift K sp)∧mg x=some (.ref f)∧PySem.W.keepIn K (.ref f)=true∧Binds K fd ps []
section
variable {P:Program} {w:World} {K:PySem.W.Frag} {mg:Str→Option Value} {base:Heap}
theorem aY {x qual:Str}{st:Stmt}{f:Addr}{fd:FuncData}{N ps:List Str}{k:Nat}{sp:FSp}{T:STr}(m:mg x=some (.ref f))(F:Fun K x qual st f fd)(S:aM N ps (ax st))(len:∀ ds μ Q,sp ds μ Q→ds.length=ps.length)
    (hr:∀ ds μ Q,sp ds μ Q→T { nx:=fun _ μ'=>RT Q .non μ',rt:=RT Q } (ini N.length ds) μ)
    (b:∀ (kV doc pm:Value) (an:Option Addr) (cdv ct:Value) (us:List Value),us.length=ps.length→bindArgs (PySem.W.fnOf x qual (e7 st) (cq st) (ax st) .none kV doc pm an cdv ct) ⟨us,[]⟩=pure (ps.zip us))
    (hb:∀ (cdv:Value) (A:Around) (outer:List Env) (s:Shared) (H:Hp) (E:XK),cc k (A.deeper (envOfC qual (ax st) s.heap.objs.size f cdv))→(A.deeper (envOfC qual (ax st) s.heap.objs.size f cdv)).units+64 < cLine→
      LSs (mF CX0 P w K mg base N qual (ax st) f cdv A outer s H E).nox (cq st) T):bb P w K mg base (k+1) x ps sp:=
  ⟨f,fd,wI F S len (fun cdv A outer s H E h=>hb cdv A outer s H E h h.units) hr,m,F.kp,F.binds b⟩
end
theorem ak {X:Cx}{k n:Nat}{x:Str}{ps:List Str}{sp:FSp}{e:Expr}{es:List Expr}{At:ATr}{p pos:Pos}(C:bb X.prog X.w X.K X.mg X.base k x ps sp)(hr:cc n X.A)(hg:Gl X x)
    (ha:LA X (e::es) At) (hle:k≤n:=by decide) (hdb:(x == ("__debug__" : Str))=false:=by decide) (he:starEach (e::es) X.env=(false,eval e X.env)::starEach es X.env:=by rfl) (hpl:(backTo pos (starEach es X.env)).any (·.1)=false:=by rfl) :
    LE X (.Call (.Name x p) (e::es) [] pos) (av sp At):=by
  obtain ⟨f,fd,F,m,kp,b⟩:=C.ex
  exact vB F (hr.mono hle) hg m kp b ha hdb he hpl
end
section
open PySem PySem.Spec PyProof.Rows L2
def bX (X:Cx)(scope:Scope)(Nc:List Str)(cl:List (Str×Addr))(C:Addr)(s₀:Shared)(H₀:Hp)(ex:List Addr):Cx:=
  { X with env:=compEnvC scope cl C X.env,N:=Nc,s₀:=s₀,H₀:=H₀,outer:=X.stack,ex:=ex,fn:=fun _=>false,pn:=[] }
theorem nZ {scope:Scope}{env:Env}(h:∀ y∈scope.names,y.2=.free→∃ c,env.cells.lookup y.1=some c) :
    ∃ cl,closureFor scope env=pure cl∧(∀ x c,cl.lookup x=some c→env.cells.lookup x=some c)∧∀ y∈scope.names,y.2=.free→∃ c,cl.lookup y.1=some c:=by
  have gen:∀ (ns:List (Str×NameKind)) (cs:List (Str×Addr)),(∀ y∈ns,y.2=.free→∃ c,env.cells.lookup y.1=some c)→(∀ x c,cs.lookup x=some c→env.cells.lookup x=some c)→
      ∃ cl,(forIn ns cs fun x r=>if (x.2 == NameKind.free)=true then do let c ← cellOf env x.1;pure (ForInStep.yield ((x.1,c)::r)) else pure (ForInStep.yield r):Sem _)=pure cl∧(∀ x c,cl.lookup x=some c→env.cells.lookup x=some c)∧
        (∀ x,(cs.lookup x).isSome=true→(cl.lookup x).isSome=true)∧∀ y∈ns,y.2=.free→∃ c,cl.lookup y.1=some c:=by
    intro ns
    induction ns with
    | nil=>intro cs _ h2;exact ⟨cs,rfl,h2,fun _ z=>z,fun _ z=>nomatch z⟩
    | cons y r ih=>
      intro cs h1 h2
      obtain ⟨n,k⟩:=y
      by_cases hk:k=.free
      · subst hk
        obtain ⟨c,hc⟩:=h1 (n,.free) List.mem_cons_self rfl
        have h2':∀ x c',((n,c)::cs).lookup x=some c'→env.cells.lookup x=some c':=fun x c' e=>by
          rw[List.lookup_cons] at e
          split at e
          · rename_i hx
            cases e
            have:x=n:=by simpa using hx
            subst this;exact hc
          · exact h2 x c' e
        obtain ⟨cl,e1,e2,e3,e4⟩:=ih ((n,c)::cs) (fun y hy=>h1 y (List.mem_cons_of_mem _ hy)) h2'
        refine ⟨cl,?_,e2,fun x hx=>e3 x ?_,fun y hy hf=>?_⟩
        · rw[List.forIn_cons]
          have:cellOf env n=pure c:=by unfold cellOf;rw[hc]
          simp only[beq_self_eq_true,if_true,this,pure_bind]
          exact e1
        · rw[List.lookup_cons];split
          · rfl
          · exact hx
        · obtain rfl | hy:=List.mem_cons.mp hy
          · have:(cl.lookup n).isSome=true:=e3 n (by simp[List.lookup_cons])
            exact Option.isSome_iff_exists.mp this
          · exact e4 y hy hf
      · obtain ⟨cl,e1,e2,e3,e4⟩:=ih cs (fun y hy=>h1 y (List.mem_cons_of_mem _ hy)) h2
        refine ⟨cl,?_,e2,e3,fun y hy hf=>?_⟩
        · rw[List.forIn_cons]
          have:(k == NameKind.free)=false:=by simpa using hk
          simp only[this,Bool.false_eq_true,if_false,pure_bind]
          exact e1
        · obtain rfl | hy:=List.mem_cons.mp hy
          · exact absurd hf hk
          · exact e4 y hy hf
  obtain ⟨cl,e1,e2,_,e4⟩:=gen scope.names [] h fun x c e=>by cases e
  refine ⟨cl,?_,e2,e4⟩
  show ((forIn scope.names ([]:List (Str×Addr)) fun x r=>if (x.2 == NameKind.free)=true then do let c ← cellOf env x.1;pure (ForInStep.yield ((x.1,c)::r)) else pure (ForInStep.yield r):Sem _) >>= fun s=>pure s)=pure cl
  rw[e1]
  rfl
def uT (Y:Cx)(ifs:List Expr)(t:TT):Prop:=
  ∀ (pins:List (Addr×Obj)) (s:Shared) (σ:L2.St) (H:Hp) (Q:Bool→Hp→Prop),Inv Y pins σ H s→t σ H Q→
    wpAny (model Y.prog Y.w) Y.A (forIn ifs true fun c r=>if r=true then do let ok ← isTrue c Y.env (eval c Y.env);pure (ForInStep.yield ok) else pure (ForInStep.yield r)) (TP Y pins σ Q) Y.xe s
def BE:TT:=fun _ H Q=>Q true H
theorem vi {Y:Cx}:uT Y [] BE:=fun pins s σ H Q I h=>wpAny_tests_nil ⟨H,I,h⟩
theorem vM {Y:Cx}{c:Expr}{t:TT}(h:PT Y c t):uT Y [c] t:=fun pins s σ H Q I hh=>wpAny_tests_one (h pins s σ H Q I hh)
def fV (σ:L2.St)(n:Nat)(caps:List Nat):L2.St:=List.replicate n none++caps.map fun i=>(σ[i]?).join
def Wk (σ' σ:L2.St):Prop:=σ'.length=σ.length∧∀ (i:Nat) v,σ'[i]? = some (some v)→σ[i]? = some (some v)
def Ay (wi:TI)(g:TG)(tt:TT)(te:TE)(n:Nat)(caps:List Nat):TE:=fun σ H Q=>wi σ H fun J H1=>∀ D,H1 D=none→
  ∃ W:Nat→Nat→List V→Hp→Prop,(∃ m,W 0 m [] (L2.upd H1 D (.lst [])))∧∀ i m ys H2,W i m ys H2→
    (J.stop i H2∧Q (.ref D) H2)∨(J.go i H2∧∃ N:List V→Hp→Prop,(∀ ys' H',N ys' H'→∃ m',m' < m∧W (i+1) m' ys' H')∧
      ∀ x H3,J.yld i H2 x H3→g x (fV σ n caps) H3 fun σ4 H4=>Wk (fV σ n caps) σ4∧tt σ4 H4 fun b H5=>if b=true then te σ4 H5 fun y H6=>∃ zs,H6 D=some (.lst zs)∧zs.length < sizeLine∧N (zs++[y]) (L2.upd H6 D (.lst (zs++[y]))) else N ys H5)
theorem pZ {prog:Program}{w:World}{A:Around}{R:Result→Shared→Prop}{s:Shared}{elt target iter:Expr}{ifs:List Expr}{scope:Scope}{pos:Pos}{it acc:Value}{env:Env}(J:Nat→Shared→Prop)
    (turn:∀ n s,J n s→wpAny (model prog w) A (pyNext it) (fun o t₁=>match o with
      | none=>R (.ok .next) t₁
      | some v=>wpAny (model prog w) A (letOwnedTupleGo target it v) (fun _ t₁=>wpAny (model prog w) A (assign target env v) (fun _ t₂=>
          wpAny (model prog w) A (forIn ifs true fun c r=>
            if r=true then do let ok ← isTrue c env (eval c env);pure (ForInStep.yield ok) else pure (ForInStep.yield r)) (fun ok t₃=>
            if ok=true then wpAny (model prog w) A (eval elt env) (fun x t₄=>
              wpAny (model prog w) A (call (.builtin "list.append") [acc,x]) (fun _ t₅=>∃ m,m < n∧J m t₅) (fun _ _=>False) t₄) (fun _ _=>False) t₃
            else ∃ m,m < n∧J m t₃) (fun _ _=>False) t₂) (fun _ _=>False) t₁) (fun _ _=>False) t₁) (fun _ _=>False) s)
    (n:Nat) (h:J n s):codeAny (model prog w) A (.compLoop (.ListComp elt [⟨target,iter,ifs,0⟩] scope pos) 0 it acc env) R s:=by
  refine codeAny_loop rfl J (fun n s hJ=>?_) n h
  show wpAny _ A ((compTurn (.ListComp elt [⟨target,iter,ifs,0⟩] scope pos) 0 it acc env).onRaise
    (fun x=>do noteFrame x env;theTreesLotGoes x)) _ _ s
  refine wpAny_noted ?_
  rw[compTurn_list]
  refine wpAny_bind (wpAny_standAt (wpAny_bind (wpAny_mono (turn n s hJ) (fun r t₁ g₁=>?_) fun _ _ h'=>h'.elim)))
  cases r with
  | none=>exact wpAny_pure g₁
  | some v=>
    refine wpAny_bind (wpAny_mono g₁ (fun _ t₁' g₁'=>?_) fun _ _ h'=>h'.elim)
    refine wpAny_bind (wpAny_mono g₁' (fun _ t₂ g₂=>wpAny_bind (wpAny_mono g₂ (fun ok t₃ g₃=>?_) fun _ _ h'=>h'.elim)) fun _ _ h'=>h'.elim)
    cases ok with
    | false=>exact wpAny_pure ⟨rfl,g₃⟩
    | true=>
      exact wpAny_bind (wpAny_bind (wpAny_mono g₃ (fun x t₄ g₄=>wpAny_bind (wpAny_mono g₄ (fun _ t₅ g₅=>wpAny_pure (wpAny_pure ⟨rfl,g₅⟩)) fun _ _ h'=>h'.elim)) fun _ _ h'=>h'.elim))
theorem mG {σ:L2.St}{n:Nat}{caps:List Nat}{i:Nat}{v:V}(h:(fV σ n caps)[i]? = some (some v)):∃ j k,i=n+j∧caps[j]? = some k∧σ[k]? = some (some v):=by
  unfold fV at h
  by_cases hi:i < n
  · rw[List.getElem?_append_left (by simpa using hi),List.getElem?_replicate,if_pos hi] at h
    cases h
  · rw[List.getElem?_append_right (by simpa using hi)] at h
    rw[List.length_replicate,List.getElem?_map] at h
    cases e:caps[i - n]? with
    | none=>rw[e] at h;cases h
    | some k=>
      rw[e] at h
      have h':(σ[k]?).join=some v:=Option.some.inj h
      cases e2:σ[k]? with
      | none=>rw[e2] at h';cases h'
      | some o=>
        rw[e2] at h'
        have h'':o=some v:=h'
        subst h''
        exact ⟨i - n,k,by omega,e,e2⟩
theorem bY {env:Env}(hk:env.scope.kind=.function):∀ {names:List (Str×NameKind)} {x:Str},env.kindOf x=some .cell→names.lookup x=some .free→
    (names.map fun (n,k)=>if (k == NameKind.free&&env.scope.kind == .function&&env.kindOf n == some .cell) then (n,NameKind.cell) else (n,k)).lookup x=some .cell
  | [],_,_,h=>by simp at h
  | (n,k)::r,x,hc,h=>by
    have ih:=@bY env hk r x hc
    show List.lookup x ((if (k == NameKind.free&&env.scope.kind == .function&&env.kindOf n == some .cell)=true
      then (n,NameKind.cell) else (n,k))::_)=_
    cases hx:x == n with
    | true=>
      simp only[hx,List.lookup_cons] at h
      cases h
      have e:x=n:=by simpa using hx
      subst e
      simp[List.lookup_cons,hk,hc]
    | false=>
      simp only[hx,List.lookup_cons] at h
      by_cases hcc:(k == NameKind.free&&env.scope.kind == .function&&env.kindOf n == some .cell)=true
      · rw[if_pos hcc];simp only[List.lookup_cons,hx];exact ih h
      · rw[if_neg hcc];simp only[List.lookup_cons,hx];exact ih h
theorem gx {env:Env}:∀ {names:List (Str×NameKind)} {x:Str} {k':NameKind},(∀ y∈names,y.2≠.cell)→(k'=.cell∨k'=.free)→
    (x,k')∈(names.map fun (n,k)=>if (k == NameKind.free&&env.scope.kind == .function&&env.kindOf n == some .cell) then (n,NameKind.cell) else (n,k))→(x,NameKind.free)∈names:=by
  intro names x k' hn hk h
  obtain ⟨⟨n,k⟩,hm,e⟩:=List.mem_map.mp h
  dsimp only at e
  split at e
  · rename_i hc
    cases e
    have:k=.free:=by simp at hc;exact hc.1.1
    subst this;exact hm
  · cases e
    rcases hk with rfl | rfl
    · exact absurd rfl (hn _ hm)
    · exact hm
theorem uB {X:Cx}{tg iter elt:Expr}{ifs:List Expr}{scope:Scope}{pos:Pos}{wi:TI}{g:TG}{tt:TT}{te:TE}{Nc:List Str}{n:Nat}{caps:List Nat}
    (hxe:X.xe=fun _ _=>False) (hcalm:X.calm=true) (hi:PI X tg iter wi)
    (hbody:∀ (cl:List (Str×Addr)) (C:Addr) (s₀:Shared) (H₀:Hp) (ex:List Addr),PG (bX X scope Nc cl C s₀ H₀ ex) tg g∧uT (bX X scope Nc cl C s₀ H₀ ex) ifs tt∧PE (bX X scope Nc cl C s₀ H₀ ex) elt te)
    (hfree:∀ y∈scope.names,y.2=.free→X.env.kindOf y.1=some .cell) (hcell:∀ y∈scope.names,y.2≠.cell) (iP:scope.kind=.function)
    (hnames:∀ y∈scope.names,y.2=.local→scope.names.lookup y.1=some .local) (hlen:Nc.length=n+caps.length)
    (hcap:∀ (j k:Nat),caps[j]? = some k→∃ x,Nc[n+j]? = some x∧X.N[k]? = some x∧scope.names.lookup x=some .free)
    (hs:∀ x,foldedSetIterable iter X.env x=pure x:=by intro _;rfl) :
    PE X (.ListComp elt [⟨tg,iter,ifs,0⟩] scope pos) (Ay wi g tt te n caps):=by
  intro pins s σ H Q I h
  rw[hxe]
  obtain ⟨cl,hclos,clin,clfree⟩:=nZ (scope:=scope) (env:=X.env) fun y hy hf=>I.ok.has y.1 (.inl (hfree y hy hf))
  rw[eval_ListComp]
  refine wpAny_comprehension_free (use:=none) rfl hs hclos iP hnames ?_
  have hi':=hi pins s σ H _ I h
  rw[hxe] at hi'
  refine wpAny_mono hi' (fun xv s1 h1=>wpAny_mono h1 (fun itv s2 h2=>?_) fun _ _ z=>z) fun _ _ z=>z
  obtain ⟨it,fp,tn,J,H1,rfl,I2,T,st2,f2,hh⟩:=h2
  -- the new list
  refine wpAny_newObj_type ?_
  have hD:H1 s2.heap.objs.size=none:=I2.hok.fresh (Nat.le_refl _)
  obtain ⟨W,⟨m0,w0⟩,turn⟩:=hh _ hD
  have I3:Inv X pins σ (L2.upd H1 s2.heap.objs.size (.lst [])) { s2 with heap:=s2.heap.push { cls:=.type "list", dict:=none,data:=.seq ([]:List Value).toArray } }:=
    I2.laid (t':=s2.toks) (fun b u e=>Heap.get?_push_of_some _ e) (Nat.le_refl _) ⟨Nat.zero_le _,[],0,.nil,Heap.get?_push_size _ rfl⟩
  have k3:∀ b u,s2.heap.get? b=some u→(s2.heap.push { cls:=.type "list", dict:=none,data:=.seq ([]:List Value).toArray }).get? b=some u:=fun b u e=>Heap.get?_push_of_some _ e
  have fne:∀ b∈fp,b≠s2.heap.objs.size:=fun b hb=>by
    obtain ⟨o,ho,_⟩:=T.obj 0 _ st2 b hb
    exact Nat.ne_of_lt (Heap.lt_size ho)
  generalize eD:s2.heap.objs.size=D at *
  generalize eh3:s2.heap.push { cls:=.type "list", dict:=none,data:=.seq ([]:List Value).toArray }=h3 at *
  generalize eH3:L2.upd H1 D (.lst [])=H3 at *
  have st3:tn 0 h3:=T.keep 0 _ _ st2 fun b hb o e=>k3 b o e
  have f3:∀ b∈fp,l9 X pins H3 b:=fun b hb=>⟨by rw[← eH3,aC (fne b hb)];exact (f2 b hb).1,(f2 b hb).2⟩
  have lt3:∀ b∈fp,b < h3.objs.size:=fun b hb=>by
    obtain ⟨o,ho,_⟩:=T.obj 0 _ st3 b hb
    exact Heap.lt_size ho
  generalize es3:({ s2 with heap:=h3 }:Shared)=s3 at *
  have hs3:s3.heap=h3:=by rw[← es3]
  refine wpAny_newFunctionEnv hcell (fun y hy=>(by cases hy)) (fun h4 hns hsb=>?_) iP
  show codeAny _ _ (.compStart _ 0 (.ref it) (.ref D) (compEnvC scope cl s3.heap.objs.size X.env)) (compPost _ _ _ none _ (.ref D) s3.heap.objs.size) _
  have k4:∀ b u,s3.heap.get? b=some u→h4.get? b=some u:=fun b u e=>hsb.extBut b u (Nat.ne_of_lt (Heap.lt_size e)) (Heap.get?_push_of_some _ e)
  have okY:(bX X scope Nc cl s3.heap.objs.size s3 H3 fp).Ok:=by
    refine ⟨I3.ok.mod,iP,I3.ok.glob,I3.ok.blt,Nat.le_refl _,fun x y c e1 e2=>I3.ok.inj x y c (clin _ _ e1) (clin _ _ e2),fun x hx=>?_,fun x c hf=>(by cases hf),I3.ok.hd,I3.ok.frames,.inl rfl,fun b hb=>⟨?_,fun x c e z=>?_⟩,I3.bs,Nat.le_trans I3.ok.bsz I3.sz,fun b o e hb=>?_,fun b hb hz=>?_,I3.stack,I3.pN⟩
    · have hx':(relabel scope X.env).names.lookup x=some .cell∨(relabel scope X.env).names.lookup x=some .free:=hx
      have hm:(x,NameKind.free)∈scope.names:=by
        rcases hx' with q | q
        · exact gx hcell (.inl rfl) (PySem.mem_of_lookup q)
        · exact gx hcell (.inr rfl) (PySem.mem_of_lookup q)
      exact clfree _ hm rfl
    · show b≠s3.heap.objs.size
      rw[hs3];exact Nat.ne_of_lt (lt3 b hb)
    · exact (f3 b hb).2.2.2.2.1 x c (clin _ _ e) z
    · rcases (f3 b hb).2.2.2.1 with z | z
      · exact I3.ok.sf b o e z
      · exact absurd (Nat.lt_of_lt_of_le (Heap.lt_size e) (Nat.le_trans I3.ok.bsz z)) (Nat.lt_irrefl _)
    · rcases List.mem_cons.mp (I3.oX b hz) with z | z
      · exact (f3 b hb).2.1 z
      · exact (f3 b hb).2.2.1 z
  have AE:∀ c v,s3.heap.IsCell c v→h4.IsCell c v:=fun c v ⟨o,ho,hd⟩=>⟨o,k4 c o ho,hd⟩
  have J0:Inv (bX X scope Nc cl s3.heap.objs.size s3 H3 fp) [] (fV σ n caps) H3 { s3 with heap:=h4,toks:=s3.toks+([]:List (Str×Value)).length }:=by
    refine ⟨okY,rfl,I3.bare,Un.kept k4,⟨_,hns,fun i x v e1 e2 e3=>?_⟩,fun x c e=>?_,I3.hok.fresh (Nat.le_refl _),fun x c e=>I3.d8 x c (clin _ _ e),(fun p hp=>(by cases hp)),I3.hok.kept k4,?_⟩
    · obtain ⟨j,k,rfl,ej,ek⟩:=mG e2
      obtain ⟨x',n1,n2,n3⟩:=hcap j k ej
      have e1':Nc[n+j]? = some x:=e1
      rw[n1] at e1';cases e1'
      have hmem:(x,NameKind.free)∈scope.names:=PySem.mem_of_lookup n3
      have hcellx:X.env.kindOf x=some .cell:=hfree _ hmem rfl
      obtain ⟨m,hn,hl⟩:=I3.loc
      obtain ⟨u,ru,lk⟩:=hl k x v n2 ek (.inr (.inl hcellx))
      refine ⟨u,ru,.inr ⟨.inl (bY I3.ok.kind hcellx n3),?_⟩⟩
      rcases lk with ⟨q,_⟩ | ⟨_,c,ec,ic⟩
      · rw[hcellx] at q;cases q
      · obtain ⟨c',ec'⟩:=clfree _ hmem rfl
        have:=clin _ _ ec'
        rw[ec] at this;cases this
        exact ⟨c,ec',AE _ _ ic⟩
    · obtain ⟨v,q⟩:=I3.cell x c (clin _ _ e)
      exact ⟨v,AE _ _ q⟩
    · unfold fV
      show _=Nc.length
      rw[List.length_append,List.length_replicate,List.length_map,hlen]
  obtain ⟨pg,pifs,pelt⟩:=hbody cl s3.heap.objs.size s3 H3 fp
  generalize eY:bX X scope Nc cl s3.heap.objs.size s3 H3 fp=Y at *
  have yP:Y.prog=X.prog:=by rw[← eY];rfl
  have yw:Y.w=X.w:=by rw[← eY];rfl
  have yK:Y.K=X.K:=by rw[← eY];rfl
  have yA:Y.A=X.A:=by rw[← eY];rfl
  have yx:Y.xe=fun _ _=>False:=by rw[← eY];exact hxe
  have yc:Y.calm=true:=by rw[← eY];exact hcalm
  have ye:Y.env=compEnvC scope cl s3.heap.objs.size X.env:=by rw[← eY];rfl
  have yfs:Y.fs=frs X.stack:=by rw[← eY];rfl
  have yex:Y.ex=fp:=by rw[← eY];rfl
  have ys0:Y.s₀=s3:=by rw[← eY];rfl
  have yH0:Y.H₀=H3:=by rw[← eY];rfl
  have ypn:Y.pn=[]:=by rw[← eY];rfl
  have nI:∀ {H':Hp},(∀ b∈fp,H' b=none)→∀ b∈fp,l9 Y [] H' b:=fun hn b hb=>⟨hn b hb,by rw[ye];show b≠s3.heap.objs.size;rw[hs3];exact Nat.ne_of_lt (lt3 b hb),okY.qW b (by rw[yex];exact hb),.inl (by rw[yex];exact hb),
    fun x c e=>by rw[ye] at e;exact (f3 b hb).2.2.2.2.1 x c (clin _ _ e),fun p hp=>by rw[ypn] at hp;exact nomatch hp⟩
  have tn4:∀ t,tn 0 ({ s3 with heap:=h4,toks:=t }:Shared).heap:=fun t=>T.keep 0 _ _ st3 fun b hb o e=>k4 b o (by rw[hs3];exact e)
  -- the end
  have fin:∀ (s5:Shared) (H5:Hp),Inv Y [] (fV σ n caps) H5 s5→Q (.ref D) H5→compPost (model X.prog X.w) X.A (fun _ _=>False) none (EP X pins σ Q) (.ref D) s3.heap.objs.size (.ok .next) s5:=fun s5 H5 I5 q5=>by
    obtain ⟨m,hn,_⟩:=I5.loc
    rw[ye] at hn
    refine ⟨m,hn,fun h6 hs6=>⟨.ref D,H5,?_,rfl,q5⟩⟩
    have nC:∀ b o,s3.heap.get? b=some o→b≠s3.heap.objs.size:=fun b o e=>Nat.ne_of_lt (Heap.lt_size e)
    have un:=I5.base
    rw[yfs,yex,yH0,ys0] at un
    have hfreeC0:=I5.free
    rw[ye] at hfreeC0
    have hfreeC:H5 s3.heap.objs.size=none:=hfreeC0
    refine I3.Ad (ch:=fp) (s':={ s5 with heap:=h6 }) (by have:=I5.os;rw[ys0] at this;exact this) ⟨fun b o e n1 n2 n3=>(hs6.2 b (nC b o e)).trans (un.keep b o e n1 n2 n3),fun b o e n1 n2 n3=>?_,un.free,fun b o e n1=>?_,un.fH,un.fq,un.fI⟩ (fun b u e=>?_) I5.bare fun b hb=>?_
    · obtain ⟨sl,q⟩:=un.slot b o e n1 n2 n3
      exact ⟨sl,(hs6.2 b (nC b o e)).trans q⟩
    · obtain ⟨o',q⟩:=un.there b o e n1
      exact ⟨o',(hs6.2 b (nC b o e)).trans q⟩
    · have hok5:=I5.hok
      rw[yP,yw] at hok5
      refine (hok5 b u e).kY (fun c w' hc q=>(hs6.2 c ?_).trans q) (fun _ q=>q) fun _ _ q=>q
      rintro rfl
      rcases hc with z | z
      · rw[← z,hfreeC] at e;cases e
      · rw[hfreeC] at z;cases z
    · exact ⟨(f3 b hb).2.2.2.1,(f3 b hb).2.1,(f3 b hb).2.2.2.2.1,(f3 b hb).2.2.2.2.2⟩
  have loop:codeAny (model X.prog X.w) X.A (.compLoop (.ListComp elt [⟨tg,iter,ifs,0⟩] scope pos) 0 (.ref it) (.ref D) (compEnvC scope cl s3.heap.objs.size X.env)) (compPost (model X.prog X.w) X.A (fun _ _=>False) none (EP X pins σ Q) (.ref D) s3.heap.objs.size)
      { s3 with heap:=h4,toks:=s3.toks+([]:List (Str×Value)).length }:=by
    refine pZ (fun k s'=>∃ i ys H',Inv Y [] (fV σ n caps) H' s'∧tn i s'.heap∧(∀ b∈fp,H' b=none)∧W i k ys H') ?_ m0 ⟨0,[],H3,J0,tn4 _,fun b hb=>(f3 b hb).1,w0⟩
    rintro k s5 ⟨i,ys,H5,I5,st5,fr5,w5⟩
    rcases turn i k ys H5 w5 with ⟨stop,q⟩ | ⟨go,N,hN,step⟩
    · have d:=T.done Y yP yw yK yc i [] s5 _ H5 (fun _ _=>False) I5 (nI fr5) st5 stop
      rw[yA] at d
      refine thn d fun r s6 ⟨hr,I6⟩=>?_
      subst hr
      exact fin s6 H5 I6 q
    · have d:=T.item Y yP yw yK yc i [] s5 _ H5 (fun _ _=>False) I5 (nI fr5) st5 go
      rw[yA] at d
      refine thn d fun r s6 ⟨u,hr,h6⟩=>?_
      subst hr
      refine thn h6 fun _ s7 ⟨x,H7,I7,r7,y7,st7,fr7⟩=>?_
      have I7':=I7.pinned (nI fr7) (T.obj _ _ st7)
      have a:=pg _ s7 _ H7 x u _ I7' r7 (step x H7 y7)
      rw[yP,yw,yA,yx,ye] at a
      refine thn a fun _ s8 ⟨σ8,H8,I8,wk,q8⟩=>?_
      have b:=pifs _ s8 σ8 H8 _ I8 q8
      rw[yP,yw,yA,yx,ye] at b
      have again:∀ {s9:Shared} {ys9:List V} {H9:Hp},Inv Y ([]++jd fp s7.heap) σ8 H9 s9→N ys9 H9→∃ m,m < k∧∃ i ys H',Inv Y [] (fV σ n caps) H' s9∧tn i s9.heap∧(∀ b∈fp,H' b=none)∧W i m ys H':=fun {s9 ys9 H9} I9 n9=>by
        obtain ⟨m',hm,w9⟩:=hN ys9 H9 n9
        have hp:∀ b∈fp,∀ o,s7.heap.get? b=some o→s9.heap.get? b=some o∧H9 b=none:=fun b hb o e=>
          ⟨(I9.pin (b,o) (List.mem_append_right _ (List.mem_append_right _ (da hb e)))).1,(I9.pin (b,o) (List.mem_append_right _ (List.mem_append_right _ (da hb e)))).2.1⟩
        refine ⟨m',hm,i+1,ys9,H9,I9.fv.weak wk.1 wk.2,T.keep _ _ _ st7 fun b hb o e=>(hp b hb o e).1,fun b hb=>?_,w9⟩
        obtain ⟨o,e,_⟩:=T.obj _ _ st7 b hb
        exact (hp b hb o e).2
      refine thn b fun ok s9 ⟨H9,I9,q9⟩=>?_
      cases ok with
      | false=>
        rw[if_neg Bool.false_ne_true] at q9 ⊢
        exact again I9 q9
      | true=>
        rw[if_pos rfl] at q9 ⊢
        have c:=pelt _ s9 σ8 H9 _ I9 q9
        rw[yP,yw,yA,yx,ye] at c
        refine thn c fun v s10 ⟨y,H10,I10,r10,zs,ez,lz,n10⟩=>?_
        have d:=j8 (X:=Y) _ s10 σ8 H10 (.ref D) [y] (.ref D) [v] (fun _ H'=>N (zs++[y]) H') I10 rfl (.cons r10 .nil) ⟨D,zs,y,rfl,rfl,ez,lz,n10⟩
        rw[yP,yw,yA,yx] at d
        exact thn d fun _ s11 ⟨_,H11,I11,_,q11⟩=>again I11 q11
  refine codeAny_compStart_list loop ?_
  exact T.self X.A 0 _ _ _ (tn4 _) loop
end
section
open PySem PySem.Spec PyProof.Rows L2
structure rT (K:PySem.W.Frag) (J:It) (H1:Hp) (ds:List D):Prop where
  go:∀ i H',Tk H1 H'→i < ds.length→J.go i H'
  yld:∀ i H' x H'',Tk H1 H'→i < ds.length→J.yld i H' x H''→Tk H' H''∧(∃ d,ds[i]? = some d∧Dp K H'' x d)∧∀ μ,bD K H' μ→bD K H'' μ
  stop:∀ i H',Tk H1 H'→ds.length≤i→J.stop i H'
def BF (K:PySem.W.Frag)(wi:TI)(It':ATr):Prop:=∀ σ H ρ μ (Q:List D→Mu→Prop) (R:It→Hp→Prop),Rl K σ H ρ μ→It' ρ μ Q→(∀ J H1 ds μ1,Tk H H1→bD K H1 μ1→rT K J H1 ds→Q ds μ1→R J H1)→wi σ H R
structure LI (X:Cx) (tg iter:Expr) (It':ATr):Prop where
  ex:∃ wi,PI X tg iter wi∧BF X.K wi It'
section
variable {X:Cx} {tg a b c e elt iter:Expr} {Ta Tb Te:ETr} {Tt:TTr} {pos:Pos} {It':ATr} {G:GTr}
theorem sV {K:PySem.W.Frag}{H:Hp}{p:Addr}{xs:List V}{ds:List D}(q:SqT K H p xs)(l:DpL K H xs ds):rT K (Itt K p) H ds where
  go:=fun i H' t hi=>by
    have hl:=l.length
    exact ⟨xs,xs[i],t.sqT q,by simp[show i < xs.length by omega]⟩
  yld:=fun i H' x H'' t hi ⟨e,y⟩=>by
    subst e
    have ex:=y xs (t.sqT q)
    obtain ⟨d,ed,p⟩:=l.get' ex
    exact ⟨.refl _,⟨d,ed,p.mono t⟩,fun _ m=>m⟩
  stop:=fun i H' t hi=>⟨xs,t.sqT q,by rw[l.length];exact hi⟩
theorem uy {K:PySem.W.Frag}{H:Hp}{p:Addr}{xs:List V}{ds:List D}(q:SqF K H p xs)(l:DpL K H xs ds):rT K (Itl K p) H ds where
  go:=fun i H' t hi=>by
    have hl:=l.length
    exact ⟨xs,xs[i],(t.sqF q).sq,by simp[show i < xs.length by omega]⟩
  yld:=fun i H' x H'' t hi ⟨e,y⟩=>by
    subst e
    have ex:=y xs (t.sqF q).sq
    obtain ⟨d,ed,p⟩:=l.get' ex
    exact ⟨.refl _,⟨d,ed,p.mono t⟩,fun _ m=>m⟩
  stop:=fun i H' t hi=>⟨xs,(t.sqF q).sq,by rw[l.length];exact hi⟩
theorem dD (lo:Int)(n:Nat):(dX lo n).length=n:=by unfold dX;simp
theorem rE {K:PySem.W.Frag}{H:Hp}(lo:Int)(n:Nat):rT K (Itr lo n) H (dX lo n) where
  go:=fun i H' t hi=>by rw[dD] at hi;exact hi
  yld:=fun i H' x H'' t hi ⟨e,y⟩=>by
    rw[dD] at hi
    subst e y
    exact ⟨.refl _,⟨.int (lo+i),by unfold dX;simp[hi],.int _⟩,fun _ m=>m⟩
  stop:=fun i H' t hi=>by rw[dD] at hi;exact hi
def A2 (a:ETr):ATr:=fun ρ μ Q=>a ρ μ fun x μ1=>match x with
  | .tup ds=>Q ds μ1
  | _=>False
def ILs (a:ETr):ATr:=fun ρ μ Q=>a ρ μ fun x μ1=>match x with
  | .ls ds=>Q ds μ1
  | _=>False
theorem fM {rp rpos:Pos}(hg:Gl X "range")(hm:X.mg "range" = none)(ha:LE X a Ta)(hs:starEach [a] X.env=[(false,eval a X.env)]:=by rfl):LI X tg (.Call (.Name "range" rp) [a] [] rpos) (cn Ta):=by
  obtain ⟨ta,pa,sa⟩:=ha.ex
  refine ⟨_,qD hg hm (cf pa eL hs) hs,fun σ H ρ μ Q R rl h k=>sa σ H ρ μ _ _ rl h fun x H1 d μ1 t1 m1 p1 h1=>?_⟩
  cases p1 with
  | int j=>
    obtain ⟨⟨h2,h3⟩,h4⟩:=h1
    exact ⟨j,rfl,by simpa using h2,by simpa using h3,k _ H1 _ μ1 t1 m1 (rE 0 _) h4⟩
  | _=>exact False.elim h1
theorem Az {t1:TS}{T1:STr}{g:TG}{E:En}{E':Ends}{K:PySem.W.Frag}{H0 H1:Hp}{J:It}{ds:List D}(sg:yy K g G)(s1:yf K t1 T1)(k:sL K H0 E E')(Y:rT K J H1 ds){σ:L2.St}{ρ:ST}{μ:Mu}(t0:Tk H0 H1)(rl:Rl K σ H1 ρ μ)(h:forR G T1 E ds ρ μ) :
    ∃ W:Nat→Nat→L2.St→Hp→Prop,(∃ m,W 0 m σ H1)∧∀ i m σ H,W i m σ H→
      (J.stop i H∧E'.nx σ H)∨(J.go i H∧∃ N:L2.St→Hp→Prop,(∀ σ' H',N σ' H'→∃ m',m' < m∧W (i+1) m' σ' H')∧∀ x H',J.yld i H x H'→g x σ H' fun σ2 H2=>t1 { E' with nx:=N,ct:=N,bk:=E'.nx } σ2 H2):=by
  refine ⟨fun i m σ' H'=>m=ds.length - i∧i≤ds.length∧Tk H1 H'∧∃ ρ' μ',Rl K σ' H' ρ' μ'∧forR G T1 E (ds.drop i) ρ' μ',⟨ds.length,by simp,Nat.zero_le _,.refl _,ρ,μ,rl,by simpa using h⟩,?_⟩
  rintro i m σ1 H2 ⟨rfl,hi,t12,ρ1,μ1,r1,h1⟩
  by_cases hlt:i < ds.length
  · refine .inr ⟨Y.go i H2 t12 hlt,fun σ' H'=>Tk H1 H'∧∃ ρ' μ',Rl K σ' H' ρ' μ'∧forR G T1 E (ds.drop (i+1)) ρ' μ',fun σ' H' ⟨t',ρ',μ',r',h'⟩=>⟨ds.length - (i+1),by omega,rfl,hlt,t',ρ',μ',r',h'⟩,fun x H3 y=>?_⟩
    obtain ⟨t23,⟨d,ed,pd⟩,mk⟩:=Y.yld i H2 x H3 t12 hlt y
    have e:ds.drop i=d::ds.drop (i+1):=by
      refine (List.drop_eq_getElem_cons hlt).trans ?_
      congr 1
      rw[List.getElem?_eq_getElem hlt] at ed
      exact Option.some.inj ed
    rw[e] at h1
    have t13:=t12.trans t23
    refine sg σ1 H3 ρ1 μ1 _ _ _ _ (r1.go t23 (mk _ r1.mu)) pd h1 fun σ4 H4 ρ4 μ4 t4 r4 h4=>?_
    have t14:=t13.trans t4
    have t04:=t0.trans t14
    exact s1 σ4 H4 ρ4 μ4 _ _ r4 h4 ⟨fun σ' H' ρ' μ' t' r' q=>⟨t14.trans t',ρ',μ',r',q⟩,(k.go t04).rt,(k.go t04).nx,fun σ' H' ρ' μ' t' r' q=>⟨t14.trans t',ρ',μ',r',q⟩⟩
  · have e:i=ds.length:=by omega
    subst e
    rw[List.drop_length] at h1
    exact .inl ⟨Y.stop _ H2 t12 (Nat.le_refl _),k.nx _ _ _ _ (t0.trans t12) r1 h1⟩
theorem fC {body:List Stmt}{T1:STr}(hp:PassesOwn (model X.prog X.w) X.A X.env X.xe)(hc:X.calm=true)(hi:LI X tg iter It')(hG:LG X tg G)(hb:LSs X body T1)(hf:∀ x,foldedSetIterable iter X.env x=pure x:=by intro _;rfl) :
    LS X (.For tg iter body [] pos) (i9 It' G T1):=by
  obtain ⟨wi,pi,si⟩:=hi.ex
  obtain ⟨g,pg,sg⟩:=hG.ex
  obtain ⟨t1,p1,s1⟩:=hb.ex
  exact ⟨_,yI hp hc pi pg p1 hf,fun σ H ρ μ E E' rl h k=>si σ H ρ μ _ _ rl h fun J H1 ds μ1 t1' m1 Y h1=>Az sg s1 k Y t1' (rl.go t1' m1) h1⟩
def wC (K:PySem.W.Frag)(T:ETr):TE:=fun σ H Q'=>∃ ρ μ Q,Rl K σ H ρ μ∧T ρ μ Q∧eH K H Q Q'
def liftT (K:PySem.W.Frag)(T:TTr):TT:=fun σ H Q'=>∃ ρ μ Q,Rl K σ H ρ μ∧T ρ μ Q∧∀ b H' μ',Tk H H'→bD K H' μ'→Q b μ'→Q' b H'
abbrev AL (K:PySem.W.Frag)(n:Nat)(σ:L2.St)(H:Hp)(k:ST→Mu→Prop)(k':L2.St→Hp→Prop):Prop:=∀ σ' H' ρ' μ',Tk H H'→Rl K σ' H' ρ' μ'→(σ'.length=σ.length∧∀ j,n≤j→σ'[j]? = σ[j]?)→k ρ' μ'→k' σ' H'
def wm (K:PySem.W.Frag)(n:Nat)(G:GTr):TG:=fun v σ H k'=>∃ ρ μ d k,Rl K σ H ρ μ∧Dp K H v d∧G d ρ μ k∧AL K n σ H k k'
theorem LE.pe (h:LE X e Te):PE X e (wC X.K Te):=by
  obtain ⟨t,p,s⟩:=h.ex
  exact fun pins st σ H Q I ⟨ρ,μ,Q0,rl,hT,k⟩=>p pins st σ H Q I (s σ H ρ μ Q0 Q rl hT k)
structure vJ (X:Cx) (ifs:List Expr) (Tt:TTr):Prop where
  pe:uT X ifs (liftT X.K Tt)
theorem dq:vJ X [] eZ:=⟨fun pins s σ H Q I ⟨ρ,μ,Q0,rl,hT,k⟩=>vi pins s σ H Q I (k true H μ (.refl H) rl.mu hT)⟩
theorem vx (h:LT X c Tt):vJ X [c] Tt:=by
  obtain ⟨t,p,s⟩:=h.ex
  exact ⟨fun pins st σ H Q I ⟨ρ,μ,Q0,rl,hT,k⟩=>vM p pins st σ H Q I (s σ H ρ μ Q0 Q rl hT k)⟩
structure LGc (X:Cx) (n:Nat) (tg:Expr) (G:GTr):Prop where
  pe:PG X tg (wm X.K n G)
theorem bV {x:Str}{n:Nat}(i:Nat)(hN:X.N.Nodup)(hin:i < n:=by decide)(hi:X.N[i]? = some x:=by rfl)(hx:Loc X.env.scope x:=by first | exact Or.inl rfl | exact Or.inr rfl)(hf:X.fn x=true∨X.env.scope.names.lookup x=some .local:=by first | exact .inr rfl | exact .inl rfl | assumption):LGc X n (.Name x pos) (aw i):=
  ⟨fun pins s σ H v u k' I r ⟨ρ,μ,d,k,rl,p,h,post⟩=>ke hN hi hx hf pins s σ H v u k' I r (post _ H _ μ (.refl H) (rl.set p i) ⟨by simp,fun j hj=>by rw[List.getElem?_set_ne (by omega)]⟩ h)⟩
theorem we {K:PySem.W.Frag}{σ:L2.St}{H:Hp}{ρ:ST}{μ:Mu}(rl:Rl K σ H ρ μ)(n:Nat)(caps:List Nat):Rl K (fV σ n caps) H (jF ρ n caps) μ:=by
  refine ⟨by unfold fV jF;simp,fun i d e=>?_,rl.mu⟩
  have gen:∀ (n i:Nat),lk (List.replicate n none++caps.map (lk ρ)) i=some d→∃ j,i=n+j∧∃ k,caps[j]? = some k∧lk ρ k=some d:=by
    intro n
    induction n with
    | zero=>
      intro i h
      have h':lk (caps.map (lk ρ)) i=some d:=by simpa using h
      have g2:∀ (cs:List Nat) (i:Nat),lk (cs.map (lk ρ)) i=some d→∃ k,cs[i]? = some k∧lk ρ k=some d:=by
        intro cs
        induction cs with
        | nil=>intro i h;cases i<;>cases h
        | cons c r ih=>intro i h;cases i with
          | zero=>exact ⟨c,rfl,h⟩
          | succ i=>simpa using ih i h
      exact ⟨i,by omega,g2 caps i h'⟩
    | succ n ih=>
      intro i h
      cases i with
      | zero=>cases h
      | succ i=>
        obtain ⟨j,rfl,k,h1,h2⟩:=ih i h
        exact ⟨j,by omega,k,h1,h2⟩
  obtain ⟨j,rfl,k,h1,h2⟩:=gen n i e
  obtain ⟨v,h3,h4⟩:=rl.loc k d h2
  refine ⟨v,?_,h4⟩
  unfold fV
  rw[List.getElem?_append_right (by simp)]
  simp[h1,h3]
theorem vg {ifs:List Expr}{scope:Scope}{Nc:List Str}{n:Nat}{caps:List Nat}(hxe:X.xe=fun _ _=>False)(hcalm:X.calm=true)(hi:LI X tg iter It')
    (hbody:∀ (cl:List (Str×Addr)) (C:Addr) (s₀:Shared) (H₀:Hp) (ex:List Addr),LGc (bX X scope Nc cl C s₀ H₀ ex) n tg G∧vJ (bX X scope Nc cl C s₀ H₀ ex) ifs Tt∧LE (bX X scope Nc cl C s₀ H₀ ex) elt Te)
    (hfree:∀ y∈scope.names,y.2=.free→X.env.kindOf y.1=some .cell) (hcell:∀ y∈scope.names,y.2≠.cell) (iP:scope.kind=.function)
    (hnames:∀ y∈scope.names,y.2=.local→scope.names.lookup y.1=some .local) (hlen:Nc.length=n+caps.length)
    (hcap:∀ (j k:Nat),caps[j]? = some k→∃ x,Nc[n+j]? = some x∧X.N[k]? = some x∧scope.names.lookup x=some .free)
    (hs:∀ x,foldedSetIterable iter X.env x=pure x:=by intro _;rfl) :
    LE X (.ListComp elt [⟨tg,iter,ifs,0⟩] scope pos) (cW It' G Tt Te n caps):=by
  obtain ⟨wi,pi,si⟩:=hi.ex
  refine ⟨_,iZ (uB (g:=wm X.K n G) (tt:=liftT X.K Tt) (te:=wC X.K Te) hxe hcalm pi (fun cl C s₀ H₀ ex=>let ⟨h1,h2,h3⟩:=hbody cl C s₀ H₀ ex;⟨h1.pe,h2.pe,h3.pe⟩) hfree hcell iP hnames hlen hcap hs),?_⟩
  intro σ H ρ μ Q Q' rl h k
  refine si σ H ρ μ _ _ rl h fun J H1 ds μ1 t1 m1 Y h1 D hD=>?_
  have hp:=h1 D (m1.free hD)
  have tD:Tk H1 (L2.upd H1 D (.lst [])):=.new hD
  have mD:bD X.K (L2.upd H1 D (.lst [])) (up μ1 D (.lst [])):=fun a o e=>by
    by_cases ha:a=D
    · subst ha
      rw[aP] at e;cases e
      exact ⟨[],aI,.nil⟩
    · rw[bN ha] at e
      exact cK m1 hD a o e
  refine ⟨fun i m ys H2=>m=ds.length - i∧i≤ds.length∧Tk H1 H2∧∃ μ2,bD X.K H2 μ2∧fj D G Tt Te (jF ρ n caps) (fun μ'=>kL μ' D fun zs=>Q (.ls zs) (dn μ' D)) (ds.drop i) μ2,
    ⟨ds.length,by simp,Nat.zero_le _,tD,_,mD,by simpa using hp⟩,?_⟩
  rintro i m ys H2 ⟨rfl,hi,t12,μ2,m2,h2⟩
  by_cases hlt:i < ds.length
  · refine .inr ⟨Y.go i H2 t12 hlt,fun ys' H'=>Tk H1 H'∧∃ μ',bD X.K H' μ'∧fj D G Tt Te (jF ρ n caps) (fun μ'=>kL μ' D fun zs=>Q (.ls zs) (dn μ' D)) (ds.drop (i+1)) μ',fun ys' H' ⟨t',μ',m',h'⟩=>⟨ds.length - (i+1),by omega,rfl,hlt,t',μ',m',h'⟩,fun x H3 y=>?_⟩
    obtain ⟨t23,⟨d,ed,pd⟩,mk⟩:=Y.yld i H2 x H3 t12 hlt y
    have e:ds.drop i=d::ds.drop (i+1):=by
      refine (List.drop_eq_getElem_cons hlt).trans ?_
      congr 1
      rw[List.getElem?_eq_getElem hlt] at ed
      exact Option.some.inj ed
    rw[e] at h2
    have t13:=t12.trans t23
    have r3:Rl X.K (fV σ n caps) H3 (jF ρ n caps) μ2:=we (rl.go (t1.trans t13) (mk _ m2)) n caps
    refine ⟨_,_,d,_,r3,pd,h2,fun σ4 H4 ρ4 μ4 t4 r4 kp h4=>⟨⟨kp.1.symm,fun j v ej=>?_⟩,_,_,_,r4,h4,fun b H5 μ5 t5 m5 h5=>?_⟩⟩
    · by_cases hj:n≤j
      · rw[kp.2 j hj];exact ej
      · obtain ⟨j',k',e1,_⟩:=mG ej
        omega
    · have t15:=t13.trans (t4.trans t5)
      cases b with
      | false=>exact sv ⟨t15,μ5,m5,h5⟩
      | true=>
        refine uh ⟨_,_,_,r4.go t5 m5,h5,fun v H6 d6 μ6 t6 m6 p6 h6=>?_⟩
        obtain ⟨zs,ez,lz,h7⟩:=bQ h6
        obtain ⟨xs,ex,lx⟩:=m6 D _ ez
        have t67:Tk H6 (L2.upd H6 D (.lst (xs++[v]))):=.upd (fun ys z=>by rw[ex] at z;cases z) fun o' u z=>by rw[ex] at z;cases z
        refine ⟨xs,ex,by rw[lx.length];exact Nat.lt_of_lt_of_le lz (by decide),(t15.trans t6).trans t67,up μ6 D (.lst (zs++[d6])),fun a o ea=>?_,h7⟩
        by_cases ha:a=D
        · subst ha
          rw[aP] at ea;cases ea
          exact ⟨_,aI,(lx.append (.cons p6 .nil)).mono t67⟩
        · rw[bN ha] at ea
          exact (m6 a _ ea).ne t67 ha
  · have e:i=ds.length:=by omega
    subst e
    rw[List.drop_length] at h2
    obtain ⟨zs,ez,hq⟩:=bQ (show kL μ2 D fun zs=>Q (.ls zs) (dn μ2 D) from h2)
    obtain ⟨xs,ex,lx⟩:=m2 D _ ez
    refine .inl ⟨Y.stop _ H2 t12 (Nat.le_refl _),D,xs,rfl,ex,fun o=>?_⟩
    have t2f:Tk H2 (L2.upd H2 D (.frz o (.lst xs))):=.upd (fun ys z=>by rw[ex] at z;cases z) fun o' u z=>by rw[ex] at z;cases z
    refine k _ _ _ (dn μ2 D) ((t1.trans t12).trans t2f) (fun a o' ea=>?_) (.ls (.inl ⟨o,aI⟩) (lx.mono t2f)) hq
    have ha:a≠D:=fun z=>by subst z;unfold dn at ea;rw[if_pos rfl] at ea;cases ea
    have ea':μ2 a=some o':=by unfold dn at ea;rw[if_neg ha] at ea;exact ea
    exact (m2 a _ ea').ne t2f ha
end
end
section
open PySem PySem.Spec PyProof.Rows L2
def tY (fn:List (Str×NameKind))(XN:List Str)(sc:Scope)(Nc:List Str)(n:Nat)(caps:List Nat):Bool:=
  sc.names.all (fun y=>(y.2 != .free || fn.lookup y.1 == some .cell)&&y.2 != .cell&&(y.2 != .local || sc.names.lookup y.1 == some .local))&&sc.kind == .function&&Nc.length == n+caps.length &&
  (List.range caps.length).all fun j=>match caps[j]? with
    | some k=>(match XN[k]? with
      | some x=>Nc[n+j]? == some x&&sc.names.lookup x == some .free
      | none=>false)
    | none=>false
section
variable {X:Cx} {tg a b c e elt iter:Expr} {Ta Tb Te:ETr} {Tt:TTr} {pos:Pos} {It':ATr} {G:GTr}
theorem bT {ifs:List Expr}{scope fsc:Scope}(XN Nc:List Str)(n:Nat)(caps:List Nat)(hxe:X.xe=fun _ _=>False)(hcalm:X.calm=true)(hi:LI X tg iter It')
    (hbody:∀ (cl:List (Str×Addr)) (C:Addr) (s₀:Shared) (H₀:Hp) (ex:List Addr),LGc (bX X scope Nc cl C s₀ H₀ ex) n tg G∧vJ (bX X scope Nc cl C s₀ H₀ ex) ifs Tt∧LE (bX X scope Nc cl C s₀ H₀ ex) elt Te)
    (hsc:X.env.scope=fsc) (hXN:X.N=XN) (hok:tY fsc.names XN scope Nc n caps=true)
    (hs:∀ x,foldedSetIterable iter X.env x=pure x:=by intro _;rfl) :
    LE X (.ListComp elt [⟨tg,iter,ifs,0⟩] scope pos) (cW It' G Tt Te n caps):=by
  unfold tY at hok
  simp only[Bool.and_eq_true,List.all_eq_true] at hok
  obtain ⟨⟨⟨h1,h2⟩,h3⟩,h4⟩:=hok
  refine vg hxe hcalm hi hbody (fun y hy hf=>?_) (fun y hy hf=>?_) (by simpa using h2) (fun y hy hf=>?_) (by simpa using h3) (fun j k hj=>?_) hs
  · have:=(h1 y hy).1.1
    show X.env.scope.names.lookup y.1=_
    rw[hsc]
    simpa[hf] using this
  · have:=(h1 y hy).1.2
    simp[hf] at this
  · have:=(h1 y hy).2
    simpa[hf] using this
  · have hl:j < caps.length:=(List.getElem?_eq_some_iff.mp hj).1
    have:=h4 j (List.mem_range.mpr hl)
    rw[hj] at this
    dsimp only at this
    rw[hXN]
    cases e:XN[k]? with
    | none=>rw[e] at this;cases this
    | some x=>
      rw[e] at this
      dsimp only at this
      rw[Bool.and_eq_true] at this
      exact ⟨x,by simpa using this.1,rfl,by simpa using this.2⟩
end
end
section
open PySem PySem.Spec PyProof.Rows L2
def GV (K:PySem.W.Frag)(mg:Str→Option Value)(x:Str)(d:D):Prop:=∃ u v,mg x=some u∧RelV v u∧∀ H,Dp K H v d
theorem gn {X:Cx}{x:Str}{pos:Pos}{d:D}(hg:Gl X x)(h:GV X.K X.mg x d)(hd:(x == ("__debug__" : Str))=false:=by decide):LE X (.Name x pos) (TC d):=by
  obtain ⟨u,v,hm,r,p⟩:=h
  exact ⟨_,uV hg hm r hd,fun σ H ρ μ Q Q' rl h k=>k v H d μ (.refl H) rl.mu (p H) h⟩
section
variable {K:PySem.W.Frag} {h:Heap} {mg:Str→Option Value} {x:Str}
theorem fG {i:Int}{t:Tok}(X:K.In h)(G:h.Ns mainGlobals mg)(a:PySem.W.nsIn K mainGlobals x=some (some (.int i t))):GV K mg x (.int i):=⟨_,.int i,PySem.W.mg_of X G a,⟨t,rfl⟩,fun _=>.int i⟩
end
def eR:ST→List Nat→List D→ST
  | ρ,i::is,d::ds=>eR (ρ.set i (some d)) is ds
  | ρ,_,_=>ρ
def gB (is:List Nat):GTr:=fun d ρ μ k=>match d with
  | .tup ds=>ds.length=is.length∧k (eR ρ is ds) μ
  | _=>False
def zJ (K:PySem.W.Frag)(t:TGs)(is:List Nat):Prop:=∀ σ H ρ μ vs ds (k:ST→Mu→Prop) (k':L2.St→Hp→Prop),Rl K σ H ρ μ→DpL K H vs ds→ds.length=is.length→k (eR ρ is ds) μ→mU K H k k'→t vs σ H k'
structure LGs (X:Cx) (es:List Expr) (is:List Nat):Prop where
  ex:∃ t,PGs X es t∧zJ X.K t is
section
variable {X:Cx} {e tg:Expr} {es:List Expr} {is:List Nat} {pos:Pos} {x:Str} {Ta:ETr} {G:GTr}
theorem gW:LGs X [] []:=⟨_,vd,fun σ H ρ μ vs ds k k' rl l hl h q=>by
  cases ds with
  | nil=>cases l;exact ⟨rfl,q _ _ _ _ (.refl H) rl h⟩
  | cons=>cases hl⟩
theorem aL (i:Nat)(hN:X.N.Nodup)(h2:LGs X es is)(hi:X.N[i]? = some x:=by rfl)(hx:Loc X.env.scope x:=by first | exact Or.inl rfl | exact Or.inr rfl)(hf:X.fn x=true∨X.env.scope.names.lookup x=some .local:=by first | exact .inl rfl | exact .inr rfl | assumption)
    (hs:(assignEach (.Name x pos::es) X.env).map (·.2)=assign (.Name x pos) X.env::(assignEach es X.env).map (·.2):=by rfl):LGs X (.Name x pos::es) (i::is):=by
  obtain ⟨t,pt,st⟩:=h2.ex
  refine ⟨_,sA (ke hN hi hx hf) pt hs,fun σ H ρ μ vs ds k k' rl l hl h q=>?_⟩
  cases l with
  | nil=>cases hl
  | @cons v d vs ds p l=>exact ⟨v,vs,rfl,st _ H _ μ vs ds k k' (rl.set p i) l (by simpa using hl) h q⟩
theorem kx {k:Nat}(hc:X.calm=true)(h:LGs X es is)(hn:(assignEach es X.env).length=is.length:=by rfl)(hst:(assignEach es X.env).findIdx? (·.1)=none:=by rfl):LG X (.Tuple es k pos) (gB is):=by
  obtain ⟨t,pt,st⟩:=h.ex
  refine ⟨_,zh hc pt hn hst,fun σ H ρ μ v d k k' rl p h q=>?_⟩
  cases p with
  | @tup a xs ds sq l=>exact ⟨a,xs,rfl,sq,by rw[l.length];exact h.1,st σ H ρ μ xs ds k k' rl l h.1 h.2 q⟩
  | _=>exact False.elim h
theorem zf (he:LE X e Ta)(hG:LG X tg G)(hs:swapsWithSole [tg] e pos.line X.env=pure false:=by rfl)(hw:swappedStores [tg] e X.env=pure none:=by rfl)
    (h1:(assignEach [tg] X.env).map (·.2)=[assign tg X.env]:=by rfl):LS X (.Assign [tg] e pos) (aR Ta G):=by
  obtain ⟨ta,pa,sa⟩:=he.ex
  obtain ⟨g,pg,sg⟩:=hG.ex
  exact ⟨_,rP pa pg hs hw h1,fun σ H ρ μ E E' rl h k=>sa σ H ρ μ _ _ rl h fun v H' d μ' t' m' p' h'=>sg σ H' ρ μ' v d _ _ (rl.go t' m') p' h' (k.go t').nx⟩
end
end
section
open PySem PySem.Spec PyProof.Rows L2
def qI (tp:Bool)(h:Heap)(it a:Addr)(i:Nat):Prop:=match tp with
  | true=>h.IsTupleIter it a i
  | false=>h.IsListIter it a i
def vb (tp:Bool)(h:Heap)(a:Addr)(xs:Array Value):Prop:=match tp with
  | true=>h.IsTuple a xs
  | false=>h.IsList a xs
theorem qI.at {tp:Bool}{h g:Heap}{it a:Addr}{i:Nat}(x:qI tp h it a i)(k:∀ o,h.get? it=some o→g.get? it=some o):qI tp g it a i:=by
  cases tp with
  | true=>obtain ⟨o,e,r⟩:=x;exact ⟨o,k o e,r⟩
  | false=>obtain ⟨o,e,r⟩:=x;exact ⟨o,k o e,r⟩
theorem vb.at {tp:Bool}{h g:Heap}{a:Addr}{xs:Array Value}(x:vb tp h a xs)(k:∀ o,h.get? a=some o→g.get? a=some o):vb tp g a xs:=by
  cases tp with
  | true=>obtain ⟨o,e,r⟩:=x;exact ⟨o,k o e,r⟩
  | false=>obtain ⟨o,e,r⟩:=x;exact ⟨o,k o e,r⟩
theorem qI.ex {tp:Bool}{h:Heap}{it a:Addr}{i:Nat}(x:qI tp h it a i):∃ o,h.get? it=some o∧∃ vs,o.data=.fields vs:=by
  cases tp with
  | true=>obtain ⟨o,e,_,d⟩:=x;exact ⟨o,e,_,d⟩
  | false=>obtain ⟨o,e,_,d⟩:=x;exact ⟨o,e,_,d⟩
section
variable {prog:Program} {w:World} {A:Around} {E:Value→Shared→Prop} {s:Shared}
end
def Sq (tp:Bool)(K:PySem.W.Frag)(H:Hp)(a:Addr)(xs:List V):Prop:=match tp with
  | true=>SqT K H a xs
  | false=>SqF K H a xs
theorem Inv.sq {X:Cx}{pins:List (Addr×Obj)}{σ:L2.St}{H:Hp}{s:Shared}{tp:Bool}{a:Addr}{xs:List V}(I:Inv X pins σ H s)(h:Sq tp X.K H a xs):∃ its:List Value,Vals xs its∧vb tp s.heap a its.toArray:=by
  cases tp with
  | true=>obtain ⟨its,r,p,_⟩:=I.tuple h;exact ⟨its,r,p⟩
  | false=>
    obtain ⟨its,r,⟨o,n,e1,e2,_,e3⟩,_⟩:=I.list (SqF.sq h)
    exact ⟨its,r,o,e1,e2,n,e3⟩
section
variable {X:Cx} {ea eb:Expr} {es:List Expr} {ek:Nat} {ep p pos:Pos}
theorem Tk.sq {K:PySem.W.Frag}{H H':Hp}{tp:Bool}{a:Addr}{xs:List V}(t:Tk H H')(h:Sq tp K H a xs):Sq tp K H' a xs:=by
  cases tp with
  | true=>exact t.sqT h
  | false=>exact t.sqF h
end
end
section
open PySem PySem.Spec PyProof.Rows L2
def kObj (x:D)(f:Addr→Prop):Prop:=match x with
  | .obj a=>f a
  | _=>False
theorem hX (a:Addr)(f):kObj (.obj a) f=f a:=rfl
section
variable {X:Cx} {o a b c e:Expr} {To Ta Tb Tc Te T T':ETr} {pos:Pos}
theorem Ab {K:PySem.W.Frag}{H:Hp}{μ:Mu}{q:Addr}{u:HO}(m:bD K H μ)(t:Tk H (L2.upd H q u)):bD K (L2.upd H q u) (dn μ q):=fun z y ez=>by
  have zq:z≠q:=fun w=>by subst w;unfold dn at ez;rw[if_pos rfl] at ez;cases ez
  have ez':μ z=some y:=by unfold dn at ez;rw[if_neg zq] at ez;exact ez
  exact (m z _ ez').ne t zq
theorem iY {H:Hp}{q:Addr}{u:HO}{xs:List V}(ex:H q=some (.lst xs)):Tk H (L2.upd H q u):=
  .upd (fun ys z=>by rw[ex] at z;cases z) fun o' w z=>by rw[ex] at z;cases z
theorem wW {K:PySem.W.Frag}{H:Hp}{μ:Mu}{q:Addr}{xs ys:List V}{ds:List D}(m:bD K H μ)(ex:H q=some (.lst xs))(l:DpL K H ys ds):bD K (L2.upd H q (.lst ys)) (up μ q (.lst ds)):=fun z y ez=>by
  by_cases zq:z=q
  · subst zq
    rw[aP] at ez;cases ez
    exact ⟨ys,aI,l.mono (iY ex)⟩
  · rw[bN zq] at ez
    exact (m z _ ez).ne (iY ex) zq
def jt (T:ETr):ETr:=fun ρ μ Q=>T ρ μ fun x μ1=>kObj x fun a=>kL μ1 a fun ds=>Q (.ls ds) (dn μ1 a)
theorem iA (h:LE X e T):LE X e (jt T):=by
  obtain ⟨t,p,s⟩:=h.ex
  refine ⟨_,iZ p,fun σ H ρ μ Q Q' rl h k=>s σ H ρ μ _ _ rl h fun v H1 d μ1 t1 m1 p1 h1=>?_⟩
  cases p1 with
  | obj q=>
    obtain ⟨ds,e0,h2⟩:=bQ h1
    obtain ⟨xs,ex,l⟩:=m1 q _ e0
    refine ⟨q,xs,rfl,ex,fun u=>?_⟩
    have t2:Tk H1 (L2.upd H1 q (.frz u (.lst xs))):=iY ex
    exact k _ _ _ (dn μ1 q) (t1.trans t2) (Ab m1 t2) (.ls (.inl ⟨u,aI⟩) (l.mono t2)) h2
  | _=>exact False.elim h1
def ik (To Te:ETr):ETr:=fun ρ μ Q=>To ρ μ fun x μ1=>kObj x fun a=>kL μ1 a fun _=>Te ρ μ1 fun y μ2=>kL μ2 a fun ds=>ds.length < 1000000∧Q .non (up μ2 a (.lst (ds++[y])))
theorem le_app {apos cpos:Pos}(ho:LE X o To)(he:LE X e Te)
    (hbase:attributeBase o (Str.ofString "append") X.env (eval o X.env)=eval o X.env:=by rfl)
    (hfew:((backTo cpos (starEach [e] X.env)).all (fun x=>!x.1)&&(backToKw cpos (keywordEach [] X.env)).all (fun x=>x.1.isSome)
      && decide ([e].length+([]:List Keyword).length+(if ([]:List Keyword).isEmpty then 0 else 1) < 30))=true:=by rfl)
    (hline:(apos.endLine == cpos.line)=true:=by rfl) (hs:starEach [e] X.env=(false,eval e X.env)::starEach [] X.env:=by rfl) (hplain:(backTo cpos (starEach [] X.env)).any (·.1)=false:=by rfl) :
    LE X (.Call (.Attribute o (Str.ofString "append") apos) [e] [] cpos) (ik To Te):=by
  obtain ⟨to,po,so⟩:=ho.ex
  obtain ⟨te,pe,se⟩:=he.ex
  refine ⟨_,wB PySem.F.plainAttrs_list PySem.F.slot_list_append PySem.F.type_list_append j8 po (cf pe eL hs) hbase hfew hline hs hplain,fun σ H ρ μ Q Q' rl h k=>so σ H ρ μ _ _ rl h fun x H1 dx μ1 t1 m1 p1 h1=>?_⟩
  cases p1 with
  | obj q=>
    obtain ⟨ds0,e0,h2⟩:=bQ h1
    obtain ⟨xs0,ex0,_⟩:=m1 q _ e0
    refine ⟨.inl ⟨rfl,_,SqL.of ex0⟩,se σ H1 ρ μ1 _ _ (rl.go t1 m1) h2 fun y H2 dy μ2 t2 m2 p2 h3=>?_⟩
    obtain ⟨ds,e1,lz,h4⟩:=bQ h3
    obtain ⟨xs,ex,l⟩:=m2 q _ e1
    exact ⟨q,xs,y,rfl,rfl,ex,by rw[l.length];exact Nat.lt_of_lt_of_le lz (by decide),k _ _ _ _ ((t1.trans t2).trans (iY ex)) (wW m2 ex (l.append (.cons p2 .nil))) .non h4⟩
  | _=>exact False.elim h1
def bW:FSp:=fun ds μ Q=>match ds with
  | [.tup xs]=>Q (.tup xs) μ
  | [.ls xs]=>Q (.tup xs) μ
  | [.obj a]=>kL μ a fun xs=>Q (.tup xs) μ
  | _=>False
theorem cU {K:PySem.W.Frag}:mS K (fun xs H Q=>∃ p ys,xs=[.ref p]∧((SqL K H p ys∧∀ l,H l=none→Q (.ref l) (L2.upd H l (.tup ys)))∨(SqT K H p ys∧Q (.ref p) H))) bW:=fun H μ xs ds Q Q' m p h k=>by
  unfold bW at h
  split at h
  · cases p with | cons p1 p2=>cases p2;cases p1 with | tup q l=>exact ⟨_,_,rfl,.inr ⟨q,k _ H _ μ (.refl H) m (.tup q l) h⟩⟩
  · cases p with | cons p1 p2=>cases p2;cases p1 with | ls q l=>exact ⟨_,_,rfl,.inl ⟨q.sq,fun z hz=>k _ _ _ μ (.new hz) (cK m hz) (.tup (SqT.of aI) (l.mono (.new hz))) h⟩⟩
  · rename_i q
    cases p with | cons p1 p2=>
    cases p2;cases p1
    obtain ⟨ys,e0,h⟩:=bQ h
    obtain ⟨xs,ex,l⟩:=m q _ e0
    exact ⟨_,_,rfl,.inl ⟨SqL.of ex,fun z hz=>k _ _ _ μ (.new hz) (cK m hz) (.tup (SqT.of aI) (l.mono (.new hz))) h⟩⟩
  · exact False.elim h
def n6:FSp:=fun ds μ Q=>match ds with
  | [.tup xs]=>∀ p,μ p=none→Q (.obj p) (up μ p (.lst xs))
  | [.ls xs]=>∀ p,μ p=none→Q (.obj p) (up μ p (.lst xs))
  | [.obj a]=>kL μ a fun xs=>∀ p,μ p=none→Q (.obj p) (up μ p (.lst xs))
  | _=>False
def nE:FSp:=fun ds μ Q=>match ds with
  | [.tup xs]=>Q (.ls xs) μ
  | [.ls xs]=>Q (.ls xs) μ
  | [.obj a]=>kL μ a fun xs=>Q (.ls xs) μ
  | _=>False
def Am (Q:VK):VK:=fun v H1=>∃ a xs,v=.ref a∧H1 a=some (.lst xs)∧∀ o,Q v (L2.upd H1 a (.frz o (.lst xs)))
theorem kz {K:PySem.W.Frag}{H:Hp}{μ:Mu}{ys:List V}{ds:List D}{Q:DK}{Q':VK}{z:Addr}(m:bD K H μ)(l:DpL K H ys ds)(h:Q (.ls ds) μ)(k:eH K H Q Q')(hz:H z=none):Am Q' (.ref z) (L2.upd H z (.lst ys)):=
  ⟨z,ys,rfl,aI,fun o=>by
    have e:L2.upd (L2.upd H z (.lst ys)) z (.frz o (.lst ys))=L2.upd H z (.frz o (.lst ys)):=kW
    rw[e]
    exact k _ _ _ μ (.new hz) (cK m hz) (.ls (.inl ⟨o,aI⟩) (l.mono (.new hz))) h⟩
def dF:D→Bool
  | .non=>true
  | .bl _=>true
  | .int _=>true
  | .str _=>true
  | _=>false
def inD (x:D)(xs:List D):Bool:=xs.any fun y=>eqD y x
def rIn (neg:Bool):DR2:=fun x y μ Q=>match y with
  | .tup xs=>(dF x=true∧xs.all dF=true)∧Q (.bl (if neg then !inD x xs else inD x xs)) μ
  | .ls xs=>(dF x=true∧xs.all dF=true)∧Q (.bl (if neg then !inD x xs else inD x xs)) μ
  | .obj a=>kL μ a fun xs=>(dF x=true∧xs.all dF=true)∧Q (.bl (if neg then !inD x xs else inD x xs)) μ
  | _=>False
end
end
section
open PySem PySem.Spec PyProof.Rows L2
section
variable {X:Cx} {a b e:Expr} {Ta Tb T:ETr} {pos:Pos}
def zY (t:TE):TE:=fun σ H Q=>t σ H fun v H1=>Q v H1∨Am Q v H1
theorem pS {t:TE}(h:PE X e t):PE X e (zY t):=by
  have g:PE X e (fun σ H Q=>∃ P:VK,zU t σ H P∧∀ v H',P v H'→Q v H'):=fun pins s σ H Q I ⟨P,hP,k⟩=>
    thn (iZ h pins s σ H P I hP) fun u s1 ⟨v,H1,I1,r,q⟩=>⟨v,H1,I1,r,k _ _ q⟩
  intro pins s σ H Q I hh
  refine thn (h pins s σ H _ I hh) fun u s1 ⟨v,H1,I1,r,q⟩=>?_
  rcases q with q | ⟨c,xs,rfl,ec,q⟩
  · exact ⟨v,H1,I1,r,q⟩
  · have hz:=I1.hok c _ ec
    obtain ⟨z,its,n,rv,hg⟩:=hz
    have nl:∀ d o,H1 d=some o→(∀ ys,o≠.lst ys)→d≠c:=fun d o e1 e2 w=>by subst w;rw[ec] at e1;cases e1;exact e2 _ rfl
    refine ⟨.ref c,_,I1.un (h':=s1.heap) (t':=s1.toks) (H':=L2.upd H1 c (.frz { cls:=.type "list", data:=.seq its.toArray n } (.lst xs))) ⟨fun d o e _ _ _=>e,fun d o e _ _ _=>⟨o.slots,e⟩,fun d o e w _=>?_,fun d o e _=>⟨o,e⟩,fun d ys e=>?_,fun d o u e=>?_,fun d ps e=>⟨#[],?_⟩⟩ (fun d u e=>?_),r,q _⟩
    · rw[aC (fun z=>by subst z;rw[ec] at w;cases w)];exact w
    · rw[aC (nl d _ e (fun _=>nofun))];exact e
    · rw[aC (nl d _ e (fun _=>nofun))];exact e
    · rw[aC (nl d _ e (fun _=>nofun)),e];simp
    · by_cases hd:d=c
      · subst hd
        rw[aI] at e;cases e
        exact ⟨hg,z,its,n,rv,hg⟩
      · rw[aC hd] at e
        refine (I1.hok d u e).kY (fun k w _ q=>q) (fun k q=>?_) fun k ys q=>?_
        · rw[aC (nl k _ q (fun _=>nofun))];exact q
        · rw[aC (nl k _ q (fun _=>nofun))];exact q
def wD (K:PySem.W.Frag):R2:=fun x y H Q=>∃ p q ys,x=.ref p∧y=.ref q∧SqT K H p []∧SqT K H q ys∧Q (.ref q) H
theorem vE:OpR X (binaryOp .Add) (wD X.K):=fun pins s σ H x y v u Q I rx ry ⟨p,q,ys,e1,e2,hp,hq,h⟩=>by
  subst e1 e2
  cases rx
  cases ry
  obtain ⟨its,r1,p1,_⟩:=I.tuple hp
  obtain ⟨its2,r2,p2,_⟩:=I.tuple hq
  cases r1
  obtain ⟨⟨c1,d1,t1,l1⟩,ho,hc,n,hd⟩:=id p1
  obtain ⟨⟨c2,d2,t2,l2⟩,ho2,hc2,n2,hd2⟩:=id p2
  simp only at hc hd hc2 hd2
  subst hc hd hc2 hd2
  exact concat_meets ⟨_,ho,rfl⟩ ⟨_,ho2,rfl⟩ noFill_tuple_add seq_tuple_add PySem.F.slot_tuple_add PySem.F.entry_tuple_add (PySem.F.args_tuple_add_2 _ _)
    (tuple_addW0 p q #[] its2.toArray n n2 d1 d2 l1 l2 rfl) ⟨ho,ho2,⟨.ref q,H,I,rfl,h⟩⟩
def wK (K:PySem.W.Frag):R2:=fun x y H Q=>∃ p q xs ys,x=.ref p∧y=.ref q∧SqL K H p xs∧SqL K H q ys∧xs.length+ys.length≤sizeLine∧∀ z,H z=none→Q (.ref z) (L2.upd H z (.lst (xs++ys)))
theorem wb:OpR X (binaryOp .Add) (wK X.K):=fun pins s σ H x y v u Q I rx ry ⟨p,q,xs,ys,e1,e2,hp,hq,hz,h⟩=>by
  subst e1 e2
  cases rx
  cases ry
  obtain ⟨its,r1,p1,_⟩:=I.list hp
  obtain ⟨its2,r2,p2,_⟩:=I.list hq
  obtain ⟨⟨c1,d1,t1,l1⟩,n,ho,hc,hx,hd⟩:=id p1
  obtain ⟨⟨c2,d2,t2,l2⟩,n2,ho2,hc2,hx2,hd2⟩:=id p2
  simp only at hc hd hc2 hd2
  subst hc hd hc2 hd2
  have z1:=r1.length
  have z2:=r2.length
  refine concat_meets ⟨_,ho,rfl⟩ ⟨_,ho2,rfl⟩ PySem.noFill_list_add PySem.seq_list_add PySem.F.slot_list_add PySem.F.entry_list_add (PySem.F.args_list_add_2 _ _)
    (list_addW p q its.toArray its2.toArray n n2 d1 d2 l1 l2 (by rw[List.size_toArray,List.size_toArray];omega)) ⟨ho,ho2,?_⟩
  have ea:its.toArray++its2.toArray=(its++its2).toArray:=by simp
  rw[ea]
  exact ⟨.ref _,_,I.Bi (t':=s.toks) (r1.append r2) (by rw[List.length_append];omega),rfl,h _ I.fresh⟩
def aG:DR2:=fun x y μ Q=>match x,y with
  | .int i,.int j=>Q (.int (i+j)) μ
  | .str i,.str j=>i.length+j.length≤1000000∧Q (.str (i++j)) μ
  | .tup a,.tup b=>a.length+b.length≤1000000∧Q (.tup (a++b)) μ
  | .ls a,.ls b=>a.length+b.length≤1000000∧Q (.ls (a++b)) μ
  | _,_=>False
def rPl (K:PySem.W.Frag):R2:=fun x y H Q=>(rI0 fun i j=>.int (i+j)) x y H Q∨(∃ i j,x=.str i∧y=.str j∧i.length+j.length≤sizeLine∧Q (.str (i++j)) H)∨wo K x y H Q∨wD K x y H Q∨wK K x y H Q
theorem vI:OpR X (binaryOp .Add) (rPl X.K):=fun pins s σ H x y v u Q I rx ry h=>by
  rcases h with h | h | h | h | h
  · exact yE pins s σ H x y v u Q I rx ry h
  · exact oE pins s σ H x y v u Q I rx ry h
  · exact uI pins s σ H x y v u Q I rx ry h
  · exact vE pins s σ H x y v u Q I rx ry h
  · exact wb pins s σ H x y v u Q I rx ry h
theorem aA (ha:LE X a Ta)(hb:LE X b Tb):LE X (.BinOp a .Add b pos) (aq aG Ta Tb):=by
  obtain ⟨ta,pa,sa⟩:=ha.ex
  obtain ⟨tb,pb,sb⟩:=hb.ex
  refine ⟨_,pS (wR vI pa pb),fun σ H ρ μ Q Q' rl h k=>sa σ H ρ μ _ _ rl h fun x H1 dx μ1 t1 m1 p1 h1=>sb σ H1 ρ μ1 _ _ (rl.go t1 m1) h1 fun y H2 dy μ2 t2 m2 p2 h2=>?_⟩
  have p1:=p1.mono t2
  have k:=k.go (t1.trans t2)
  cases p1 with
  | int i=>
    cases p2 with
    | int j=>exact .inl ⟨i,j,rfl,rfl,.inl (k _ H2 _ μ2 (.refl H2) m2 (.int _) h2)⟩
    | _=>exact False.elim h2
  | str i=>
    cases p2 with
    | str j=>exact .inr (.inl ⟨i,j,rfl,rfl,big h2.1,.inl (k _ H2 _ μ2 (.refl H2) m2 (.str _) h2.2)⟩)
    | _=>exact False.elim h2
  | @tup q xs ds sq l=>
    cases p2 with
    | @tup q' ys es sq' l'=>
      obtain ⟨hz,h3⟩:=h2
      by_cases hx:xs=[]
      · subst hx
        cases l
        exact .inr (.inr (.inr (.inl ⟨q,q',ys,rfl,rfl,sq,sq',.inl (k _ H2 _ μ2 (.refl H2) m2 (.tup sq' l') h3)⟩)))
      · refine .inr (.inr (.inl ⟨q,q',xs,ys,rfl,rfl,sq,sq',hx,by rw[l.length,l'.length];exact big hz,fun hy=>?_,fun _ z hzn=>.inl ?_⟩))
        · subst hy
          cases l'
          rw[List.append_nil] at h3
          exact .inl (k _ H2 _ μ2 (.refl H2) m2 (.tup sq l) h3)
        · exact k _ _ _ μ2 (.new hzn) (cK m2 hzn) (.tup (SqT.of aI) ((l.append l').mono (.new hzn))) h3
    | _=>exact False.elim h2
  | @ls q xs ds sq l=>
    cases p2 with
    | @ls q' ys es sq' l'=>exact .inr (.inr (.inr (.inr ⟨q,q',xs,ys,rfl,rfl,sq.sq,sq'.sq,by rw[l.length,l'.length];exact big h2.1,fun z hz=>.inr (kz m2 (l.append l') h2.2 k hz)⟩)))
    | _=>exact False.elim h2
  | _=>cases p2<;>exact False.elim h2
abbrev OTr:=ST→Mu→(Option Int→Mu→Prop)→Prop
def ONo:OTr:=fun _ μ Q=>Q none μ
def lq (T:ETr):OTr:=fun ρ μ Q=>T ρ μ fun x μ1=>kI x fun i=>Q (some i) μ1
def By (K:PySem.W.Frag)(t:TO)(T:OTr):Prop:=∀ σ H ρ μ (Q:Option Int→Mu→Prop) (Q':Option Int→Hp→Prop),Rl K σ H ρ μ→T ρ μ Q→(∀ i H' μ',Tk H H'→bD K H' μ'→Q i μ'→Q' i H')→t σ H Q'
structure LO (X:Cx) (o:Option Expr) (T:OTr):Prop where
  ex:∃ t,PO X o t∧By X.K t T
theorem wA:LO X none ONo:=⟨_,vv,fun σ H ρ μ Q Q' rl h k=>k none H μ (.refl H) rl.mu h⟩
theorem kG (h:LE X e T):LO X (some e) (lq T):=by
  obtain ⟨t,p,s⟩:=h.ex
  refine ⟨_,vD p,fun σ H ρ μ Q Q' rl h k=>s σ H ρ μ _ _ rl h fun v H1 d μ1 t1 m1 p1 h1=>?_⟩
  cases p1 with
  | int i=>exact ⟨i,rfl,k _ H1 μ1 t1 m1 h1⟩
  | _=>exact False.elim h1
def cutD {α:Type}(xs:List α)(lo hi:Option Int):List α:=(xs.drop (HT.sIx xs.length 0 lo)).take (HT.sIx xs.length xs.length hi - HT.sIx xs.length 0 lo)
theorem oG {α:Type}{xs:List α}{lo hi:Option Int}(h:HT.sIx xs.length 0 lo=0∧HT.sIx xs.length xs.length hi=xs.length):cutD xs lo hi=xs:=by
  unfold cutD;rw[h.1,h.2];simp
theorem DpL.take {K:PySem.W.Frag}{H:Hp}:∀ {vs:List V} {ds:List D} (n:Nat),DpL K H vs ds→DpL K H (vs.take n) (ds.take n)
  | _,_,0,_=>.nil
  | _,_,_+1,.nil=>.nil
  | _,_,n+1,.cons h l=>.cons h (DpL.take n l)
theorem DpL.drop {K:PySem.W.Frag}{H:Hp}:∀ {vs:List V} {ds:List D} (n:Nat),DpL K H vs ds→DpL K H (vs.drop n) (ds.drop n)
  | _,_,0,l=>l
  | _,_,_+1,.nil=>.nil
  | _,_,n+1,.cons _ l=>DpL.drop n l
theorem DpL.cut {K:PySem.W.Frag}{H:Hp}{vs:List V}{ds:List D}(lo hi:Option Int)(l:DpL K H vs ds):DpL K H (lV vs lo hi) (cutD ds lo hi):=by
  unfold lV cutD;rw[l.length];exact (l.drop _).take _
theorem lW {prog:Program}{w:World}{A:Around}{E:Value→Shared→Prop}{s:Shared}{t sl:Addr}{items:Array Value}{vl vu:Value}{lo hi:Option Int}{Q:Value→Shared→Prop}(ht:IsTup s.heap t items)(hs:s.heap.IsSliceOf sl vl vu .none)(pl:IsPart vl lo)(pu:IsPart vu hi)
    (hw:HT.sIx items.size 0 lo=0∧HT.sIx items.size items.size hi=items.size) (h:Q (.ref t) s):wpAny (model prog w) A (getItem (.ref t) (.ref sl)) Q E s:=by
  obtain ⟨os,hos,hcs,hds⟩:=id hs
  have hTs:s.TypeIs (.ref sl) "slice" := ⟨os,hos,hcs⟩
  unfold getItem
  try with_reducible refine wpAny_holding ?_
  first | refine wpAny_bind (wpAny_pure ?_) | skip
  refine wpAny_bind (wpAny_sequenceKey ht.typeIs (by decide) ?_)
  refine wpAny_bind (wpAny_callSpecial?_slot (name:=Str.ofString "__getitem__") ht.typeIs PyProof.Rows.slot_tuple_getitem (wpAny_call_entry PyProof.Rows.slot_tuple_getitem ht.typeIs entry_tuple_getitem ?_ (args_tuple_getitem _ _)))
  show wpAny _ _ (Builtin.Tuple.tupleItemsOf (.ref t) >>= _) _ _ s
  refine wpAny_bind (tupleItemsOf_ ht ?_)
  refine wpAny_bind <| wpAny_typeOf hTs ?_
  rw[if_pos (by decide)]
  refine wpAny_bind (HT.cS hs pl pu ?_)
  rw[hw.1,hw.2]
  refine (show wpAny _ _ (if (((0:Nat):Int) == 0&&(1:Int) == 1&&(items.size - 0) == items.size)=true then _ else _) _ _ s from ?_)
  rw[if_pos (by simp)]
  unfold Builtin.Tuple.tupleIsExact
  refine wpAny_bind (wpAny_bind (wpAny_typeOf ht.typeIs (wpAny_pure ?_)))
  rw[if_pos (by decide)]
  first
    | exact wpAny_bind (wpAny_rule (wpAny_bind (wpAny_pure (wpAny_pure ⟨_,rfl,wpAny_pure h⟩))))
    | exact wpAny_bind (wpAny_rule (wpAny_pure ⟨_,rfl,wpAny_pure h⟩))
    | exact wpAny_bind (wpAny_bind (wpAny_rule (wpAny_pure (wpAny_pure ⟨_,rfl,wpAny_pure h⟩))))
def Bq (K:PySem.W.Frag):V→Option Int→Option Int→Hp→VK→Prop:=fun x lo hi H Q=>∃ a xs,x=.ref a∧SqT K H a xs∧(HT.sIx xs.length 0 lo=0∧HT.sIx xs.length xs.length hi=xs.length)∧Q (.ref a) H
theorem tS:SlR X (Bq X.K):=fun pins s σ H x v vl vu lo hi sl Q I rx hs pl pu ⟨q,xs,e,hx,hw,h⟩=>by
  subst e
  cases rx
  obtain ⟨its,r,ht,_⟩:=I.tuple hx
  have hlen:its.toArray.size=xs.length:=by rw[List.size_toArray];exact r.length.symm
  exact ⟨"tuple", _,PyProof.Rows.slot_tuple_getitem.lookup,ht.typeIs,lW ht hs pl pu (by rw[hlen];exact hw) ⟨.ref q,H,I,rfl,h⟩⟩
def rSl:D→Option Int→Option Int→Mu→DK→Prop:=fun x lo hi μ Q=>match x with
  | .tup xs=>Q (.tup (cutD xs lo hi)) μ
  | .ls xs=>Q (.ls (cutD xs lo hi)) μ
  | .obj a=>kL μ a fun xs=>Q (.ls (cutD xs lo hi)) μ
  | _=>False
def TSl (a:ETr)(lo hi:OTr):ETr:=fun ρ μ Q=>a ρ μ fun x μ1=>lo ρ μ1 fun l μ2=>hi ρ μ2 fun h μ3=>rSl x l h μ3 Q
theorem rq {lo hi:Option Expr}{Tl Th:OTr}{p2:Pos}(ha:LE X a Ta)(hl:LO X lo Tl)(hh:LO X hi Th):LE X (.Subscript a (.Slice lo hi none p2) pos) (TSl Ta Tl Th):=by
  obtain ⟨ta,pa,sa⟩:=ha.ex
  obtain ⟨tl,pl,sl⟩:=hl.ex
  obtain ⟨th,ph,sh⟩:=hh.ex
  refine ⟨_,pS (tR (SlR.or tS (SlR.or xI uR)) pa pl ph),fun σ H ρ μ Q Q' rl h k=>sa σ H ρ μ _ _ rl h fun x H1 dx μ1 t1 m1 p1 h1=>sl σ H1 ρ μ1 _ _ (rl.go t1 m1) h1 fun i H2 μ2 t2 m2 h2=>sh σ H2 ρ μ2 _ _ (rl.go (t1.trans t2) m2) h2 fun j H3 μ3 t3 m3 h3=>?_⟩
  have p1:=p1.mono (t2.trans t3)
  have k:=k.go (t1.trans (t2.trans t3))
  cases p1 with
  | @tup q xs ds sq l=>
    by_cases hw:HT.sIx xs.length 0 i=0∧HT.sIx xs.length xs.length j=xs.length
    · refine .inl ⟨q,xs,rfl,sq,hw,.inl (k _ H3 _ μ3 (.refl H3) m3 (.tup sq l) ?_)⟩
      rw[l.length] at hw
      have h3:Q (.tup (cutD ds i j)) μ3:=h3
      rw[oG hw] at h3;exact h3
    · exact .inr (.inl ⟨q,xs,rfl,sq,hw,fun z hz=>.inl (k _ _ _ μ3 (.new hz) (cK m3 hz) (.tup (SqT.of aI) ((l.cut i j).mono (.new hz))) h3)⟩)
  | @ls q xs ds sq l=>exact .inr (.inr ⟨q,xs,rfl,sq.sq,fun z hz=>.inr (kz m3 (l.cut i j) h3 k hz)⟩)
  | obj q=>
    obtain ⟨ds,e0,h4⟩:=bQ h3
    obtain ⟨xs,ex,l⟩:=m3 q _ e0
    exact .inr (.inr ⟨q,xs,rfl,SqL.of ex,fun z hz=>.inr (kz m3 (l.cut i j) h4 k hz)⟩)
  | _=>exact False.elim h3
theorem uY {α:Type}(xs:List α)(k:Nat):cutD xs none (some (k:Int))=xs.take k:=by
  unfold cutD
  rw[HT.mm,HT.pC,List.drop_zero,Nat.sub_zero]
  rcases Nat.le_total k xs.length with h | h
  · rw[Nat.min_eq_left h]
  · rw[Nat.min_eq_right h,List.take_length,List.take_of_length_le h]
theorem qC {α:Type}(xs:List α)(k:Nat):cutD xs (some (k:Int)) none=xs.drop k:=by
  unfold cutD
  rw[HT.mm,HT.pC]
  rcases Nat.le_total k xs.length with h | h
  · rw[Nat.min_eq_left h,List.take_of_length_le (by rw[List.length_drop];omega)]
  · rw[Nat.min_eq_right h,List.drop_length,List.drop_of_length_le h];simp
end
end
section
open PySem PySem.Spec PyProof.Rows L2
end
section
open PySem PySem.Spec PyProof.Rows L2
theorem _root_.L2.Inv.frz {X:Cx}{pins:List (Addr×Obj)}{σ:L2.St}{H:Hp}{s:Shared}{c:Addr}{xs:List V}(I1:Inv X pins σ H s)(ec:H c=some (.lst xs)):∃ o,Inv X pins σ (L2.upd H c (.frz o (.lst xs))) s:=by
  obtain ⟨z,its,n,rv,hg⟩:=I1.hok c _ ec
  have nl:∀ d o,H d=some o→(∀ ys,o≠.lst ys)→d≠c:=fun d o e1 e2 w=>by subst w;rw[ec] at e1;cases e1;exact e2 _ rfl
  refine ⟨_,I1.un (h':=s.heap) (t':=s.toks) (H':=L2.upd H c (.frz { cls:=.type "list", data:=.seq its.toArray n } (.lst xs))) ⟨fun d o e _ _ _=>e,fun d o e _ _ _=>⟨o.slots,e⟩,fun d o e w _=>?_,fun d o e _=>⟨o,e⟩,fun d ys e=>?_,fun d o u e=>?_,fun d ps e=>⟨#[],?_⟩⟩ (fun d u e=>?_)⟩
  · rw[aC (fun z=>by subst z;rw[ec] at w;cases w)];exact w
  · rw[aC (nl d _ e (fun _=>nofun))];exact e
  · rw[aC (nl d _ e (fun _=>nofun))];exact e
  · rw[aC (nl d _ e (fun _=>nofun)),e];simp
  · by_cases hd:d=c
    · subst hd
      rw[aI] at e;cases e
      exact ⟨hg,z,its,n,rv,hg⟩
    · rw[aC hd] at e
      refine (I1.hok d u e).kY (fun k w _ q=>q) (fun k q=>?_) fun k ys q=>?_
      · rw[aC (nl k _ q (fun _=>nofun))];exact q
      · rw[aC (nl k _ q (fun _=>nofun))];exact q
end
section
open PySem PySem.Spec PyProof.Rows L2
section
variable {X:Cx} {ea:Expr} {es:List Expr} {ek:Nat} {ep p pos:Pos}
def wu (ds:List D):List D:=(List.range ds.length).zipWith (fun i d=>.tup [.int (i:Nat),d]) ds
def zz (t:ATr):ATr:=fun ρ μ Q=>t ρ μ fun vs μ1=>match vs with
  | [.ls ds]=>Q (wu ds) μ1
  | _=>False
variable {eb:Expr} {tg:Expr} {Ta Tb:ETr}
end
end
section
open PySem PySem.Spec PyProof PyProof.Rows L2
section
variable {X:Cx} {a b:Expr} {Ta Tb:ETr} {pos:Pos}
end
end
theorem lD (i j:Int)(μ Q):aG (.int i) (.int j) μ Q=Q (.int (i+j)) μ:=rfl
theorem lC (i j:Str)(μ Q):aG (.str i) (.str j) μ Q=(i.length+j.length≤1000000∧Q (.str (i++j)) μ):=rfl
theorem kg (a b:List D)(μ Q):aG (.tup a) (.tup b) μ Q=(a.length+b.length≤1000000∧Q (.tup (a++b)) μ):=rfl
theorem kK (a b:List D)(μ Q):aG (.ls a) (.ls b) μ Q=(a.length+b.length≤1000000∧Q (.ls (a++b)) μ):=rfl
theorem il (a:List D)(μ Q):bW [.tup a] μ Q=Q (.tup a) μ:=rfl
theorem iT (a:List D)(μ Q):bW [.ls a] μ Q=Q (.tup a) μ:=rfl
theorem g4 (a:Addr)(μ Q):bW [.obj a] μ Q=kL μ a fun xs=>Q (.tup xs) μ:=rfl
theorem g9 (a:List D)(μ Q):nE [.tup a] μ Q=Q (.ls a) μ:=rfl
theorem iH (a:List D)(μ Q):nE [.ls a] μ Q=Q (.ls a) μ:=rfl
theorem iC (a:Addr)(μ Q):nE [.obj a] μ Q=kL μ a fun xs=>Q (.ls xs) μ:=rfl
theorem ij (a:List D)(μ Q):n6 [.tup a] μ Q = ∀ p,μ p=none→Q (.obj p) (up μ p (.lst a)):=rfl
theorem h9 (a:List D)(μ Q):n6 [.ls a] μ Q = ∀ p,μ p=none→Q (.obj p) (up μ p (.lst a)):=rfl
theorem ie (a:Addr)(μ Q):n6 [.obj a] μ Q=kL μ a fun xs=>∀ p,μ p=none→Q (.obj p) (up μ p (.lst xs)):=rfl
theorem sy (a:List D)(lo hi)(μ Q):rSl (.tup a) lo hi μ Q=Q (.tup (cutD a lo hi)) μ:=rfl
theorem sZ (a:List D)(lo hi)(μ Q):rSl (.ls a) lo hi μ Q=Q (.ls (cutD a lo hi)) μ:=rfl
theorem sY (a:Addr)(lo hi)(μ Q):rSl (.obj a) lo hi μ Q=kL μ a fun xs=>Q (.ls (cutD xs lo hi)) μ:=rfl
theorem t8 (n:Bool)(x:D)(a:List D)(μ Q):L3.rIn n x (.tup a) μ Q=((dF x=true∧a.all dF=true)∧Q (.bl (if n then !inD x a else inD x a)) μ):=rfl
theorem q4 (n:Bool)(x:D)(a:List D)(μ Q):L3.rIn n x (.ls a) μ Q=((dF x=true∧a.all dF=true)∧Q (.bl (if n then !inD x a else inD x a)) μ):=rfl
theorem uk (n:Bool)(x:D)(a:Addr)(μ Q):L3.rIn n x (.obj a) μ Q=kL μ a fun xs=>(dF x=true∧xs.all dF=true)∧Q (.bl (if n then !inD x xs else inD x xs)) μ:=rfl
theorem ot (a:Addr)(μ Q):g7 [.obj a] μ Q=kL μ a fun xs=>Q (.int xs.length) μ:=rfl
theorem ny (x:Str)(μ Q):g7 [.str x] μ Q=(x.length≤1000000∧Q (.int x.length) μ):=rfl
theorem sP (μ Q):rIs .non .non μ Q=Q (.bl true) μ:=rfl
theorem rS (i:Int)(μ Q):rIs (.int i) .non μ Q=Q (.bl false) μ:=rfl
theorem sX (i:List D)(μ Q):rIs (.tup i) .non μ Q=Q (.bl false) μ:=rfl
theorem iS (μ Q):dr .non .non μ Q=Q (.bl false) μ:=rfl
theorem jf (i:Int)(μ Q):dr (.int i) .non μ Q=Q (.bl true) μ:=rfl
theorem hU (i:List D)(μ Q):dr (.tup i) .non μ Q=Q (.bl true) μ:=rfl
theorem nj (c:String)(i:List D)(μ Q):fF c (.ls i) μ Q=Q (.bl (aU "list" c)) μ:=rfl
theorem ow (c:String)(i:Str)(μ Q):fF c (.str i) μ Q=Q (.bl (aU "str" c)) μ:=rfl
theorem oN (c:String)(μ Q):fF c .non μ Q=Q (.bl (aU "NoneType" c)) μ:=rfl
theorem bG (k:Nat)(ds:List D):atD ds (k:Int)=ds[k]?:=by
  unfold atD L2.atI L2.ixN
  rw[if_pos (Int.natCast_nonneg k)]
  by_cases h:k < ds.length
  · rw[if_pos (by omega)];simp
  · rw[if_neg (by omega)];simp;omega
theorem pq (ds:List D):atD ds 0=ds[0]?:=bG 0 ds
theorem o7 (ds:List D):atD ds 1=ds[1]?:=bG 1 ds
theorem pA (ds:List D):atD ds 2=ds[2]?:=bG 2 ds
theorem pU (ds:List D):atD ds 3=ds[3]?:=bG 3 ds
theorem pB (ds:List D):atD ds 4=ds[4]?:=bG 4 ds
theorem pF (ds:List D):atD ds 5=ds[5]?:=bG 5 ds
theorem k5 (n k:Nat):L2.ixN n (k:Int)=if k < n then some k else none:=by
  unfold L2.ixN
  rw[if_pos (Int.natCast_nonneg k)]
  by_cases h:k < n
  · rw[if_pos (by omega),if_pos h];simp
  · rw[if_neg (by omega),if_neg h]
theorem pz (n:Nat):L2.ixN n 0=if 0 < n then some 0 else none:=k5 n 0
theorem o8 (n:Nat):L2.ixN n 1=if 1 < n then some 1 else none:=k5 n 1
theorem pR (n:Nat):L2.ixN n 2=if 2 < n then some 2 else none:=k5 n 2
theorem e6:aU "int" "int" = true:=by decide
theorem fo:aU "int" "bool" = false:=by decide
theorem eW:aU "bool" "bool" = true:=by decide
theorem fh:aU "bool" "int" = true:=by decide
theorem fz:aU "tuple" "tuple" = true:=by decide
theorem fk:aU "int" "tuple" = false:=by decide
theorem e9:aU "bool" "tuple" = false:=by decide
theorem fm0 {a n:Int}(h:0 < n):0≤a.fmod n:=Int.fmod_nonneg_of_pos a h
theorem fm1 {a n:Int}(h:0 < n):a.fmod n < n:=Int.fmod_lt_of_pos a h
theorem tj (A B:Prop):kIf true A B=A:=rfl
theorem qP (A B:Prop):kIf false A B=B:=rfl
theorem tF (p:Prop) [Decidable p] (A B:Prop):kIf (decide p) A B=if p then A else B:=by by_cases h:p<;>simp[h,kIf]
theorem ud (c:Bool)(A B:Prop):kIf (!c) A B=kIf c B A:=by cases c<;>rfl
theorem rh (c:Bool)(f):kB (.bl c) f=f c:=rfl
theorem oQ (c:Int)(f):kI (.int c) f=f c:=rfl
theorem k9 (c:D)(f):kO (some c) f=f c:=rfl
theorem nJ (c:List D)(f):kS (.tup c) f=f c:=rfl
theorem ub (c:List D)(f):kS (.ls c) f=f c:=rfl
theorem oF (a b:D)(f):k2 [a,b] f=f a b:=rfl
theorem kA (c:Nat)(f):kN (some c) f=f c:=rfl
theorem oY (μ:Mu)(a:Addr)(ds:List D)(f):kL (up μ a (.lst ds)) a f=f ds:=by unfold kL;rw[aP]
theorem wX {μ:Mu}{a:Addr}{ds:List D}(h:μ a=some (.lst ds))(f):kL μ a f=f ds:=by unfold kL;rw[h]
theorem i8 (a:Addr)(n:Int)(y:D)(μ:Mu)(f):u6 (.obj a) (.int n) y μ f=kL μ a fun ds=>kN (L2.ixN ds.length n) fun j=>f (up μ a (.lst (ds.set j y))):=rfl
theorem nk (i j:Int)(μ Q):oU (.int i) (.int j) μ Q=Q (.int (i - j)) μ:=rfl
theorem nU (i j:Int)(μ Q):e5 (.int i) (.int j) μ Q=(MulOk i j∧Q (.int (i*j)) μ):=rfl
theorem nP (i j:Int)(μ Q):gO (.int i) (.int j) μ Q=(eh j∧Q (.int (i.fdiv j)) μ):=rfl
theorem nR (i j:Int)(μ Q):fb (.int i) (.int j) μ Q=(j≠0∧Q (.int (i.fmod j)) μ):=rfl
theorem nO (i j:Int)(μ Q):oa (.int i) (.int j) μ Q=(hZ i j∧Q (.int (i ^ j.toNat)) μ):=rfl
theorem oS (i:Int)(μ Q):BJ (.int i) μ Q=Q (.int (-i)) μ:=rfl
theorem rm (i j:Int)(μ Q):rLt (.int i) (.int j) μ Q=Q (.bl (decide (i < j))) μ:=rfl
theorem tu (i j:Int)(μ Q):rLe (.int i) (.int j) μ Q=Q (.bl (decide (i≤j))) μ:=rfl
theorem tf (i j:Int)(μ Q):rGt (.int i) (.int j) μ Q=Q (.bl (decide (j < i))) μ:=rfl
theorem rD (i j:Int)(μ Q):rGe (.int i) (.int j) μ Q=Q (.bl (decide (j≤i))) μ:=rfl
theorem sR (x y:D)(μ Q):L3.rEq x y μ Q=((okD 40 x=true∧okD 40 y=true)∧Q (.bl (eqD x y)) μ):=rfl
theorem sD (x y:D)(μ Q):L3.rNe x y μ Q=((okD 40 x=true∧okD 40 y=true)∧Q (.bl (!eqD x y)) μ):=rfl
theorem jb (ds:List D)(i:Int)(μ Q):L3.rIx (.tup ds) (.int i) μ Q=kO (atD ds i) fun d=>Q d μ:=rfl
theorem rL (ds:List D)(i:Int)(μ Q):L3.rIx (.ls ds) (.int i) μ Q=kO (atD ds i) fun d=>Q d μ:=rfl
theorem rG (a:Addr)(i:Int)(μ Q):L3.rIx (.obj a) (.int i) μ Q=kL μ a fun ds=>kO (atD ds i) fun d=>Q d μ:=rfl
theorem og (c:String)(i:Int)(μ Q):fF c (.int i) μ Q=Q (.bl (aU "int" c)) μ:=rfl
theorem oK (c:String)(i:Bool)(μ Q):fF c (.bl i) μ Q=Q (.bl (aU "bool" c)) μ:=rfl
theorem oO (c:String)(i:List D)(μ Q):fF c (.tup i) μ Q=Q (.bl (aU "tuple" c)) μ:=rfl
theorem n5 (i:Int)(μ Q):nr [.int i] μ Q=Q (.int (if i < 0 then -i else i)) μ:=rfl
theorem nt (i j:Int)(μ Q):zB [.int i,.int j] μ Q=Q (.int (if j > i then j else i)) μ:=rfl
theorem oe (i j:Int)(μ Q):zF [.int i,.int j] μ Q=Q (.int (if j < i then j else i)) μ:=rfl
theorem nX (i:Int)(μ Q):p9 [.int i] μ Q=Q (.int i) μ:=rfl
theorem nT (i:Bool)(μ Q):p9 [.bl i] μ Q=Q (.int (if i then 1 else 0)) μ:=rfl
theorem oH (i:List D)(μ Q):g7 [.tup i] μ Q=Q (.int i.length) μ:=rfl
theorem nV (i:List D)(μ Q):g7 [.ls i] μ Q=Q (.int i.length) μ:=rfl
local macro_rules | `(tactic| walk_at "rd")=>`(tactic| try simp only[ah,TC,aq,TUn,sW,xw,rC,TB,xJ,TOr,lT,nQ,oj,au,ae,a7,cD,gP,av,bL,aH,nh,sC,cQ,br,sI,cP,aw,aR,nK,cO,i9,cn,eA, 
  tj,qP,tF,ud,rh,oQ,k9,nJ,ub,oF,kA,oY,i8,lD,lC,kg,kK,ik,hX,jt,il,iT,g4,g9,iH,iC,ij,h9,ie,TSl,ONo,lq,sy,sZ,sY,t8,q4,uk,ot,ny,sP,rS,sX,iS,jf,hU,nj,ow,oN,nk,nU,nP,nR,nO,oS,rm,tu,tf,rD,sR,sD,jb,rL,rG,og,oK,oO,n5,nt,oe,nX,nT,oH,nV,
  lk,ini,List.map,List.length,List.replicate,List.append,List.set,List.cons_append,List.nil_append,Nat.sub_self,Nat.reduceSub,Nat.reduceAdd,
  pq,o7,pA,pU,pB,pF,pz,o8,pR,List.getElem?_cons_zero,List.getElem?_cons_succ,aP,Nat.reduceLT,Nat.reduceLeDiff,if_true,if_false,true_and,and_true,Bool.not_true,Bool.not_false,Nat.lt_add_one,Nat.zero_lt_succ,Nat.succ_lt_succ_iff,Nat.zero_lt_one,
  decide_eq_true_eq,Bool.false_eq_true,ite_false,ite_true,ne_eq,not_false_eq_true,Int.reduceToNat,Int.reducePow,Int.reduceNeg,Int.reduceSub,Int.reduceAdd,Int.reduceMul,Int.reduceEq,okD,bU,eqD,eM,Bool.and_self,Bool.and_true,Bool.true_and,e6,fo,eW,fh,fz,fk,e9])
local macro_rules | `(tactic| walk_at "ok")=>`(tactic| (simp only[L3.eh,L3.MulOk,L3.S64,L3.cG,L3.hZ] at *;omega))
def Box (μ:Mu)(b:Addr):Prop:=∃ g s c:Int,μ b=some (.lst [.int g,.int s,.int c])∧0≤s∧s < 2147483647
structure bE (b:Addr) (μ μ':Mu):Prop where
  box:Box μ' b
  oth:∀ a,a≠b→μ' a=μ a
theorem bE.trans {b:Addr}{μ μ1 μ2:Mu}(x:bE b μ μ1)(y:bE b μ1 μ2):bE b μ μ2:=⟨y.box,fun a h=>(y.oth a h).trans (x.oth a h)⟩
theorem qR (x y:Int):Int.gcd y (x.fmod y)=Int.gcd x y:=by
  rw[Int.fmod_def,Int.gcd_sub_mul_left_right,Int.gcd_comm]
def mz (i:Nat):ST→Mu→Nat:=fun ρ _=>match lk ρ i with
  | some (.int z)=>z.toNat
  | _=>0
structure Fr (p q:Int):Prop where
  q0:0 < q
  q1:q < 100000000000
  p0:-100000000000 < p
  p1:p < 100000000000
  g:Int.gcd p q=1
theorem b6 {a b:Int}(h:0 < b):a.fdiv b=a / b:=Int.fdiv_eq_ediv_of_nonneg a (Int.le_of_lt h)
theorem sM {ns:List Int}{k:Int}(h0:0≤k)(h1:k < (ns.length:Int)):∃ z,atD (ns.map D.int) k=some (.int z):=by
  rcases Int.eq_ofNat_of_zero_le h0 with ⟨j,rfl⟩
  rw[bG]
  have hj:j < ns.length:=by omega
  exact ⟨ns[j],by simp[hj]⟩
theorem g8 {lo:Int}{n:Nat}{d:D}(h:d∈dX lo n):∃ k:Int,d=.int k∧lo≤k∧k < lo+n:=by
  unfold dX at h
  rcases List.mem_map.mp h with ⟨i,hi,rfl⟩
  have:=List.mem_range.mp hi
  exact ⟨_,rfl,by omega,by omega⟩
def bS:FSp:=fun ds μ Q=>match ds with
  | [.ls xs]=>(∃ ns:List Int,xs=ns.map .int∧ns.length≤63)∧∀ μ',Q (.bl true) μ'
  | _=>False
theorem kU:∀ ds μ Q,bS ds μ Q→ds.length=1:=by
  unfold bS
  walk_at "ln"
theorem fB (ns:List Int)(h:ns.length≤63)(μ:Mu):bS [.ls (ns.map .int)] μ (fun d _=>d=.bl true):=⟨⟨ns,rfl,h⟩,fun _=>rfl⟩
local macro_rules | `(tactic| walk_at "rd")=>`(tactic| try simp only[ah,TC,aq,TUn,sW,xw,rC,TB,xJ,TOr,lT,nQ,oj,au,ae,a7,cD,gP,av,bL,aH,nh,sC,cQ,br,sI,cP,aw,aR,nK,cO,i9,cn,eA,cW,fj,jF,eZ,A2,ILs,
  tj,qP,tF,ud,rh,oQ,k9,nJ,ub,oF,kA,oY,i8,lD,lC,kg,kK,ik,hX,jt,il,iT,g4,g9,iH,iC,ij,h9,ie,TSl,ONo,lq,sy,sZ,sY,t8,q4,uk,ot,ny,sP,rS,sX,iS,jf,hU,nj,ow,oN,nk,nU,nP,nR,nO,oS,rm,tu,tf,rD,sR,sD,jb,rL,rG,og,oK,oO,n5,nt,oe,nX,nT,oH,nV,
  lk,ini,List.map,List.length,List.replicate,List.append,List.set,List.cons_append,List.nil_append,Nat.sub_self,Nat.reduceSub,Nat.reduceAdd,
  pq,o7,pA,pU,pB,pF,pz,o8,pR,List.getElem?_cons_zero,List.getElem?_cons_succ,aP,gk,Nat.reduceLT,Nat.reduceLeDiff,if_true,if_false,true_and,and_true,Bool.not_true,Bool.not_false,Nat.lt_add_one,Nat.zero_lt_succ,Nat.succ_lt_succ_iff,Nat.zero_lt_one,
  decide_eq_true_eq,Bool.false_eq_true,ite_false,ite_true,ne_eq,not_false_eq_true,Int.reduceToNat,Int.reducePow,Int.reduceNeg,Int.reduceSub,Int.reduceAdd,Int.reduceMul,Int.reduceEq,okD,bU,eqD,eM,Bool.and_self,Bool.and_true,Bool.true_and,e6,fo,eW,fh,fz,fk,e9])
structure IsPart (a b p q:Int):Prop where
  q0:0 < q
  g:Int.gcd p q=1
  e:p*b=a*q
  pa:p.natAbs≤a.natAbs
  qb:q.natAbs≤b.natAbs
structure FrB (lo hi p q:Int):Prop where
  q0:0 < q
  q1:q≤10000002
  g:Int.gcd p q=1
  ge:lo*q≤p
  le:p≤hi*q
structure FrA (lo hi p q:Int):Prop extends FrB lo hi p q where
  ab:lo*q < p
structure FrL (hi p q:Int):Prop extends FrB 0 hi p q where
  ab:0 < p
  be:p < hi*q
theorem kb {a b:Int}(b0:0 < b):∃ g p q:Int,0 < g∧a=g*p∧b=g*q∧a.fdiv (Int.gcd a b)=p∧b.fdiv (Int.gcd a b)=q∧0 < q∧q≤b∧Int.gcd p q=1:=by
  have gp:0 < Int.gcd a b:=Int.gcd_pos_of_ne_zero_right a (by omega)
  have gz:0 < (Int.gcd a b:Int):=by omega
  obtain ⟨c,hc⟩:=Int.gcd_dvd_left a b
  obtain ⟨d,hd⟩:=Int.gcd_dvd_right a b
  have g1:=Int.gcd_ediv_gcd_ediv_gcd gp
  have e1:a / (Int.gcd a b:Int)=c:=Int.ediv_eq_of_eq_mul_right (by omega) hc
  have e2:b / (Int.gcd a b:Int)=d:=Int.ediv_eq_of_eq_mul_right (by omega) hd
  rw[e1,e2] at g1
  refine ⟨_,c,d,gz,hc,hd,by rw[b6 gz];exact e1,by rw[b6 gz];exact e2,?_,?_,g1⟩
  all_goals generalize (Int.gcd a b:Int)=g at *
  · rcases Int.lt_trichotomy d 0 with h | h | h
    · have:=Int.mul_neg_of_pos_of_neg gz h;omega
    · subst h;omega
    · exact h
  · have d0:0 < d:=by
      rcases Int.lt_trichotomy d 0 with h | h | h
      · have:=Int.mul_neg_of_pos_of_neg gz h;omega
      · subst h;omega
      · exact h
    have h:=Int.mul_le_mul_of_nonneg_right (show (1:Int)≤g by omega) (show (0:Int)≤d by omega)
    omega
theorem jo:(Str.ofString "still" = Str.ofString "step")=False:=eq_false (by decide +kernel)
theorem ia:(Str.ofString "still" = Str.ofString "swell")=False:=eq_false (by decide +kernel)
theorem jw:(Str.ofString "still" = Str.ofString "heed")=False:=eq_false (by decide +kernel)
theorem js:(Str.ofString "still" = Str.ofString "calm")=False:=eq_false (by decide +kernel)
theorem jK:(Str.ofString "step" = Str.ofString "still")=False:=eq_false (by decide +kernel)
theorem jq:(Str.ofString "step" = Str.ofString "swell")=False:=eq_false (by decide +kernel)
theorem lR:(Str.ofString "step" = Str.ofString "heed")=False:=eq_false (by decide +kernel)
theorem kM:(Str.ofString "step" = Str.ofString "calm")=False:=eq_false (by decide +kernel)
theorem iG:(Str.ofString "swell" = Str.ofString "still")=False:=eq_false (by decide +kernel)
theorem jm:(Str.ofString "swell" = Str.ofString "step")=False:=eq_false (by decide +kernel)
theorem jL:(Str.ofString "swell" = Str.ofString "heed")=False:=eq_false (by decide +kernel)
theorem jG:(Str.ofString "swell" = Str.ofString "calm")=False:=eq_false (by decide +kernel)
theorem jQ:(Str.ofString "heed" = Str.ofString "still")=False:=eq_false (by decide +kernel)
theorem lK:(Str.ofString "heed" = Str.ofString "step")=False:=eq_false (by decide +kernel)
theorem jj:(Str.ofString "heed" = Str.ofString "swell")=False:=eq_false (by decide +kernel)
theorem kZ:(Str.ofString "heed" = Str.ofString "calm")=False:=eq_false (by decide +kernel)
theorem jg:(Str.ofString "calm" = Str.ofString "still")=False:=eq_false (by decide +kernel)
theorem kT:(Str.ofString "calm" = Str.ofString "step")=False:=eq_false (by decide +kernel)
theorem ju:(Str.ofString "calm" = Str.ofString "swell")=False:=eq_false (by decide +kernel)
theorem lB:(Str.ofString "calm" = Str.ofString "heed")=False:=eq_false (by decide +kernel)
theorem j7:PyData.strOk (Str.ofString "still")=true:=by decide +kernel
theorem rB:PyData.strOk (Str.ofString "step")=true:=by decide +kernel
theorem j9:PyData.strOk (Str.ofString "swell")=true:=by decide +kernel
theorem mR:PyData.strOk (Str.ofString "heed")=true:=by decide +kernel
theorem my:PyData.strOk (Str.ofString "calm")=true:=by decide +kernel
abbrev fr (p q:Int):D:=.tup [.int p,.int q]
section
open PySem PySem.Spec PyProof.Rows L2
def wx (kvs:List (Str×D))(s:Str):Option D:=(kvs.find? fun kv=>decide (kv.1=s)).map (·.2)
def pk (K:PySem.W.Frag):List DictEntry→List (Str×D)→Prop
  | [],[]=>True
  | e::es,(x,d)::r=>(∃ t,e.key=.str x t)∧(∃ v,RelV v e.val∧∀ H,Dp K H v d)∧pk K es r
  | _,_=>False
theorem mB (s x:Str)(t:Tok):Value.isStrOf s (.str x t)=decide (x=s):=by
  by_cases h:x=s
  · subst h;simp[Value.isStrOf]
  · rw[decide_eq_false h];simp[Value.isStrOf];first | exact h | exact fun z=>h z.symm
theorem pk.find {K:PySem.W.Frag}(s:Str):∀ {es:List DictEntry} {kvs:List (Str×D)},pk K es kvs→
    match wx kvs s with
    | none=>(es.find? fun e=>Value.isStrOf s e.key)=none
    | some d=>∃ e v,(es.find? fun e=>Value.isStrOf s e.key)=some e∧RelV v e.val∧∀ H,Dp K H v d
  | [],[],_=>rfl
  | e::es,(x,d)::r,h=>by
    obtain ⟨⟨t,ht⟩,⟨v,rv,pv⟩,hr⟩:=h
    have ih:=pk.find s hr
    unfold wx at ih ⊢
    rw[List.find?_cons,List.find?_cons,ht,mB]
    by_cases hx:x=s
    · simp only[decide_eq_true hx,Option.map_some]
      exact ⟨e,v,rfl,rv,pv⟩
    · simp only[decide_eq_false hx]
      exact ih
  | [],_::_,h=>False.elim h
  | _::_,[],h=>False.elim h
section
variable {X:Cx} {a b c e:Expr} {Ta Tb Te:ETr} {pos gpos:Pos} {x:Str} {kvs:List (Str×D)}
end
section
variable {X:Cx} {a b:Expr} {Ta Tb:ETr} {pos:Pos}
end
end
section
open PySem PySem.Spec PyProof.Rows L2
def putD (kvs:List (Key×D))(k:Key)(v:D):List (Key×D):=
  if (kvs.any fun kv=>decide (kv.1=k))=true then kvs.map (fun kv=>if kv.1=k then (kv.1,v) else kv) else kvs++[(k,v)]
theorem DpK.nil {K:PySem.W.Frag}{H:Hp}:DpK K H [] []:=⟨rfl,.nil⟩
theorem DpK.cons {K:PySem.W.Frag}{H:Hp}{k:Key}{v:V}{d:D}{xs:List (Key×V)}{kvs:List (Key×D)}(h:Dp K H v d)(r:DpK K H xs kvs):DpK K H ((k,v)::xs) ((k,d)::kvs):=
  ⟨by simp[r.1],.cons h r.2⟩
theorem DpK.ind {K:PySem.W.Frag}{H:Hp}{P:List (Key×V)→List (Key×D)→Prop}(h0:P [] [])(h1:∀ k v d xs kvs,Dp K H v d→DpK K H xs kvs→P xs kvs→P ((k,v)::xs) ((k,d)::kvs)) :
    ∀ {xs:List (Key×V)} {kvs:List (Key×D)},DpK K H xs kvs→P xs kvs
  | [],[],_=>h0
  | [],_::_,h=>by cases h.1
  | _::_,[],h=>by cases h.1
  | (k,v)::xs,(k',d)::kvs,h=>by
    obtain ⟨h2,h3⟩:=h
    simp only[List.map_cons,List.cons.injEq] at h2
    obtain ⟨rfl,h2⟩:=h2
    cases h3 with
    | cons p l=>exact h1 k v d xs kvs p ⟨h2,l⟩ (DpK.ind h0 h1 ⟨h2,l⟩)
theorem DpK.any {K:PySem.W.Frag}{H:Hp}{xs:List (Key×V)}{kvs:List (Key×D)}(h:DpK K H xs kvs)(k:Key):(xs.any fun kv=>decide (kv.1=k))=kvs.any fun kv=>decide (kv.1=k):=by
  refine DpK.ind (P:=fun xs kvs=>(xs.any fun kv=>decide (kv.1=k))=kvs.any fun kv=>decide (kv.1=k)) rfl (fun j v d xs kvs p _ ih=>?_) h
  rw[List.any_cons,List.any_cons,ih]
theorem DpK.put {K:PySem.W.Frag}{H:Hp}{xs:List (Key×V)}{kvs:List (Key×D)}(h:DpK K H xs kvs)(k:Key){v:V}{d:D}(p:Dp K H v d):DpK K H (putK xs k v) (putD kvs k d):=by
  unfold putK putD
  rw[h.any k]
  split
  · refine DpK.ind (P:=fun xs kvs=>DpK K H (xs.map fun kv=>if kv.1=k then (kv.1,v) else kv) (kvs.map fun kv=>if kv.1=k then (kv.1,d) else kv)) .nil (fun j v' d' xs kvs p' _ ih=>?_) h
    rw[List.map_cons,List.map_cons]
    by_cases e:j=k
    · rw[if_pos e,if_pos e];exact .cons p ih
    · rw[if_neg e,if_neg e];exact .cons p' ih
  · refine DpK.ind (P:=fun xs kvs=>DpK K H (xs++[(k,v)]) (kvs++[(k,d)])) (.cons p .nil) (fun j v' d' xs kvs p' _ ih=>?_) h
    exact .cons p' ih
theorem DpK.length {K:PySem.W.Frag}{H:Hp}{xs:List (Key×V)}{kvs:List (Key×D)}(h:DpK K H xs kvs):xs.length=kvs.length:=by
  have:=h.2.length
  simpa using this
theorem r6 {K:PySem.W.Frag}{H:Hp}{x:V}{dx:D}{f:Addr→Prop}(p:Dp K H x dx)(h:kObj dx f):∃ a,x=.ref a∧f a:=by
  cases p with
  | obj a=>exact ⟨a,rfl,h⟩
  | _=>exact False.elim h
section
variable {X:Cx} {o i a b c e value:Expr} {To Ti Ta Tb Te:ETr} {pos tpos:Pos}
theorem DpK.zip {K:PySem.W.Frag}{H:Hp}:∀ {ks:List Key} {vs:List V} {ds:List D},DpL K H vs ds→DpK K H (ks.zip vs) (ks.zip ds)
  | [],_,_,_=>by simp;exact .nil
  | _::_,_,_,.nil=>by simp;exact .nil
  | k::ks,_,_,.cons p l=>.cons p (DpK.zip l)
end
end
section
open PySem PySem.Spec PyProof.Rows L2
inductive dj {prog:Program} {w:World} {κ:Type} [DecidableEq κ] (knd:KeyKind prog w κ) (h:Heap):List Value→List (κ×Value)→Prop
  | nil:dj knd h [] []
  | cons {a:Addr} {u v:Value} {k:κ} {us:List Value} {r:List (κ×Value)}:IsTup h a #[u,v]→knd.is k u=true→dj knd h us r→dj knd h (.ref a::us) ((k,v)::r)
section
variable {prog:Program} {w:World} {κ:Type} [DecidableEq κ] {knd:KeyKind prog w κ}
theorem dj.keeps {h h':Heap}(kp:∀ b o,h.get? b=some o→o.cls=.type "tuple" → h'.get? b=some o):∀ {us:List Value} {r:List (κ×Value)},dj knd h us r→dj knd h' us r
  | _,_,.nil=>.nil
  | _,_,.cons t k r=>.cons (by obtain ⟨o,e,c,n,d⟩:=t;exact ⟨o,kp _ o e c,c,n,d⟩) k (r.keeps kp)
end
end
section
open PySem PySem.Spec PyProof.Rows L2
section
variable {prog:Program} {w:World} {κ:Type} [DecidableEq κ] {knd:KeyKind prog w κ}
end
def dK:Key→D
  | .inl i=>.int i
  | .inr s=>.str s
def zp (kv:Key×D):D:=.tup [dK kv.1,kv.2]
inductive dB (K:PySem.W.Frag) (H:Hp):List V→List (Key×V)→Prop
  | nil:dB K H [] []
  | cons {a:Addr} {k:Key} {v:V} {ys:List V} {r:List (Key×V)}:SqT K H a [kV k,v]→dB K H ys r→dB K H (.ref a::ys) ((k,v)::r)
theorem dB.at {X:Cx}{pins:List (Addr×Obj)}{σ:L2.St}{H:Hp}{s:Shared}(I:Inv X pins σ H s):∀ {ys:List V} {kvs:List (Key×V)} {us:List Value},dB X.K H ys kvs→Vals ys us→∃ r,dj (el X.prog X.w) s.heap us r∧KV kvs r
  | _,_,_,.nil,.nil=>⟨[],.nil,.nil⟩
  | _,_,_,@dB.cons _ _ a k v ys r sq h,.cons ru rs=>by
    cases (show _=Value.ref a from ru)
    obtain ⟨r,p,q⟩:=h.at I rs
    obtain ⟨its,vs,it,_⟩:=I.tuple sq
    cases vs with | @cons _ u1 _ _ r1 vs=>cases vs with | @cons _ u2 _ _ r2 vs=>
    cases vs
    exact ⟨(k,u2)::r,.cons it (AG r1) p,.cons ⟨rfl,r2⟩ q⟩
theorem zo {K:PySem.W.Frag}{H:Hp}{v:V}{k:Key}(h:Dp K H v (dK k)):v=kV k:=by
  cases k with
  | inl i=>cases h;rfl
  | inr s=>cases h;rfl
theorem dB.of {K:PySem.W.Frag}{H:Hp}:∀ {kvs:List (Key×D)} {xs:List V},DpL K H xs (kvs.map zp)→∃ r,dB K H xs r∧DpK K H r kvs
  | [],_,h=>by cases h;exact ⟨[],.nil,.nil⟩
  | kv::kvs,_,h=>by
    obtain ⟨k,d⟩:=kv
    cases h with
    | cons p l=>
      obtain ⟨r,h1,h2⟩:=dB.of l
      cases p with
      | tup sq lp=>
        cases lp with | cons p1 lp=>cases lp with | cons p2 lp=>
        cases lp
        cases zo p1
        exact ⟨(k,_)::r,.cons sq h1,.cons p2 h2⟩
end
section
open PySem PySem.Spec PyProof.Rows L2
section
variable {X:Cx} {o i a b c e value:Expr} {To Ti Ta Tb Te:ETr} {pos tpos apos cpos:Pos}
end
section
variable {X:Cx} {pins:List (Addr×Obj)} {σ:L2.St} {H:Hp} {s:Shared}
end
section
variable {X:Cx} {o i a b c e value:Expr} {To Ti Ta Tb Te:ETr} {pos tpos apos cpos:Pos}
def uu (μ:Mu)(x:D)(f:List D→Prop):Prop:=match x with
  | .tup ds=>f ds
  | .ls ds=>f ds
  | .obj a=>kL μ a f
  | _=>False
end
end
section
open PySem PySem.Spec PyProof.Rows L2
section
variable {X:Cx} {e tg:Expr} {es:List Expr} {is:List Nat} {pos:Pos} {x:Str} {n:Nat}
end
section
variable {X:Cx} {o i a b c e value:Expr} {To Ti Ta Tb Te:ETr} {pos tpos apos cpos:Pos}
theorem qf (l:Addr)(its:Array Value)(n:Nat)(q:Addr)(its2:Array Value)(n2:Nat)(sl:Array (Option Value))(h0:¬ (!its.isEmpty&&Builtin.List.listTooLong (its.size+its2.size))=true)(h1:its.size≤sizeLine)(h2:its.size+its2.size≤sizeLine+1) :
    Meets (Builtin.«list.extend» ⟨[.ref l,.ref q],[]⟩) (fun _ R s=>s.heap.get? l=some { cls:=.type "list", dict:=none,data:=.seq its n,slots:=#[] }∧s.heap.get? q=some { cls:=.type "list", dict:=none,data:=.seq its2 n2,slots:=sl }∧
      R (.ok (.ret Value.none)) { s with heap:=s.heap.update l (Obj.mapSeq fun x=>x++its2) }):=
  .of_wp fun prog w A R s h=>by
    obtain ⟨hp,g,d,tk,os⟩:=s
    obtain ⟨hl,hb,h⟩:=h
    have z1:=PySem.AutoSeq1.idx_int
    have z2:=PySem.AutoSeq1.sub_tuple_tuple
    have z3:=PySem.AutoSeq1.sub_list_list
    have z4:=PySem.AutoSeq1.sub_tuple_list
    have z5:=PySem.AutoSeq1.sub_list_tuple
    have hz':(its++its2).size≤sizeLine+1:=by rw[Array.size_append];omega
    wp_walk using (wpAny_updateSeq hl rfl (hz:=h1) (_hz':=hz')),wpAny_loadPart' hl,wpAny_loadPart' hb
    exact ⟨_,rfl,h⟩
def AM (K:PySem.W.Frag):V→List V→Hp→VK→Prop:=fun x vs H Q=>∃ l b xs zs,x=.ref l∧vs=[.ref b]∧H l=some (.lst xs)∧SqL K H b zs∧xs.length+zs.length≤sizeLine∧Q .non (L2.upd H l (.lst (xs++zs)))
theorem xp:MtM X "list.extend" (AM X.K):=by
  intro pins s σ H x vs v us Q I rx rv h
  obtain ⟨l,q,xs,zs,rfl,rfl,hH,hB,hz,qq⟩:=h
  cases (show v=Value.ref l from rx)
  obtain ⟨u,rfl,ru⟩:=rv.one
  cases (show u=Value.ref q from ru)
  obtain ⟨z,its,n,r,hl,e⟩:=I.xl hH
  obtain ⟨its2,r2,⟨o,n2,e2,c2,d2,dat2⟩,_⟩:=I.list hB
  have e2':s.heap.get? q=some ⟨.type "list", none,.seq its2.toArray n2,o.slots⟩:=by
    rw[e2];obtain ⟨c',dd,dt,sl⟩:=o;simp only at c2 d2 dat2;subst c2 d2 dat2;rfl
  have hl2:=r2.length
  have hs2:its.toArray.size+its2.toArray.size≤sizeLine:=by rw[List.size_toArray,List.size_toArray];omega
  have tE:¬ (!its.toArray.isEmpty&&Builtin.List.listTooLong (its.toArray.size+its2.toArray.size))=true:=by
    rw[mK hs2,Bool.and_false];decide
  refine call_meets F.slot_list_extend ⟨_,e,rfl⟩ F.entry_list_extend (F.args_list_extend_2 _ _) (qf l its.toArray n q its2.toArray n2 o.slots tE (by omega) (by omega)) ⟨e,e2',?_⟩
  refine ⟨.non,_,I.zb (its':=its++its2) hH e (by simp) (r.append r2) ?_,rfl,qq⟩
  rw[List.length_append];omega
end
section
variable {P:Program} {w:World} {K:PySem.W.Frag} {mg:Str→Option Value} {base:Heap}
end
end
section
open PySem PySem.Spec PyProof.Rows L2
section
variable {X:Cx} {tg a ea eb:Expr} {Ta:ETr} {es:List Expr} {ek:Nat} {ep p pos:Pos}
def Bn (K:PySem.W.Frag)(tl:TE):TI:=fun σ H R=>tl σ H fun x H1=>∃ q,x=.ref q∧(((∃ xs,SqL K H1 q xs)∧R (Itl K q) H1)∨((∃ xs,SqT K H1 q xs)∧R (Itt K q) H1))
theorem xo {tl:TE}(hl:PE X a tl):PI X tg a (Bn X.K tl):=by
  intro pins s σ H R I h
  refine thn (hl pins s σ H _ I h) fun v s1 ⟨x,H1,I1,r1,q,ex,qq⟩=>?_
  subst ex
  cases (show v=Value.ref q from r1)
  have fp:∀ b∈[s1.heap.objs.size],_:=fun b hb=>by
    have e:b=s1.heap.objs.size:=by simpa using hb
    subst e
    exact I1.zW (Nat.le_refl _) (I1.hok.fresh (Nat.le_refl _))
  rcases qq with ⟨⟨xs,sq⟩,qq⟩ | ⟨⟨xs,sq⟩,qq⟩
  · obtain ⟨its,rv,pl,hz⟩:=I1.list sq
    exact wpAny_pyIter_list pl.isList ⟨s1.heap.objs.size,[s1.heap.objs.size],_,_,H1,rfl,I1.kept (t':=s1.toks) (fun b o e=>Heap.get?_push_of_some _ e),qw q _,⟨_,Heap.get?_push_size _ rfl,rfl,rfl⟩,fp,qq⟩
  · obtain ⟨its,rv,pl,hz⟩:=I1.tuple sq
    exact wpAny_pyIter_tuple (show s1.heap.IsTuple q its.toArray from pl) ⟨s1.heap.objs.size,[s1.heap.objs.size],_,_,H1,rfl,I1.kept (t':=s1.toks) (fun b o e=>Heap.get?_push_of_some _ e),nW q _,⟨_,Heap.get?_push_size _ rfl,rfl,rfl⟩,fp,qq⟩
theorem b4 (ha:LE X a Ta):LI X tg a (eA Ta):=by
  obtain ⟨ta,pa,sa⟩:=ha.ex
  refine ⟨_,xo pa,fun σ H ρ μ Q R rl h k=>sa σ H ρ μ _ _ rl h fun x H1 d μ1 t1 m1 p1 h1=>?_⟩
  cases p1 with
  | @tup p xs ds q l=>exact ⟨p,rfl,.inr ⟨⟨xs,q⟩,k _ H1 ds μ1 t1 m1 (sV q l) h1⟩⟩
  | @ls p xs ds q l=>exact ⟨p,rfl,.inl ⟨⟨xs,q.sq⟩,k _ H1 ds μ1 t1 m1 (uy q l) h1⟩⟩
  | _=>exact False.elim h1
variable {i o:Expr} {Ti To:ETr}
end
end
section
open PySem PySem.Spec PyProof.Rows L2
def ltS (x y:Str):Bool:=decide (x.cps.toList < y.cps.toList)
theorem fx:∀ {us:List Value} {ss:List Str},StrsAre us ss→Vals (ss.map V.str) us
  | _,_,.nil=>.nil
  | _,_,.cons n t h=>.cons ⟨t,rfl⟩ (fx h)
theorem pK:∀ {us:List Value} {ss:List Str},Vals (ss.map V.str) us→StrsAre us ss
  | _,[],h=>by cases h;exact .nil
  | _,s::r,h=>by
    cases h with
    | cons q h=>obtain ⟨t,rfl⟩:=(show ∃ t,_=Value.str s t from q);exact .cons s t (pK h)
def yh (K:PySem.W.Frag):List V→Hp→VK→Prop:=fun xs H Q=>∃ (p:Addr) (ss:List Str),xs=[.ref p]∧SqL K H p (ss.map V.str)∧ss.length < 64∧∀ ss':List Str,ss'.Perm ss→ss'.Pairwise (fun a b=>ltS b a=false)→∀ z,H z=none→Q (.ref z) (L2.upd H z (.lst (ss'.map V.str)))
theorem p8:∀ (p:Str) (l:List Str),risingS p l=true→(p::l).Pairwise (fun a b=>ltS b a=false):=by
  have tr:∀ a b c:Str,ltS b a=false→ltS c b=false→ltS c a=false:=by
    intro a b c h1 h2
    unfold ltS at *
    rw[decide_eq_false_iff_not,List.not_lt] at *
    exact List.le_trans h1 h2
  intro p l
  induction l generalizing p with
  | nil=>intro _;exact List.pairwise_singleton _ _
  | cons x r ih=>
    intro h
    have h':ltCps x.cps.toList p.cps.toList=false∧risingS x r=true:=by
      have:(!ltCps x.cps.toList p.cps.toList&&risingS x r)=true:=h
      simpa using this
    have hx:=ih x h'.2
    have hpx:ltS x p=false:=by unfold ltS;rw[← ltCps_eq];exact h'.1
    refine List.pairwise_cons.mpr ⟨fun y hy=>?_,hx⟩
    rcases List.mem_cons.mp hy with rfl | hy
    · exact hpx
    · exact tr p x y hpx ((List.pairwise_cons.mp hx).1 y hy)
theorem p4:∀ (l:List Str),sortedS l=true→l.Pairwise (fun a b=>ltS b a=false)
  | [],_=>.nil
  | p::l,h=>p8 p l h
theorem oA {X:Cx}:bj X (.builtin "sorted") (yh X.K):=fun pins s σ H xs us Q I rx ⟨p,ss,e1,sq,hl,q⟩=>by
  subst e1
  obtain ⟨u,rfl,ru⟩:=vals1 rx
  cases (show u=Value.ref p from ru)
  obtain ⟨its,rv,pl,hz⟩:=I.list sq
  have hi:StrsAre its ss:=pK rv
  have hlen:its.length < 64:=by have:=rv.length;simp at this;omega
  refine sorted_strs pl.isList hi hlen fun out ss' a1 a2 a3=>?_
  obtain ⟨n,en⟩:=sortedAll_at s.heap its out
  refine ⟨.ref _,_,I.laid (t':=s.toks) (o:=.lst (ss'.map V.str)) (fun b o e=>sortedAll_old e) (Nat.le_succ _) ?_,rfl,q ss' a2 (p4 _ a3) _ (I.hok.fresh (Nat.le_succ _))⟩
  have z1:ss'.length=ss.length:=a2.length_eq
  exact ⟨by rw[List.length_map,z1];exact Nat.le_of_lt (Nat.lt_of_lt_of_le hl (by decide)),out.toList,n,fx a1,by simpa[seqObj] using en⟩
def oV:FSp:=fun ds μ Q=>match ds with
  | [.ls xs]=>∃ ss:List Str,(xs=ss.map .str∧ss.length < 64)∧∀ ss':List Str,ss'.Perm ss→ss'.Pairwise (fun a b=>ltS b a=false)→Q (.ls (ss'.map .str)) μ
  | _=>False
theorem DpL.strs {K:PySem.W.Frag}{H:Hp}:∀ ss:List Str,DpL K H (ss.map V.str) (ss.map D.str)
  | []=>.nil
  | s::r=>.cons (.str s) (DpL.strs r)
theorem DpL.fx {K:PySem.W.Frag}{H:Hp}:∀ {xs:List V} {ss:List Str},DpL K H xs (ss.map .str)→xs=ss.map V.str
  | _,[],.nil=>rfl
  | _,s::r,.cons h l=>by cases h;rw[DpL.fx l];rfl
section
variable {X:Cx} {e a b:Expr} {x:Str} {p pos:Pos} {At:ATr} {Ta Tb:ETr}
theorem uf (hg:Gl X x)(hm:X.mg x=none)(hv:bootBuiltins x=some (.builtin "sorted"))(ha:LA X [e] At)(hn:x ≠ "__name__" := by decide)(hdb:(x == ("__debug__" : Str))=false:=by decide)
    (h1:starEach [e] X.env=(false,eval e X.env)::starEach [] X.env:=by rfl) (h2:(backTo pos (starEach [] X.env)).any (·.1)=false:=by rfl):LE X (.Call (.Name x p) [e] [] pos) (av oV At):=by
  obtain ⟨ta,pa,sa⟩:=ha.ex
  refine ⟨_,iZ (ig oA hg hm hv pa hn hdb h1 h2),fun σ H ρ μ Q Q' rl h k=>sa σ H ρ μ _ _ rl h fun xs H1 ds μ1 t1 m1 p1 h1=>?_⟩
  unfold oV at h1
  split at h1
  · obtain ⟨ss,⟨rfl,hl⟩,h2⟩:=h1
    cases p1 with | cons p1 p2=>
    cases p2
    cases p1 with
    | @ls a ys _ q l=>
      cases DpL.fx l
      refine ⟨a,ss,rfl,q.sq,hl,fun ss' a2 a3 z hz=>⟨z,_,rfl,aI,fun o=>?_⟩⟩
      have e:L2.upd (L2.upd H1 z (.lst (ss'.map V.str))) z (.frz o (.lst (ss'.map V.str)))=L2.upd H1 z (.frz o (.lst (ss'.map V.str))):=kW
      rw[e]
      exact k _ _ _ μ1 (t1.trans (.new hz)) (cK m1 hz) (.ls (.inl ⟨o,aI⟩) (.strs ss')) (h2 ss' a2 a3)
  · exact False.elim h1
end
end
section
open PySem PySem.Spec PyProof.Rows L2
end
section
open PySem PySem.Spec PyProof.Rows L2
section
variable {prog:Program} {w:World} {A:Around} {E:Value→Shared→Prop} {s:Shared}
end
section
variable {X:Cx} {ea eb:Expr} {Ta Tb:ETr} {p p2 pos rpos:Pos}
end
end
section
open PySem PySem.Spec PyProof.Rows L2
section
variable {prog:Program} {w:World} {A:Around} {E:Value→Shared→Prop} {s:Shared}
end
end
section
open PySem PySem.Spec PyProof.Rows L2
section
variable {prog:Program} {w:World} {A:Around} {E:Value→Shared→Prop} {s:Shared}
end
section
variable {X:Cx} {ea:Expr} {es:List Expr} {ek:Nat} {ep p pos:Pos}
end
end
section
open PySem PySem.Spec PyProof PyProof.Rows L2
section
variable {w:World} {prog:Program} {A:Around} {E:Value→Shared→Prop}
section
variable {R:Result→Shared→Prop} {I:Addr} {fp wr:List Addr} {n:Nat} {P:Nat→Value→Prop} {St:Nat→Heap→Prop}
end
variable {s:Shared}
end
section
variable {X:Cx} {e d:Expr} {p pos kp:Pos} {Te Td:ETr}
end
end
section
open PySem PySem.Spec PyProof.Rows L2
section
variable {X:Cx} {o i:Expr} {To Ti:ETr} {apos cpos:Pos}
end
end
section
open PySem PySem.Spec PyProof.Rows L2
section
variable {X:Cx} {o i:Expr} {To Ti:ETr} {apos cpos:Pos}
theorem oM (l:Addr)(its:Array Value)(n:Nat)(q:Addr)(its2:Array Value)(n2:Nat)(dd:Option Addr)(sl:Array (Option Value))(h0:¬ (!its.isEmpty&&Builtin.List.listTooLong (its.size+its2.size))=true)(h1:its.size≤sizeLine)(h2:its.size+its2.size≤sizeLine+1) :
    Meets (Builtin.«list.extend» ⟨[.ref l,.ref q],[]⟩) (fun _ R s=>s.heap.get? l=some { cls:=.type "list", dict:=none,data:=.seq its n,slots:=#[] }∧s.heap.get? q=some { cls:=.type "tuple", dict:=dd,data:=.seq its2 n2,slots:=sl }∧
      R (.ok (.ret Value.none)) { s with heap:=s.heap.update l (Obj.mapSeq fun x=>x++its2) }):=
  .of_wp fun prog w A R s h=>by
    rcases s with ⟨hp,g,d,tk,os⟩
    obtain ⟨hl,hb,h⟩:=h
    have z1:=PySem.AutoSeq1.idx_int
    have z2:=PySem.AutoSeq1.sub_tuple_tuple
    have z3:=PySem.AutoSeq1.sub_list_list
    have z4:=PySem.AutoSeq1.sub_tuple_list
    have z5:=PySem.AutoSeq1.sub_list_tuple
    have hz':(its++its2).size≤sizeLine+1:=by rw[Array.size_append];omega
    wp_walk using (wpAny_updateSeq hl rfl (hz:=h1) (_hz':=hz')),wpAny_loadPart' hl,wpAny_loadPart' hb
    exact ⟨_,rfl,h⟩
def AH (K:PySem.W.Frag):V→List V→Hp→VK→Prop:=fun x vs H Q=>∃ l b xs zs,x=.ref l∧vs=[.ref b]∧H l=some (.lst xs)∧(SqL K H b zs∨SqT K H b zs)∧xs.length+zs.length≤sizeLine∧Q .non (L2.upd H l (.lst (xs++zs)))
theorem uw:MtM X "list.extend" (AH X.K):=by
  intro pins s σ H x vs v us Q I rx rv h
  obtain ⟨l,q,xs,zs,rfl,rfl,hH,hB,hz,qq⟩:=h
  rcases hB with hB | hB
  · exact xp pins s σ H _ _ v us Q I rx rv ⟨l,q,xs,zs,rfl,rfl,hH,hB,hz,qq⟩
  cases (show v=Value.ref l from rx)
  obtain ⟨u,rfl,ru⟩:=rv.one
  cases (show u=Value.ref q from ru)
  obtain ⟨z,its,n,r,hl,e⟩:=I.xl hH
  obtain ⟨its2,r2,⟨o,e2,c2,n2,dat2⟩,_⟩:=I.tuple hB
  have e2':s.heap.get? q=some ⟨.type "tuple", o.dict,.seq its2.toArray n2,o.slots⟩:=by
    rw[e2];obtain ⟨c',dd,dt,sl⟩:=o;simp only at c2 dat2;subst c2 dat2;rfl
  have hl2:=r2.length
  have hs2:its.toArray.size+its2.toArray.size≤sizeLine:=by rw[List.size_toArray,List.size_toArray];omega
  have tE:¬ (!its.toArray.isEmpty&&Builtin.List.listTooLong (its.toArray.size+its2.toArray.size))=true:=by
    rw[mK hs2,Bool.and_false];decide
  refine call_meets F.slot_list_extend ⟨_,e,rfl⟩ F.entry_list_extend (F.args_list_extend_2 _ _) (oM l its.toArray n q its2.toArray n2 o.dict o.slots tE (by omega) (by omega)) ⟨e,e2',?_⟩
  refine ⟨.non,_,I.zb (its':=its++its2) hH e (by simp) (r.append r2) ?_,rfl,qq⟩
  rw[List.length_append];omega
def pH (To Ti:ETr):ETr:=fun ρ μ Q=>To ρ μ fun x μ1=>kObj x fun a=>kL μ1 a fun _=>Ti ρ μ1 fun y μ2=>uu μ2 y fun es=>kL μ2 a fun ds=>ds.length+es.length≤1000000∧Q .non (up μ2 a (.lst (ds++es)))
theorem r9 {K:PySem.W.Frag}{H:Hp}{μ:Mu}{x:V}{dx:D}{f:List D→Prop}(m:bD K H μ)(p:Dp K H x dx)(h:uu μ dx f):∃ q xs ds,x=.ref q∧(SqL K H q xs∨SqT K H q xs)∧DpL K H xs ds∧f ds:=by
  cases p with
  | tup sq l=>exact ⟨_,_,_,rfl,.inr sq,l,h⟩
  | ls sq l=>exact ⟨_,_,_,rfl,.inl sq.sq,l,h⟩
  | obj q=>
    obtain ⟨ds,e0,h⟩:=bQ (show kL μ q _ from h)
    obtain ⟨xs,ex,l⟩:=m q _ e0
    exact ⟨q,xs,ds,rfl,.inl (SqL.of ex),l,h⟩
  | _=>exact False.elim h
theorem pD (ho:LE X o To)(hi:LE X i Ti)
    (hbase:attributeBase o "extend" X.env (eval o X.env)=eval o X.env:=by rfl)
    (hfew:((backTo cpos (starEach [i] X.env)).all (fun x=>!x.1)&&(backToKw cpos (keywordEach [] X.env)).all (fun x=>x.1.isSome)
      && decide (([i]:List Expr).length+([]:List Keyword).length+(if ([]:List Keyword).isEmpty then 0 else 1) < 30))=true:=by rfl)
    (hline:(apos.endLine == cpos.line)=true:=by rfl) (hs:starEach [i] X.env=(false,eval i X.env)::starEach [] X.env:=by rfl) (hplain:(backTo cpos (starEach [] X.env)).any (·.1)=false:=by rfl) :
    LE X (.Call (.Attribute o "extend" apos) [i] [] cpos) (pH To Ti):=by
  obtain ⟨to,po,so⟩:=ho.ex
  obtain ⟨ti,pi,si⟩:=hi.ex
  refine ⟨_,wB PySem.F.plainAttrs_list PySem.F.slot_list_extend PySem.F.type_list_extend uw po (cf pi eL hs) hbase hfew hline hs hplain,fun σ H ρ μ Q Q' rl h k=>so σ H ρ μ _ _ rl h fun x H1 dx μ1 t1 m1 p1 h1=>?_⟩
  obtain ⟨q,rfl,h1⟩:=r6 p1 h1
  obtain ⟨ds0,e0,h1⟩:=bQ h1
  obtain ⟨xs0,ex0,_⟩:=m1 q _ e0
  refine ⟨.inl ⟨rfl,_,SqL.of ex0⟩,si σ H1 ρ μ1 _ _ (rl.go t1 m1) h1 fun y H2 dy μ2 t2 m2 p2 h2=>?_⟩
  obtain ⟨q',ys,es,rfl,sq,l',h2⟩:=r9 m2 p2 h2
  obtain ⟨ds,e2,hz,h2⟩:=bQ h2
  obtain ⟨xs,ex,l⟩:=m2 q _ e2
  exact ⟨q,q',xs,ys,rfl,rfl,ex,sq,by rw[l.length,l'.length];exact big hz,k _ _ _ _ ((t1.trans t2).trans (iY ex)) (wW m2 ex (l.append l')) .non h2⟩
end
end
section
open PySem PySem.Spec PyProof.Rows L2
end
section
open PySem PySem.Spec PyProof.Rows L2
section
variable {X:Cx} {a b c d:Expr} {ta tb tc td:TE} {Ta Tb Tc Td:ETr} {pos:Pos} {o1 o2 o3:CmpOp} {r1 r2 r3:L2.R2} {R1 R2 R3:DR2}
end
end
section
open PySem PySem.Spec PyProof.Rows L2
section
variable {X:Cx} {tg a b:Expr} {Ta Tb:ETr} {pos:Pos}
def zP (x:Str):List D:=x.cps.toList.map fun c=>.str ⟨#[c]⟩
def AF (a:ETr):ATr:=fun ρ μ Q=>a ρ μ fun x μ1=>match x with
  | .str z=>z.cps.all (· < 128)=true∧Q (zP z) μ1
  | _=>False
def j5:DR2:=fun x y μ Q=>match x,y with
  | .str z,.int i=>z.length≤1000000∧kN (atI z.cps.toList i) fun c=>Q (.str ⟨#[c]⟩) μ
  | _,_=>False
theorem vF {K:PySem.W.Frag}:cm K L2.xN j5:=fun H μ x y dx dy Q Q' m px py h k=>by
  cases px with
  | str z=>
    cases py with
    | int i=>
      obtain ⟨h1,h2⟩:=h
      obtain ⟨c,ec,h3⟩:=rK h2
      exact ⟨z,i,c,rfl,rfl,Nat.le_trans h1 (by decide),ec,k _ H _ μ (.refl H) m (.str _) h3⟩
    | _=>exact False.elim h
  | _=>exact False.elim (by cases py<;>exact h)
theorem oB (ha:LE X a Ta)(hb:LE X b Tb)(hs:lM b:=by intro _ _;rfl):LE X (.Subscript a b pos) (aq j5 Ta Tb):=by
  obtain ⟨ta,pa,sa⟩:=ha.ex
  obtain ⟨tb,pb,sb⟩:=hb.ex
  exact ⟨_,wJ tw pa pb hs,ft vF sa sb⟩
def je (x:Str)(n:Nat):Str:=⟨(List.replicate n x.cps).foldl (· ++ ·) #[]⟩
theorem mI:∀ (n:Nat),(List.replicate n (#[]:Array Nat)).foldl (· ++ ·) #[] = #[]
  | 0=>rfl
  | n+1=>by
    rw[List.replicate_succ,List.foldl_cons]
    exact mI n
theorem l7 (xs:Array Nat):∀ (n:Nat) (a:Array Nat),((List.replicate n xs).foldl (· ++ ·) a).size=a.size+n*xs.size
  | 0,a=>by simp
  | n+1,a=>by
    rw[List.replicate_succ,List.foldl_cons,l7 xs n,Array.size_append,Nat.succ_mul];omega
theorem fold_list (xs:Array Nat):∀ (n:Nat) (a:Array Nat),((List.replicate n xs).foldl (· ++ ·) a).toList=a.toList++(List.replicate n xs.toList).flatten
  | 0,a=>by simp
  | n+1,a=>by
    rw[List.replicate_succ,List.foldl_cons,fold_list xs n,List.replicate_succ,List.flatten_cons,Array.toList_append,List.append_assoc]
theorem pX (x:Str)(n:Nat):(je x n).cps.toList=(List.replicate n x.cps.toList).flatten:=by
  unfold je
  rw[fold_list];rfl
theorem nM:OpR X (binaryOp .Mult) (fun x y H Q=>∃ z n,x=.str z∧y=.int n∧(n≤1000∧-1000≤n∧z.length≤1000)∧Q (.str (je z n.toNat)) H):=by
  intro pins s σ H x y v u Q I rx ry h
  obtain ⟨z,n,rfl,rfl,⟨n1,n0,hz⟩,q⟩:=h
  obtain ⟨t,rfl⟩:=rx
  obtain ⟨t',rfl⟩:=ry
  have big:∀ {m:Int},¬ m < 1→m≤1000→¬ ((z.length:Int) > (2 ^ 63 - 1) / m):=fun {m} h1 h2=>by
    have:(1000:Int)≤(2 ^ 63 - 1) / m:=by
      rw[Int.le_ediv_iff_mul_le (by omega)]
      omega
    omega
  have hlen:∀ {k:Nat},k≤1000→Builtin.Str.tooLong (z.length*k)=false:=fun {k} hk=>by
    have:z.length*k≤1000*1000:=Nat.mul_le_mul hz hk
    unfold Builtin.Str.tooLong
    exact decide_eq_false (by have:1000*1000≤sizeLine:=by decide
                              omega)
  refine PySem.P.mul_str (by
    rw[decide_eq_false (by omega),decide_eq_false (by omega)];rfl) (fun h1 _=>big h1 n1) (fun _ _=>hlen (by omega)) ?_
  split
  · rename_i h1
    have e:je z n.toNat=Str.empty:=by rw[show n.toNat=0 by omega];rfl
    rw[e] at q
    exact ⟨by decide,.str Str.empty,H,I.tok _,⟨_,rfl⟩,q⟩
  · rename_i h1
    split
    · rename_i h2
      have e:je z n.toNat=z:=by
        simp only[Bool.or_eq_true,beq_iff_eq] at h2
        obtain ⟨c⟩:=z
        unfold je
        rcases h2 with h2 | h2
        · rw[show n.toNat=1 by omega];simp
        · have:c = #[]:=Array.eq_empty_of_size_eq_zero h2
          subst this
          rw[mI]
      rw[e] at q
      exact ⟨.str z,H,I,⟨t,rfl⟩,q⟩
    · refine ⟨?_,.str _,H,I.tok _,⟨_,rfl⟩,q⟩
      show ((List.replicate n.toNat z.cps).foldl (· ++ ·) #[]).size≤sizeLine
      rw[l7]
      have hz':z.cps.size≤1000:=hz
      have:n.toNat*z.cps.size≤1000*1000:=Nat.mul_le_mul (by omega) hz'
      have:1000*1000≤sizeLine:=by decide
      simp
      omega
def iN:DR2:=fun x y μ Q=>match x,y with
  | .str z,.int n=>(n≤1000∧-1000≤n∧z.length≤1000)∧Q (.str (je z n.toNat)) μ
  | _,_=>False
theorem sx {K:PySem.W.Frag}:cm K (fun x y H Q=>∃ z n,x=.str z∧y=.int n∧(n≤1000∧-1000≤n∧z.length≤1000)∧Q (.str (je z n.toNat)) H) iN:=fun H μ x y dx dy Q Q' m px py h k=>by
  cases px with
  | str z=>
    cases py with
    | int i=>exact ⟨z,i,rfl,rfl,h.1,k _ H _ μ (.refl H) m (.str _) h.2⟩
    | _=>exact False.elim h
  | _=>exact False.elim (by cases py<;>exact h)
theorem gU (ha:LE X a Ta)(hb:LE X b Tb):LE X (.BinOp a .Mult b pos) (aq iN Ta Tb):=fL nM sx ha hb
def A9 (Ta:ETr)(Tl Th:OTr):ETr:=fun ρ μ Q=>Ta ρ μ fun x μ1=>Tl ρ μ1 fun i μ2=>Th ρ μ2 fun j μ3=>match x with
  | .str z=>z.length≤1000000∧Q (.str (Txt.slice z i j)) μ3
  | _=>False
end
end
section
open PySem PySem.Spec PyProof.Rows L2
end
section
open PySem PySem.Spec PyProof.Rows L2
section
variable {X:Cx} {o i:Expr} {apos cpos:Pos}
theorem mT:∀ {zs:List Str} {us:List Value},Vals (zs.map V.str) us→∃ l:List (Str×Tok),us=strValues l∧l.map (·.1)=zs
  | [],_,.nil=>⟨[],rfl,rfl⟩
  | z::zs,_,.cons ⟨t,e⟩ r=>by
    obtain ⟨l,h1,h2⟩:=mT r
    exact ⟨(z,t)::l,by rw[e,h1];rfl,by rw[← h2];rfl⟩
theorem uN:MtM X "str.join" (fun x vs H Q=>∃ sep p zs,x=.str sep∧vs=[.ref p]∧SqL X.K H p (zs.map V.str)∧JoinOk sep zs=true∧Q (.str (Txt.join sep zs)) H):=by
  intro pins s σ H x vs v us Q I rx rv h
  obtain ⟨sep,p,zs,rfl,rfl,sq,ok,q⟩:=h
  obtain ⟨t,rfl⟩:=rx
  obtain ⟨u,rfl,ru⟩:=rv.one
  cases (show u=Value.ref p from ru)
  obtain ⟨its,r,pl,_⟩:=I.list sq
  obtain ⟨l,rfl,e⟩:=mT r
  exact SC.join pl.isList e ok fun t' k=>⟨.str _,H,I.tok _,⟨_,rfl⟩,q⟩
theorem t7 {e:Expr}{es:List Expr}{to:TE}{t:TA}{name:Str}{id:String}{r:V→List V→Hp→VK→Prop}(slot:Slot "str" name id)(hty:typeOf (.builtin id)=pure (.type "method_descriptor"))(hm:MtM X id r)(ho:PE X o to)(ha:PA X (e::es) t)
    (hbase:attributeBase o name X.env (eval o X.env)=eval o X.env:=by rfl)
    (hfew:((backTo cpos (starEach (e::es) X.env)).all (fun x=>!x.1)&&(backToKw cpos (keywordEach [] X.env)).all (fun x=>x.1.isSome)
      && decide ((e::es).length+([]:List Keyword).length+(if ([]:List Keyword).isEmpty then 0 else 1) < 30))=true:=by rfl)
    (hline:(apos.endLine == cpos.line)=true:=by rfl) (hs:starEach (e::es) X.env=(false,eval e X.env)::starEach es X.env:=by rfl) (hplain:(backTo cpos (starEach es X.env)).any (·.1)=false:=by rfl) :
    PE X (.Call (.Attribute o name apos) (e::es) [] cpos) (fun σ H Q=>to σ H fun x H1=>(∃ z,x=.str z)∧t σ H1 fun xs H2=>r x xs H2 Q):=by
  intro pins s σ H Q I h
  refine wpAny_Call_method_late hbase hfew hline rfl (thn (ho pins s σ H _ I h) fun v s1 ⟨x,H1,I1,r1,⟨z,ex⟩,q1⟩=>?_)
  subst ex
  obtain ⟨tk,rfl⟩:=r1
  refine ⟨"str", id,PySem.F.plainAttrs_str,slot,hty,typeIs_str _ _ _,(fun a e=>nomatch e),?_⟩
  have hA:=ha cpos pins s1 σ H1 _ I1 q1
  rw[hs] at hA ⊢
  refine Calls.callWith_builtin (by show (false || (backTo cpos (starEach es X.env)).any (·.1))=false;rw[hplain]<;>rfl) (Calls.evalArgs_plain ?_)
  exact thn hA fun us s2 ⟨vs,H2,I2,r2,q2⟩=>hm pins s2 σ H2 (.str z) vs _ us Q I2 ⟨tk,rfl⟩ r2 q2
def cj:List D→Option (List Str)
  | []=>some []
  | .str z::r=>(cj r).map (z::·)
  | _::_=>none
theorem kr {K:PySem.W.Frag}{H:Hp}:∀ {xs:List V} {ds:List D} {zs:List Str},DpL K H xs ds→cj ds=some zs→xs=zs.map V.str
  | _,_,_,.nil,e=>by simp only[cj,Option.some.injEq] at e;subst e;rfl
  | _,d::ds,zs,.cons h l,e=>by
    cases h with
    | str z=>
      simp only[cj] at e
      cases e1:cj ds with
      | none=>rw[e1] at e;cases e
      | some ys=>
        rw[e1] at e
        cases e
        rw[kr l e1];rfl
    | _=>cases e
def f6 (To Ti:ETr):ETr:=fun ρ μ Q=>To ρ μ fun x μ1=>match x with
  | .str sep=>Ti ρ μ1 fun y μ2=>match y with
    | .ls ds=>∃ zs,cj ds=some zs∧JoinOk sep zs=true∧Q (.str (Txt.join sep zs)) μ2
    | _=>False
  | _=>False
theorem eT {To Ti:ETr}(ho:LE X o To)(hi:LE X i Ti)
    (hbase:attributeBase o "join" X.env (eval o X.env)=eval o X.env:=by rfl)
    (hfew:((backTo cpos (starEach [i] X.env)).all (fun x=>!x.1)&&(backToKw cpos (keywordEach [] X.env)).all (fun x=>x.1.isSome)
      && decide (([i]:List Expr).length+([]:List Keyword).length+(if ([]:List Keyword).isEmpty then 0 else 1) < 30))=true:=by rfl)
    (hline:(apos.endLine == cpos.line)=true:=by rfl) (hs:starEach [i] X.env=(false,eval i X.env)::starEach [] X.env:=by rfl) (hplain:(backTo cpos (starEach [] X.env)).any (·.1)=false:=by rfl) :
    LE X (.Call (.Attribute o "join" apos) [i] [] cpos) (f6 To Ti):=by
  obtain ⟨to,po,so⟩:=ho.ex
  obtain ⟨ti,pi,si⟩:=hi.ex
  refine ⟨_,t7 PySem.F.slot_str_join PySem.F.type_str_join uN po (cf pi eL hs) hbase hfew hline hs hplain,fun σ H ρ μ Q Q' rl h k=>so σ H ρ μ _ _ rl h fun x H1 dx μ1 t1 m1 p1 h1=>?_⟩
  cases p1 with
  | str z=>
    refine ⟨⟨z,rfl⟩,si σ H1 ρ μ1 _ _ (rl.go t1 m1) h1 fun y H2 dy μ2 t2 m2 p2 h2=>?_⟩
    cases p2 with
    | @ls a xs ds sq l=>
      obtain ⟨zs,e,ok,h2⟩:=h2
      have:=kr l e
      subst this
      exact ⟨z,a,zs,rfl,rfl,sq.sq,ok,k _ H2 _ μ2 (t1.trans t2) m2 (.str _) h2⟩
    | _=>exact False.elim h2
  | _=>exact False.elim h1
end
end
section
open PySem PySem.Spec PyProof PyProof.Rows L2
section
variable {X:Cx} {o:Expr} {apos cpos pos p:Pos} {x:Str}
end
end
section
open PySem PySem.Spec PyProof.Rows L2
end
section
open PySem PySem.Spec PyProof.Rows L2
section
variable {X:Cx} {i o:Expr} {pos:Pos} {Ti To:ETr}
end
end
section
open PySem PySem.Spec PyProof.Rows L2
section
variable {X:Cx} {o i e:Expr} {apos cpos:Pos} {To Ti Te:ETr}
end
end
section
open PySem PySem.Spec PyProof.Rows L2
section
variable {X:Cx} {a b m o i:Expr} {p1 p2 pos apos cpos:Pos} {ta tb tm:TE} {Ta Tb Tm To Ti:ETr}
def kIn (x:D)(f:Int→Prop):Prop:=match x with
  | .int i=>i.natAbs.log2 < 1920∧f i
  | _=>False
def Aj (x:D)(f:Str→Prop):Prop:=match x with
  | .str z=>f z
  | _=>False
theorem xn (ha:PE X a ta):PE X (.JoinedStr [.FormattedValue a (-1) none p1] pos) (fun σ H Q=>ta σ H fun x H1=>∃ i,x=.int i∧i.natAbs.log2 < 1920∧Q (.str (toString i)) H1):=by
  intro pins s σ H Q I h
  refine JoinedStr_one (FormattedValue_plain (thn (ha pins s σ H _ I h) fun v s1 ⟨x,H1,I1,r1,j,ex,hj,q⟩=>?_))
  subst ex
  obtain ⟨t,rfl⟩:=r1
  exact formatField_int_small hj ⟨.str _,H1,I1.tok _,⟨_,rfl⟩,q⟩
def zg (Ta:ETr):ETr:=fun ρ μ Q=>Ta ρ μ fun x μ1=>kIn x fun i=>Q (.str (toString i)) μ1
theorem yY (ha:LE X a Ta):LE X (.JoinedStr [.FormattedValue a (-1) none p1] pos) (zg Ta):=by
  obtain ⟨ta,pa,sa⟩:=ha.ex
  refine ⟨_,xn pa,fun σ H ρ μ Q Q' rl h k=>sa σ H ρ μ _ _ rl h fun x H1 dx μ1 t1 m1 p1 h1=>?_⟩
  cases p1 with
  | int j=>exact ⟨j,rfl,h1.1,k _ H1 _ μ1 t1 m1 (.str _) h1.2⟩
  | _=>exact False.elim h1
theorem o6 {i:Int}(h:i.natAbs.log2 < 1920):(toString i:Str).length≤1921:=int_text_len_1921 h
theorem yi:sizeLine=16777216:=by decide
theorem xk (ha:PE X a ta)(hm:PE X m tm)(hb:PE X b tb):PE X (.JoinedStr [.FormattedValue a (-1) none p1,m,.FormattedValue b (-1) none p2] pos)
    (fun σ H Q=>ta σ H fun x H1=>∃ i,x=.int i∧i.natAbs.log2 < 1920∧tm σ H1 fun y H2=>∃ z,y=.str z∧z.length≤1000∧tb σ H2 fun w H3=>∃ j,w=.int j∧j.natAbs.log2 < 1920∧Q (.str (Str.empty++(toString i:Str)++z++(toString j:Str))) H3):=by
  intro pins s σ H Q I h
  have e0:(Str.empty:Str).length=0:=rfl
  have l24:=yi
  refine JoinedStr_many ?_
  refine joinParts_cons (FormattedValue_plain (thn (ha pins s σ H _ I h) fun v s1 ⟨x,H1,I1,r1,i,ex,hi,q⟩=>?_))
  subst ex
  obtain ⟨t,rfl⟩:=r1
  have li:=o6 hi
  refine formatField_int_small hi ⟨by rw[strLen_append,e0];omega,?_⟩
  refine joinParts_cons (thn (hm pins _ σ H1 _ (I1.tok _) q) fun v s2 ⟨y,H2,I2,r2,z,ez,hz,q⟩=>?_)
  subst ez
  obtain ⟨t2,rfl⟩:=r2
  refine ⟨by rw[strLen_append,strLen_append,e0];omega,?_⟩
  refine joinParts_cons (FormattedValue_plain (thn (hb pins s2 σ H2 _ I2 q) fun v s3 ⟨w,H3,I3,r3,j,ew,hj,q⟩=>?_))
  subst ew
  obtain ⟨t3,rfl⟩:=r3
  have lj:=o6 hj
  refine formatField_int_small hj ⟨by rw[strLen_append,strLen_append,strLen_append,e0];omega,?_⟩
  exact joinParts_nil ⟨.str _,H3,(I3.tok _).tok _,⟨_,rfl⟩,q⟩ (by rw[strLen_append,strLen_append,strLen_append,e0];omega)
def zd (Ta Tm Tb:ETr):ETr:=fun ρ μ Q=>Ta ρ μ fun x μ1=>kIn x fun i=>Tm ρ μ1 fun y μ2=>Aj y fun z=>z.length≤1000∧Tb ρ μ2 fun w μ3=>kIn w fun j=>Q (.str (Str.empty++(toString i:Str)++z++(toString j:Str))) μ3
theorem xq (ha:LE X a Ta)(hm:LE X m Tm)(hb:LE X b Tb):LE X (.JoinedStr [.FormattedValue a (-1) none p1,m,.FormattedValue b (-1) none p2] pos) (zd Ta Tm Tb):=by
  obtain ⟨ta,pa,sa⟩:=ha.ex
  obtain ⟨tm,pm,sm⟩:=hm.ex
  obtain ⟨tb,pb,sb⟩:=hb.ex
  refine ⟨_,xk pa pm pb,fun σ H ρ μ Q Q' rl h k=>sa σ H ρ μ _ _ rl h fun x H1 dx μ1 t1 m1 q1 h1=>?_⟩
  cases q1 with
  | int j=>
    refine ⟨j,rfl,h1.1,sm σ H1 ρ μ1 _ _ (rl.go t1 m1) h1.2 fun y H2 dy μ2 t2 m2 q2 h2=>?_⟩
    cases q2 with
    | str z=>
      refine ⟨z,rfl,h2.1,sb σ H2 ρ μ2 _ _ ((rl.go t1 m1).go t2 m2) h2.2 fun w H3 dw μ3 t3 m3 q3 h3=>?_⟩
      cases q3 with
      | int j2=>exact ⟨j2,rfl,h3.1,k _ H3 _ μ3 (t1.trans (t2.trans t3)) m3 (.str _) h3.2⟩
      | _=>exact False.elim h3
    | _=>exact False.elim h2
  | _=>exact False.elim h1
theorem qA:bj X (.type "str") (fun xs H Q=>∃ z,xs=[.str z]∧Q (.str z) H):=by
  intro pins s σ H xs us Q I rx ⟨z,e,q⟩
  subst e
  obtain ⟨u,rfl,ru⟩:=vals1 rx
  obtain ⟨t,rfl⟩:=(show ∃ t,u=Value.str z t from ru)
  exact PySem.P.str_of_str ⟨.str z,H,I,⟨t,rfl⟩,q⟩
def bZ:FSp:=fun ds μ Q=>match ds with
  | [.str z]=>Q (.str z) μ
  | [.int i]=>i.natAbs.log2 < 1920∧Q (.str (toString i)) μ
  | _=>False
theorem bh {K:PySem.W.Frag}:mS K (fun xs H Q=>(∃ i,xs=[.int i]∧i.natAbs.log2 < 1920∧Q (.str (toString i)) H)∨∃ z,xs=[.str z]∧Q (.str z) H) bZ:=fun H μ xs ds Q Q' m p h k=>by
  unfold bZ at h
  split at h
  · cases p with | cons p1 p2=>cases p2;cases p1;exact .inr ⟨_,rfl,k _ H _ μ (.refl H) m (.str _) h⟩
  · cases p with | cons p1 p2=>cases p2;cases p1;exact .inl ⟨_,rfl,h.1,k _ H _ μ (.refl H) m (.str _) h.2⟩
  · exact h.elim
theorem aT:bj X (.type "str") (fun xs H Q=>(∃ i,xs=[.int i]∧i.natAbs.log2 < 1920∧Q (.str (toString i)) H)∨∃ z,xs=[.str z]∧Q (.str z) H):=bj.or kR qA
theorem iK:∀ {zs:List Str} {us:List Value},Vals (zs.map V.str) us→StrsAre us zs
  | [],_,.nil=>.nil
  | z::zs,_,.cons ⟨t,e⟩ r=>by rw[e];exact .cons z t (iK r)
theorem rg:MtM X "str.join" (fun x vs H Q=>∃ sep p zs,x=.str sep∧vs=[.ref p]∧SqT X.K H p (zs.map V.str)∧(zs.map (·.length)).sum+zs.length*sep.length≤16777216∧Q (.str (Txt.join sep zs)) H):=by
  intro pins s σ H x vs v us Q I rx rv h
  obtain ⟨sep,p,zs,rfl,rfl,sq,ok,q⟩:=h
  obtain ⟨t,rfl⟩:=rx
  obtain ⟨u,rfl,ru⟩:=rv.one
  cases (show u=Value.ref p from ru)
  obtain ⟨its,r,pl,_⟩:=I.tuple sq
  exact join_tuple pl (by rw[List.toList_toArray];exact iK r) ok fun t' k=>⟨.str _,H,I.tok _,⟨_,rfl⟩,q⟩
def iz (To Ti:ETr):ETr:=fun ρ μ Q=>To ρ μ fun x μ1=>Aj x fun sep=>Ti ρ μ1 fun y μ2=>match y with
    | .tup ds=>∃ zs,cj ds=some zs∧(zs.map (·.length)).sum+zs.length*sep.length≤16777216∧Q (.str (Txt.join sep zs)) μ2
    | _=>False
theorem mi (ho:LE X o To)(hi:LE X i Ti)
    (hbase:attributeBase o "join" X.env (eval o X.env)=eval o X.env:=by rfl)
    (hfew:((backTo cpos (starEach [i] X.env)).all (fun x=>!x.1)&&(backToKw cpos (keywordEach [] X.env)).all (fun x=>x.1.isSome)
      && decide (([i]:List Expr).length+([]:List Keyword).length+(if ([]:List Keyword).isEmpty then 0 else 1) < 30))=true:=by rfl)
    (hline:(apos.endLine == cpos.line)=true:=by rfl) (hs:starEach [i] X.env=(false,eval i X.env)::starEach [] X.env:=by rfl) (hplain:(backTo cpos (starEach [] X.env)).any (·.1)=false:=by rfl) :
    LE X (.Call (.Attribute o "join" apos) [i] [] cpos) (iz To Ti):=by
  obtain ⟨to,po,so⟩:=ho.ex
  obtain ⟨ti,pi,si⟩:=hi.ex
  refine ⟨_,t7 PySem.F.slot_str_join PySem.F.type_str_join rg po (cf pi eL hs) hbase hfew hline hs hplain,fun σ H ρ μ Q Q' rl h k=>so σ H ρ μ _ _ rl h fun x H1 dx μ1 t1 m1 p1 h1=>?_⟩
  cases p1 with
  | str z=>
    refine ⟨⟨z,rfl⟩,si σ H1 ρ μ1 _ _ (rl.go t1 m1) h1 fun y H2 dy μ2 t2 m2 p2 h2=>?_⟩
    cases p2 with
    | @tup a xs ds sq l=>
      obtain ⟨zs,e,ok,h2⟩:=h2
      have:=kr l e
      subst this
      exact ⟨z,a,zs,rfl,rfl,sq,ok,k _ H2 _ μ2 (t1.trans t2) m2 (.str _) h2⟩
    | _=>exact False.elim h2
  | _=>exact False.elim h1
end
end
theorem cy (i:Decidable (Str.ofString "still" = Str.ofString "step")):@decide (Str.ofString "still" = Str.ofString "step") i=false:=by cases i with | isTrue h=>exact absurd h (by rw[jo];exact not_false) | isFalse _=>rfl
theorem b9 (i:Decidable (Str.ofString "still" = Str.ofString "swell")):@decide (Str.ofString "still" = Str.ofString "swell") i=false:=by cases i with | isTrue h=>exact absurd h (by rw[ia];exact not_false) | isFalse _=>rfl
theorem cC (i:Decidable (Str.ofString "still" = Str.ofString "heed")):@decide (Str.ofString "still" = Str.ofString "heed") i=false:=by cases i with | isTrue h=>exact absurd h (by rw[jw];exact not_false) | isFalse _=>rfl
theorem cE (i:Decidable (Str.ofString "still" = Str.ofString "calm")):@decide (Str.ofString "still" = Str.ofString "calm") i=false:=by cases i with | isTrue h=>exact absurd h (by rw[js];exact not_false) | isFalse _=>rfl
theorem cF (i:Decidable (Str.ofString "step" = Str.ofString "still")):@decide (Str.ofString "step" = Str.ofString "still") i=false:=by cases i with | isTrue h=>exact absurd h (by rw[jK];exact not_false) | isFalse _=>rfl
theorem cI (i:Decidable (Str.ofString "step" = Str.ofString "swell")):@decide (Str.ofString "step" = Str.ofString "swell") i=false:=by cases i with | isTrue h=>exact absurd h (by rw[jq];exact not_false) | isFalse _=>rfl
theorem dk (i:Decidable (Str.ofString "step" = Str.ofString "heed")):@decide (Str.ofString "step" = Str.ofString "heed") i=false:=by cases i with | isTrue h=>exact absurd h (by rw[lR];exact not_false) | isFalse _=>rfl
theorem df (i:Decidable (Str.ofString "step" = Str.ofString "calm")):@decide (Str.ofString "step" = Str.ofString "calm") i=false:=by cases i with | isTrue h=>exact absurd h (by rw[kM];exact not_false) | isFalse _=>rfl
theorem b8 (i:Decidable (Str.ofString "swell" = Str.ofString "still")):@decide (Str.ofString "swell" = Str.ofString "still") i=false:=by cases i with | isTrue h=>exact absurd h (by rw[iG];exact not_false) | isFalse _=>rfl
theorem cH (i:Decidable (Str.ofString "swell" = Str.ofString "step")):@decide (Str.ofString "swell" = Str.ofString "step") i=false:=by cases i with | isTrue h=>exact absurd h (by rw[jm];exact not_false) | isFalse _=>rfl
theorem cz (i:Decidable (Str.ofString "swell" = Str.ofString "heed")):@decide (Str.ofString "swell" = Str.ofString "heed") i=false:=by cases i with | isTrue h=>exact absurd h (by rw[jL];exact not_false) | isFalse _=>rfl
theorem cx (i:Decidable (Str.ofString "swell" = Str.ofString "calm")):@decide (Str.ofString "swell" = Str.ofString "calm") i=false:=by cases i with | isTrue h=>exact absurd h (by rw[jG];exact not_false) | isFalse _=>rfl
theorem cN (i:Decidable (Str.ofString "heed" = Str.ofString "still")):@decide (Str.ofString "heed" = Str.ofString "still") i=false:=by cases i with | isTrue h=>exact absurd h (by rw[jQ];exact not_false) | isFalse _=>rfl
theorem di (i:Decidable (Str.ofString "heed" = Str.ofString "step")):@decide (Str.ofString "heed" = Str.ofString "step") i=false:=by cases i with | isTrue h=>exact absurd h (by rw[lK];exact not_false) | isFalse _=>rfl
theorem cA (i:Decidable (Str.ofString "heed" = Str.ofString "swell")):@decide (Str.ofString "heed" = Str.ofString "swell") i=false:=by cases i with | isTrue h=>exact absurd h (by rw[jj];exact not_false) | isFalse _=>rfl
theorem cZ (i:Decidable (Str.ofString "heed" = Str.ofString "calm")):@decide (Str.ofString "heed" = Str.ofString "calm") i=false:=by cases i with | isTrue h=>exact absurd h (by rw[kZ];exact not_false) | isFalse _=>rfl
theorem cM (i:Decidable (Str.ofString "calm" = Str.ofString "still")):@decide (Str.ofString "calm" = Str.ofString "still") i=false:=by cases i with | isTrue h=>exact absurd h (by rw[jg];exact not_false) | isFalse _=>rfl
theorem dm (i:Decidable (Str.ofString "calm" = Str.ofString "step")):@decide (Str.ofString "calm" = Str.ofString "step") i=false:=by cases i with | isTrue h=>exact absurd h (by rw[kT];exact not_false) | isFalse _=>rfl
theorem cJ (i:Decidable (Str.ofString "calm" = Str.ofString "swell")):@decide (Str.ofString "calm" = Str.ofString "swell") i=false:=by cases i with | isTrue h=>exact absurd h (by rw[ju];exact not_false) | isFalse _=>rfl
theorem dz (i:Decidable (Str.ofString "calm" = Str.ofString "heed")):@decide (Str.ofString "calm" = Str.ofString "heed") i=false:=by cases i with | isTrue h=>exact absurd h (by rw[lB];exact not_false) | isFalse _=>rfl
theorem kh (a:Str)(i:Decidable (a=a)):@decide (a=a) i=true:=by cases i with | isTrue _=>rfl | isFalse h=>exact absurd rfl h
def kLs (x:D)(f:List D→Prop):Prop:=match x with
  | .ls ds=>f ds
  | _=>False
def jI (sp:FSp)(ds:List D)(μ:Mu)(Q:DK):Prop:=sp ds μ Q
def LEN (ds:List D)(P:Prop):Prop:=ds.length≤1000000∧P
theorem xa (d:D)(r:ST)(μ:Mu)(Q:DK):ah 0 (some d::r) μ Q=Q d μ:=propext Iff.rfl
theorem vn (x0:Option D)(r:ST)(d:D)(μ:Mu)(k:ST→Mu→Prop):aw 0 d (x0::r) μ k=k (some d::r) μ:=propext Iff.rfl
theorem zj (x0:Option D)(d:D)(r:ST)(μ:Mu)(Q:DK):ah 1 (x0::some d::r) μ Q=Q d μ:=propext Iff.rfl
theorem u9 (x0 x1:Option D)(r:ST)(d:D)(μ:Mu)(k:ST→Mu→Prop):aw 1 d (x0::x1::r) μ k=k (x0::some d::r) μ:=propext Iff.rfl
theorem xC (x0 x1:Option D)(d:D)(r:ST)(μ:Mu)(Q:DK):ah 2 (x0::x1::some d::r) μ Q=Q d μ:=propext Iff.rfl
theorem uK (x0 x1 x2:Option D)(r:ST)(d:D)(μ:Mu)(k:ST→Mu→Prop):aw 2 d (x0::x1::x2::r) μ k=k (x0::x1::some d::r) μ:=propext Iff.rfl
theorem yZ (x0 x1 x2:Option D)(d:D)(r:ST)(μ:Mu)(Q:DK):ah 3 (x0::x1::x2::some d::r) μ Q=Q d μ:=propext Iff.rfl
theorem va (x0 x1 x2 x3:Option D)(r:ST)(d:D)(μ:Mu)(k:ST→Mu→Prop):aw 3 d (x0::x1::x2::x3::r) μ k=k (x0::x1::x2::some d::r) μ:=propext Iff.rfl
theorem xR (x0 x1 x2 x3:Option D)(d:D)(r:ST)(μ:Mu)(Q:DK):ah 4 (x0::x1::x2::x3::some d::r) μ Q=Q d μ:=propext Iff.rfl
theorem vS (x0 x1 x2 x3 x4:Option D)(r:ST)(d:D)(μ:Mu)(k:ST→Mu→Prop):aw 4 d (x0::x1::x2::x3::x4::r) μ k=k (x0::x1::x2::x3::some d::r) μ:=propext Iff.rfl
theorem yt (x0 x1 x2 x3 x4:Option D)(d:D)(r:ST)(μ:Mu)(Q:DK):ah 5 (x0::x1::x2::x3::x4::some d::r) μ Q=Q d μ:=propext Iff.rfl
theorem wc (x0 x1 x2 x3 x4 x5:Option D)(r:ST)(d:D)(μ:Mu)(k:ST→Mu→Prop):aw 5 d (x0::x1::x2::x3::x4::x5::r) μ k=k (x0::x1::x2::x3::x4::some d::r) μ:=propext Iff.rfl
theorem yU (x0 x1 x2 x3 x4 x5:Option D)(d:D)(r:ST)(μ:Mu)(Q:DK):ah 6 (x0::x1::x2::x3::x4::x5::some d::r) μ Q=Q d μ:=propext Iff.rfl
theorem ur (x0 x1 x2 x3 x4 x5 x6:Option D)(r:ST)(d:D)(μ:Mu)(k:ST→Mu→Prop):aw 6 d (x0::x1::x2::x3::x4::x5::x6::r) μ k=k (x0::x1::x2::x3::x4::x5::some d::r) μ:=propext Iff.rfl
theorem zy (x0 x1 x2 x3 x4 x5 x6:Option D)(d:D)(r:ST)(μ:Mu)(Q:DK):ah 7 (x0::x1::x2::x3::x4::x5::x6::some d::r) μ Q=Q d μ:=propext Iff.rfl
theorem uQ (x0 x1 x2 x3 x4 x5 x6 x7:Option D)(r:ST)(d:D)(μ:Mu)(k:ST→Mu→Prop):aw 7 d (x0::x1::x2::x3::x4::x5::x6::x7::r) μ k=k (x0::x1::x2::x3::x4::x5::x6::some d::r) μ:=propext Iff.rfl
theorem xc (x0 x1 x2 x3 x4 x5 x6 x7:Option D)(d:D)(r:ST)(μ:Mu)(Q:DK):ah 8 (x0::x1::x2::x3::x4::x5::x6::x7::some d::r) μ Q=Q d μ:=propext Iff.rfl
theorem vK (x0 x1 x2 x3 x4 x5 x6 x7 x8:Option D)(r:ST)(d:D)(μ:Mu)(k:ST→Mu→Prop):aw 8 d (x0::x1::x2::x3::x4::x5::x6::x7::x8::r) μ k=k (x0::x1::x2::x3::x4::x5::x6::x7::some d::r) μ:=propext Iff.rfl
theorem wZ (x0 x1 x2 x3 x4 x5 x6 x7 x8:Option D)(d:D)(r:ST)(μ:Mu)(Q:DK):ah 9 (x0::x1::x2::x3::x4::x5::x6::x7::x8::some d::r) μ Q=Q d μ:=propext Iff.rfl
theorem vo (x0 x1 x2 x3 x4 x5 x6 x7 x8 x9:Option D)(r:ST)(d:D)(μ:Mu)(k:ST→Mu→Prop):aw 9 d (x0::x1::x2::x3::x4::x5::x6::x7::x8::x9::r) μ k=k (x0::x1::x2::x3::x4::x5::x6::x7::x8::some d::r) μ:=propext Iff.rfl
theorem vf (x0 x1 x2 x3 x4 x5 x6 x7 x8 x9:Option D)(d:D)(r:ST)(μ:Mu)(Q:DK):ah 10 (x0::x1::x2::x3::x4::x5::x6::x7::x8::x9::some d::r) μ Q=Q d μ:=propext Iff.rfl
theorem tO (x0 x1 x2 x3 x4 x5 x6 x7 x8 x9 x10:Option D)(r:ST)(d:D)(μ:Mu)(k:ST→Mu→Prop):aw 10 d (x0::x1::x2::x3::x4::x5::x6::x7::x8::x9::x10::r) μ k=k (x0::x1::x2::x3::x4::x5::x6::x7::x8::x9::some d::r) μ:=propext Iff.rfl
theorem vC (x0 x1 x2 x3 x4 x5 x6 x7 x8 x9 x10:Option D)(d:D)(r:ST)(μ:Mu)(Q:DK):ah 11 (x0::x1::x2::x3::x4::x5::x6::x7::x8::x9::x10::some d::r) μ Q=Q d μ:=propext Iff.rfl
theorem rF (x0 x1 x2 x3 x4 x5 x6 x7 x8 x9 x10 x11:Option D)(r:ST)(d:D)(μ:Mu)(k:ST→Mu→Prop):aw 11 d (x0::x1::x2::x3::x4::x5::x6::x7::x8::x9::x10::x11::r) μ k=k (x0::x1::x2::x3::x4::x5::x6::x7::x8::x9::x10::some d::r) μ:=propext Iff.rfl
theorem vR (x0 x1 x2 x3 x4 x5 x6 x7 x8 x9 x10 x11:Option D)(d:D)(r:ST)(μ:Mu)(Q:DK):ah 12 (x0::x1::x2::x3::x4::x5::x6::x7::x8::x9::x10::x11::some d::r) μ Q=Q d μ:=propext Iff.rfl
theorem qJ (x0 x1 x2 x3 x4 x5 x6 x7 x8 x9 x10 x11 x12:Option D)(r:ST)(d:D)(μ:Mu)(k:ST→Mu→Prop):aw 12 d (x0::x1::x2::x3::x4::x5::x6::x7::x8::x9::x10::x11::x12::r) μ k=k (x0::x1::x2::x3::x4::x5::x6::x7::x8::x9::x10::x11::some d::r) μ:=propext Iff.rfl
theorem Bl (d:D)(ρ:ST)(μ:Mu)(Q:DK):TC d ρ μ Q=Q d μ:=propext Iff.rfl
theorem yk (r:DR2)(a b:ETr)(ρ:ST)(μ:Mu)(Q:DK):aq r a b ρ μ Q=a ρ μ fun x μ1=>b ρ μ1 fun y μ2=>r x y μ2 Q:=propext Iff.rfl
theorem Au (r:DR)(a:ETr)(ρ:ST)(μ:Mu)(Q:DK):TUn r a ρ μ Q=a ρ μ fun x μ1=>r x μ1 Q:=propext Iff.rfl
theorem BH (t:ETr)(ρ:ST)(μ:Mu)(Q:Bool→Mu→Prop):TB t ρ μ Q=t ρ μ fun x μ1=>kB x fun c=>Q c μ1:=propext Iff.rfl
theorem A3 (t u:TTr)(ρ:ST)(μ:Mu)(Q:Bool→Mu→Prop):TOr t u ρ μ Q=t ρ μ fun c μ1=>kIf c (Q true μ1) (u ρ μ1 Q):=propext Iff.rfl
theorem yN (t:TTr)(ρ:ST)(μ:Mu)(Q:Bool→Mu→Prop):lT t ρ μ Q=t ρ μ fun c μ1=>Q (!c) μ1:=propext Iff.rfl
theorem xX (c:TTr)(a b:ETr)(ρ:ST)(μ:Mu)(Q:DK):nQ c a b ρ μ Q=c ρ μ fun k μ1=>kIf k (a ρ μ1 Q) (b ρ μ1 Q):=propext Iff.rfl
theorem zv (ρ:ST)(μ:Mu)(Q:List D→Mu→Prop):au ρ μ Q=Q [] μ:=propext Iff.rfl
theorem wg (a:ETr)(r:ATr)(ρ:ST)(μ:Mu)(Q:List D→Mu→Prop):ae a r ρ μ Q=a ρ μ fun x μ1=>r ρ μ1 fun xs μ2=>Q (x::xs) μ2:=propext Iff.rfl
theorem yC (t:ATr)(ρ:ST)(μ:Mu)(Q:DK):a7 t ρ μ Q=t ρ μ fun ds μ1=>LEN ds (Q (.tup ds) μ1):=propext Iff.rfl
theorem yp (t:ATr)(ρ:ST)(μ:Mu)(Q:DK):cD t ρ μ Q=t ρ μ fun ds μ1=>LEN ds (Q (.ls ds) μ1):=propext Iff.rfl
theorem xF (t:ATr)(ρ:ST)(μ:Mu)(Q:DK):gP t ρ μ Q=t ρ μ fun ds μ1=>LEN ds (∀ p,μ1 p=none→Q (.obj p) (up μ1 p (.lst ds))):=propext Iff.rfl
theorem vV (sp:FSp)(t:ATr)(ρ:ST)(μ:Mu)(Q:DK):av sp t ρ μ Q=t ρ μ fun ds μ1=>jI sp ds μ1 Q:=propext Iff.rfl
theorem vA (nx:ST→Mu→Prop)(rt:DK)(bk ct:ST→Mu→Prop)(ρ:ST)(μ:Mu):bL ⟨nx,rt,bk,ct⟩ ρ μ=nx ρ μ:=propext Iff.rfl
theorem xi (t u:STr)(nx:ST→Mu→Prop)(rt:DK)(bk ct:ST→Mu→Prop)(ρ:ST)(μ:Mu):aH t u ⟨nx,rt,bk,ct⟩ ρ μ=t ⟨u ⟨nx,rt,bk,ct⟩,rt,bk,ct⟩ ρ μ:=propext Iff.rfl
theorem vG (e:ETr)(nx:ST→Mu→Prop)(rt:DK)(bk ct:ST→Mu→Prop)(ρ:ST)(μ:Mu):cQ e ⟨nx,rt,bk,ct⟩ ρ μ=e ρ μ fun _ μ1=>nx ρ μ1:=propext Iff.rfl
theorem yn (e:ETr)(nx:ST→Mu→Prop)(rt:DK)(bk ct:ST→Mu→Prop)(ρ:ST)(μ:Mu):br e ⟨nx,rt,bk,ct⟩ ρ μ=e ρ μ rt:=propext Iff.rfl
theorem w8 (c:TTr)(t u:STr)(nx:ST→Mu→Prop)(rt:DK)(bk ct:ST→Mu→Prop)(ρ:ST)(μ:Mu):cP c t u ⟨nx,rt,bk,ct⟩ ρ μ=c ρ μ fun b μ1=>kIf b (t ⟨nx,rt,bk,ct⟩ ρ μ1) (u ⟨nx,rt,bk,ct⟩ ρ μ1):=propext Iff.rfl
theorem xt (e:ETr)(g:GTr)(nx:ST→Mu→Prop)(rt:DK)(bk ct:ST→Mu→Prop)(ρ:ST)(μ:Mu):aR e g ⟨nx,rt,bk,ct⟩ ρ μ=e ρ μ fun d μ1=>g d ρ μ1 nx:=propext Iff.rfl
theorem yj (i j:Nat)(a:ATr)(nx:ST→Mu→Prop)(rt:DK)(bk ct:ST→Mu→Prop)(ρ:ST)(μ:Mu):nK i j a ⟨nx,rt,bk,ct⟩ ρ μ=a ρ μ fun ds μ1=>k2 ds fun v w=>aw i v ρ μ1 fun ρ2 μ2=>aw j w ρ2 μ2 nx:=propext Iff.rfl
theorem sN (o k e:ETr)(nx:ST→Mu→Prop)(rt:DK)(bk ct:ST→Mu→Prop)(ρ:ST)(μ:Mu):cO o k e ⟨nx,rt,bk,ct⟩ ρ μ=e ρ μ fun y μ1=>o ρ μ1 fun x μ2=>k ρ μ2 fun z μ3=>u6 x z y μ3 fun μ4=>nx ρ μ4:=propext Iff.rfl
theorem yL (it:ATr)(g:GTr)(b:STr)(nx:ST→Mu→Prop)(rt:DK)(bk ct:ST→Mu→Prop)(ρ:ST)(μ:Mu):i9 it g b ⟨nx,rt,bk,ct⟩ ρ μ=it ρ μ fun ds μ1=>forR g b ⟨nx,rt,bk,ct⟩ ds ρ μ1:=propext Iff.rfl
theorem qE (a:ETr)(ρ:ST)(μ:Mu)(Q:List D→Mu→Prop):cn a ρ μ Q=a ρ μ fun x μ1=>kI x fun j=>(-4611686018427387904≤j∧j < 4611686018427387904)∧Q (dX 0 j.toNat) μ1:=propext Iff.rfl
theorem pV (a:ETr)(ρ:ST)(μ:Mu)(Q:List D→Mu→Prop):zz (ae a au) ρ μ Q=a ρ μ fun x μ1=>kLs x fun ds=>Q (wu ds) μ1:=propext (Iff.of_eq (congrArg (a ρ μ) (funext fun x=>funext fun μ1=>by cases x<;>rfl)))
theorem xH (a:ETr)(ρ:ST)(μ:Mu)(Q:DK):jt a ρ μ Q=a ρ μ fun x μ1=>kObj x fun b=>kL μ1 b fun ds=>Q (.ls ds) (dn μ1 b):=propext Iff.rfl
theorem xE (To Te:ETr)(ρ:ST)(μ:Mu)(Q:DK):ik To Te ρ μ Q=To ρ μ fun x μ1=>kObj x fun a=>kL μ1 a fun _=>Te ρ μ1 fun y μ2=>kL μ2 a fun ds=>ds.length < 1000000∧Q .non (up μ2 a (.lst (ds++[y]))):=propext Iff.rfl
theorem zA (a:ETr)(lo hi:OTr)(ρ:ST)(μ:Mu)(Q:DK):TSl a lo hi ρ μ Q=a ρ μ fun x μ1=>lo ρ μ1 fun l μ2=>hi ρ μ2 fun h μ3=>rSl x l h μ3 Q:=propext Iff.rfl
theorem AZ (ρ:ST)(μ:Mu)(Q:Option Int→Mu→Prop):ONo ρ μ Q=Q none μ:=propext Iff.rfl
theorem yS (T:ETr)(ρ:ST)(μ:Mu)(Q:Option Int→Mu→Prop):lq T ρ μ Q=T ρ μ fun x μ1=>kI x fun i=>Q (some i) μ1:=propext Iff.rfl
theorem xA (i0 i1 i2:Nat)(d0 d1 d2:D)(ρ:ST)(μ:Mu)(k:ST→Mu→Prop):gB [i0,i1,i2] (.tup [d0,d1,d2]) ρ μ k=aw i0 d0 ρ μ fun ρ1 _=>aw i1 d1 ρ1 μ fun ρ2 _=>aw i2 d2 ρ2 μ fun ρ3 _=>k ρ3 μ:=by simp[gB,eR,aw]
theorem yv (i0 i1 i2 i3 i4:Nat)(d0 d1 d2 d3 d4:D)(ρ:ST)(μ:Mu)(k:ST→Mu→Prop):gB [i0,i1,i2,i3,i4] (.tup [d0,d1,d2,d3,d4]) ρ μ k=aw i0 d0 ρ μ fun ρ1 _=>aw i1 d1 ρ1 μ fun ρ2 _=>aw i2 d2 ρ2 μ fun ρ3 _=>aw i3 d3 ρ3 μ fun ρ4 _=>aw i4 d4 ρ4 μ fun ρ5 _=>k ρ5 μ:=by simp[gB,eR,aw]
theorem yl (i0 i1 i2 i3 i4 i5:Nat)(d0 d1 d2 d3 d4 d5:D)(ρ:ST)(μ:Mu)(k:ST→Mu→Prop):gB [i0,i1,i2,i3,i4,i5] (.tup [d0,d1,d2,d3,d4,d5]) ρ μ k=aw i0 d0 ρ μ fun ρ1 _=>aw i1 d1 ρ1 μ fun ρ2 _=>aw i2 d2 ρ2 μ fun ρ3 _=>aw i3 d3 ρ3 μ fun ρ4 _=>aw i4 d4 ρ4 μ fun ρ5 _=>aw i5 d5 ρ5 μ fun ρ6 _=>k ρ6 μ:=by simp[gB,eR,aw]
theorem AS (P:Prop):LEN [] P=P:=by simp[LEN]
theorem zL (x0:D)(P:Prop):LEN [x0] P=P:=by simp[LEN]
theorem zQ (x0 x1:D)(P:Prop):LEN [x0,x1] P=P:=by simp[LEN]
theorem zZ (x0 x1 x2:D)(P:Prop):LEN [x0,x1,x2] P=P:=by simp[LEN]
theorem AN (x0 x1 x2 x3:D)(P:Prop):LEN [x0,x1,x2,x3] P=P:=by simp[LEN]
theorem zD (x0 x1 x2 x3 x4:D)(P:Prop):LEN [x0,x1,x2,x3,x4] P=P:=by simp[LEN]
theorem Aq (x0 x1 x2 x3 x4 x5:D)(P:Prop):LEN [x0,x1,x2,x3,x4,x5] P=P:=by simp[LEN]
theorem AX (x0 x1 x2 x3 x4 x5 x6:D)(P:Prop):LEN [x0,x1,x2,x3,x4,x5,x6] P=P:=by simp[LEN]
theorem zc (x0:D)(r:List D)(μ:Mu)(Q:DK):L3.rIx (.tup (x0::r)) (.int 0) μ Q=Q x0 μ:=by rw[jb];exact congrArg (fun o=>kO o fun d=>Q d μ) (bG 0 _)
theorem xW (x0 x1:D)(r:List D)(μ:Mu)(Q:DK):L3.rIx (.tup (x0::x1::r)) (.int 1) μ Q=Q x1 μ:=by rw[jb];exact congrArg (fun o=>kO o fun d=>Q d μ) (bG 1 _)
theorem xr (x0 x1 x2 x3 x4:D)(r:List D)(μ:Mu)(Q:DK):L3.rIx (.tup (x0::x1::x2::x3::x4::r)) (.int 4) μ Q=Q x4 μ:=by rw[jb];exact congrArg (fun o=>kO o fun d=>Q d μ) (bG 4 _)
theorem yr (x0 x1 x2 x3 x4 x5:D)(r:List D)(μ:Mu)(Q:DK):L3.rIx (.tup (x0::x1::x2::x3::x4::x5::r)) (.int 5) μ Q=Q x5 μ:=by rw[jb];exact congrArg (fun o=>kO o fun d=>Q d μ) (bG 5 _)
theorem xB (i j:Int)(μ:Mu)(Q:DK):L3.rEq (.int i) (.int j) μ Q=Q (.bl (decide (i=j))) μ:=by simp[L3.rEq,okD,eqD]
theorem yB (i j:Str)(μ:Mu)(Q:DK):L3.rEq (.str i) (.str j) μ Q=((PyData.strOk i=true∧PyData.strOk j=true)∧Q (.bl (decide (i=j))) μ):=by simp[L3.rEq,okD,eqD]
theorem yV (i:Int)(μ:Mu)(Q:DK):jI nr [.int i] μ Q=Q (.int (if i < 0 then -i else i)) μ:=propext Iff.rfl
theorem yF (i:Bool)(μ:Mu)(Q:DK):jI p9 [.bl i] μ Q=Q (.int (if i then 1 else 0)) μ:=propext Iff.rfl
theorem tP (a:List D)(μ:Mu)(Q:DK):jI bW [.ls a] μ Q=Q (.tup a) μ:=propext Iff.rfl
theorem t9 (a:Addr)(μ:Mu)(Q:DK):jI bW [.obj a] μ Q=kL μ a fun xs=>Q (.tup xs) μ:=propext Iff.rfl
theorem qQ (a:List D)(μ:Mu)(Q:DK):jI g7 [.tup a] μ Q=Q (.int a.length) μ:=propext Iff.rfl
theorem sd (a:List D)(μ:Mu)(Q:DK):jI g7 [.ls a] μ Q=Q (.int a.length) μ:=propext Iff.rfl
theorem Ax (n:Nat)(i:Int):okD n (.int i)=true:=by cases n<;>simp[okD]
theorem z6 (n:Nat)(x:Str):okD n (.str x)=PyData.strOk x:=by cases n<;>simp[okD]
theorem zN (n:Nat)(ds:List D):okD (n+1) (.tup ds)=bU n ds:=by simp[okD]
theorem oZ (n:Nat):bU n []=true:=by simp[bU]
theorem l6 (n:Nat)(d:D)(r:List D):bU n (d::r)=(okD n d&&bU n r):=by simp[bU]
theorem wj (i j:Int):eqD (.int i) (.int j)=decide (i=j):=by simp[eqD]
theorem wF (i j:Str):eqD (.str i) (.str j)=decide (i=j):=by simp[eqD]
theorem wz (a b:List D):eqD (.tup a) (.tup b)=eM a b:=by simp[eqD]
theorem pE  : eM [] []=true:=by simp[eM]
theorem qK (b:D)(s:List D):eM (b::s) []=false:=by simp[eM]
theorem uq (A B:Prop):kIf true A B=A:=propext Iff.rfl
theorem vN (A B:Prop):kIf false A B=B:=propext Iff.rfl
theorem vk (c:Bool)(f):kB (.bl c) f=f c:=propext Iff.rfl
theorem rn (c:Int)(f):kI (.int c) f=f c:=propext Iff.rfl
theorem qF (c:D)(f):kO (some c) f=f c:=propext Iff.rfl
theorem rJ (c:List D)(f):kS (.tup c) f=f c:=propext Iff.rfl
theorem uF (c:List D)(f):kS (.ls c) f=f c:=propext Iff.rfl
theorem tK (a b:D)(f):k2 [a,b] f=f a b:=propext Iff.rfl
theorem j6 (c:Nat)(f):kN (some c) f=f c:=propext Iff.rfl
theorem oJ (a:Addr)(n:Int)(y:D)(μ:Mu)(f):u6 (.obj a) (.int n) y μ f=kL μ a fun ds=>kN (L2.ixN ds.length n) fun j=>f (up μ a (.lst (ds.set j y))):=propext Iff.rfl
theorem p7 (i j:Int)(μ Q):aG (.int i) (.int j) μ Q=Q (.int (i+j)) μ:=propext Iff.rfl
theorem ql (i j:Str)(μ Q):aG (.str i) (.str j) μ Q=(i.length+j.length≤1000000∧Q (.str (i++j)) μ):=propext Iff.rfl
theorem qh (a b:List D)(μ Q):aG (.tup a) (.tup b) μ Q=(a.length+b.length≤1000000∧Q (.tup (a++b)) μ):=propext Iff.rfl
theorem qa (a b:List D)(μ Q):aG (.ls a) (.ls b) μ Q=(a.length+b.length≤1000000∧Q (.ls (a++b)) μ):=propext Iff.rfl
theorem ua (i j:Int)(μ Q):oU (.int i) (.int j) μ Q=Q (.int (i - j)) μ:=propext Iff.rfl
theorem tG (i j:Int)(μ Q):e5 (.int i) (.int j) μ Q=(MulOk i j∧Q (.int (i*j)) μ):=propext Iff.rfl
theorem rM (i j:Int)(μ Q):gO (.int i) (.int j) μ Q=(eh j∧Q (.int (i.fdiv j)) μ):=propext Iff.rfl
theorem rz (i j:Int)(μ Q):fb (.int i) (.int j) μ Q=(j≠0∧Q (.int (i.fmod j)) μ):=propext Iff.rfl
theorem rY (i j:Int)(μ Q):oa (.int i) (.int j) μ Q=(hZ i j∧Q (.int (i ^ j.toNat)) μ):=propext Iff.rfl
theorem uL (i j:Int)(μ Q):rLt (.int i) (.int j) μ Q=Q (.bl (decide (i < j))) μ:=propext Iff.rfl
theorem ve (i j:Int)(μ Q):rGt (.int i) (.int j) μ Q=Q (.bl (decide (j < i))) μ:=propext Iff.rfl
theorem uU (i j:Int)(μ Q):rGe (.int i) (.int j) μ Q=Q (.bl (decide (j≤i))) μ:=propext Iff.rfl
theorem uD (a:Addr)(i:Int)(μ Q):L3.rIx (.obj a) (.int i) μ Q=kL μ a fun ds=>kO (atD ds i) fun d=>Q d μ:=propext Iff.rfl
theorem qM (c:String)(i:Int)(μ Q):fF c (.int i) μ Q=Q (.bl (aU "int" c)) μ:=propext Iff.rfl
theorem qO (c:String)(i:List D)(μ Q):fF c (.tup i) μ Q=Q (.bl (aU "tuple" c)) μ:=propext Iff.rfl
theorem rW (c:String)(i:Str)(μ Q):fF c (.str i) μ Q=Q (.bl (aU "str" c)) μ:=propext Iff.rfl
theorem u0 (μ Q):rIs .non .non μ Q=Q (.bl true) μ:=propext Iff.rfl
theorem uX (i:Int)(μ Q):rIs (.int i) .non μ Q=Q (.bl false) μ:=propext Iff.rfl
theorem vU (i:List D)(μ Q):rIs (.tup i) .non μ Q=Q (.bl false) μ:=propext Iff.rfl
theorem nL (μ Q):dr .non .non μ Q=Q (.bl false) μ:=propext Iff.rfl
theorem om (i:Int)(μ Q):dr (.int i) .non μ Q=Q (.bl true) μ:=propext Iff.rfl
theorem vT (a:List D)(lo hi)(μ Q):rSl (.tup a) lo hi μ Q=Q (.tup (cutD a lo hi)) μ:=propext Iff.rfl
theorem vz (a:List D)(lo hi)(μ Q):rSl (.ls a) lo hi μ Q=Q (.ls (cutD a lo hi)) μ:=propext Iff.rfl
theorem pj (ds:List D)(i:Int)(μ Q):L3.rIx (.tup ds) (.int i) μ Q=kO (atD ds i) fun d=>Q d μ:=propext Iff.rfl
theorem pP (ds:List D)(i:Int)(μ Q):L3.rIx (.ls ds) (.int i) μ Q=kO (atD ds i) fun d=>Q d μ:=propext Iff.rfl
theorem o9 (x y:D)(μ Q):L3.rEq x y μ Q=((okD 40 x=true∧okD 40 y=true)∧Q (.bl (eqD x y)) μ):=propext Iff.rfl
theorem pI (x y:D)(μ Q):L3.rNe x y μ Q=((okD 40 x=true∧okD 40 y=true)∧Q (.bl (!eqD x y)) μ):=propext Iff.rfl
theorem kif {p:Prop} [Decidable p] {A B:Prop}(h1:p→A)(h2:¬ p→B):kIf (decide p) A B:=by
  by_cases h:p
  · rw[decide_eq_true h];exact h1 h
  · rw[decide_eq_false h];exact h2 h
theorem cp {o:Option D}{d:D}{f:D→Prop}(e:o=some d)(h:f d):kO o f:=by rw[e];exact h
theorem cX {μ:Mu}{a:Addr}{ds:List D}{f:List D→Prop}(e:μ a=some (.lst ds))(h:f ds):kL μ a f:=by rw[wX e];exact h
theorem zx (a:ETr)(ρ:ST)(μ:Mu)(Q:List D→Mu→Prop):eA a ρ μ Q=a ρ μ fun x μ1=>kS x fun ds=>Q ds μ1:=propext Iff.rfl
theorem IsPart.of_eq {a b c d x y:Int}(h:IsPart a b x y)(hb:0 < b)(hd:0 < d)(e:a*d=c*b):IsPart c d x y:=by
  have xd:x*d=c*y:=by
    refine Int.eq_of_mul_eq_mul_right (a:=b) (by omega) ?_
    calc x*d*b=(x*b)*d:=by ac_rfl
      _=(a*y)*d:=by rw[h.e]
      _=(a*d)*y:=by ac_rfl
      _=(c*b)*y:=by rw[e]
      _=c*y*b:=by ac_rfl
  have y0:=h.q0
  have dx:x ∣ c:=by
    have:x ∣ y*c:=⟨d,by rw[Int.mul_comm y c];exact xd.symm⟩
    have h':=Int.dvd_gcd_mul_iff_dvd_mul.mpr this
    rw[h.g] at h'
    simpa using h'
  have dy:y ∣ d:=by
    have:y ∣ x*d:=⟨c,by rw[xd,Int.mul_comm]⟩
    have h':=Int.dvd_gcd_mul_iff_dvd_mul.mpr this
    rw[Int.gcd_comm,h.g] at h'
    simpa using h'
  refine ⟨h.q0,h.g,xd,?_,Nat.le_of_dvd (by omega) (Int.natAbs_dvd_natAbs.mpr dy)⟩
  by_cases hc:c=0
  · subst hc
    have:x=0:=by
      rcases Int.mul_eq_zero.mp (show x*d=0 by rw[xd,Int.zero_mul]) with z | z
      · exact z
      · omega
    rw[this];exact Nat.le_refl _
  · exact Nat.le_of_dvd (by omega) (Int.natAbs_dvd_natAbs.mpr dx)
structure Vl (d:D) (a b:Int):Prop where
  ex:∃ p q,d=fr p q∧IsPart a b p q
  b0:0 < b
theorem Vl.of_eq {d:D}{a b a' b':Int}(h:Vl d a b)(hb:0 < b')(e:a*b'=a'*b):Vl d a' b':=by
  obtain ⟨⟨p,q,rfl,P⟩,b0⟩:=h
  exact ⟨⟨p,q,rfl,P.of_eq b0 hb e⟩,hb⟩
def Le (a A:Int):Prop:=-A≤a∧a≤A
theorem Le.mono {a A B:Int}(h:Le a A)(hb:A≤B):Le a B:=⟨by have:=h.1;omega,by have:=h.2;omega⟩
theorem Le.of {a A:Int}(h0:0≤a)(h1:a≤A):Le a A:=⟨by omega,h1⟩
theorem Le.sub {a b A B:Int}(h:Le a A)(k:Le b B):Le (a - b) (A+B):=⟨by have:=h.1;have:=k.2;omega,by have:=h.2;have:=k.1;omega⟩
theorem Le.neg {a A:Int}(h:Le a A):Le (-a) A:=⟨by have:=h.2;omega,by have:=h.1;omega⟩
theorem Le.abs {a A:Int}(h:Le a A):(a.natAbs:Int)≤A:=by have:=h.1;have:=h.2;omega
abbrev Bd (a:Int):Prop:=Le a 1000000000000000000000000000000
theorem Bd.m {a:Int}(h:Bd a):cG a:=by have:=h.1;have:=h.2;unfold cG;omega
inductive Wd | still | step | swell | heed | calm
  deriving DecidableEq
structure RN where
  wd:Wd
  p:Int
  q:Int
  x:Int
  y:Int
  a:Int
  b:Int
  l:Int
  h:Int
  r:Int
  s:Int
def Wd.str:Wd→Str
  | .still=>Str.ofString "still"
  | .step=>Str.ofString "step"
  | .swell=>Str.ofString "swell"
  | .heed=>Str.ofString "heed"
  | .calm=>Str.ofString "calm"
def RN.toD (R:RN):D:=match R.wd with
  | .still=>.tup [.str "still", fr R.p R.q]
  | .step=>.tup [.str "step", fr R.p R.q,fr R.x R.y,fr R.a R.b,fr R.r R.s]
  | .swell=>.tup [.str "swell", fr R.p R.q,fr R.x R.y,fr R.a R.b,fr R.r R.s]
  | .heed=>.tup [.str "heed", fr R.p R.q,fr R.x R.y,fr R.a R.b,fr R.r R.s]
  | .calm=>.tup [.str "calm", fr R.p R.q,fr R.x R.y,.int R.l,.int R.h,fr R.r R.s]
structure RN.Ok (R:RN):Prop where
  w:FrB 1 60 R.p R.q
  t:FrB 1 60 R.r R.s
  wt:R.p*R.s≤R.r*R.q
  u:FrA 0 60 R.x R.y
  u1:R.wd=.swell→R.y < R.x
  g:FrA 0 1 R.a R.b
  d1:R.wd=.step∨R.wd=.swell→R.a < R.b
  l0:0≤R.l
  lh:R.l≤R.h
  h1:R.h≤60
  st:R.wd=.still→R.r=R.p∧R.s=R.q
structure Hd where
  good:Int
  mark:Int
  uM:Int
  wt:Int
structure Hd.Ok (h:Hd):Prop where
  g0:0≤h.good
  g1:h.good≤1000000
  m0:0≤h.mark
  m1:h.mark≤1000000
  l0:0≤h.uM
  l1:h.uM≤1000000
  w0:0≤h.wt
def Hd.toD (h:Hd):D:=.tup [.int h.good,.int h.mark,.int h.uM,.int h.wt]
def RN.idle (R:RN)(h:Hd):Prop:=R.wd=.still∨h.good+h.mark+h.uM=0
instance (R:RN) (h:Hd):Decidable (R.idle h):=by unfold RN.idle;infer_instance
theorem Le.div {a b A:Int}(h:Le a A)(hb:0 < b)(hA:0≤A):Le (a / b) A:=by
  constructor
  · rw[Int.le_ediv_iff_mul_le hb]
    have:=h.1
    have:A*1≤A*b:=Int.mul_le_mul_of_nonneg_left (by omega) hA
    rw[Int.neg_mul];omega
  · refine Int.ediv_le_of_le_mul hb ?_
    have:=h.2
    have:A*1≤A*b:=Int.mul_le_mul_of_nonneg_left (by omega) hA
    omega
local macro_rules | `(tactic| walk_at "rd")=>`(tactic| try simp only[ah,TC,aq,TUn,sW,xw,rC,TB,xJ,TOr,lT,nQ,oj,au,ae,a7,cD,gP,av,bL,aH,nh,sC,cQ,br,sI,cP,aw,aR,nK,cO,i9,cn,eA,cW,fj,jF,eZ,A2,ILs,
  tj,qP,tF,ud,rh,oQ,k9,nJ,ub,oF,kA,oY,i8,lD,lC,kg,kK,ik,hX,jt,il,iT,g4,g9,iH,iC,ij,h9,ie,TSl,ONo,lq,sy,sZ,sY,t8,q4,uk,ot,ny,sP,rS,sX,iS,jf,hU,nj,ow,oN,nk,nU,nP,nR,nO,oS,rm,tu,tf,rD,sR,sD,jb,rL,rG,og,oK,oO,n5,nt,oe,nX,nT,oH,nV,
  lk,ini,List.map,List.length,List.replicate,List.append,List.set,List.cons_append,List.nil_append,Nat.sub_self,Nat.reduceSub,Nat.reduceAdd,
  pq,o7,pA,pU,pB,pF,pz,o8,pR,List.getElem?_cons_zero,List.getElem?_cons_succ,aP,gk,Nat.reduceLT,Nat.reduceLeDiff,if_true,if_false,true_and,and_true,Bool.not_true,Bool.not_false,Nat.lt_add_one,Nat.zero_lt_succ,Nat.succ_lt_succ_iff,Nat.zero_lt_one,
  decide_eq_true_eq,Bool.false_eq_true,ite_false,ite_true,ne_eq,not_false_eq_true,Int.reduceToNat,Int.reducePow,Int.reduceNeg,Int.reduceSub,Int.reduceAdd,Int.reduceMul,Int.reduceEq,okD,bU,eqD,eM,Bool.and_self,Bool.and_true,Bool.true_and,gB,eR,decide_true,decide_false,Bool.or_true,Bool.or_false,Bool.true_or,Bool.false_or,Bool.and_false,Bool.false_and,and_self,cy,b9,cC,cE,cF,cI,dk,df,b8,cH,cz,cx,cN,di,cA,cZ,cM,dm,cJ,dz,kh,j7,rB,j9,mR,my,e6,fo,eW,fh,fz,fk,e9])
theorem RN.tup (R:RN)(hst:R.wd=.still→R.r=R.p∧R.s=R.q):∃ xs,R.toD=.tup xs∧xs[0]? = some (.str R.wd.str)∧xs[1]? = some (fr R.p R.q)∧xs[xs.length - 1]? = some (fr R.r R.s)∧xs≠[]:=by
  obtain ⟨wd,p,q,x,y,a,b,l,h,r,s⟩:=R
  cases wd
  · obtain ⟨e1,e2⟩:=hst rfl
    dsimp only at e1 e2
    subst e1 e2
    exact ⟨_,rfl,rfl,rfl,rfl,nofun⟩
  all_goals exact ⟨_,rfl,rfl,rfl,rfl,nofun⟩
def zS:=Jn @xa <| Jn @vn <| Jn @zj <| Jn @u9 <| Jn @xC <| Jn @uK <| Jn @yZ <| Jn @va <| Jn @xR <| Jn @vS <| Jn @yt <| Jn @wc <| Jn @yU <| Jn @ur <| Jn @zy <| Jn @uQ <| Jn @xc <| Jn @vK <| Jn @wZ <| Jn @vo <| Jn @vf <| Jn @tO <| Jn @vC <| Jn @rF <| Jn @vR <| Jn @qJ <| Jn @Bl <| Jn @yk <| Jn @Au <| Jn @BH <| Jn @A3 <| Jn @yN <| Jn @xX <| Jn @zv <| Jn @wg <| Jn @yC <| Jn @yp <| Jn @xF <| Jn @vV <| Jn @vA <| Jn @xi <| Jn @vG <| Jn @yn <| Jn @w8 <| Jn @xt <| Jn @yj <| Jn @sN <| Jn @yL <| Jn @qE <| Jn @xH <| Jn @xE <| Jn @zA <| Jn @AZ <| Jn @yS <| Jn @xA <| Jn @yv <| Jn @yl <| Jn @AS <| Jn @zL <| Jn @zQ <| Jn @zZ <| Jn @AN <| Jn @zD <| Jn @Aq <| Jn @AX <| Jn @zc <| Jn @xW <| Jn @xr <| Jn @yr <| Jn @uq <| Jn @vN <| Jn @vk <| Jn @rn <| Jn @qF <| Jn @rJ <| Jn @uF <| Jn @tK <| Jn @j6 <| Jn @oY <| Jn @oJ <| Jn @p7 <| Jn @ql <| Jn @qh <| Jn @qa <| Jn @ua <| Jn @tG <| Jn @rM <| Jn @rz <| Jn @rY <| Jn @uL <| Jn @ve <| Jn @uU <| Jn @uD <| Jn @qM <| Jn @qO <| Jn @rW <| Jn @u0 <| Jn @uX <| Jn @vU <| Jn @nL <| Jn @om <| Jn @vT <| Jn @vz <| Jn @xB <| Jn @yB <| Jn @yV <| Jn @yF <| Jn @tP <| @t9
def zV:=Jn @j7 <| Jn @j9 <| Jn @mR <| @my
local macro_rules | `(tactic| walk_at "go")=>`(tactic| try simp only[↓zS,zV,↓pV,↓hX,cy,b9,cC,cE,cF,cI,dk,df,b8,cH,cz,cx,cN,di,cA,cZ,cM,dm,cJ,dz,kh,Ax,z6,zN,oZ,l6,wj,wF,wz,pE,qK,qQ,sd,pj,pP,o9,pI,true_and,and_true,and_self,Bool.not_true,Bool.not_false,decide_true,decide_false,Bool.or_true,Bool.or_false,Bool.true_or,Bool.false_or,Bool.and_false,Bool.false_and,Bool.and_true,Bool.true_and,Int.reduceToNat,Int.reducePow,Int.reduceNeg,Int.reduceSub,Int.reduceAdd,Int.reduceMul,Int.reduceEq,Int.reduceLT,Int.reduceLE,Int.reduceBEq,gk,e6,fo,eW,fh,fz,fk,e9,if_true,if_false,Bool.false_eq_true,reduceCtorEq,decide_eq_true_eq])
local macro_rules | `(tactic| walk_at "ini")=>`(tactic| simp only[ini,List.map,List.length,List.replicate,Nat.reduceSub,Nat.reduceAdd,Nat.sub_self,List.cons_append,List.nil_append,List.append_nil])
theorem bA {xs:List D}{P:D→Prop}(h:∀ d∈xs,P d){k:Int}(k0:0≤k)(k1:k < xs.length):∃ d,atD xs k=some d∧P d:=by
  obtain ⟨j,rfl⟩:=Int.eq_ofNat_of_zero_le k0
  rw[bG]
  have hj:j < xs.length:=by omega
  exact ⟨xs[j],by simp[hj],h _ (List.getElem_mem hj)⟩
def IsL (hi:Int)(d:D):Prop:=∃ p q,d=fr p q∧FrL hi p q
def IsI (lo hi:Int)(d:D):Prop:=∃ i:Int,d=.int i∧lo≤i∧i≤hi
theorem aV {P:D→Prop}:∀ d∈([]:List D),P d:=fun _ h=>nomatch h
theorem ar {P:D→Prop}{a:D}{xs:List D}(h:P a)(k:∀ d∈xs,P d):∀ d∈a::xs,P d:=fun d hd=>by
  rcases List.mem_cons.mp hd with e | e
  · rw[e];exact h
  · exact k d e
local macro_rules | `(tactic| walk_at "all")=>`(tactic| repeat' (first | exact aV | refine ar ?_ ?_))
structure jR (b p:Addr) (xs:List D) (μ μ':Mu):Prop where
  box:Box μ' b
  ne:p≠b
  new:μ p=none
  at':μ' p=some (.lst xs)
  oth:∀ a,a≠b→a≠p→μ' a=μ a
theorem jR.go {b p:Addr}{xs:List D}{μ μ1 μ2:Mu}(h:jR b p xs μ μ1)(B:bE b μ1 μ2):jR b p xs μ μ2:=
  ⟨B.box,h.ne,h.new,by rw[B.oth p h.ne];exact h.at',fun a h1 h2=>by rw[B.oth a h1];exact h.oth a h1 h2⟩
theorem jR.set {b p:Addr}{xs ys:List D}{μ μ1:Mu}(h:jR b p xs μ μ1):jR b p ys μ (up μ1 p (.lst ys)):=by
  obtain ⟨g,s,c,e,hh⟩:=h.box
  exact ⟨⟨g,s,c,by rw[bN h.ne.symm];exact e,hh⟩,h.ne,h.new,aP,fun a h1 h2=>by rw[bN h2];exact h.oth a h1 h2⟩
theorem w6 (μ:Mu)(p:Addr):Sub (dn μ p) μ:=fun a o e=>by
  unfold dn at e
  split at e
  · cases e
  · exact e
theorem jR.fin {b p:Addr}{xs:List D}{μ μ1:Mu}(h:jR b p xs μ μ1):bE b μ (dn μ1 p):=by
  obtain ⟨g,s,c,e,hh⟩:=h.box
  refine ⟨⟨g,s,c,?_,hh⟩,fun a ha=>?_⟩
  · unfold dn;rw[if_neg h.ne.symm];exact e
  · unfold dn
    split
    · rename_i z;subst z;exact h.new.symm
    · rename_i z;exact h.oth a ha z
theorem jR.rt {b p:Addr}{xs:List D}{μ μ1:Mu}{Q:DK}{d:D}(h:jR b p xs μ μ1)(k:∀ μ',bE b μ μ'→Q d μ'):RT Q d μ1:=⟨_,w6 μ1 p,k _ h.fin⟩
theorem ey {p:Addr}{G:GTr}{tt:TTr}{te:ETr}{ρc:ST}{K:Mu→Prop}(P:List D→Mu→Prop)(hnil:∀ μ,P [] μ→K μ)
    (hcons:∀ d r μ (N:Mu→Prop),P (d::r) μ→(∀ μ',P r μ'→N μ')→G d ρc μ fun ρ1 μ1=>tt ρ1 μ1 fun b μ2=>kIf b (te ρ1 μ2 fun y μ3=>kL μ3 p fun zs=>zs.length < 1000000∧N (up μ3 p (.lst (zs++[y])))) (N μ2)) :
    ∀ (ds:List D) (μ:Mu),P ds μ→fj p G tt te ρc K ds μ
  | [],μ,h=>hnil μ h
  | d::r,μ,h=>hcons d r μ _ h fun μ' q=>ey P hnil hcons r μ' q
theorem zH (d0:D)(r:List D)(f:D→Prop):kO (atD (d0::r) 0) f=f d0:=by rw[pq];rfl
theorem AV (d0 d1:D)(r:List D)(f:D→Prop):kO (atD (d0::d1::r) 1) f=f d1:=by rw[o7];rfl
theorem Ar (d0 d1 d2:D)(r:List D)(f:D→Prop):kO (atD (d0::d1::d2::r) 2) f=f d2:=by rw[pA];rfl
theorem A5 (d0 d1 d2 d3:D)(r:List D)(f:D→Prop):kO (atD (d0::d1::d2::d3::r) 3) f=f d3:=by rw[pU];rfl
theorem As (d0 d1 d2 d3 d4:D)(r:List D)(f:D→Prop):kO (atD (d0::d1::d2::d3::d4::r) 4) f=f d4:=by rw[pB];rfl
theorem A6 (d0 d1 d2 d3 d4 d5:D)(r:List D)(f:D→Prop):kO (atD (d0::d1::d2::d3::d4::d5::r) 5) f=f d5:=by rw[pF];rfl
def mO (G:GTr)(tt:TTr)(te:ETr)(ρc:ST)(ds:List D)(μ:Mu)(Q:DK):Prop:=∀ p,μ p=none→fj p G tt te ρc (fun μ'=>kL μ' p fun zs=>Q (.ls zs) (dn μ' p)) ds (up μ p (.lst []))
theorem uv (it:ATr)(G:GTr)(tt:TTr)(te:ETr)(n:Nat)(caps:List Nat)(ρ:ST)(μ:Mu)(Q:DK):cW it G tt te n caps ρ μ Q=it ρ μ fun ds μ1=>mO G tt te (jF ρ n caps) ds μ1 Q:=propext Iff.rfl
theorem xf (ρ:ST)(μ:Mu)(Q:Bool→Mu→Prop):eZ ρ μ Q=Q true μ:=propext Iff.rfl
theorem ja {μ:Mu}{a:Addr}{o:MO}(h:μ a=none):dn (up μ a o) a=μ:=sj h
section
variable {G:GTr} {tt:TTr} {te:ETr} {ρc:ST} {ds:List D} {μ:Mu} {Q:DK}
theorem uO (f:D→Option D)(hl:ds.length≤999999)
    (step:∀ d∈ds,∀ μ',Sub μ μ'→∀ (N:Option D→Mu→Prop),N (f d) μ'→G d ρc μ' fun ρ1 μ1=>tt ρ1 μ1 fun b μ2=>kIf b (te ρ1 μ2 fun y μ3=>N (some y) μ3) (N none μ2))
    (k:Q (.ls (ds.filterMap f)) μ):mO G tt te ρc ds μ Q:=by
  intro p hp
  refine ey (fun r μ'=>∃ done,ds=done++r∧μ'=up μ p (.lst (done.filterMap f))) ?_ ?_ _ _ ⟨[],rfl,rfl⟩
  · rintro μ' ⟨done,e,rfl⟩
    rw[List.append_nil] at e
    subst e
    refine cX aP ?_
    rw[sj hp];exact k
  · rintro d r μ' N ⟨done,e,rfl⟩ hN
    have hd:d∈ds:=by rw[e];simp
    have e':ds=(done++[d])++r:=by rw[e];simp
    have lf:(done.filterMap f).length < 1000000:=by
      have h1:=List.length_filterMap_le f done
      have h2:ds.length=done.length+(d::r).length:=by rw[e,List.length_append]
      rw[List.length_cons] at h2;omega
    refine step d hd _ (Sub.new hp) (fun oy μ3=>match oy with
      | some y=>kL μ3 p fun zs=>zs.length < 1000000∧N (up μ3 p (.lst (zs++[y])))
      | none=>N μ3) ?_
    cases hf:f d with
    | none=>
      refine hN _ ⟨done++[d],e',?_⟩
      rw[List.filterMap_append];simp[hf]
    | some y=>
      refine cX aP ⟨lf,hN _ ⟨done++[d],e',?_⟩⟩
      rw[List.filterMap_append,gk];simp[hf]
theorem comp_map (f:D→D)(hl:ds.length≤999999)
    (step:∀ d∈ds,∀ μ',Sub μ μ'→∀ (N:DK),N (f d) μ'→G d ρc μ' fun ρ1 μ1=>te ρ1 μ1 N)
    (k:Q (.ls (ds.map f)) μ):mO G eZ te ρc ds μ Q:=by
  refine uO (fun d=>some (f d)) hl (fun d hd μ' s N n=>?_) (by rw[show (fun d=>some (f d))=some ∘ f from rfl,List.filterMap_eq_map];exact k)
  exact step d hd μ' s (fun y μ3=>N (some y) μ3) n
theorem tH (I:List D→List D→Prop)(h0:I ds [])(hl:ds.length≤999999)
    (step:∀ d r zs μ',Sub μ μ'→I (d::r) zs→∀ (N:Option D→Mu→Prop),(∀ oy,I r (zs++oy.toList)→N oy μ')→G d ρc μ' fun ρ1 μ1=>tt ρ1 μ1 fun b μ2=>kIf b (te ρ1 μ2 fun y μ3=>N (some y) μ3) (N none μ2))
    (k:∀ zs,I [] zs→Q (.ls zs) μ):mO G tt te ρc ds μ Q:=by
  intro p hp
  refine ey (fun r μ'=>∃ zs,I r zs∧zs.length+r.length≤ds.length∧μ'=up μ p (.lst zs)) ?_ ?_ _ _ ⟨[],h0,by simp,rfl⟩
  · rintro μ' ⟨zs,hI,_,rfl⟩
    refine cX aP ?_
    rw[sj hp];exact k zs hI
  · rintro d r μ' N ⟨zs,hI,hz,rfl⟩ hN
    rw[List.length_cons] at hz
    refine step d r zs _ (Sub.new hp) hI (fun oy μ3=>match oy with
      | some y=>kL μ3 p fun zs=>zs.length < 1000000∧N (up μ3 p (.lst (zs++[y])))
      | none=>N μ3) ?_
    intro oy hoy
    cases oy with
    | none=>exact hN _ ⟨zs,by simpa using hoy,by omega,rfl⟩
    | some y=>
      refine cX aP ⟨by omega,hN _ ⟨zs++[y],hoy,by rw[List.length_append];simp;omega,?_⟩⟩
      rw[gk]
theorem tW {α:Type}(xs:List α)(t:α→D)(h:α→Option D)(hds:ds=xs.map t)(hl:xs.length≤999999)
    (step:∀ x∈xs,∀ μ',Sub μ μ'→∀ (N:Option D→Mu→Prop),N (h x) μ'→G (t x) ρc μ' fun ρ1 μ1=>tt ρ1 μ1 fun b μ2=>kIf b (te ρ1 μ2 fun y μ3=>N (some y) μ3) (N none μ2))
    (k:Q (.ls (xs.filterMap h)) μ):mO G tt te ρc ds μ Q:=by
  subst hds
  refine tH (fun r zs=>∃ a c,xs=a++c∧r=c.map t∧zs=a.filterMap h) ⟨[],xs,rfl,rfl,rfl⟩ (by simpa using hl) ?_ ?_
  · rintro d r zs μ' sb ⟨a,c,e,er,rfl⟩ N hN
    cases c with
    | nil=>cases er
    | cons x c=>
    cases er
    refine step x (by rw[e];simp) μ' sb N (hN _ ⟨a++[x],c,by rw[e];simp,rfl,?_⟩)
    rw[List.filterMap_append]
    cases hx:h x<;>simp[hx]
  · rintro zs ⟨a,c,e,er,rfl⟩
    have:c=[]:=by cases c with | nil=>rfl | cons=>cases er
    subst this
    rw[List.append_nil] at e
    subst e;exact k
theorem jX {α:Type}(xs:List α)(t:α→D)(h:α→D)(hds:ds=xs.map t)(hl:xs.length≤999999)
    (step:∀ x∈xs,∀ μ',Sub μ μ'→∀ (N:DK),N (h x) μ'→G (t x) ρc μ' fun ρ1 μ1=>te ρ1 μ1 N)
    (k:Q (.ls (xs.map h)) μ):mO G eZ te ρc ds μ Q:=by
  refine tW xs t (fun x=>some (h x)) hds hl (fun x hx μ' s N n=>?_) (by rw[show (fun x=>some (h x))=some ∘ h from rfl,List.filterMap_eq_map];exact k)
  exact step x hx μ' s (fun y μ3=>N (some y) μ3) n
end
theorem lF {x y:Str}(hx:PyData.strOk x=true)(hy:PyData.strOk y=true):PyData.strOk (x++y)=true:=by
  unfold PyData.strOk at *
  show (x.cps++y.cps).all _=true
  rw[Array.all_append,hx,hy];rfl
theorem dh (sep:Str)(zs:List Str):Txt.join sep zs=Str.join sep zs:=StrLaws.glued_eq_join sep zs
theorem gY {sep:Str}(hs:PyData.strOk sep=true):∀ {zs:List Str},(∀ z∈zs,PyData.strOk z=true)→PyData.strOk (Str.join sep zs)=true
  | [],_=>by show PyData.strOk Str.empty=true;decide +kernel
  | [x],h=>h x List.mem_cons_self
  | x::y::r,h=>by
    show PyData.strOk (x++sep++Str.join sep (y::r))=true
    exact lF (lF (h x List.mem_cons_self) hs) (gY hs fun z k=>h z (List.mem_cons_of_mem _ k))
theorem rH {n:Nat}:∀ {zs:List Str},(∀ z∈zs,z.length≤n)→(zs.map (·.length)).sum≤zs.length*n
  | [],_=>Nat.zero_le _
  | x::r,h=>by
    have ih:=rH fun z k=>h z (List.mem_cons_of_mem x k)
    have:=h x List.mem_cons_self
    rw[List.map_cons,List.sum_cons,List.length_cons,Nat.succ_mul]
    omega
theorem jc {n m k:Nat}{sep:Str}{zs:List Str}(h:∀ z∈zs,z.length≤n)(hz:zs.length≤m)(hs:sep.length≤k):(zs.map (·.length)).sum+zs.length*sep.length≤m*(n+k):=by
  have h1:=rH h
  have h2:zs.length*sep.length≤zs.length*k:=Nat.mul_le_mul_left _ hs
  have h3:zs.length*(n+k)≤m*(n+k):=Nat.mul_le_mul_right _ hz
  rw[Nat.mul_add] at h3
  omega
theorem strs_map (zs:List Str):cj (zs.map .str)=some zs:=by
  induction zs with
  | nil=>rfl
  | cons z r ih=>rw[List.map_cons,cj,ih];rfl
def itS (i:Int):Str:=toString i
theorem fS {i:Int}(h0:0≤i)(h1:i < 10000000000):(itS i).length≤10:=PyProof.Rows.toString_length_le h0 (by decide) (by simpa using h1)
theorem bH {i:Int}(h0:0≤i)(h1:i < 10000000000):i.natAbs.log2 < 1920:=by
  have:i.natAbs < 2 ^ 34:=Nat.lt_of_lt_of_le (show i.natAbs < 10000000000 by omega) (by decide)
  by_cases z:i.natAbs=0
  · rw[z];decide
  · exact Nat.lt_trans ((Nat.log2_lt z).mpr this) (by decide)
theorem pT (i:Int):PyData.strOk (itS i)=true:=by
  unfold PyData.strOk
  refine Array.all_eq_true_iff_forall_mem.mpr fun c hc=>decide_eq_true ?_
  refine Classical.byContradiction fun h=>?_
  exact PyProof.Rows.int_text_free' c ⟨by omega,.inr (by omega)⟩ i (Array.mem_toList_iff.mpr hc)
def shw:D→Str
  | .str z=>z
  | .int i=>itS i
  | .tup [.int a,.int b]=>if b=1 then itS a else itS a++Str.ofString "/" ++ itS b
  | _=>Str.ofString "-"
def gT (d:D):Prop:=(∃ i:Int,d=.int i∧0≤i∧i < 10000000000)∨∃ a b:Int,d=.tup [.int a,.int b]∧(0≤a∧a < 10000000000)∧0≤b∧b < 10000000000
def g5 (d:D):Prop:=d=.non∨(∃ z,d=.str z∧PyData.strOk z=true∧z.length≤200)∨gT d
theorem ly:(Str.ofString "/").length=1:=by decide +kernel
theorem ui:(Str.ofString "-").length=1:=by decide +kernel
theorem A8 {d:D}(h:gT d):(shw d).length≤200∧PyData.strOk (shw d)=true:=by
  rcases h with ⟨i,rfl,h0,h1⟩ | ⟨a,b,rfl,⟨a0,a1⟩,b0,b1⟩
  · exact ⟨Nat.le_trans (fS h0 h1) (by decide),pT i⟩
  · have la:=fS a0 a1
    have lb:=fS b0 b1
    show (if b=1 then itS a else itS a++Str.ofString "/" ++ itS b).length≤200∧PyData.strOk (if b=1 then itS a else itS a++Str.ofString "/" ++ itS b)=true
    split
    · exact ⟨by omega,pT a⟩
    · exact ⟨by rw[Str.length_append,Str.length_append,ly];omega,lF (lF (pT a) (by decide +kernel)) (pT b)⟩
theorem wH {d:D}(h:g5 d):(shw d).length≤200∧PyData.strOk (shw d)=true:=by
  rcases h with rfl | ⟨z,rfl,h1,h2⟩ | h
  · exact ⟨by show (Str.ofString "-").length≤200;rw[ui];decide,by show PyData.strOk (Str.ofString "-")=true;decide +kernel⟩
  · exact ⟨h2,h1⟩
  · exact A8 h
structure WT where
  nm:Str
  p:Int
  r:Int
  m:Option Int
  so:Str
def oD:Option Int→D
  | none=>.non
  | some i=>.int i
def WT.toD (w:WT):D:=.tup [.str w.nm,.int w.p,.int w.r,oD w.m,.str w.so]
structure cT (z:Str):Prop where
  o:PyData.strOk z=true
  l:z.length≤8
structure jA (i:Int):Prop where
  l:0≤i
  u:i < 10000000000
structure WT.Ok (w:WT):Prop where
  n:cT w.nm
  p:jA w.p
  r:jA w.r
  m:∀ i,w.m=some i→jA i
  s:cT w.so
structure ST' where
  nm:Str
  rd:List Str
  bt:Int
  bg:Int
  mn:Option Int
  wd:Str
  ps:List D
def ST'.toD (s:ST'):D:=.tup [.str s.nm,.tup (s.rd.map .str),.int s.bt,.int s.bg,oD s.mn,.tup (.str s.wd::s.ps)]
structure ST'.Ok (s:ST'):Prop where
  n:cT s.nm
  r:∀ z∈s.rd,cT z
  rl:s.rd.length≤8
  b:jA s.bt
  g:jA s.bg
  m:∀ i,s.mn=some i→jA i
  w:cT s.wd
  p:∀ d∈s.ps,gT d
  pl:s.ps.length≤6
def sp1:Str:=Str.ofString " "
def WT.ds (w:WT):List D:=[.str "way", .str w.nm,.int w.p,.int w.r,oD w.m,.str w.so]
def ST'.ds (s:ST'):List D:=[.str "sender", .str s.nm,.str (Str.join (Str.ofString ",") s.rd),.int s.bt,.int s.bg,oD s.mn,.str s.wd]++s.ps
theorem AU {o:Option Int}(h:∀ i,o=some i→jA i):g5 (oD o):=by
  cases o with
  | none=>exact .inl rfl
  | some i=>exact .inr (.inr (.inl ⟨i,rfl,(h i rfl).l,(h i rfl).u⟩))
theorem nA {z:Str}(h:cT z):g5 (.str z):=.inr (.inl ⟨z,rfl,h.o,Nat.le_trans h.l (by decide)⟩)
theorem rQ {i:Int}(h:jA i):g5 (.int i):=.inr (.inr (.inl ⟨i,rfl,h.l,h.u⟩))
theorem WT.Ok.pt {w:WT}(h:w.Ok):∀ d∈w.ds,g5 d:=ar (nA ⟨by decide +kernel,by decide +kernel⟩) (ar (nA h.n) (ar (rQ h.p) (ar (rQ h.r) (ar (AU h.m) (ar (nA h.s) aV)))))
theorem fO:(Str.ofString ",").length=1:=by decide +kernel
theorem ST'.Ok.road {s:ST'}(h:s.Ok):PyData.strOk (Str.join (Str.ofString ",") s.rd)=true∧(Str.join (Str.ofString ",") s.rd).length≤200:=by
  refine ⟨gY (by decide +kernel) fun z k=>(h.r z k).o,?_⟩
  have h1:=StrLaws.join_length_le (Str.ofString ",") s.rd
  have h2:=jc (n:=8) (m:=8) (k:=1) (sep:=Str.ofString ",") (zs:=s.rd) (fun z k=>(h.r z k).l) h.rl (by rw[fO];decide)
  omega
theorem ST'.Ok.pt {s:ST'}(h:s.Ok):∀ d∈s.ds,g5 d:=fun d hd=>by
  rcases List.mem_append.mp hd with z | z
  · exact (ar (nA ⟨by decide +kernel,by decide +kernel⟩) (ar (nA h.n) (ar (.inr (.inl ⟨_,rfl,h.road.1,h.road.2⟩)) (ar (rQ h.b) (ar (rQ h.g) (ar (AU h.m) (ar (nA h.w) aV))))))) d z
  · exact .inr (.inr (h.p d z))
def bM (ds:List D):Str:=Str.join sp1 (ds.map shw)
theorem xY:sp1.length=1:=by decide +kernel
theorem zR:PyData.strOk sp1=true:=by decide +kernel
theorem gZ {ds:List D}(h:∀ d∈ds,g5 d)(hl:ds.length≤20):((ds.map shw).map (·.length)).sum+(ds.map shw).length*sp1.length≤4020:=by
  have:=jc (n:=200) (m:=20) (k:=1) (sep:=sp1) (zs:=ds.map shw) (fun z k=>by
    obtain ⟨d,hd,rfl⟩:=List.mem_map.mp k
    exact (wH (h d hd)).1) (by rw[List.length_map];exact hl) (by rw[xY];decide)
  omega
theorem kJ {ds:List D}(h:∀ d∈ds,g5 d)(hl:ds.length≤20):PyData.strOk (bM ds)=true∧(bM ds).length≤4020:=by
  refine ⟨gY zR fun z k=>?_,Nat.le_trans (StrLaws.join_length_le _ _) (gZ h hl)⟩
  obtain ⟨d,hd,rfl⟩:=List.mem_map.mp k
  exact (wH (h d hd)).2
structure PT where
  g:Int
  ws:List WT
  ss:List ST'
def PT.toD (p:PT):D:=.tup [.int p.g,.tup (p.ws.map WT.toD),.tup (p.ss.map ST'.toD)]
structure PT.Ok (p:PT):Prop where
  g:jA p.g
  w:∀ w∈p.ws,w.Ok
  s:∀ s∈p.ss,s.Ok
  wl:p.ws.length≤8
  sl:p.ss.length≤8
def PT.gd (p:PT):List D:=[.str "grid", .int p.g]
def PT.rows (p:PT):List Str:=bM p.gd::(p.ws.map (fun w=>bM w.ds)++p.ss.map fun s=>bM s.ds)
theorem PT.Ok.gd {p:PT}(h:p.Ok):∀ d∈p.gd,g5 d:=ar (nA ⟨by decide +kernel,by decide +kernel⟩) (ar (rQ h.g) aV)
theorem oo {s:ST'}(h:s.Ok):s.ds.length≤20:=by
  have:=h.pl
  unfold ST'.ds
  rw[List.length_append]
  show 7+s.ps.length≤20
  omega
theorem PT.Ok.row {p:PT}(h:p.Ok):∀ z∈p.rows,PyData.strOk z=true∧z.length≤4020:=fun z k=>by
  rcases List.mem_cons.mp k with rfl | k
  · exact kJ h.gd (by show 2≤20;decide)
  · rcases List.mem_append.mp k with k | k
    · obtain ⟨w,hw,rfl⟩:=List.mem_map.mp k
      exact kJ (h.w w hw).pt (by show 6≤20;decide)
    · obtain ⟨s,hs,rfl⟩:=List.mem_map.mp k
      exact kJ (h.s s hs).pt (oo (h.s s hs))
theorem PT.Ok.len {p:PT}(h:p.Ok):p.rows.length≤17:=by
  have:=h.wl
  have:=h.sl
  unfold PT.rows
  rw[List.length_cons,List.length_append,List.length_map,List.length_map]
  omega
def nl:Str:=Str.ofString "\n"
def PT.text (p:PT):Str:=Str.join nl p.rows
theorem xm:nl.length=1:=by decide +kernel
theorem PT.Ok.tot {p:PT}(h:p.Ok):(p.rows.map (·.length)).sum+p.rows.length*nl.length≤16777216:=by
  have:=jc (n:=4020) (m:=17) (k:=1) (sep:=nl) (fun z k=>(h.row z k).2) h.len (by rw[xm];decide)
  omega
theorem PT.Ok.txt {p:PT}(h:p.Ok):PyData.strOk p.text=true:=gY (by decide +kernel) fun z k=>(h.row z k).1
theorem tI (i:Int):Str.ofString "grid " ++ itS i=bM [.str "grid", .int i]:=by
  show _=Str.ofString "grid" ++ sp1++itS i
  rw[show Str.ofString "grid" ++ sp1=Str.ofString "grid " by decide +kernel]
end L3
namespace Kk
local macro_rules | `(tactic| walk_at "ln")=>`(tactic| (intro ds μ Q h;split at h;rfl;exact h.elim))
open PySem L3
theorem ug:aU "NoneType" "int" = false:=by decide +kernel
theorem qu:aU "NoneType" "bool" = false:=by decide +kernel
theorem tT:aU "NoneType" "str" = false:=by decide +kernel
theorem nN:aU "NoneType" "tuple" = false:=by decide +kernel
theorem sJ:aU "bool" "int" = true:=by decide +kernel
theorem qp:aU "bool" "bool" = true:=by decide +kernel
theorem qT:aU "bool" "str" = false:=by decide +kernel
theorem nF:aU "bool" "tuple" = false:=by decide +kernel
theorem rj:aU "int" "int" = true:=by decide +kernel
theorem qk:aU "int" "bool" = false:=by decide +kernel
theorem sG:aU "int" "str" = false:=by decide +kernel
theorem nz:aU "int" "tuple" = false:=by decide +kernel
theorem tM:aU "str" "int" = false:=by decide +kernel
theorem qd:aU "str" "bool" = false:=by decide +kernel
theorem su:aU "str" "str" = true:=by decide +kernel
theorem oh:aU "str" "tuple" = false:=by decide +kernel
theorem tU:aU "tuple" "int" = false:=by decide +kernel
theorem p5:aU "tuple" "bool" = false:=by decide +kernel
theorem rX:aU "tuple" "str" = false:=by decide +kernel
theorem nv:aU "tuple" "tuple" = true:=by decide +kernel
theorem sT:aU "list" "int" = false:=by decide +kernel
theorem pY:aU "list" "bool" = false:=by decide +kernel
theorem qU:aU "list" "str" = false:=by decide +kernel
theorem nD:aU "list" "tuple" = false:=by decide +kernel
theorem uc:aU "dict" "int" = false:=by decide +kernel
theorem qe:aU "dict" "bool" = false:=by decide +kernel
theorem tZ:aU "dict" "str" = false:=by decide +kernel
theorem nH:aU "dict" "tuple" = false:=by decide +kernel
def kTx (x:D)(f:Str→Prop):Prop:=match x with
  | .str z=>f z
  | _=>False
section
variable (c:String) (μ:Mu) (Q:DK)
theorem vY (b:Str):rIs (.str b) .non μ Q=Q (.bl false) μ:=propext Iff.rfl
theorem uP (x:Str)(i:Int):j5 (.str x) (.int i) μ Q=(x.length≤1000000∧kN (L2.atI x.cps.toList i) fun c=>Q (.str ⟨#[c]⟩) μ):=propext Iff.rfl
theorem vw (x:Str)(i:Int):iN (.str x) (.int i) μ Q=((i≤1000∧-1000≤i∧x.length≤1000)∧Q (.str (je x i.toNat)) μ):=propext Iff.rfl
theorem zm (a:ETr)(ρ:ST)(Q:List D→Mu→Prop):AF a ρ μ Q=a ρ μ fun x μ1=>kTx x fun z=>z.cps.all (· < 128)=true∧Q (zP z) μ1:=by
  unfold AF kTx;rfl
theorem y2 (a:ETr)(lo hi:OTr)(ρ:ST):A9 a lo hi ρ μ Q=a ρ μ fun x μ1=>lo ρ μ1 fun i μ2=>hi ρ μ2 fun j μ3=>kTx x fun z=>z.length≤1000000∧Q (.str (Txt.slice z i j)) μ3:=by
  unfold A9 kTx;rfl
theorem Aw (z:Str)(f:Str→Prop):kTx (.str z) f=f z:=propext Iff.rfl
end
def kLz (x:D)(f:List D→Prop):Prop:=match x with
  | .ls z=>f z
  | _=>False
theorem zX (z:List D)(f:List D→Prop):kLz (.ls z) f=f z:=propext Iff.rfl
theorem uH (a i:ETr)(ρ:ST)(μ:Mu)(Q:DK):f6 a i ρ μ Q=a ρ μ fun x μ1=>kTx x fun sep=>i ρ μ1 fun y μ2=>kLz y fun ds=>∃ zs,cj ds=some zs∧JoinOk sep zs=true∧Q (.str (Txt.join sep zs)) μ2:=by
  unfold f6 kTx kLz;rfl
def kTz (x:D)(f:List D→Prop):Prop:=match x with
  | .tup z=>f z
  | _=>False
theorem Av (z:List D)(f:List D→Prop):kTz (.tup z) f=f z:=propext Iff.rfl
theorem tV (a i:ETr)(ρ:ST)(μ:Mu)(Q:DK):iz a i ρ μ Q=a ρ μ fun x μ1=>kTx x fun sep=>i ρ μ1 fun y μ2=>kTz y fun ds=>∃ zs,cj ds=some zs∧(zs.map (·.length)).sum+zs.length*sep.length≤16777216∧Q (.str (Txt.join sep zs)) μ2:=by
  unfold iz kTx kTz;rfl
theorem A4 (i:Int)(f:Int→Prop):kIn (.int i) f=(i.natAbs.log2 < 1920∧f i):=propext Iff.rfl
theorem zw (a:ETr)(ρ:ST)(μ:Mu)(Q:DK):zg a ρ μ Q=a ρ μ fun x μ1=>kIn x fun i=>Q (.str (itS i)) μ1:=propext Iff.rfl
theorem xS (a m b:ETr)(ρ:ST)(μ:Mu)(Q:DK):zd a m b ρ μ Q=a ρ μ fun x μ1=>kIn x fun i=>m ρ μ1 fun y μ2=>kTx y fun z=>z.length≤1000∧b ρ μ2 fun w μ3=>kIn w fun j=>Q (.str (Str.empty++itS i++z++itS j)) μ3:=propext Iff.rfl
theorem uJ (z:Str)(μ:Mu)(Q:DK):jI bZ [.str z] μ Q=Q (.str z) μ:=propext Iff.rfl
theorem wa (i:Int)(μ:Mu)(Q:DK):jI bZ [.int i] μ Q=(i.natAbs.log2 < 1920∧Q (.str (itS i)) μ):=propext Iff.rfl
theorem vH (a b:ETr)(ρ:ST)(μ:Mu)(Q:DK):pH a b ρ μ Q=a ρ μ fun x μ1=>kObj x fun a=>kL μ1 a fun _=>b ρ μ1 fun y μ2=>uu μ2 y fun es=>kL μ2 a fun ds=>ds.length+es.length≤1000000∧Q .non (up μ2 a (.lst (ds++es))):=propext Iff.rfl
theorem yg (μ:Mu)(ds:List D)(f:List D→Prop):uu μ (.ls ds) f=f ds:=propext Iff.rfl
theorem Bf (p:PT)(μ:Mu)(Q:DK):L3.rIx p.toD (.int 0) μ Q=Q (.int p.g) μ:=propext Iff.rfl
theorem Bk (p:PT)(μ:Mu)(Q:DK):L3.rIx p.toD (.int 1) μ Q=Q (.tup (p.ws.map WT.toD)) μ:=propext Iff.rfl
theorem BC (p:PT)(μ:Mu)(Q:DK):L3.rIx p.toD (.int 2) μ Q=Q (.tup (p.ss.map ST'.toD)) μ:=propext Iff.rfl
def Bm:=Jn @zX <| Jn @Av <| Jn @A4 <| Jn @zw <| Jn @xS <| Jn @uJ <| Jn @wa <| Jn @vH <| Jn @yg <| Jn @Bf <| Jn @Bk <| Jn @BC <| Jn @vY <| Jn @uP <| Jn @vw <| Jn @Aw <| Jn @uv <| Jn @xf <| Jn @zx <| @zS
local macro_rules | `(tactic| walk_at "go")=>`(tactic| try simp only[↓Bm,zV,↓uH,↓tV,↓zm,↓y2,↓zH,↓AV,↓Ar,↓A5,↓As,↓A6,↓pV,↓hX,cy,b9,cC,cE,cF,cI,dk,df,b8,cH,cz,cx,cN,di,cA,cZ,cM,dm,cJ,dz,kh,ug,qu,tT,nN,sJ,qp,qT,nF,rj,qk,sG,nz,tM,qd,su,oh,tU,p5,rX,nv,sT,pY,qU,nD,uc,qe,tZ,nH,jF,List.map_cons,List.map_nil,List.replicate,List.cons_append,List.nil_append,lk,Ax,z6,zN,oZ,l6,wj,wF,wz,pE,qK,qQ,sd,pj,pP,o9,pI,true_and,and_true,and_self,Bool.not_true,Bool.not_false,decide_true,decide_false,Bool.or_true,Bool.or_false,Bool.true_or,Bool.false_or,Bool.and_false,Bool.false_and,Bool.and_true,Bool.true_and,Int.reduceToNat,Int.reducePow,Int.reduceNeg,Int.reduceSub,Int.reduceAdd,Int.reduceMul,Int.reduceEq,Int.reduceLT,Int.reduceLE,Int.reduceBEq,gk,e6,fo,eW,fh,fz,fk,e9,if_true,if_false,Bool.false_eq_true,reduceCtorEq,decide_eq_true_eq])
local macro_rules | `(tactic| walk_at "ok")=>`(tactic| (simp only[L3.eh,L3.MulOk,L3.S64,L3.cG,L3.hZ] at *;omega))
local macro_rules | `(tactic| walk_at "ini")=>`(tactic| simp only[ini,List.map,List.length,List.replicate,Nat.reduceSub,Nat.reduceAdd,Nat.sub_self,List.cons_append,List.nil_append,List.append_nil])
def aW:FSp:=fun ds μ Q=>match ds with
  | [.tup [.int a,.int b]]=>((0≤a∧a < 10000000000)∧0≤b∧b < 10000000000)∧Q (.str (shw (.tup [.int a,.int b]))) μ
  | _=>False
theorem fm:∀ ds μ Q,aW ds μ Q→ds.length=1:=by
  unfold aW
  walk_at "ln"
def dN:STr:=aH (aR (aq L3.rIx (ah 0) (TC (.int 0))) (aw 1)) (aH (aR (aq L3.rIx (ah 0) (TC (.int 1))) (aw 2)) (br (nQ (TB (aq rEq (ah 2) (TC (.int 1)))) (zg (ah 1)) (zd (ah 1) (TC (.str "/")) (ah 2)))))
theorem fP:∀ ds μ Q,aW ds μ Q→dN { nx:=fun _ μ'=>RT Q .non μ',rt:=RT Q } (ini 3 ds) μ:=by
  intro ds μ Q h
  unfold aW at h
  split at h
  case h_2=>exact h.elim
  rename_i a b
  walk_at "ini"
  unfold dN
  walk_at "go"
  obtain ⟨⟨⟨a0,a1⟩,b0,b1⟩,k⟩:=h
  have k:Q (.str (if b=1 then itS a else itS a++Str.ofString "/" ++ itS b)) μ:=k
  refine kif (fun h=>?_) fun h=>?_
  · rw[if_pos h] at k
    walk_at "go"
    exact ⟨bH a0 a1,_,.refl _,k⟩
  · rw[if_neg h] at k
    walk_at "go"
    refine ⟨bH a0 a1,by rw[ly];decide,bH b0 b1,?_⟩
    rw[Str.empty_append]
    exact ⟨_,.refl _,k⟩
def bu:FSp:=fun ds μ Q=>match ds with
  | [d]=>g5 d∧Q (.str (shw d)) μ
  | _=>False
theorem jS:∀ ds μ Q,bu ds μ Q→ds.length=1:=by
  unfold bu
  walk_at "ln"
def gh:STr:=aH (cP (TB (aq rIs (ah 0) (TC .non))) (br (TC (.str "-"))) (bL)) (br (nQ (TB (TUn (fF "tuple") (ah 0))) (av aW (ae (ah 0) (au))) (av bZ (ae (ah 0) (au)))))
theorem kX:∀ ds μ Q,bu ds μ Q→gh { nx:=fun _ μ'=>RT Q .non μ',rt:=RT Q } (ini 1 ds) μ:=by
  intro ds μ Q h
  unfold bu at h
  split at h
  case h_2=>exact h.elim
  rename_i d
  walk_at "ini"
  unfold gh
  walk_at "go"
  obtain ⟨h,k⟩:=h
  rcases h with rfl | ⟨z,rfl,h1,h2⟩ | ⟨i,rfl,h0,h1⟩ | ⟨a,b,rfl,h⟩
  · walk_at "go"
    exact ⟨_,.refl _,k⟩
  · walk_at "go"
    exact ⟨_,.refl _,k⟩
  · walk_at "go"
    exact ⟨bH h0 h1,_,.refl _,k⟩
  · walk_at "go"
    exact ⟨h,_,.refl _,k⟩
def aK:FSp:=fun ds μ Q=>match ds with
  | [.tup ds]=>((∀ d∈ds,g5 d)∧ds.length≤20)∧Q (.str (bM ds)) μ
  | _=>False
theorem g6:∀ ds μ Q,aK ds μ Q→ds.length=1:=by
  unfold aK
  walk_at "ln"
def eU:STr:=br (f6 (TC (.str " ")) (cW (eA (ah 0)) (aw 0) (eZ) (av bu (ae (ah 0) (au))) 1 []))
theorem jT:∀ ds μ Q,aK ds μ Q→eU { nx:=fun _ μ'=>RT Q .non μ',rt:=RT Q } (ini 1 ds) μ:=by
  intro ds μ Q h
  unfold aK at h
  split at h
  case h_2=>exact h.elim
  rename_i ds
  walk_at "ini"
  unfold eU
  walk_at "go"
  obtain ⟨⟨h,hl⟩,k⟩:=h
  refine comp_map (fun d=>.str (shw d)) (by omega) (fun d hd μ' _ N m=>?_) ?_
  · walk_at "go"
    exact ⟨h d hd,m⟩
  walk_at "go"
  refine ⟨ds.map shw,by rw[← strs_map,List.map_map];rfl,PyProof.Rows.joinOk_of (Nat.le_trans (gZ h hl) (by decide)),?_⟩
  rw[dh]
  exact ⟨_,.refl _,k⟩
def ba:FSp:=fun ds μ Q=>match ds with
  | [d]=>∃ s:ST',(d=s.toD∧s.Ok)∧Q (.str (bM s.ds)) μ
  | _=>False
theorem gG:∀ ds μ Q,ba ds μ Q→ds.length=1:=by
  unfold ba
  walk_at "ln"
def eC:STr:=br (av aK (ae (aq aG (aq aG (a7 (ae (TC (.str "sender")) (ae (aq L3.rIx (ah 0) (TC (.int 0))) (ae (iz (TC (.str ",")) (aq L3.rIx (ah 0) (TC (.int 1)))) (au))))) (TSl (ah 0) (lq (aq aG (TC (.int 1)) (TC (.int 1)))) (lq (TC (.int 5))))) (aq L3.rIx (ah 0) (TC (.int 5)))) (au)))
theorem ir:∀ ds μ Q,ba ds μ Q→eC { nx:=fun _ μ'=>RT Q .non μ',rt:=RT Q } (ini 1 ds) μ:=by
  intro ds μ Q h
  unfold ba at h
  split at h
  case h_2=>exact h.elim
  rename_i d
  walk_at "ini"
  unfold eC
  walk_at "go"
  obtain ⟨s,⟨rfl,S⟩,k⟩:=h
  have pl:=S.pl
  unfold ST'.toD
  walk_at "go"
  have tb:=jc (n:=8) (m:=8) (k:=1) (sep:=Str.ofString ",") (zs:=s.rd) (fun z k=>(S.r z k).l) S.rl (by rw[fO];decide)
  refine ⟨s.rd,strs_map _,by omega,?_⟩
  rw[show cutD [D.str s.nm,D.tup (s.rd.map D.str),D.int s.bt,D.int s.bg,oD s.mn,D.tup (D.str s.wd::s.ps)] (some 2) (some 5)=[.int s.bt,.int s.bg,oD s.mn] from rfl,dh]
  refine ⟨by simp,by simp;omega,?_⟩
  exact (show aK [.tup s.ds] μ _ from ⟨⟨S.pt,oo S⟩,_,.refl _,k⟩)
def bz:FSp:=fun ds μ Q=>match ds with
  | [d]=>∃ p:PT,(d=p.toD∧p.Ok)∧Q (.str p.text) μ
  | _=>False
theorem jV:∀ ds μ Q,bz ds μ Q→ds.length=1:=by
  unfold bz
  walk_at "ln"
def gA:STr:=aH (aR (gP (ae (av aK (ae (a7 (ae (TC (.str "grid")) (ae (aq L3.rIx (ah 0) (TC (.int 0))) (au)))) (au))) (au))) (aw 1)) (aH (cQ (pH (ah 1) (cW (eA (aq L3.rIx (ah 0) (TC (.int 1)))) (aw 0) (eZ) (av aK (ae (aq aG (a7 (ae (TC (.str "way")) (au))) (ah 0)) (au))) 1 []))) (aH (cQ (pH (ah 1) (cW (eA (aq L3.rIx (ah 0) (TC (.int 2)))) (aw 0) (eZ) (av ba (ae (ah 0) (au))) 1 []))) (br (f6 (TC (.str "\n")) (jt (ah 1))))))
theorem lI:∀ ds μ Q,bz ds μ Q→gA { nx:=fun _ μ'=>RT Q .non μ',rt:=RT Q } (ini 2 ds) μ:=by
  intro ds μ Q h
  unfold bz at h
  split at h
  case h_2=>exact h.elim
  rename_i d
  walk_at "ini"
  unfold gA
  walk_at "go"
  obtain ⟨p,⟨rfl,P⟩,k⟩:=h
  have wl:=P.wl
  have sl:=P.sl
  walk_at "go"
  refine (show aK [.tup p.gd] μ _ from ⟨⟨P.gd,by show 2≤20;decide⟩,?_⟩)
  walk_at "go"
  intro q hq
  walk_at "go"
  refine jX p.ws WT.toD (fun w=>.str (bM w.ds)) rfl (by omega) (fun w hw μ' _ N m=>?_) ?_
  · unfold WT.toD
    walk_at "go"
    refine ⟨by simp,?_⟩
    exact (show aK [.tup w.ds] _ _ from ⟨⟨(P.w w hw).pt,by show 6≤20;decide⟩,m⟩)
  walk_at "go"
  refine ⟨by simp;omega,?_⟩
  refine jX p.ss ST'.toD (fun s=>.str (bM s.ds)) rfl (by omega) (fun s hs μ' _ N m=>?_) ?_
  · walk_at "go"
    exact ⟨s,⟨rfl,P.s s hs⟩,m⟩
  walk_at "go"
  refine ⟨by simp;omega,?_⟩
  refine ⟨p.rows,?_,PyProof.Rows.joinOk_of P.tot,?_⟩
  · rw[← strs_map]
    congr 1
    unfold PT.rows
    rw[List.map_cons,List.map_append,List.map_map,List.map_map]
    rfl
  · rw[dh,ja hq]
    exact ⟨_,.refl _,k⟩
def bJ:FSp:=fun ds μ Q=>match ds with
  | [.ls xs,.int k]=>(∃ ns:List Int,xs=ns.map .int∧0≤k∧k≤1000)∧∀ p μ',μ p=none→Box μ' p→(∀ a,a≠p→μ' a=μ a)→Q (.obj p) μ'
  | _=>False
theorem kP:∀ ds μ Q,bJ ds μ Q→ds.length=2:=by
  unfold bJ
  walk_at "ln"
def iM:STr:=aH (aR (TC (.int 0)) (aw 2)) (aH (cP (TB (aq rLt (ah 1) (av g7 (ae (ah 0) (au))))) (aR (aq L3.rIx (ah 0) (ah 1)) (aw 2)) (bL)) (br (gP (ae (aq e5 (aq fb (av nr (ae (ah 2) (au))) (aq oa (TC (.int 10)) (TC (.int 60)))) (av p9 (ae (aq rGe (av nr (ae (ah 2) (au))) (aq oa (TC (.int 10)) (TC (.int 18)))) (au)))) (ae (aq fb (aq aG (aq aG (ah 2) (aq e5 (aq e5 (TC (.int 613)) (ah 1)) (ah 1))) (aq e5 (TC (.int 29)) (ah 1))) (TC (.int 2147483647))) (ae (TC (.int 0)) (au)))))))
theorem md:∀ ds μ Q,bJ ds μ Q→iM { nx:=fun _ μ'=>RT Q .non μ',rt:=RT Q } (ini 3 ds) μ:=by
  intro ds μ Q h
  unfold bJ at h
  split at h
  case h_2=>exact h.elim
  rename_i xs k
  walk_at "ini"
  unfold iM
  walk_at "go"
  obtain ⟨⟨ns,rfl,k0,k1⟩,hk⟩:=h
  have go:∀ g s:Int,0≤s→s < 2147483647→∀ p,μ p=none→RT Q (.obj p) (up μ p (.lst [.int g,.int s,.int 0])):=fun g s s0 s1 p hp=>
    ⟨_,.refl _,hk p _ hp ⟨g,s,0,aP,s0,by omega⟩ fun a ha=>bN ha⟩
  have m1:MulOk 613 k:=by walk_at "ok"
  have m2:L3.MulOk ((613:Int)*k) k:=.inl (.inr (by unfold S64;omega))
  have m3:MulOk 29 k:=by walk_at "ok"
  have p1:hZ 10 60:=by walk_at "ok"
  have p2:hZ 10 18:=by walk_at "ok"
  refine kif (fun hlt=>?_) fun _=>?_
  · rw[List.length_map] at hlt
    obtain ⟨z,ez⟩:=sM k0 hlt
    refine cp ez ?_
    walk_at "go"
    exact ⟨p1,by decide,p2,.inl (.inr (by unfold S64;split<;>omega)),m1,m2,m3,by decide,fun p hp=>go _ _ (fm0 (by decide)) (fm1 (by decide)) p hp⟩
  · exact ⟨p1,by decide,p2,.inl (.inr (by unfold S64;omega)),m1,m2,m3,by decide,fun p hp=>go _ _ (fm0 (by decide)) (fm1 (by decide)) p hp⟩
def ai:FSp:=fun ds μ Q=>match ds with
  | [.obj b,.int n]=>(Box μ b∧0 < n∧n < 18446744073709551616)∧∀ k μ',0≤k→k < n→bE b μ μ'→Q (.int k) μ'
  | _=>False
theorem xg (a b c x:D):[a,b,c].set 0 x=[x,b,c]:=rfl
theorem xx (a b c x:D):[a,b,c].set 1 x=[a,x,c]:=rfl
theorem xQ (a b c x:D):[a,b,c].set 2 x=[a,b,x]:=rfl
theorem tk {μ:Mu}{b:Addr}{n:Int}{Q:DK}(hB:Box μ b)(h0:0 < n)(h1:n < 18446744073709551616)(h:∀ k μ',0≤k→k < n→bE b μ μ'→Q (.int k) μ'):jI ai [.obj b,.int n] μ Q:=⟨⟨hB,h0,h1⟩,h⟩
theorem jU:∀ ds μ Q,ai ds μ Q→ds.length=2:=by
  unfold ai
  walk_at "ln"
def d7:STr:=aH (aR (aq fb (aq aG (aq aG (aq e5 (aq L3.rIx (ah 0) (TC (.int 1))) (TC (.int 48271))) (aq e5 (TC (.int 8191)) (aq L3.rIx (ah 0) (TC (.int 2))))) (TC (.int 17))) (TC (.int 2147483647))) (aw 3)) (aH (cO (ah 0) (TC (.int 1)) (aq fb (aq aG (aq e5 (ah 3) (ah 3)) (aq L3.rIx (ah 0) (TC (.int 2)))) (TC (.int 2147483629)))) (br (aq fb (aq gO (aq L3.rIx (ah 0) (TC (.int 1))) (TC (.int 13))) (ah 1))))
def gf:STr:=aH (cP (TB (aq rGt (aq L3.rIx (ah 0) (TC (.int 0))) (TC (.int 0)))) (aH (aR (aq fb (aq L3.rIx (ah 0) (TC (.int 0))) (ah 1)) (aw 2)) (aH (cO (ah 0) (TC (.int 0)) (aq gO (aq L3.rIx (ah 0) (TC (.int 0))) (ah 1))) (br (ah 2)))) (bL)) (aH (cO (ah 0) (TC (.int 2)) (aq aG (aq L3.rIx (ah 0) (TC (.int 2))) (TC (.int 1)))) (d7))
theorem ll:∀ ds μ Q,ai ds μ Q→gf { nx:=fun _ μ'=>RT Q .non μ',rt:=RT Q } (ini 4 ds) μ:=by
  intro ds μ Q h
  unfold ai at h
  split at h
  case h_2=>exact h.elim
  rename_i b n
  walk_at "ini"
  unfold gf
  walk_at "go"
  unfold d7
  walk_at "go"
  obtain ⟨⟨⟨g,s,c,hb,s0,s1⟩,n0,n1⟩,k⟩:=h
  repeat (first | (simp only[wX hb];walk_at "go") | (simp only[pz,o8,pR,List.length_cons,List.length_nil,Nat.reduceAdd,Nat.reduceLT,if_true,j6];walk_at "go") | (simp only[xg,xx,xQ];walk_at "go"))
  have dv:eh n:=by walk_at "ok"
  have n2:n≠0:=by omega
  have d13:eh 13:=by walk_at "ok"
  have fin:∀ μ':Mu,∀ d:Int,0≤d→d < n→Box μ' b→(∀ a,a≠b→μ' a=μ a)→RT Q (.int d) μ':=fun μ' d h3 h4 h5 h6=>
    ⟨_,.refl _,k d _ h3 h4 ⟨h5,h6⟩⟩
  have m1:MulOk s 48271:=by walk_at "ok"
  have m2:MulOk 8191 (c+1):=.inl (.inl (by unfold S64;omega))
  have z0:=fm0 (a:=s*48271+8191*(c+1)+17) (n:=2147483647) (by decide)
  have z1:=fm1 (a:=s*48271+8191*(c+1)+17) (n:=2147483647) (by decide)
  refine kif (fun _=>?_) fun _=>?_
  · exact ⟨n2,dv,fin _ _ (fm0 n0) (fm1 n0) ⟨_,_,_,aP,s0,s1⟩ fun a ha=>bN ha⟩
  · generalize (s*48271+8191*(c+1)+17).fmod 2147483647=z at *
    have m3:MulOk z z:=.inr ⟨by unfold cG;omega,by unfold cG;omega⟩
    have y0:=fm0 (a:=z*z+(c+1)) (n:=2147483629) (by decide)
    have y1:=fm1 (a:=z*z+(c+1)) (n:=2147483629) (by decide)
    refine ⟨m1,m2,by decide,m3,by decide,d13,n2,fin _ _ (fm0 n0) (fm1 n0) ⟨_,_,_,aP,y0,by omega⟩ fun a ha=>by simp only[bN ha]⟩
def sm (c:Nat):Bool:=decide (97≤c)&&decide (c≤122)
def nmS (z:Str):Bool:=(decide (1≤z.cps.toList.length)&&decide (z.cps.toList.length≤8))&&z.cps.toList.all sm
theorem iD (z:Str):z.cps.toList.length=z.length:=Array.length_toList
theorem Ba {z:Str}(h:nmS z=true):cT z:=by
  unfold nmS at h
  rw[Bool.and_eq_true,Bool.and_eq_true] at h
  obtain ⟨⟨_,h2⟩,h3⟩:=h
  refine ⟨?_,by have:=of_decide_eq_true h2;rw[iD] at this;exact this⟩
  unfold PyData.strOk
  refine Array.all_eq_true_iff_forall_mem.mpr fun c hc=>decide_eq_true ?_
  have:=List.all_eq_true.mp h3 c (Array.mem_toList_iff.mpr hc)
  unfold sm at this
  rw[Bool.and_eq_true] at this
  have:=of_decide_eq_true this.2
  omega
theorem uj:∀ {ds:List D},(∀ d∈ds,∃ z,d=.str z∧nmS z=true)→∃ zs:List Str,ds=zs.map .str∧∀ z∈zs,cT z
  | [],_=>⟨[],rfl,fun _ h=>nomatch h⟩
  | d::r,h=>by
    obtain ⟨z,rfl,hz⟩:=h d List.mem_cons_self
    obtain ⟨zs,rfl,k⟩:=uj fun d k=>h d (List.mem_cons_of_mem _ k)
    exact ⟨z::zs,rfl,fun y hy=>by
      rcases List.mem_cons.mp hy with rfl | q
      · exact Ba hz
      · exact k y q⟩
theorem rZ {o:Option Nat}{c:Nat}{f:Nat→Prop}(e:o=some c)(h:f c):kN o f:=by rw[e];exact h
theorem oT {i:Int}(i0:0≤i)(i1:i < 26):∃ c,L2.atI (Str.ofString "abcdefghijklmnopqrstuvwxyz").cps.toList i=some c∧sm c=true:=by
  have:∀ j:Fin 26,(match L2.atI (Str.ofString "abcdefghijklmnopqrstuvwxyz").cps.toList (j.val:Int) with | some c=>sm c | none=>false)=true:=by decide +kernel
  obtain ⟨j,rfl⟩:=Int.eq_ofNat_of_zero_le i0
  have w:=this ⟨j,by omega⟩
  split at w
  · rename_i c e;exact ⟨c,e,w⟩
  · cases w
theorem ku:(Str.ofString "abcdefghijklmnopqrstuvwxyz").length≤1000000:=by decide +kernel
theorem app_list (x y:Str):(x++y).cps.toList=x.cps.toList++y.cps.toList:=by
  show (x.cps++y.cps).toList=_
  exact Array.toList_append
theorem rep1 (c n:Nat):(je ⟨#[c]⟩ n).cps.toList=List.replicate n c:=by
  rw[pX];simp
theorem rk {z:Str}{l:List Nat}(e:z.cps.toList=l)(h1:1≤l.length)(h8:l.length≤8)(ha:∀ c∈l,sm c=true):nmS z=true:=by
  unfold nmS
  rw[e,decide_eq_true h1,decide_eq_true h8,List.all_eq_true.mpr ha];rfl
theorem gX {c n:Nat}(h:sm c=true):∀ x∈List.replicate n c,sm x=true:=fun x hx=>by rw[(List.mem_replicate.mp hx).2];exact h
theorem kE (c n:Nat):(je ⟨#[c]⟩ n).length=n:=by rw[← iD,rep1,List.length_replicate]
theorem vy (x y:Str):(x++y).length=x.length+y.length:=by rw[← iD,app_list,List.length_append,iD,iD]
def Nm (d:D):Prop:=∃ z,d=.str z∧nmS z=true
def a8:FSp:=fun ds μ Q=>match ds with
  | [.obj b,.int n]=>(Box μ b∧0≤n∧n≤8)∧∀ (zs:List Str) μ',(zs.length:Int)=n→(∀ z∈zs,cT z)→bE b μ μ'→Q (.ls (zs.map .str)) μ'
  | _=>False
theorem hW:∀ ds μ Q,a8 ds μ Q→ds.length=2:=by
  unfold a8
  walk_at "ln"
def fu:STr:=aH (aR (TC (.str "abcdefghijklmnopqrstuvwxyz")) (aw 2)) (aH (aR (aq aG (TC (.int 1)) (av ai (ae (ah 0) (ae (TC (.int 8)) (au))))) (aw 3)) (aH (aR (av ai (ae (ah 0) (ae (ah 3) (au)))) (aw 4)) (aH (aR (av ai (ae (ah 0) (ae (TC (.int 26)) (au)))) (aw 5)) (aH (aR (av ai (ae (ah 0) (ae (TC (.int 3)) (au)))) (aw 6)) (aH (aR (gP (au)) (aw 7)) (aH (i9 (cn (ah 1)) (aw 8) (aH (aR (aq j5 (ah 2) (aq fb (aq aG (ah 5) (aq e5 (TC (.int 3)) (ah 8))) (TC (.int 26)))) (aw 9)) (cP (TB (aq rEq (ah 6) (TC (.int 0)))) (aH (aR (aq j5 (ah 2) (ah 4)) (aw 10)) (cQ (ik (ah 7) (aq aG (aq aG (aq iN (ah 10) (ah 4)) (ah 9)) (aq iN (ah 10) (aq oU (aq oU (ah 3) (TC (.int 1))) (ah 4))))))) (cP (TB (aq rEq (ah 6) (TC (.int 1)))) (cQ (ik (ah 7) (aq iN (ah 9) (aq aG (TC (.int 1)) (aq fb (aq aG (ah 5) (aq e5 (TC (.int 5)) (ah 8))) (TC (.int 8))))))) (cQ (ik (ah 7) (aq iN (aq j5 (ah 2) (ah 5)) (aq aG (TC (.int 1)) (ah 8))))))))) (br (jt (ah 7)))))))))
theorem jD:∀ ds μ Q,a8 ds μ Q→fu { nx:=fun _ μ'=>RT Q .non μ',rt:=RT Q } (ini 11 ds) μ:=by
  intro ds μ Q h
  unfold a8 at h
  split at h
  case h_2=>exact h.elim
  rename_i b n
  walk_at "ini"
  unfold fu
  walk_at "go"
  obtain ⟨⟨hB,n1,n8⟩,k⟩:=h
  refine tk hB (by decide) (by decide) fun k1 μ1 k10 k11 B1=>?_
  walk_at "go"
  refine tk B1.box (by omega) (by omega) fun k2 μ2 k20 k21 B2=>?_
  walk_at "go"
  refine tk B2.box (by decide) (by decide) fun k3 μ3 k30 k31 B3=>?_
  walk_at "go"
  refine tk B3.box (by decide) (by decide) fun k4 μ4 k40 k41 B4=>?_
  walk_at "go"
  intro q hq
  walk_at "go"
  refine ⟨⟨by omega,by omega⟩,?_⟩
  have B5:bE b μ μ4:=((B1.trans B2).trans B3).trans B4
  refine b7 (fun r ρ μ'=>(∀ d∈r,∃ j:Int,d=.int j∧0≤j∧j < n)∧∃ (ds:List D) (v8 v9 v10:Option D),ρ=[some (.obj b),some (.int n),some (.str "abcdefghijklmnopqrstuvwxyz"),some (.int (1+k1)),some (.int k2),some (.int k3),some (.int k4),some (.obj q),v8,v9,v10]∧μ'=up μ4 q (.lst ds)∧(((ds.length+r.length:Nat):Int)=n∧ds.length+r.length≤8)∧∀ d∈ds,Nm d) ?_ ?_ _ _ _ ⟨fun d hd=>?_,[],_,_,_,rfl,rfl,?_,aV⟩
  · rintro ρ μ' ⟨_,ds,v8,v9,v10,rfl,rfl,⟨l1,_⟩,al⟩
    walk_at "go"
    rw[ja hq]
    obtain ⟨zs,rfl,hz⟩:=uj al
    exact ⟨_,.refl _,k zs _ (by simpa using l1) hz B5⟩
  · rintro d r ρ μ' N ⟨hd,ds,v8,v9,v10,rfl,rfl,⟨l1,l8⟩,al⟩ hN
    obtain ⟨j,rfl,j0,j1⟩:=hd d List.mem_cons_self
    have hr:∀ d∈r,∃ j:Int,d=.int j∧0≤j∧j < n:=fun d h=>hd d (List.mem_cons_of_mem _ h)
    rw[List.length_cons] at l1 l8
    have put:∀ (z:Str) (v9 v10:Option D),nmS z=true→ds.length < 1000000∧N [some (.obj b),some (.int n),some (.str "abcdefghijklmnopqrstuvwxyz"),some (.int (1+k1)),some (.int k2),some (.int k3),some (.int k4),some (.obj q),some (.int j),v9,v10] (up μ4 q (.lst (ds++[.str z]))):=fun z v9 v10 hz=>by
      refine ⟨by omega,hN _ _ ⟨hr,ds++[.str z],_,_,_,rfl,rfl,?_,?_⟩⟩
      · rw[show (ds++[D.str z]).length=ds.length+1 by simp];omega
      · intro d hd
        rcases List.mem_append.mp hd with h | h
        · exact al d h
        · exact ⟨z,List.mem_singleton.mp h,hz⟩
    walk_at "go"
    obtain ⟨c,ec,hc⟩:=oT (fm0 (a:=k3+3*j) (n:=26) (by decide)) (fm1 (by decide))
    refine ⟨by walk_at "ok", by decide,ku,rZ ec ?_⟩
    walk_at "go"
    refine kif (fun _=>?_) fun _=>?_
    · obtain ⟨c2,ec2,hc2⟩:=oT (i:=k2) k20 (by omega)
      refine ⟨ku,rZ ec2 ?_⟩
      walk_at "go"
      have ln:∀ m:Nat,(⟨#[m]⟩:Str).length=1:=fun _=>rfl
      refine ⟨⟨by omega,by omega,by rw[ln];omega⟩,?_⟩
      rw[kE,ln]
      refine ⟨by omega,⟨by omega,by omega,by rw[ln];omega⟩,?_⟩
      rw[vy,kE,kE,ln]
      refine ⟨by omega,put _ _ _ ?_⟩
      refine rk (l:=List.replicate k2.toNat c2++[c]++List.replicate (1+k1 - 1 - k2).toNat c2) (by rw[app_list,app_list,rep1,rep1]) ?_ ?_ ?_
      · simp;omega
      · simp;omega
      · intro x hx
        rcases List.mem_append.mp hx with h | h
        · rcases List.mem_append.mp h with h' | h'
          · exact gX hc2 x h'
          · rw[List.mem_singleton.mp h'];exact hc
        · exact gX hc2 x h
    · have ln:∀ m:Nat,(⟨#[m]⟩:Str).length=1:=fun _=>rfl
      refine kif (fun _=>?_) fun _=>?_
      · have f0:=fm0 (a:=k3+5*j) (n:=8) (by decide)
        have f1:=fm1 (a:=k3+5*j) (n:=8) (by decide)
        refine ⟨by walk_at "ok", by decide,⟨by omega,by omega,by rw[ln];omega⟩,put _ _ _ (rk (rep1 _ _) ?_ ?_ (gX hc))⟩
        · rw[List.length_replicate];omega
        · rw[List.length_replicate];omega
      · obtain ⟨c2,ec2,hc2⟩:=oT (i:=k3) k30 (by omega)
        refine ⟨ku,rZ ec2 ?_⟩
        walk_at "go"
        refine ⟨⟨by omega,by omega,by rw[ln];omega⟩,put _ _ _ (rk (rep1 _ _) ?_ ?_ (gX hc2))⟩
        · rw[List.length_replicate];omega
        · rw[List.length_replicate];omega
  · obtain ⟨j,rfl,j0,j1⟩:=g8 hd
    exact ⟨j,rfl,by omega,by omega⟩
  · rw[dD];simp;omega
def a5:FSp:=fun ds μ Q=>match ds with
  | [.int a,.int b]=>(0 < b∧cG b)∧Q (fr (a.fdiv (Int.gcd a b)) (b.fdiv (Int.gcd a b))) μ
  | _=>False
theorem jz:∀ ds μ Q,a5 ds μ Q→ds.length=2:=by
  unfold a5
  walk_at "ln"
def gv:STr:=aH (nK 2 3 (ae (av nr (ae (ah 0) (au))) (ae (ah 1) (au)))) (aH (sF (TB (aq rGt (ah 3) (TC (.int 0)))) (nK 2 3 (ae (ah 3) (ae (aq fb (ah 2) (ah 3)) (au))))) (br (a7 (ae (aq gO (ah 0) (ah 2)) (ae (aq gO (ah 1) (ah 2)) (au))))))
theorem kQ:∀ ds μ Q,a5 ds μ Q→gv { nx:=fun _ μ'=>RT Q .non μ',rt:=RT Q } (ini 4 ds) μ:=by
  intro ds μ Q h
  unfold a5 at h
  split at h
  case h_2=>exact h.elim
  rename_i a b
  walk_at "ini"
  unfold gv
  walk_at "go"
  obtain ⟨⟨b0,b1⟩,k⟩:=h
  have ea:(if a < 0 then -a else a)=(a.natAbs:Int):=by split<;>omega
  rw[ea]
  refine ⟨fun ρ μ'=>μ'=μ∧∃ x y:Int,ρ=[some (.int a),some (.int b),some (.int x),some (.int y)]∧0≤x∧0≤y∧Int.gcd x y=Int.gcd a b,mz 3,⟨rfl,a.natAbs,b,rfl,Int.natCast_nonneg _,by omega,by simp[Int.gcd]⟩,?_⟩
  rintro ρ _ ⟨rfl,x,y,rfl,x0,y0,e⟩
  walk_at "go"
  refine kif (fun hy=>?_) fun hy=>?_
  · walk_at "go"
    refine ⟨by omega,⟨_,_,rfl,y0,fm0 hy,?_⟩,?_⟩
    · rw[qR];exact e
    · have:=fm1 (a:=x) hy
      have:=fm0 (a:=x) hy
      simp only[mz,lk]
      omega
  · have hy0:y=0:=by omega
    subst hy0
    rw[Int.gcd_zero_right] at e
    have hx:x=(Int.gcd a b:Int):=by omega
    subst hx
    have gp:0 < Int.gcd a b:=Int.gcd_pos_of_ne_zero_right a (by omega)
    have gl:(Int.gcd a b:Int)≤b:=Int.gcd_le_right a b0
    have dv:eh (Int.gcd a b:Int):=⟨by omega,by unfold cG at *;omega⟩
    walk_at "go"
    exact ⟨dv,dv,_,.refl _,k⟩
theorem kn {a b:Int}(b0:0 < b)(b1:b≤10000002){lo hi:Int}(h0:lo*b≤a)(h1:a≤hi*b):FrB lo hi (a.fdiv (Int.gcd a b)) (b.fdiv (Int.gcd a b)):=by
  obtain ⟨g,p,q,g0,ea,eb,e1,e2,q0,qb,gg⟩:=kb (a:=a) b0
  rw[e1,e2]
  rw[ea,eb] at h0 h1
  refine ⟨q0,by omega,gg,?_,?_⟩
  · rw[Int.mul_left_comm] at h0
    exact Int.le_of_mul_le_mul_left h0 g0
  · rw[Int.mul_left_comm] at h1
    exact Int.le_of_mul_le_mul_left h1 g0
theorem yQ {a b:Int}(b0:0 < b):b.fdiv (Int.gcd a b)≤b:=by
  obtain ⟨g,p,q,g0,ea,eb,e1,e2,q0,qb,gg⟩:=kb (a:=a) b0
  rw[e2];exact qb
def aQ:FSp:=fun ds μ Q=>match ds with
  | [.obj b,.int lo,.int hi]=>(Box μ b∧0≤lo∧lo≤hi∧hi≤1000)∧∀ p q μ',FrB lo hi p q→q≤7→bE b μ μ'→Q (fr p q) μ'
  | _=>False
theorem fc:∀ ds μ Q,aQ ds μ Q→ds.length=3:=by
  unfold aQ
  walk_at "ln"
def dO:STr:=aH (aR (aq L3.rIx (cD (ae (TC (.int 1)) (ae (TC (.int 1)) (ae (TC (.int 2)) (ae (TC (.int 3)) (ae (TC (.int 4)) (ae (TC (.int 7)) (au)))))))) (av ai (ae (ah 0) (ae (TC (.int 6)) (au))))) (aw 3)) (br (av a5 (ae (aq aG (aq e5 (ah 1) (ah 3)) (av ai (ae (ah 0) (ae (aq aG (aq e5 (aq oU (ah 2) (ah 1)) (ah 3)) (TC (.int 1))) (au))))) (ae (ah 3) (au)))))
theorem fN:∀ ds μ Q,aQ ds μ Q→dO { nx:=fun _ μ'=>RT Q .non μ',rt:=RT Q } (ini 4 ds) μ:=by
  intro ds μ Q h
  unfold aQ at h
  split at h
  case h_2=>exact h.elim
  rename_i b lo hi
  walk_at "ini"
  unfold dO
  walk_at "go"
  obtain ⟨⟨hB,l0,lh,h1⟩,k⟩:=h
  refine tk hB (by decide) (by decide) fun c μ1 c0 c1 B1=>?_
  have al:∀ d∈([.int 1,.int 1,.int 2,.int 3,.int 4,.int 7]:List D),IsI 1 7 d:=by
    repeat' (first | exact aV | refine ar ⟨_,rfl,by decide,by decide⟩ ?_)
  obtain ⟨_,e1,n,rfl,n0,n1⟩:=bA al c0 c1
  walk_at "go"
  rw[e1]
  walk_at "go"
  have a0:0≤(hi - lo)*n:=Int.mul_nonneg (by omega) (by omega)
  have a1:(hi - lo)*n≤1000*7:=Int.mul_le_mul (by omega) n1 (by omega) (by omega)
  refine ⟨.inl (.inr (by unfold S64;omega)),.inl (.inr (by unfold S64;omega)),?_⟩
  refine tk B1.box (by omega) (by omega) fun d μ2 d0 d1 B2=>?_
  walk_at "go"
  refine ⟨⟨by omega,by unfold cG;omega⟩,?_⟩
  have F:=kn (a:=lo*n+d) (b:=n) (lo:=lo) (hi:=hi) (by omega) (by omega) (by omega) (by rw[Int.sub_mul] at d1;omega)
  have q7:=yQ (a:=lo*n+d) (b:=n) (by omega)
  exact ⟨_,.refl _,k _ _ _ F (by omega) (B1.trans B2)⟩
def bq:FSp:=fun ds μ Q=>match ds with
  | [.obj b,.int m]=>(Box μ b∧1≤m∧m≤60)∧∀ (wd:Str) (ps:List D) μ',cT wd→(∀ d∈ps,gT d)→ps.length≤6→bE b μ μ'→Q (.tup (.str wd::ps)) μ'
  | _=>False
theorem pJ {lo hi p q:Int}(h:FrB lo hi p q)(l0:0≤lo)(hh:hi≤900):gT (fr p q):=by
  have:=h.q0
  have:=h.q1
  have:=h.ge
  have:=h.le
  have:0≤lo*q:=Int.mul_nonneg l0 (by omega)
  have:hi*q≤900*q:=Int.mul_le_mul_of_nonneg_right hh (by omega)
  exact .inr ⟨p,q,rfl,⟨by omega,by omega⟩,by omega,by omega⟩
def xV:List Str:=[Str.ofString "still", Str.ofString "step", Str.ofString "swell", Str.ofString "heed", Str.ofString "calm"]
theorem o4:∀ z∈xV,PyData.strOk z=true∧z.length≤8:=by decide +kernel
theorem jl:∀ ds μ Q,bq ds μ Q→ds.length=2:=by
  unfold bq
  walk_at "ln"
def ei:STr:=aH (cP (TB (aq rEq (ah 2) (TC (.str "still")))) (br (a7 (ae (ah 2) (ae (ah 4) (au))))) (bL)) (aH (aR (av a5 (ae (aq aG (TC (.int 1)) (av ai (ae (ah 0) (ae (TC (.int 6)) (au))))) (ae (aq aG (TC (.int 1)) (av ai (ae (ah 0) (ae (TC (.int 3)) (au))))) (au)))) (aw 5)) (aH (aR (aq L3.rIx (cD (ae (a7 (ae (TC (.int 1)) (ae (TC (.int 2)) (au)))) (ae (a7 (ae (TC (.int 2)) (ae (TC (.int 3)) (au)))) (ae (a7 (ae (TC (.int 1)) (ae (TC (.int 7)) (au)))) (ae (a7 (ae (TC (.int 7)) (ae (TC (.int 8)) (au)))) (au)))))) (av ai (ae (ah 0) (ae (TC (.int 4)) (au))))) (aw 6)) (aH (cP (TB (aq rEq (ah 2) (TC (.str "swell")))) (br (a7 (ae (ah 2) (ae (ah 4) (ae (av a5 (ae (aq aG (aq L3.rIx (ah 5) (TC (.int 0))) (aq L3.rIx (ah 5) (TC (.int 1)))) (ae (aq L3.rIx (ah 5) (TC (.int 1))) (au)))) (ae (ah 6) (ae (ah 3) (au)))))))) (bL)) (aH (cP (TB (aq rEq (ah 2) (TC (.str "heed")))) (br (a7 (ae (ah 2) (ae (ah 4) (ae (ah 5) (ae (aq L3.rIx (cD (ae (ah 6) (ae (a7 (ae (TC (.int 1)) (ae (TC (.int 1)) (au)))) (ae (a7 (ae (TC (.int 1)) (ae (TC (.int 16)) (au)))) (au))))) (av ai (ae (ah 0) (ae (TC (.int 3)) (au))))) (ae (ah 3) (au)))))))) (bL)) (aH (cP (TB (aq rEq (ah 2) (TC (.str "calm")))) (aH (aR (av ai (ae (ah 0) (ae (TC (.int 5)) (au)))) (aw 7)) (br (a7 (ae (ah 2) (ae (ah 4) (ae (ah 5) (ae (ah 7) (ae (aq aG (ah 7) (av ai (ae (ah 0) (ae (TC (.int 5)) (au))))) (ae (ah 3) (au)))))))))) (bL)) (br (a7 (ae (ah 2) (ae (ah 4) (ae (ah 5) (ae (ah 6) (ae (ah 3) (au)))))))))))))
def fZ:STr:=aH (aR (aq L3.rIx (cD (ae (TC (.str "still")) (ae (TC (.str "step")) (ae (TC (.str "swell")) (ae (TC (.str "heed")) (ae (TC (.str "calm")) (au))))))) (av ai (ae (ah 0) (ae (TC (.int 5)) (au))))) (aw 2)) (aH (aR (av aQ (ae (ah 0) (ae (TC (.int 1)) (ae (ah 1) (au))))) (aw 3)) (aH (aR (av aQ (ae (ah 0) (ae (TC (.int 1)) (ae (aq gO (aq L3.rIx (ah 3) (TC (.int 0))) (aq L3.rIx (ah 3) (TC (.int 1)))) (au))))) (aw 4)) (ei)))
theorem kC:∀ ds μ Q,bq ds μ Q→fZ { nx:=fun _ μ'=>RT Q .non μ',rt:=RT Q } (ini 8 ds) μ:=by
  intro ds μ Q h
  unfold bq at h
  split at h
  case h_2=>exact h.elim
  rename_i b m
  walk_at "ini"
  unfold fZ
  walk_at "go"
  obtain ⟨⟨hB,m0,m1⟩,k⟩:=h
  refine tk hB (by decide) (by decide) fun c1 μ1 c10 c11 B1=>?_
  have al:∀ d∈xV.map D.str,∃ z,z∈xV∧d=.str z:=fun d hd=>by obtain ⟨z,hz,rfl⟩:=List.mem_map.mp hd;exact ⟨z,hz,rfl⟩
  obtain ⟨_,e1,wd,hwd,rfl⟩:=bA al c10 c11
  have T:cT wd:=⟨(o4 wd hwd).1,(o4 wd hwd).2⟩
  have e1:atD [.str "still", .str "step", .str "swell", .str "heed", .str "calm"] c1=some (.str wd):=e1
  walk_at "go"
  rw[e1]
  walk_at "go"
  refine ⟨⟨B1.box,by decide,m0,by omega⟩,fun tp tq μ2 Tf tq7 B2=>?_⟩
  have t0:=Tf.q0
  have tg:=Tf.ge
  have tl:=Tf.le
  have tt:tp≤60*tq:=Int.le_trans tl (Int.mul_le_mul_of_nonneg_right m1 (by omega))
  walk_at "go"
  rw[b6 t0]
  have d1:1≤tp / tq:=(Int.le_ediv_iff_mul_le t0).mpr (by omega)
  have d60:tp / tq≤60:=Int.ediv_le_of_le_mul t0 tt
  refine ⟨⟨by omega,by unfold cG;omega⟩,⟨B2.box,by decide,d1,by omega⟩,fun wp wq μ3 Wf wq7 B3=>?_⟩
  have fT:gT (fr tp tq):=pJ Tf (by decide) (by omega)
  have fW:gT (fr wp wq):=pJ Wf (by decide) (by omega)
  have B13:=B1.trans (B2.trans B3)
  unfold ei
  walk_at "go"
  refine ⟨T.o,?_⟩
  refine kif (fun _=>?_) fun _=>?_
  · walk_at "go"
    exact ⟨_,.refl _,k wd [fr wp wq] _ T (ar fW aV) (by simp) B13⟩
  walk_at "go"
  refine tk B3.box (by decide) (by decide) fun c4 μ4 c40 c41 B4=>?_
  walk_at "go"
  refine tk B4.box (by decide) (by decide) fun c5 μ5 c50 c51 B5=>?_
  walk_at "go"
  refine ⟨⟨by omega,by unfold cG;omega⟩,?_⟩
  have U:=kn (a:=1+c4) (b:=1+c5) (lo:=0) (hi:=60) (by omega) (by omega) (by omega) (by omega)
  generalize (1+c4).fdiv (Int.gcd (1+c4) (1+c5))=x at U ⊢
  generalize (1+c5).fdiv (Int.gcd (1+c4) (1+c5))=y at U ⊢
  have fU:gT (fr x y):=pJ U (by decide) (by decide)
  walk_at "go"
  refine tk B5.box (by decide) (by decide) fun c6 μ6 c60 c61 B6=>?_
  have al2:∀ d∈([fr 1 2,fr 2 3,fr 1 7,fr 7 8]:List D),gT d:=by
    repeat' (first | exact aV | refine ar (.inr ⟨_,_,rfl,⟨by decide,by decide⟩,by decide,by decide⟩) ?_)
  obtain ⟨dn,e2,fD⟩:=bA al2 c60 c61
  walk_at "go"
  refine cp e2 ?_
  walk_at "go"
  have B16:=B13.trans (B4.trans (B5.trans B6))
  refine ⟨T.o,?_⟩
  refine kif (fun _=>?_) fun _=>?_
  · walk_at "go"
    have y0:=U.q0
    have x0:=U.ge
    have x60:=U.le
    have y1:=U.q1
    refine ⟨⟨y0,by unfold cG;omega⟩,?_⟩
    have X:=kn (a:=x+y) (b:=y) (lo:=0) (hi:=61) y0 (by omega) (by omega) (by omega)
    exact ⟨_,.refl _,k wd [fr wp wq,_,dn,fr tp tq] _ T (ar fW (ar (pJ X (by decide) (by decide)) (ar fD (ar fT aV)))) (by simp) B16⟩
  walk_at "go"
  refine ⟨T.o,?_⟩
  refine kif (fun _=>?_) fun _=>?_
  · walk_at "go"
    refine tk B6.box (by decide) (by decide) fun c7 μ7 c70 c71 B7=>?_
    have al3:∀ d∈([dn,fr 1 1,fr 1 16]:List D),gT d:=ar fD (ar (.inr ⟨_,_,rfl,⟨by decide,by decide⟩,by decide,by decide⟩) (ar (.inr ⟨_,_,rfl,⟨by decide,by decide⟩,by decide,by decide⟩) aV))
    obtain ⟨d3,e3,f3⟩:=bA al3 c70 c71
    walk_at "go"
    refine cp e3 ?_
    exact ⟨_,.refl _,k wd [fr wp wq,fr x y,d3,fr tp tq] _ T (ar fW (ar fU (ar f3 (ar fT aV)))) (by simp) (B16.trans B7)⟩
  walk_at "go"
  refine ⟨T.o,?_⟩
  refine kif (fun _=>?_) fun _=>?_
  · walk_at "go"
    refine tk B6.box (by decide) (by decide) fun c7 μ7 c70 c71 B7=>?_
    walk_at "go"
    refine tk B7.box (by decide) (by decide) fun c8 μ8 c80 c81 B8=>?_
    walk_at "go"
    exact ⟨_,.refl _,k wd [fr wp wq,fr x y,.int c7,.int (c7+c8),fr tp tq] _ T (ar fW (ar fU (ar (.inl ⟨_,rfl,by omega,by omega⟩) (ar (.inl ⟨_,rfl,by omega,by omega⟩) (ar fT aV))))) (by simp) (B16.trans (B7.trans B8))⟩
  · walk_at "go"
    exact ⟨_,.refl _,k wd [fr wp wq,fr x y,dn,fr tp tq] _ T (ar fW (ar fU (ar fD (ar fT aV)))) (by simp) B16⟩
def MkD (d:D):Prop:=∃ m:Option Int,d=oD m∧∀ i,m=some i→jA i
theorem ki:MkD .non:=⟨none,rfl,nofun⟩
theorem fR {i:Int}(h:0≤i)(h':i < 10000000000):MkD (.int i):=⟨some i,rfl,fun j e=>by cases e;exact ⟨h,h'⟩⟩
def LT':List Str:=[Str.ofString "line", Str.ofString "turns"]
theorem wN:∀ z∈LT',PyData.strOk z=true∧z.length≤8:=by decide +kernel
def bI:FSp:=fun ds μ Q=>match ds with
  | [.obj b,.str n]=>(Box μ b∧cT n)∧∀ (w:WT) μ',w.Ok→bE b μ μ'→Q w.toD μ'
  | _=>False
theorem lQ:∀ ds μ Q,bI ds μ Q→ds.length=2:=by
  unfold bI
  walk_at "ln"
def iU:STr:=aH (aR (aq L3.rIx (cD (ae (aq aG (TC (.int 1)) (av ai (ae (ah 0) (ae (TC (.int 3)) (au))))) (ae (aq aG (TC (.int 1)) (av ai (ae (ah 0) (ae (TC (.int 20)) (au))))) (au)))) (aq gO (av ai (ae (ah 0) (ae (TC (.int 8)) (au)))) (TC (.int 7)))) (aw 2)) (aH (aR (aq L3.rIx (cD (ae (aq aG (TC (.int 1)) (av ai (ae (ah 0) (ae (TC (.int 8)) (au))))) (ae (aq aG (TC (.int 1)) (av ai (ae (ah 0) (ae (TC (.int 60)) (au))))) (au)))) (aq gO (av ai (ae (ah 0) (ae (TC (.int 8)) (au)))) (TC (.int 7)))) (aw 3)) (aH (aR (aq L3.rIx (cD (ae (TC .non) (ae (aq fb (av ai (ae (ah 0) (ae (aq aG (ah 3) (TC (.int 2))) (au)))) (TC (.int 61))) (ae (TC (.int 0)) (au))))) (aq fb (av ai (ae (ah 0) (ae (TC (.int 5)) (au)))) (TC (.int 3)))) (aw 4)) (br (a7 (ae (ah 1) (ae (ah 2) (ae (ah 3) (ae (ah 4) (ae (aq L3.rIx (cD (ae (TC (.str "line")) (ae (TC (.str "turns")) (au)))) (av ai (ae (ah 0) (ae (TC (.int 2)) (au))))) (au))))))))))
theorem mC:∀ ds μ Q,bI ds μ Q→iU { nx:=fun _ μ'=>RT Q .non μ',rt:=RT Q } (ini 5 ds) μ:=by
  intro ds μ Q h
  unfold bI at h
  split at h
  case h_2=>exact h.elim
  rename_i b n
  walk_at "ini"
  unfold iU
  walk_at "go"
  obtain ⟨⟨hB,T⟩,k⟩:=h
  refine tk hB (by decide) (by decide) fun c1 μ1 c10 c11 B1=>?_
  walk_at "go"
  refine tk B1.box (by decide) (by decide) fun c2 μ2 c20 c21 B2=>?_
  walk_at "go"
  refine tk B2.box (by decide) (by decide) fun c3 μ3 c30 c31 B3=>?_
  walk_at "go"
  have i3:0≤c3.fdiv 7∧c3.fdiv 7 < 2:=by rw[b6 (by decide)];omega
  have al:∀ d∈([.int (1+c1),.int (1+c2)]:List D),IsI 1 60 d:=ar ⟨_,rfl,by omega,by omega⟩ (ar ⟨_,rfl,by omega,by omega⟩ aV)
  obtain ⟨_,e1,p,rfl,p0,p1⟩:=bA al i3.1 i3.2
  refine ⟨⟨by decide,by unfold cG;decide⟩,cp e1 ?_⟩
  walk_at "go"
  refine tk B3.box (by decide) (by decide) fun c4 μ4 c40 c41 B4=>?_
  walk_at "go"
  refine tk B4.box (by decide) (by decide) fun c5 μ5 c50 c51 B5=>?_
  walk_at "go"
  refine tk B5.box (by decide) (by decide) fun c6 μ6 c60 c61 B6=>?_
  walk_at "go"
  have i6:0≤c6.fdiv 7∧c6.fdiv 7 < 2:=by rw[b6 (by decide)];omega
  have al2:∀ d∈([.int (1+c4),.int (1+c5)]:List D),IsI 1 60 d:=ar ⟨_,rfl,by omega,by omega⟩ (ar ⟨_,rfl,by omega,by omega⟩ aV)
  obtain ⟨_,e2,r,rfl,r0,r1⟩:=bA al2 i6.1 i6.2
  refine ⟨⟨by decide,by unfold cG;decide⟩,cp e2 ?_⟩
  walk_at "go"
  refine tk B6.box (by omega) (by omega) fun c7 μ7 c70 c71 B7=>?_
  walk_at "go"
  have m7:=fm0 (a:=c7) (n:=61) (by decide)
  have m7':=fm1 (a:=c7) (n:=61) (by decide)
  refine ⟨by decide,?_⟩
  refine tk B7.box (by decide) (by decide) fun c8 μ8 c80 c81 B8=>?_
  walk_at "go"
  have m8:=fm0 (a:=c8) (n:=3) (by decide)
  have m8':=fm1 (a:=c8) (n:=3) (by decide)
  have al3:∀ d∈([.non,.int (c7.fmod 61),.int 0]:List D),MkD d:=ar ki (ar (fR m7 (by omega)) (ar (fR (by decide) (by decide)) aV))
  obtain ⟨_,e3,m,rfl,hm⟩:=bA al3 m8 m8'
  refine ⟨by decide,cp e3 ?_⟩
  walk_at "go"
  refine tk B8.box (by decide) (by decide) fun c9 μ9 c90 c91 B9=>?_
  have al4:∀ d∈LT'.map D.str,∃ z,z∈LT'∧d=.str z:=fun d hd=>by obtain ⟨z,hz,rfl⟩:=List.mem_map.mp hd;exact ⟨z,hz,rfl⟩
  obtain ⟨_,e4,so,hso,rfl⟩:=bA al4 c90 c91
  have e4:atD [.str "line", .str "turns"] c9=some (.str so):=e4
  walk_at "go"
  rw[e4]
  walk_at "go"
  exact ⟨_,.refl _,k ⟨n,p,r,m,so⟩ _ ⟨T,⟨by show 0≤p;omega,by show p < _;omega⟩,⟨by show 0≤r;omega,by show r < _;omega⟩,hm,⟨(wN so hso).1,(wN so hso).2⟩⟩ (B1.trans (B2.trans (B3.trans (B4.trans (B5.trans (B6.trans (B7.trans (B8.trans B9))))))))⟩
theorem wU {μ:Mu}{b p:Addr}(h:Box μ b)(hp:μ p=none):p≠b:=fun z=>by subst z;obtain ⟨_,_,_,e,_⟩:=h;rw[hp] at e;cases e
theorem pW {μ:Mu}{b p:Addr}{o:MO}(h:Box μ b)(hp:p≠b):Box (up μ p o) b:=by
  obtain ⟨g,s,c,e,h0⟩:=h
  exact ⟨g,s,c,by rw[bN (Ne.symm hp)];exact e,h0⟩
theorem zE {μ:Mu}{b p:Addr}(h:Box μ b)(hp:p≠b):Box (dn μ p) b:=by
  obtain ⟨g,s,c,e,h0⟩:=h
  exact ⟨g,s,c,by unfold L3.dn;rw[if_neg (Ne.symm hp)];exact e,h0⟩
theorem eX {G:GTr}{tt:TTr}{te:ETr}{ρc:ST}{ds:List D}{μ:Mu}{Q:DK}{b:Addr}(hB:Box μ b)(I:List D→List D→Prop)(h0:I ds [])(hl:ds.length≤999999)
    (step:∀ d r zs μ',Box μ' b→I (d::r) zs→∀ (N:Option D→Mu→Prop),(∀ oy μ2,I r (zs++oy.toList)→bE b μ' μ2→N oy μ2)→G d ρc μ' fun ρ1 μ1=>tt ρ1 μ1 fun c μ2=>kIf c (te ρ1 μ2 fun y μ3=>N (some y) μ3) (N none μ2))
    (k:∀ zs μ',I [] zs→bE b μ μ'→Q (.ls zs) μ'):mO G tt te ρc ds μ Q:=by
  intro p hp
  have pb:=wU hB hp
  refine ey (fun r μ'=>∃ zs,I r zs∧zs.length+r.length≤ds.length∧μ' p=some (.lst zs)∧Box μ' b∧∀ x,x≠b→x≠p→μ' x=μ x) ?_ ?_ _ _ ⟨[],h0,by simp,aP,pW hB pb,fun x _ h=>bN h⟩
  · rintro μ' ⟨zs,hI,_,e,P,fr⟩
    refine cX e (k zs _ hI ⟨zE P pb,fun x hx=>?_⟩)
    unfold L3.dn
    split
    · rename_i z;subst z;exact hp.symm
    · rename_i z;exact fr x hx z
  · rintro d r μ' N ⟨zs,hI,hz,e,P,fr⟩ hN
    rw[List.length_cons] at hz
    refine step d r zs μ' P hI (fun oy μ3=>match oy with
      | some y=>kL μ3 p fun zs=>zs.length < 1000000∧N (up μ3 p (.lst (zs++[y])))
      | none=>N μ3) ?_
    intro oy μ2 hoy P2
    have e2:μ2 p=some (.lst zs):=by rw[P2.oth p pb];exact e
    cases oy with
    | none=>exact hN _ ⟨zs,by simpa using hoy,by omega,e2,P2.box,fun x h1 h2=>(P2.oth x h1).trans (fr x h1 h2)⟩
    | some y=>
      refine cX e2 ⟨by omega,hN _ ⟨zs++[y],hoy,by rw[List.length_append];simp;omega,aP,pW P2.box pb,fun x h1 h2=>?_⟩⟩
      rw[bN h2];exact (P2.oth x h1).trans (fr x h1 h2)
theorem sU {k:Nat}:∀ {zs:List Str},(∀ z∈zs,cT z)→bU k (zs.map .str)=true
  | [],_=>rfl
  | z::r,h=>by
    rw[List.map_cons,bU,Bool.and_eq_true]
    exact ⟨by cases k<;>simpa[okD] using (h z List.mem_cons_self).o,sU fun y q=>h y (List.mem_cons_of_mem _ q)⟩
def a9:FSp:=fun ds μ Q=>match ds with
  | [.obj b,.str n,.tup xs,.int m]=>∃ ws:List WT,(Box μ b∧cT n∧xs=ws.map WT.toD∧(0 < ws.length∧ws.length≤8)∧(∀ w∈ws,w.Ok)∧1≤m∧m≤60)∧∀ (s:ST') μ',s.Ok→bE b μ μ'→Q s.toD μ'
  | _=>False
theorem gJ:∀ ds μ Q,a9 ds μ Q→ds.length=4:=by
  unfold a9
  walk_at "ln"
def bR:STr:=aH (aR (aq L3.rIx (cD (ae (aq aG (TC (.int 1)) (av ai (ae (ah 0) (ae (TC (.int 3)) (au))))) (ae (aq aG (TC (.int 1)) (av ai (ae (ah 0) (ae (TC (.int 8)) (au))))) (au)))) (aq gO (av ai (ae (ah 0) (ae (TC (.int 6)) (au)))) (TC (.int 5)))) (aw 5)) (aH (aR (aq L3.rIx (cD (ae (TC .non) (ae (av ai (ae (ah 0) (ae (TC (.int 25)) (au)))) (au)))) (av ai (ae (ah 0) (ae (TC (.int 2)) (au))))) (aw 6)) (br (a7 (ae (ah 1) (ae (ah 4) (ae (ah 5) (ae (av ai (ae (ah 0) (ae (TC (.int 4)) (au)))) (ae (ah 6) (ae (av bq (ae (ah 0) (ae (ah 3) (au)))) (au))))))))))
def eK:STr:=aH (aR (av bW (ae (cW (eA (ah 2)) (aw 0) (TB (aq rGt (av ai (ae (ah 1) (ae (TC (.int 3)) (au)))) (TC (.int 0)))) (aq L3.rIx (ah 0) (TC (.int 0))) 1 [0]) (au))) (aw 4)) (aH (cP (TB (aq rEq (ah 4) (a7 (au)))) (aR (a7 (ae (aq L3.rIx (aq L3.rIx (ah 2) (av ai (ae (ah 0) (ae (av g7 (ae (ah 2) (au))) (au))))) (TC (.int 0))) (au))) (aw 4)) (bL)) (bR))
theorem iJ:∀ ds μ Q,a9 ds μ Q→eK { nx:=fun _ μ'=>RT Q .non μ',rt:=RT Q } (ini 7 ds) μ:=by
  intro ds μ Q h
  unfold a9 at h
  split at h
  case h_2=>exact h.elim
  rename_i b n xs m
  walk_at "ini"
  unfold eK
  walk_at "go"
  obtain ⟨ws,⟨hB,T,rfl,⟨l0,l1⟩,hw,m0,m1⟩,k⟩:=h
  refine eX hB (fun r zs=>∃ (rs:List WT) (ns:List Str),r=rs.map WT.toD∧zs=ns.map .str∧(∀ x∈rs,x.Ok)∧ns.length+rs.length≤8∧∀ z∈ns,cT z) ⟨ws,[],rfl,rfl,hw,by simpa using l1,fun _ h=>nomatch h⟩ (by simp;omega) ?_ ?_
  · rintro d r zs μ1 hB1 ⟨rs,ns,er,rfl,hr,hl,hn⟩ N hN
    cases rs with
    | nil=>cases er
    | cons x rs=>
    cases er
    rw[List.length_cons] at hl
    have hr':=fun y hy=>hr y (List.mem_cons_of_mem x hy)
    walk_at "go"
    refine tk hB1 (by decide) (by decide) fun c μ2 c0 c1 B2=>?_
    walk_at "go"
    refine kif (fun h=>?_) fun h=>?_
    · unfold WT.toD
      walk_at "go"
      refine hN _ _ ⟨rs,ns++[x.nm],rfl,by simp,hr',by simp;omega,fun z hz=>?_⟩ B2
      rcases List.mem_append.mp hz with q | q
      · exact hn z q
      · rw[List.mem_singleton.mp q];exact (hr x List.mem_cons_self).n
    · exact hN none _ ⟨rs,ns,rfl,by simp,hr',by omega,hn⟩ B2
  · rintro zs μ1 ⟨rs,ns,er,rfl,_,hl,hn⟩ B1
    walk_at "go"
    have fin:∀ (xs:List Str) μ2,(∀ y∈xs,cT y)→xs.length≤8→bE b μ μ2→bR { nx:=fun _ μ'=>RT Q .non μ',rt:=RT Q } [some (.obj b),some (.str n),some (.tup (ws.map WT.toD)),some (.int m),some (.tup (xs.map .str)),none,none] μ2:=by
      intro xs μ2 ho hxl B2
      unfold bR
      walk_at "go"
      refine tk B2.box (by decide) (by decide) fun c3 μ3 c30 c31 B3=>?_
      walk_at "go"
      refine tk B3.box (by decide) (by decide) fun c4 μ4 c40 c41 B4=>?_
      walk_at "go"
      refine tk B4.box (by decide) (by decide) fun c5 μ5 c50 c51 B5=>?_
      walk_at "go"
      have i5:0≤c5.fdiv 5∧c5.fdiv 5 < 2:=by rw[b6 (by decide)];omega
      have al:∀ d∈([.int (1+c3),.int (1+c4)]:List D),IsI 1 60 d:=ar ⟨_,rfl,by omega,by omega⟩ (ar ⟨_,rfl,by omega,by omega⟩ aV)
      obtain ⟨_,e1,bt,rfl,b0,b1⟩:=bA al i5.1 i5.2
      refine ⟨⟨by decide,by unfold cG;decide⟩,cp e1 ?_⟩
      walk_at "go"
      refine tk B5.box (by decide) (by decide) fun c6 μ6 c60 c61 B6=>?_
      walk_at "go"
      refine tk B6.box (by decide) (by decide) fun c7 μ7 c70 c71 B7=>?_
      have al3:∀ d∈([.non,.int c6]:List D),MkD d:=ar ki (ar (fR c60 (by omega)) aV)
      obtain ⟨_,e3,mn,rfl,hm⟩:=bA al3 c70 c71
      walk_at "go"
      refine cp e3 ?_
      walk_at "go"
      refine tk B7.box (by decide) (by decide) fun c8 μ8 c80 c81 B8=>?_
      walk_at "go"
      refine ⟨⟨B8.box,m0,m1⟩,fun wd ps μ9 Tw hp pl B9=>?_⟩
      walk_at "go"
      exact ⟨_,.refl _,k ⟨n,xs,bt,c8,mn,wd,ps⟩ _ ⟨T,ho,hxl,⟨by show 0≤bt;omega,by show bt < _;omega⟩,⟨c80,by show c8 < _;omega⟩,hm,Tw,hp,pl⟩ (B2.trans (B3.trans (B4.trans (B5.trans (B6.trans (B7.trans (B8.trans B9)))))))⟩
    cases ns with
    | cons x xs=>
      walk_at "go"
      have o1:=(hn x List.mem_cons_self).o
      have o2:=sU (k:=39) fun y q=>hn y (List.mem_cons_of_mem x q)
      exact ⟨by rw[o1,o2];rfl,fin (x::xs) μ1 hn (by simp at hl ⊢;omega) B1⟩
    | nil=>
      walk_at "go"
      rw[List.length_map]
      refine tk B1.box (by omega) (by omega) fun c μ2 c0 c1 B2=>?_
      obtain ⟨_,e2,y,hy,rfl⟩:=bA (P:=fun d=>∃ y,y∈ws∧d=y.toD) (xs:=ws.map WT.toD) (fun d hd=>by obtain ⟨y,hy,rfl⟩:=List.mem_map.mp hd;exact ⟨y,hy,rfl⟩) c0 (by rw[List.length_map];exact c1)
      walk_at "go"
      refine cp e2 ?_
      unfold WT.toD
      walk_at "go"
      exact fin [y.nm] μ2 (fun z hz=>by rw[List.mem_singleton.mp hz];exact (hw y hy).n) (by simp) (B1.trans B2)
def bw:FSp:=fun ds μ Q=>match ds with
  | [.obj b,.int m,.int n]=>(Box μ b∧(1≤m∧m≤60)∧0≤n∧n≤8)∧∀ (p:PT) μ',p.Ok→bE b μ μ'→Q p.toD μ'
  | _=>False
theorem jr:∀ ds μ Q,bw ds μ Q→ds.length=3:=by
  unfold bw
  walk_at "ln"
def f7:STr:=aH (aR (aq L3.rIx (cD (ae (TC (.int 1)) (ae (TC (.int 2)) (ae (TC (.int 3)) (ae (aq aG (TC (.int 1)) (av ai (ae (ah 0) (ae (TC (.int 60)) (au))))) (au)))))) (av ai (ae (ah 0) (ae (TC (.int 4)) (au))))) (aw 3)) (aH (aR (aq L3.rIx (cD (ae (aq aG (TC (.int 1)) (av ai (ae (ah 0) (ae (TC (.int 3)) (au))))) (ae (aq aG (TC (.int 4)) (av ai (ae (ah 0) (ae (TC (.int 3)) (au))))) (au)))) (aq gO (av ai (ae (ah 0) (ae (TC (.int 4)) (au)))) (TC (.int 3)))) (aw 4)) (aH (aR (av bW (ae (cW (eA (av a8 (ae (ah 0) (ae (ah 4) (au))))) (aw 0) (eZ) (av bI (ae (ah 1) (ae (ah 0) (au)))) 1 [0]) (au))) (aw 5)) (aH (aR (av oV (ae (av a8 (ae (ah 0) (ae (av ai (ae (ah 0) (ae (aq aG (ah 2) (TC (.int 1))) (au)))) (au)))) (au))) (aw 6)) (br (a7 (ae (ah 3) (ae (ah 5) (ae (av bW (ae (cW (eA (ah 6)) (aw 0) (eZ) (av a9 (ae (ah 1) (ae (ah 0) (ae (ah 2) (ae (ah 3) (au)))))) 1 [0,5,1]) (au))) (au)))))))))
theorem lP:∀ ds μ Q,bw ds μ Q→f7 { nx:=fun _ μ'=>RT Q .non μ',rt:=RT Q } (ini 7 ds) μ:=by
  intro ds μ Q h
  unfold bw at h
  split at h
  case h_2=>exact h.elim
  rename_i b m n
  walk_at "ini"
  unfold f7
  walk_at "go"
  obtain ⟨⟨hB,⟨m0,m1⟩,n0,n1⟩,k⟩:=h
  refine tk hB (by decide) (by decide) fun c1 μ1 c10 c11 B1=>?_
  walk_at "go"
  refine tk B1.box (by decide) (by decide) fun c2 μ2 c20 c21 B2=>?_
  have al:∀ d∈([.int 1,.int 2,.int 3,.int (1+c1)]:List D),IsI 1 60 d:=ar ⟨_,rfl,by decide,by decide⟩ (ar ⟨_,rfl,by decide,by decide⟩ (ar ⟨_,rfl,by decide,by decide⟩ (ar ⟨_,rfl,by omega,by omega⟩ aV)))
  obtain ⟨_,e1,gr,rfl,g0,g1⟩:=bA al c20 c21
  walk_at "go"
  refine cp e1 ?_
  walk_at "go"
  refine tk B2.box (by decide) (by decide) fun c3 μ3 c30 c31 B3=>?_
  walk_at "go"
  refine tk B3.box (by decide) (by decide) fun c4 μ4 c40 c41 B4=>?_
  walk_at "go"
  refine tk B4.box (by decide) (by decide) fun c5 μ5 c50 c51 B5=>?_
  walk_at "go"
  have i5:0≤c5.fdiv 3∧c5.fdiv 3 < 2:=by rw[b6 (by decide)];omega
  have al2:∀ d∈([.int (1+c3),.int (4+c4)]:List D),IsI 1 6 d:=ar ⟨_,rfl,by omega,by omega⟩ (ar ⟨_,rfl,by omega,by omega⟩ aV)
  obtain ⟨_,e2,mw,rfl,w0,w1⟩:=bA al2 i5.1 i5.2
  refine ⟨⟨by decide,by unfold cG;decide⟩,cp e2 ?_⟩
  walk_at "go"
  refine ⟨⟨B5.box,by omega,by omega⟩,fun zs μ6 zl hz B6=>?_⟩
  walk_at "go"
  refine eX B6.box (fun r ys=>∃ (rs:List Str) (wl:List WT),r=rs.map .str∧ys=wl.map WT.toD∧(∀ z∈rs,cT z)∧(∀ w∈wl,w.Ok)∧wl.length+rs.length=zs.length) ⟨zs,[],rfl,rfl,hz,(fun _ h=>nomatch h),by simp⟩ (by simp;omega) ?_ ?_
  · rintro d r ys μ' hB' ⟨rs,wl,er,rfl,hr,hw,hl⟩ N hN
    cases rs with
    | nil=>cases er
    | cons z rs=>
    cases er
    rw[List.length_cons] at hl
    walk_at "go"
    refine ⟨⟨hB',hr z List.mem_cons_self⟩,fun w μ2 W B=>?_⟩
    refine hN (some w.toD) _ ⟨rs,wl++[w],rfl,by simp,(fun y q=>hr y (List.mem_cons_of_mem _ q)),fun y hy=>?_,by simp;omega⟩ B
    rcases List.mem_append.mp hy with q | q
    · exact hw y q
    · rw[List.mem_singleton.mp q];exact W
  rintro ys μ7 ⟨rs,ws,er,rfl,_,hw,hl⟩ B7
  cases rs with
  | cons _ _=>cases er
  | nil=>
  have wl:ws.length=zs.length:=by simpa using hl
  walk_at "go"
  refine tk B7.box (by omega) (by omega) fun c8 μ8 c80 c81 B8=>?_
  walk_at "go"
  refine ⟨⟨B8.box,c80,by omega⟩,fun ns μ9 nl hn B9=>?_⟩
  refine ⟨ns,⟨rfl,by omega⟩,fun nn p1 _=>?_⟩
  have nnl:=p1.length_eq
  have hnn:∀ z∈nn,cT z:=fun z q=>hn z (p1.mem_iff.mp q)
  walk_at "go"
  refine eX B9.box (fun r ys=>∃ (rs:List Str) (sl:List ST'),r=rs.map .str∧ys=sl.map ST'.toD∧(∀ z∈rs,cT z)∧(∀ s∈sl,s.Ok)∧sl.length+rs.length=nn.length) ⟨nn,[],rfl,rfl,hnn,(fun _ h=>nomatch h),by simp⟩ (by simp;omega) ?_ ?_
  · rintro d r ys μ' hB' ⟨rs,sl,er,rfl,hr,hs,hl⟩ N hN
    cases rs with
    | nil=>cases er
    | cons z rs=>
    cases er
    rw[List.length_cons] at hl
    walk_at "go"
    refine ⟨ws,⟨hB',hr z List.mem_cons_self,rfl,⟨by omega,by omega⟩,hw,m0,m1⟩,fun s μ2 S B=>?_⟩
    refine hN (some s.toD) _ ⟨rs,sl++[s],rfl,by simp,(fun y q=>hr y (List.mem_cons_of_mem _ q)),fun y hy=>?_,by simp;omega⟩ B
    rcases List.mem_append.mp hy with q | q
    · exact hs y q
    · rw[List.mem_singleton.mp q];exact S
  rintro ys μ10 ⟨rs,ss,er,rfl,_,hs,hl⟩ B10
  cases rs with
  | cons _ _=>cases er
  | nil=>
  have sl:ss.length=nn.length:=by simpa using hl
  walk_at "go"
  exact ⟨_,.refl _,k ⟨gr,ws,ss⟩ _ ⟨⟨by show 0≤gr;omega,by show gr < _;omega⟩,hw,hs,by show ws.length≤8;omega,by show ss.length≤8;omega⟩ (B1.trans (B2.trans (B3.trans (B4.trans (B5.trans (B6.trans (B7.trans (B8.trans (B9.trans B10)))))))))⟩
def aX:FSp:=fun ds μ Q=>match ds with
  | [d]=>gT d∧Q (.str (shw d)) μ
  | _=>False
theorem gI:∀ ds μ Q,aX ds μ Q→ds.length=1:=by
  unfold aX
  walk_at "ln"
def eI:STr:=aH (cP (TB (TUn (fF "int") (ah 0))) (br (av bZ (ae (ah 0) (au)))) (bL)) (aH (cP (TB (aq rEq (aq L3.rIx (ah 0) (TC (.int 1))) (TC (.int 1)))) (br (av bZ (ae (aq L3.rIx (ah 0) (TC (.int 0))) (au)))) (bL)) (br (aq aG (aq aG (av bZ (ae (aq L3.rIx (ah 0) (TC (.int 0))) (au))) (TC (.str "/"))) (av bZ (ae (aq L3.rIx (ah 0) (TC (.int 1))) (au))))))
theorem iQ:∀ ds μ Q,aX ds μ Q→eI { nx:=fun _ μ'=>RT Q .non μ',rt:=RT Q } (ini 1 ds) μ:=by
  intro ds μ Q h
  unfold aX at h
  split at h
  case h_2=>exact h.elim
  rename_i d
  walk_at "ini"
  unfold eI
  walk_at "go"
  obtain ⟨h,k⟩:=h
  rcases h with ⟨i,rfl,h0,h1⟩ | ⟨a,b,rfl,⟨a0,a1⟩,b0,b1⟩
  · walk_at "go"
    exact ⟨bH h0 h1,_,.refl _,k⟩
  · have k:Q (.str (if b=1 then itS a else itS a++Str.ofString "/" ++ itS b)) μ:=k
    walk_at "go"
    refine kif (fun h=>?_) fun h=>?_
    · rw[if_pos h] at k
      walk_at "go"
      exact ⟨bH a0 a1,_,.refl _,k⟩
    · rw[if_neg h] at k
      have la:=fS a0 a1
      have lb:=fS b0 b1
      walk_at "go"
      refine ⟨bH a0 a1,by rw[ly];omega,bH b0 b1,by rw[Str.length_append,ly];omega,?_⟩
      exact ⟨_,.refl _,k⟩
def bx:FSp:=fun ds μ Q=>match ds with
  | [d]=>∃ p:PT,(d=p.toD∧p.Ok)∧Q (.ls (p.rows.map .str)) μ
  | _=>False
theorem y3:oD none=.non:=rfl
theorem xD (i:Int):oD (some i)=.int i:=rfl
theorem AK:(Str.ofString "grid ").length=5:=by decide +kernel
theorem jH:∀ ds μ Q,bx ds μ Q→ds.length=1:=by
  unfold bx
  walk_at "ln"
def fX:STr:=aH (aR (gP (ae (aq aG (TC (.str "grid ")) (av bZ (ae (aq L3.rIx (ah 0) (TC (.int 0))) (au)))) (au))) (aw 1)) (aH (i9 (eA (aq L3.rIx (ah 0) (TC (.int 1)))) (gB [2,3,4,5,6]) (aH (aR (gP (ae (TC (.str "way")) (ae (ah 2) (ae (av bZ (ae (ah 3) (au))) (ae (av bZ (ae (ah 4) (au))) (ae (TC (.str "-")) (ae (ah 6) (au)))))))) (aw 7)) (aH (cP (TB (aq dr (ah 5) (TC .non))) (cO (ah 7) (TC (.int 4)) (av bZ (ae (ah 5) (au)))) (bL)) (cQ (ik (ah 1) (f6 (TC (.str " ")) (jt (ah 7)))))))) (aH (i9 (eA (aq L3.rIx (ah 0) (TC (.int 2)))) (gB [2,8,9,10,11,12]) (aH (aR (gP (ae (TC (.str "sender")) (ae (ah 2) (ae (iz (TC (.str ",")) (ah 8)) (ae (av bZ (ae (ah 9) (au))) (ae (av bZ (ae (ah 10) (au))) (ae (TC (.str "-")) (ae (aq L3.rIx (ah 12) (TC (.int 0))) (au))))))))) (aw 7)) (aH (cP (TB (aq dr (ah 11) (TC .non))) (cO (ah 7) (TC (.int 5)) (av bZ (ae (ah 11) (au)))) (bL)) (cQ (ik (ah 1) (f6 (TC (.str " ")) (aq aG (jt (ah 7)) (cW (eA (TSl (ah 12) (lq (TC (.int 1))) (ONo))) (aw 0) (eZ) (av aX (ae (ah 0) (au))) 1 [])))))))) (br (jt (ah 1)))))
theorem lN:∀ ds μ Q,bx ds μ Q→fX { nx:=fun _ μ'=>RT Q .non μ',rt:=RT Q } (ini 13 ds) μ:=by
  intro ds μ Q h
  unfold bx at h
  split at h
  case h_2=>exact h.elim
  rename_i d
  walk_at "ini"
  unfold fX
  walk_at "go"
  obtain ⟨p,⟨rfl,P⟩,k⟩:=h
  have wl:=P.wl
  have sl:=P.sl
  walk_at "go"
  have lg:=fS P.g.l P.g.u
  refine ⟨bH P.g.l P.g.u,by rw[AK];omega,fun q hq=>?_⟩
  rw[tI]
  walk_at "go"
  refine b7 (fun r ρ μ'=>∃ (dn rs:List WT) (v2 v3 v4 v5 v6 v7:Option D),r=rs.map WT.toD∧dn++rs=p.ws∧ρ=[some p.toD,some (.obj q),v2,v3,v4,v5,v6,v7,none,none,none,none,none]∧μ'=up μ q (.lst (.str (bM p.gd)::dn.map fun w=>.str (bM w.ds)))) ?_ ?_ _ _ _ ⟨[],p.ws,_,_,_,_,_,_,rfl,rfl,rfl,rfl⟩
  rotate_left
  · rintro d r ρ μ' N ⟨dn,rs,v2,v3,v4,v5,v6,v7,er,es,rfl,rfl⟩ hN
    cases rs with
    | nil=>cases er
    | cons w rs=>
    cases er
    have hw:w∈p.ws:=by rw[← es];simp
    have W:=P.w w hw
    have dl:dn.length+(rs.length+1)=p.ws.length:=by rw[← es];simp
    generalize hμ:up μ q (.lst (.str (bM p.gd)::dn.map fun w=>.str (bM w.ds)))=μ1 at *
    have e1:μ1 q=some (.lst (.str (bM p.gd)::dn.map fun w=>.str (bM w.ds))):=by rw[← hμ];exact aP
    have fin:∀ (t:Addr) (ht:μ1 t=none) (L:List D),cj L=some (w.ds.map shw)→kL (up μ1 t (.lst L)) q fun _=>∃ zs,cj L=some zs∧JoinOk (Str.ofString " ") zs=true∧kL (L3.dn (up μ1 t (.lst L)) t) q fun ds1=>ds1.length < 1000000∧N [some p.toD,some (.obj q),some (.str w.nm),some (.int w.p),some (.int w.r),some (oD w.m),some (.str w.so),some (.obj t),none,none,none,none,none] (up (L3.dn (up μ1 t (.lst L)) t) q (.lst (ds1++[.str (Txt.join (Str.ofString " ") zs)]))):=by
      intro t ht L hL
      have tq:t≠q:=fun z=>by subst z;rw[e1] at ht;cases ht
      refine cX (by rw[bN (Ne.symm tq)];exact e1) ⟨_,hL,PyProof.Rows.joinOk_of (Nat.le_trans (gZ W.pt (by show 6≤20;decide)) (by decide)),?_⟩
      rw[ja ht]
      refine cX e1 ⟨by simp;omega,hN _ _ ⟨dn++[w],rs,_,_,_,_,_,_,rfl,by rw[← es];simp,rfl,?_⟩⟩
      rw[← hμ,gk,dh,List.map_append]
      rfl
    unfold WT.toD
    walk_at "go"
    refine ⟨bH W.p.l W.p.u,bH W.r.l W.r.u,fun t ht=>?_⟩
    have fi:=fin t ht
    cases hm:w.m with
    | none=>
      have ez:w.ds.map shw=[Str.ofString "way", w.nm,itS w.p,itS w.r,Str.ofString "-", w.so]:=by unfold WT.ds;rw[hm];rfl
      rw[hm] at fi
      rw[y3] at fi ⊢
      walk_at "go"
      exact fi _ (by rw[ez];rfl)
    | some i=>
      have ez:w.ds.map shw=[Str.ofString "way", w.nm,itS w.p,itS w.r,itS i,w.so]:=by unfold WT.ds;rw[hm];rfl
      have I:=W.m i hm
      rw[hm] at fi
      rw[xD] at fi ⊢
      walk_at "go"
      refine ⟨bH I.l I.u,?_⟩
      refine (show kN (some 4) _ from ?_)
      walk_at "go"
      exact fi _ (by rw[ez];rfl)
  rintro ρ μ' ⟨dw,rw',v2,v3,v4,v5,v6,v7,er,es,rfl,rfl⟩
  cases rw' with
  | cons _ _=>cases er
  | nil=>
  rw[List.append_nil] at es
  subst es
  walk_at "go"
  refine b7 (fun r ρ μ'=>∃ (dn rs:List ST') (v2 v7 v8 v9 v10 v11 v12:Option D),r=rs.map ST'.toD∧dn++rs=p.ss∧ρ=[some p.toD,some (.obj q),v2,v3,v4,v5,v6,v7,v8,v9,v10,v11,v12]∧μ'=up μ q (.lst (.str (bM p.gd)::(p.ws.map fun w=>.str (bM w.ds))++dn.map fun s=>.str (bM s.ds)))) ?_ ?_ _ _ _ ⟨[],p.ss,_,_,_,_,_,_,_,rfl,rfl,rfl,by rw[List.map_nil,List.append_nil]⟩
  · rintro ρ μ' ⟨dn,rs,v2,v7,v8,v9,v10,v11,v12,er,es,rfl,rfl⟩
    cases rs with
    | cons _ _=>cases er
    | nil=>
    rw[List.append_nil] at es
    subst es
    walk_at "go"
    rw[ja hq]
    refine ⟨_,.refl _,?_⟩
    have er:p.rows.map D.str=.str (bM p.gd)::(p.ws.map (fun w=>D.str (bM w.ds))++p.ss.map fun s=>D.str (bM s.ds)):=by
      unfold PT.rows
      rw[List.map_cons,List.map_append,List.map_map,List.map_map]
      rfl
    rw[er] at k
    exact k
  · rintro d r ρ μ' N ⟨dn,rs,v2,v7,v8,v9,v10,v11,v12,er,es,rfl,rfl⟩ hN
    cases rs with
    | nil=>cases er
    | cons s rs=>
    cases er
    have hs:s∈p.ss:=by rw[← es];simp
    have S:=P.s s hs
    have dl:dn.length+(rs.length+1)=p.ss.length:=by rw[← es];simp
    generalize hμ:up μ q (.lst (.str (bM p.gd)::(p.ws.map fun w=>.str (bM w.ds))++dn.map fun s=>.str (bM s.ds)))=μ1 at *
    have e1:μ1 q=some (.lst (.str (bM p.gd)::(p.ws.map fun w=>.str (bM w.ds))++dn.map fun s=>.str (bM s.ds))):=by rw[← hμ];exact aP
    unfold ST'.toD
    walk_at "go"
    have tb:=jc (n:=8) (m:=8) (k:=1) (sep:=Str.ofString ",") (zs:=s.rd) (fun z k=>(S.r z k).l) S.rl (by rw[fO];decide)
    refine ⟨s.rd,strs_map _,by omega,bH S.b.l S.b.u,bH S.g.l S.g.u,fun t ht=>?_⟩
    rw[dh]
    have tq:t≠q:=fun z=>by subst z;rw[e1] at ht;cases ht
    have pl:=S.pl
    have fin:∀ (zs0:List Str),zs0++s.ps.map shw=s.ds.map shw→zs0.length≤7→kL (up μ1 t (.lst (zs0.map .str))) q fun _=>mO (aw 0) eZ (av aX (ae (ah 0) au)) [none] (cutD (.str s.wd::s.ps) (some 1) none) (L3.dn (up μ1 t (.lst (zs0.map .str))) t) fun y1 μ2=>L3.aG (.ls (zs0.map .str)) y1 μ2 fun y μ2=>kLz y fun ds=>∃ zs,cj ds=some zs∧JoinOk (Str.ofString " ") zs=true∧kL μ2 q fun ds=>ds.length < 1000000∧N [some p.toD,some (.obj q),some (.str s.nm),v3,v4,v5,v6,some (.obj t),some (.tup (s.rd.map .str)),some (.int s.bt),some (.int s.bg),some (oD s.mn),some (.tup (.str s.wd::s.ps))] (up μ2 q (.lst (ds++[.str (Txt.join (Str.ofString " ") zs)]))):=by
      intro zs0 ez zl
      refine cX (by rw[bN (Ne.symm tq)];exact e1) ?_
      rw[ja ht,show cutD (D.str s.wd::s.ps) (some 1) none=s.ps from qC (D.str s.wd::s.ps) 1]
      refine comp_map (fun d=>.str (shw d)) (by omega) (fun d hd μ' _ N m=>?_) ?_
      · walk_at "go"
        exact ⟨S.p d hd,m⟩
      walk_at "go"
      refine ⟨by rw[List.length_map,List.length_map];omega,s.ds.map shw,?_,PyProof.Rows.joinOk_of (Nat.le_trans (gZ S.pt (oo S)) (by decide)),?_⟩
      · rw[← ez,← strs_map,List.map_append,List.map_map]
        rfl
      refine cX e1 ⟨by simp;omega,hN _ _ ⟨dn++[s],rs,_,_,_,_,_,_,_,rfl,by rw[← es];simp,rfl,?_⟩⟩
      rw[← hμ,gk,dh,List.map_append,← List.append_assoc]
      rfl
    cases hm:s.mn with
    | none=>
      have fi:=fin [Str.ofString "sender", s.nm,Str.join (Str.ofString ",") s.rd,itS s.bt,itS s.bg,Str.ofString "-", s.wd] (by unfold ST'.ds;rw[hm,List.map_append];rfl) (by simp)
      rw[hm,y3] at fi
      rw[y3]
      walk_at "go"
      exact fi
    | some i=>
      have fi:=fin [Str.ofString "sender", s.nm,Str.join (Str.ofString ",") s.rd,itS s.bt,itS s.bg,itS i,s.wd] (by unfold ST'.ds;rw[hm,List.map_append];rfl) (by simp)
      have I:=S.m i hm
      rw[hm,xD] at fi
      rw[xD]
      walk_at "go"
      refine ⟨bH I.l I.u,?_⟩
      refine (show kN (some 5) _ from ?_)
      walk_at "go"
      exact fi
def aZ:FSp:=fun ds μ Q=>match ds with
  | [.obj b,d]=>∃ p:PT,(Box μ b∧d=p.toD∧p.Ok)∧∀ (p':PT) μ',p'.Ok→bE b μ μ'→Q p'.toD μ'
  | _=>False
theorem uE {b:Addr}{μ μ':Mu}{d:D}{Q:DK}(hB:Box μ' b)(h:∀ a o,a≠b→μ a=some o→μ' a=some o)(k:∀ μ2,bE b μ μ2→Q d μ2):RT Q d μ':=by
  obtain ⟨g,s,c,e,h0⟩:=hB
  refine ⟨fun a=>if a=b then μ' a else μ a,fun a o e'=>?_,k _ ⟨⟨g,s,c,?_,h0⟩,fun a ha=>by simp only[if_neg ha]⟩⟩
  · dsimp only at e'
    by_cases z:a=b
    · rw[if_pos z] at e';exact e'
    · rw[if_neg z] at e';exact h a o z e'
  · simp only[if_true]
    exact e
theorem RuD:∀ d∈([.tup [.str "still", fr 60 1],.tup [.str "step", fr 59 1,fr 60 1,fr 999999998 999999999,fr 119 2],.tup [.str "calm", fr 1 1,fr 1 999999999,.int 0,.int 60,fr 60 1],.tup [.str "heed", fr 13 7,fr 1 60,fr 1 1,fr 60 1]]:List D),∃ (wd:Str) (ps:List D),d=.tup (.str wd::ps)∧cT wd∧(∀ d∈ps,gT d)∧ps.length≤6:=by
  refine ar ⟨_,_,rfl,⟨by decide +kernel,by decide +kernel⟩,?_,by decide⟩ (ar ⟨_,_,rfl,⟨by decide +kernel,by decide +kernel⟩,?_,by decide⟩ (ar ⟨_,_,rfl,⟨by decide +kernel,by decide +kernel⟩,?_,by decide⟩ (ar ⟨_,_,rfl,⟨by decide +kernel,by decide +kernel⟩,?_,by decide⟩ aV)))
  all_goals repeat' (first | exact aV | refine ar (.inr ⟨_,_,rfl,⟨by decide,by decide⟩,by decide,by decide⟩) ?_ | refine ar (.inl ⟨_,rfl,by decide,by decide⟩) ?_)
theorem fQ:∀ ds μ Q,aZ ds μ Q→ds.length=2:=by
  unfold aZ
  walk_at "ln"
def dP:STr:=aH (aR (ah 1) (gB [2,3,4])) (aH (aR (av bW (ae (cW (eA (ah 3)) (aw 0) (eZ) (a7 (ae (aq L3.rIx (ah 0) (TC (.int 0))) (ae (TC (.int 20)) (ae (TC (.int 60)) (ae (aq L3.rIx (cD (ae (TC .non) (ae (TC (.int 60)) (au)))) (av ai (ae (ah 1) (ae (TC (.int 2)) (au))))) (ae (aq L3.rIx (ah 0) (TC (.int 4))) (au))))))) 1 [0]) (au))) (aw 3)) (aH (aR (cD (ae (a7 (ae (TC (.str "still")) (ae (a7 (ae (TC (.int 60)) (ae (TC (.int 1)) (au)))) (au)))) (ae (a7 (ae (TC (.str "step")) (ae (a7 (ae (TC (.int 59)) (ae (TC (.int 1)) (au)))) (ae (a7 (ae (TC (.int 60)) (ae (TC (.int 1)) (au)))) (ae (a7 (ae (TC (.int 999999998)) (ae (TC (.int 999999999)) (au)))) (ae (a7 (ae (TC (.int 119)) (ae (TC (.int 2)) (au)))) (au))))))) (au)))) (aw 5)) (aH (aR (aq aG (ah 5) (cD (ae (a7 (ae (TC (.str "calm")) (ae (a7 (ae (TC (.int 1)) (ae (TC (.int 1)) (au)))) (ae (a7 (ae (TC (.int 1)) (ae (TC (.int 999999999)) (au)))) (ae (TC (.int 0)) (ae (TC (.int 60)) (ae (a7 (ae (TC (.int 60)) (ae (TC (.int 1)) (au)))) (au)))))))) (ae (a7 (ae (TC (.str "heed")) (ae (a7 (ae (TC (.int 13)) (ae (TC (.int 7)) (au)))) (ae (a7 (ae (TC (.int 1)) (ae (TC (.int 60)) (au)))) (ae (a7 (ae (TC (.int 1)) (ae (TC (.int 1)) (au)))) (ae (a7 (ae (TC (.int 60)) (ae (TC (.int 1)) (au)))) (au))))))) (au))))) (aw 5)) (aH (aR (gP (au)) (aw 6)) (aH (i9 (eA (ah 4)) (gB [7,8,9,10,11,12]) (aH (aR (aq L3.rIx (cD (ae (TC .non) (ae (aq oa (TC (.int 10)) (TC (.int 6))) (ae (TC (.int 0)) (au))))) (av ai (ae (ah 0) (ae (TC (.int 3)) (au))))) (aw 11)) (cQ (ik (ah 6) (a7 (ae (ah 7) (ae (ah 8) (ae (TC (.int 8)) (ae (aq oa (TC (.int 10)) (TC (.int 6))) (ae (ah 11) (ae (aq L3.rIx (ah 5) (av ai (ae (ah 0) (ae (TC (.int 4)) (au))))) (au)))))))))))) (br (a7 (ae (TC (.int 60)) (ae (ah 3) (ae (av bW (ae (ah 6) (au))) (au)))))))))))
theorem gQ:∀ ds μ Q,aZ ds μ Q→dP { nx:=fun _ μ'=>RT Q .non μ',rt:=RT Q } (ini 13 ds) μ:=by
  intro ds μ Q h
  unfold aZ at h
  split at h
  case h_2=>exact h.elim
  rename_i b d
  walk_at "ini"
  unfold dP
  walk_at "go"
  obtain ⟨p,⟨hB,rfl,P⟩,k⟩:=h
  have wl:=P.wl
  have sl:=P.sl
  unfold PT.toD
  walk_at "go"
  refine eX hB (fun r ys=>∃ (rs wl:List WT),r=rs.map WT.toD∧ys=wl.map WT.toD∧(∀ w∈rs,w.Ok)∧(∀ w∈wl,w.Ok)∧wl.length+rs.length=p.ws.length) ⟨p.ws,[],rfl,rfl,P.w,(fun _ h=>nomatch h),by simp⟩ (by simp;omega) ?_ ?_
  · rintro d r ys μ' hB' ⟨rs,wl,er,rfl,hr,hw,hl⟩ N hN
    cases rs with
    | nil=>cases er
    | cons x rs=>
    cases er
    rw[List.length_cons] at hl
    have X:=hr x List.mem_cons_self
    unfold WT.toD
    walk_at "go"
    refine tk hB' (by decide) (by decide) fun c μ2 c0 c1 B2=>?_
    have al3:∀ d∈([.non,.int 60]:List D),MkD d:=ar ki (ar (fR (by decide) (by decide)) aV)
    obtain ⟨_,e3,m,rfl,hm⟩:=bA al3 c0 c1
    walk_at "go"
    refine cp e3 ?_
    refine hN (some (WT.toD ⟨x.nm,20,60,m,x.so⟩)) _ ⟨rs,wl++[⟨x.nm,20,60,m,x.so⟩],rfl,by simp,(fun y q=>hr y (List.mem_cons_of_mem _ q)),fun y hy=>?_,by simp;omega⟩ B2
    rcases List.mem_append.mp hy with q | q
    · exact hw y q
    · rw[List.mem_singleton.mp q];exact ⟨X.n,⟨(show (0:Int)≤20 by decide),(show (20:Int) < 10000000000 by decide)⟩,⟨(show (0:Int)≤60 by decide),(show (60:Int) < 10000000000 by decide)⟩,hm,X.s⟩
  rintro ys μ1 ⟨rs,ws,er,rfl,_,hw,hl⟩ B1
  cases rs with
  | cons _ _=>cases er
  | nil=>
  have wl':ws.length=p.ws.length:=by simpa using hl
  walk_at "go"
  refine ⟨by simp,fun q hq=>?_⟩
  have qb:=wU B1.box hq
  refine b7 (fun r ρ μ'=>∃ (rs sn:List ST') (v7 v8 v9 v10 v11 v12:Option D),r=rs.map ST'.toD∧(∀ s∈rs,s.Ok)∧(∀ s∈sn,s.Ok)∧sn.length+rs.length=p.ss.length∧ρ=[some (.obj b),_,_,some (.tup (ws.map WT.toD)),_,some (.ls [.tup [.str "still", fr 60 1],.tup [.str "step", fr 59 1,fr 60 1,fr 999999998 999999999,fr 119 2],.tup [.str "calm", fr 1 1,fr 1 999999999,.int 0,.int 60,fr 60 1],.tup [.str "heed", fr 13 7,fr 1 60,fr 1 1,fr 60 1]]),some (.obj q),v7,v8,v9,v10,v11,v12]∧μ' q=some (.lst (sn.map ST'.toD))∧Box μ' b∧∀ a o,a≠b→μ a=some o→μ' a=some o) ?_ ?_ _ _ _ ⟨p.ss,[],_,_,_,_,_,_,rfl,P.s,(fun _ h=>nomatch h),by simp,rfl,aP,pW B1.box qb,fun a o ha h=>by
      have:μ1 a=some o:=by rw[B1.oth a ha];exact h
      rw[bN (fun z=>by subst z;rw[hq] at this;cases this)];exact this⟩
  · rintro ρ μ' ⟨rs,sn,v7,v8,v9,v10,v11,v12,er,_,hs,hl,rfl,eq,hB',kp⟩
    cases rs with
    | cons _ _=>cases er
    | nil=>
    walk_at "go"
    refine cX eq ?_
    refine uE hB' kp fun μ2 B2=>k ⟨60,ws,sn⟩ μ2 ⟨⟨(show (0:Int)≤60 by decide),(show (60:Int) < 10000000000 by decide)⟩,hw,hs,by show ws.length≤8;omega,by show sn.length≤8;simp at hl;omega⟩ B2
  · rintro d r ρ μ' N ⟨rs,sn,v7,v8,v9,v10,v11,v12,er,hr,hs,hl,rfl,eq,hB',kp⟩ hN
    cases rs with
    | nil=>cases er
    | cons s rs=>
    cases er
    rw[List.length_cons] at hl
    have S:=hr s List.mem_cons_self
    unfold ST'.toD
    walk_at "go"
    refine ⟨⟨by decide,by decide,by decide⟩,?_⟩
    refine tk hB' (by decide) (by decide) fun c μ2 c0 c1 B2=>?_
    have al3:∀ d∈([.non,.int 1000000,.int 0]:List D),MkD d:=ar ki (ar (fR (by decide) (by decide)) (ar (fR (by decide) (by decide)) aV))
    obtain ⟨_,e3,m,rfl,hm⟩:=bA al3 c0 c1
    walk_at "go"
    refine cp e3 ?_
    walk_at "go"
    refine cX (by rw[B2.oth q qb];exact eq) ?_
    walk_at "go"
    refine ⟨⟨by decide,by decide,by decide⟩,?_⟩
    refine tk B2.box (by decide) (by decide) fun c4 μ3 c40 c41 B3=>?_
    obtain ⟨_,e4,wd,ps,rfl,Tw,hp,pl⟩:=bA RuD c40 c41
    walk_at "go"
    refine cp e4 ?_
    refine cX (by rw[B3.oth q qb,B2.oth q qb];exact eq) ⟨by rw[List.length_map];omega,hN _ _ ⟨rs,sn++[⟨s.nm,s.rd,8,1000000,m,wd,ps⟩],_,_,_,_,_,_,rfl,(fun y q=>hr y (List.mem_cons_of_mem _ q)),fun y hy=>?_,by simp;omega,rfl,by rw[aP,List.map_append];rfl,pW B3.box qb,fun a o ha h=>?_⟩⟩
    · rcases List.mem_append.mp hy with z | z
      · exact hs y z
      · rw[List.mem_singleton.mp z]
        exact ⟨S.n,S.r,S.rl,⟨(show (0:Int)≤8 by decide),(show (8:Int) < 10000000000 by decide)⟩,⟨(show (0:Int)≤1000000 by decide),(show (1000000:Int) < 10000000000 by decide)⟩,hm,Tw,hp,pl⟩
    · have h2:=kp a o ha h
      by_cases z:a=q
      · subst z
        have:μ1 a=some o:=by rw[B1.oth a ha];exact h
        rw[hq] at this;cases this
      · rw[bN z,B3.oth a ha,B2.oth a ha];exact h2
def aS:FSp:=fun ds μ Q=>match ds with
  | [d]=>∃ p:PT,(d=p.toD∧p.Ok)∧Q (.bl true) μ
  | _=>False
theorem fE:∀ ds μ Q,aS ds μ Q→ds.length=1:=by
  unfold aS
  walk_at "ln"
def eg:STr:=aH (aR (f6 (TC (.str "\n")) (av bx (ae (ah 0) (au)))) (aw 1)) (aH (i9 (cn (TC (.int 2))) (aw 2) (aH (aR (av bz (ae (ah 0) (au))) (aw 3)) (cP (TOr (lT (TB (TUn (fF "str") (ah 3)))) (TB (aq rNe (ah 3) (ah 1)))) (br (TC (.bl false))) (bL)))) (br (TC (.bl true))))
theorem gE:∀ ds μ Q,aS ds μ Q→eg { nx:=fun _ μ'=>RT Q .non μ',rt:=RT Q } (ini 4 ds) μ:=by
  intro ds μ Q h
  unfold aS at h
  split at h
  case h_2=>exact h.elim
  rename_i d
  walk_at "ini"
  unfold eg
  walk_at "go"
  obtain ⟨p,⟨rfl,P⟩,k⟩:=h
  refine ⟨p,⟨rfl,P⟩,?_⟩
  walk_at "go"
  refine ⟨p.rows,strs_map _,PyProof.Rows.joinOk_of P.tot,?_⟩
  rw[dh]
  walk_at "go"
  refine b7 (fun r ρ μ'=>∃ (v2 v3:Option D),ρ=[some p.toD,some (.str p.text),v2,v3]∧μ'=μ) ?_ ?_ _ _ _ ⟨_,_,rfl,rfl⟩
  · rintro ρ μ' ⟨v2,v3,rfl,rfl⟩
    walk_at "go"
    exact ⟨_,.refl _,k⟩
  · rintro d r ρ μ' N ⟨v2,v3,rfl,rfl⟩ hN
    walk_at "go"
    refine ⟨p,⟨rfl,P⟩,?_⟩
    walk_at "go"
    exact ⟨P.txt,hN _ _ ⟨_,_,rfl,rfl⟩⟩
abbrev bS:FSp:=L3.bS
theorem kU:∀ ds μ Q,bS ds μ Q→ds.length=1:=L3.kU
def qN:STr:=aH (i9 (cn (aq aG (TC (.int 1)) (av g7 (ae (TSl (ah 0) (ONo) (lq (TC (.int 20)))) (au))))) (aw 1) (aH (aR (av bJ (ae (ah 0) (ae (ah 1) (au)))) (aw 2)) (aH (aR (av bw (ae (ah 2) (ae (TC (.int 60)) (ae (TC (.int 8)) (au))))) (aw 3)) (cP (TOr (lT (TB (av aS (ae (ah 3) (au))))) (lT (TB (av aS (ae (av aZ (ae (ah 2) (ae (ah 3) (au)))) (au)))))) (br (TC (.bl false))) (bL))))) (br (TC (.bl true)))
theorem xO:∀ ds μ Q,bS ds μ Q→qN { nx:=fun _ μ'=>RT Q .non μ',rt:=RT Q } (ini 4 ds) μ:=by
  intro ds μ Q h
  unfold bS L3.bS at h
  split at h
  case h_2=>exact h.elim
  obtain ⟨⟨ns,rfl,hn⟩,k⟩:=h
  walk_at "ini"
  unfold qN
  walk_at "go"
  have ec:(cutD (ns.map D.int) none (some 20)).length≤20:=by
    rw[show cutD (ns.map D.int) none (some 20)=(ns.map D.int).take 20 from uY (ns.map D.int) 20,List.length_take]
    exact Nat.min_le_left _ _
  refine ⟨⟨by omega,by omega⟩,?_⟩
  refine b7 (fun r ρ μ'=>∃ (v1 v2 v3:Option D),ρ=[some (.ls (ns.map .int)),v1,v2,v3]∧∀ d∈r,IsI 0 20 d) ?_ ?_ _ _ _ ⟨_,_,_,rfl,fun d hd=>by obtain ⟨j,rfl,j0,j1⟩:=g8 hd;exact ⟨j,rfl,j0,by omega⟩⟩
  · rintro ρ μ' ⟨v1,v2,v3,rfl,_⟩
    walk_at "go"
    exact ⟨_,.refl _,k _⟩
  · rintro d r ρ μ' N ⟨v1,v2,v3,rfl,hI⟩ hN
    obtain ⟨i,rfl,i0,i1⟩:=hI _ List.mem_cons_self
    have hI':=fun d hd=>hI d (List.mem_cons_of_mem _ hd)
    walk_at "go"
    refine ⟨⟨ns,rfl,i0,by omega⟩,fun b μ1 hb hB oth=>?_⟩
    walk_at "go"
    refine ⟨⟨hB,⟨by decide,by decide⟩,by decide,by decide⟩,fun p μ2 P B2=>?_⟩
    walk_at "go"
    refine ⟨p,⟨rfl,P⟩,?_⟩
    walk_at "go"
    refine ⟨p,⟨B2.box,rfl,P⟩,fun p' μ3 P' B3=>?_⟩
    refine ⟨p',⟨rfl,P'⟩,?_⟩
    walk_at "go"
    exact hN _ _ ⟨_,_,_,rfl,hI'⟩
theorem fB (ns:List Int)(h:ns.length≤63)(μ:Mu):bS [.ls (ns.map .int)] μ (fun d _=>d=.bl true):=L3.fB ns h μ
end Kk
namespace Kk
open PySem L2 L3
theorem AO {α:Type}{us:List α}(h:us.length=1):∃ x0,us=[x0]:=match us,h with | [x0],_=>⟨x0,rfl⟩
theorem AJ {α:Type}{us:List α}(h:us.length=2):∃ x0 x1,us=[x0,x1]:=match us,h with | [x0,x1],_=>⟨x0,x1,rfl⟩
theorem AQ {α:Type}{us:List α}(h:us.length=3):∃ x0 x1 x2,us=[x0,x1,x2]:=match us,h with | [x0,x1,x2],_=>⟨x0,x1,x2,rfl⟩
theorem zT {α:Type}{us:List α}(h:us.length=4):∃ x0 x1 x2 x3,us=[x0,x1,x2,x3]:=match us,h with | [x0,x1,x2,x3],_=>⟨x0,x1,x2,x3,rfl⟩
def top (i:Nat):Stmt:=PySem.Challenge.pw_swellways_k75_plans_written.main.body.getD i (.Pass ⟨0,0,0,0⟩)
abbrev dJ:Stmt:=top 7
abbrev gc:Stmt:=top 8
abbrev dA:Stmt:=top 9
abbrev eB:Stmt:=top 10
abbrev ck:Stmt:=top 11
abbrev iu:Stmt:=top 13
abbrev gy:Stmt:=top 14
abbrev fw:Stmt:=top 15
abbrev gi:Stmt:=top 16
abbrev dM:Stmt:=top 17
abbrev gj:Stmt:=top 18
abbrev iO:Stmt:=top 19
abbrev cL:Stmt:=top 20
abbrev cu:Stmt:=top 21
abbrev eG:Stmt:=top 22
abbrev dU:Stmt:=top 23
abbrev b5:Stmt:=top 24
abbrev dY:Stmt:=top 25
abbrev wL:Stmt:=top 26
set_option genInjectivity false in
set_option genSizeOfSpec false in
structure Adr where
  dG:Addr
  gD:FuncData
  gw:Addr
  mj:FuncData
  fy:Addr
  kq:FuncData
  eE:Addr
  jE:FuncData
  gm:Addr
  ml:FuncData
  i7:Addr
  oC:FuncData
  f9:Addr
  mX:FuncData
  fe:Addr
  kl:FuncData
  gb:Addr
  mW:FuncData
  dH:Addr
  gL:FuncData
  gu:Addr
  me:FuncData
  hC:Addr
  ou:FuncData
  eF:Addr
  jP:FuncData
  fY:Addr
  mH:FuncData
  eJ:Addr
  jk:FuncData
  gs:Addr
  mL:FuncData
  d9:Addr
  ip:FuncData
  dW:Addr
  iR:FuncData
  sE:Addr
  wO:FuncData
structure Txt (Pm:Params) (K:PySem.W.Frag) (mg:Str→Option Value) (t:Adr):Prop where
  gK:mg "show_fraction" = some (.ref t.dG)
  gC:Fun K "show_fraction" "show_fraction" dJ t.dG t.gD
  m9:mg "show_part" = some (.ref t.gw)
  l4:Fun K "show_part" "show_part" gc t.gw t.mj
  kH:mg "show_parts" = some (.ref t.fy)
  kD:Fun K "show_parts" "show_parts" dA t.fy t.kq
  jM:mg "show_sender" = some (.ref t.eE)
  jJ:Fun K "show_sender" "show_sender" eB t.eE t.jE
  lU:mg "show_plan" = some (.ref t.gm)
  ma:Fun K "show_plan" "show_plan" ck t.gm t.ml
  oq:mg "_law_box" = some (.ref t.i7)
  oW:Fun K "_law_box" "_law_box" iu t.i7 t.oC
  mh:mg "_law_take" = some (.ref t.f9)
  lX:Fun K "_law_take" "_law_take" gy t.f9 t.mX
  kf:mg "_law_names" = some (.ref t.fe)
  k8:Fun K "_law_names" "_law_names" fw t.fe t.kl
  mr:mg "_law_part" = some (.ref t.gb)
  m4:Fun K "_law_part" "_law_part" gi t.gb t.mW
  gS:mg "_law_fraction" = some (.ref t.dH)
  gR:Fun K "_law_fraction" "_law_fraction" dM t.dH t.gL
  l5:mg "_law_rule" = some (.ref t.gu)
  mv:Fun K "_law_rule" "_law_rule" gj t.gu t.me
  oz:mg "_law_way" = some (.ref t.hC)
  oI:Fun K "_law_way" "_law_way" iO t.hC t.ou
  jy:mg "_law_sender" = some (.ref t.eF)
  jB:Fun K "_law_sender" "_law_sender" cL t.eF t.jP
  mN:mg "_law_plan" = some (.ref t.fY)
  mJ:Fun K "_law_plan" "_law_plan" cu t.fY t.mH
  jv:mg "_law_figure" = some (.ref t.eJ)
  jx:Fun K "_law_figure" "_law_figure" eG t.eJ t.jk
  lS:mg "_law_rows" = some (.ref t.gs)
  nc:Fun K "_law_rows" "_law_rows" dU t.gs t.mL
  ix:mg "_law_greater" = some (.ref t.d9)
  iF:Fun K "_law_greater" "_law_greater" b5 t.d9 t.ip
  ib:mg "_law_written" = some (.ref t.dW)
  iy:Fun K "_law_written" "_law_written" dY t.dW t.iR
  Aa:mg "law" = some (.ref t.sE)
  pG:Fun K "law" "law" wL t.sE t.wO
  qY:mg "abs" = none
  wM:mg "int" = none
  du:mg "isinstance" = none
  rA:mg "len" = none
  ko:mg "range" = none
  tQ:mg "sorted" = none
  cV:mg "str" = none
  eo:mg "tuple" = none
  xU:GV K mg "GRID" (.int 0)
  yu:GV K mg "NAME" (.int 0)
  qX:GV K mg "ROAD" (.int 1)
  rO:GV K mg "RULE" (.int 5)
  qc:GV K mg "SENDERS" (.int 2)
  yO:GV K mg "WAYS" (.int 1)
local macro_rules | `(tactic| walk_at "sc")=>`(tactic| exact ⟨rfl,rfl,rfl,by decide +kernel,rfl,by decide +kernel,by decide +kernel⟩)
local macro_rules | `(tactic| walk_at "b1")=>`(tactic| (rename_i hl;obtain ⟨x0,e⟩:=AO hl;subst e;rfl))
local macro_rules | `(tactic| walk_at "b2")=>`(tactic| (rename_i hl;obtain ⟨x0,x1,e⟩:=AJ hl;subst e;rfl))
local macro_rules | `(tactic| walk_at "b3")=>`(tactic| (rename_i hl;obtain ⟨x0,x1,x2,e⟩:=AQ hl;subst e;rfl))
local macro_rules | `(tactic| walk_at "b4")=>`(tactic| (rename_i hl;obtain ⟨x0,x1,x2,x3,e⟩:=zT hl;subst e;rfl))
section
variable {P:Program} {w:World} {K:PySem.W.Frag} {mg:Str→Option Value} {base:Heap} {t:Adr}
theorem bO:aM ["one", "top", "bottom"] ["one"] (ax dJ):=by walk_at "sc"
theorem gN (T:Txt w.params K mg t):bb P w K mg base 1 "show_fraction" ["one"] aW:=aY T.gK T.gC bO fm fP (fun _ _ _ _ _ _ _ _=>by walk_at "b1") fun _ _ _ _ _ _ hr hu=>
  aj (aB 1 bO.nd (aF (af 0) (le_int))) (aj (aB 2 bO.nd (aF (af 0) (le_int))) (ay (aO (sO (lt_eq hu (af 2) (le_int)) (yY (af 1)) (xq (af 1) (le_str) (af 2))))))
theorem lH:aM ["part"] ["part"] (ax gc):=by walk_at "sc"
theorem mM (T:Txt w.params K mg t):bb P w K mg base 2 "show_part" ["part"] bu:=aY T.m9 T.l4 lH jS kX (fun _ _ _ _ _ _ _ _=>by walk_at "b1") fun _ _ _ _ _ _ hr hu=>
  aj (b3 (z8 (af 0) (eP)) (ay (aO (le_str))) (bo)) (ay (aO (sO (iL (nu rfl T.du rfl (af 0) rfl T.eo rfl)) (ak (gN T) hr rfl (aa (af 0) (ag))) (aJ aT bh rfl T.cV rfl (aa (af 0) (ag))))))
theorem jN:aM ["parts"] ["parts"] (ax dA):=by walk_at "sc"
theorem dE (T:Txt w.params K mg t):bb P w K mg base 3 "show_parts" ["parts"] aK:=aY T.kH T.kD jN g6 jT (fun _ _ _ _ _ _ _ _=>by walk_at "b1") fun _ _ _ _ _ _ hr hu=>
  ay (aO (eT (le_str) (bT (fsc:=ax dA) ["parts"] ["part"] 1 [] rfl rfl (b4 (af 0)) (fun cl C s₀ H₀ ex=>⟨bV 0 (show (["part"]:List Str).Nodup from by decide +kernel),dq,ak (mM T) hr rfl (aa (af 0) (ag))⟩) rfl rfl (by decide +kernel))))
theorem iV:aM ["sender"] ["sender"] (ax eB):=by walk_at "sc"
theorem jO (T:Txt w.params K mg t):bb P w K mg base 4 "show_sender" ["sender"] ba:=aY T.jM T.jJ iV gG ir (fun _ _ _ _ _ _ _ _=>by walk_at "b1") fun _ _ _ _ _ _ hr hu=>
  ay (aO (ak (dE T) hr rfl (aa (aA (aA (aE (aa (le_str) (aa (aF (af 0) (gn rfl T.yu)) (aa (mi (le_str) (aF (af 0) (gn rfl T.qX))) (ag))))) (rq (af 0) (kG (aA (gn rfl T.qX) (le_int))) (kG (gn rfl T.rO)))) (aF (af 0) (gn rfl T.rO))) (ag))))
theorem ff:aM ["plan", "rows"] ["plan"] (ax ck):=by walk_at "sc"
theorem ng (T:Txt w.params K mg t):bb P w K mg base 5 "show_plan" ["plan"] bz:=aY T.lU T.ma ff jV lI (fun _ _ _ _ _ _ _ _=>by walk_at "b1") fun _ _ _ _ _ _ hr hu=>
  aj (aB 1 ff.nd (eN (aa (ak (dE T) hr rfl (aa (aE (aa (le_str) (aa (aF (af 0) (gn rfl T.xU)) (ag)))) (ag))) (ag)))) (aj (cv (pD (af 1) (bT (fsc:=ax ck) ["plan", "rows"] ["way"] 1 [] rfl rfl (b4 (aF (af 0) (gn rfl T.yO))) (fun cl C s₀ H₀ ex=>⟨bV 0 (show (["way"]:List Str).Nodup from by decide +kernel),dq,ak (dE T) hr rfl (aa (aA (aE (aa (le_str) (ag))) (af 0)) (ag))⟩) rfl rfl (by decide +kernel)))) (aj (cv (pD (af 1) (bT (fsc:=ax ck) ["plan", "rows"] ["sender"] 1 [] rfl rfl (b4 (aF (af 0) (gn rfl T.qc))) (fun cl C s₀ H₀ ex=>⟨bV 0 (show (["sender"]:List Str).Nodup from by decide +kernel),dq,ak (jO T) hr rfl (aa (af 0) (ag))⟩) rfl rfl (by decide +kernel)))) (ay (aO (eT (le_str) (iA (af 1)))))))
theorem ef:aM ["_law_script", "_law_k", "_law_cell"] ["_law_script", "_law_k"] (ax iu):=by walk_at "sc"
theorem nG (T:Txt w.params K mg t):bb P w K mg base 1 "_law_box" ["_law_script", "_law_k"] bJ:=aY T.oq T.oW ef kP md (fun _ _ _ _ _ _ _ _=>by walk_at "b2") fun _ _ _ _ _ _ hr hu=>
  aj (aB 2 ef.nd (le_int)) (aj (b3 (Ag (af 1) (cY fJ lO rfl T.rA rfl (aa (af 0) (ag)))) (ay (aB 2 ef.nd (aF (af 0) (af 1)))) (bo)) (ay (aO (eN (aa (le_mul (cb (cY hE lA rfl T.qY rfl (aa (af 2) (ag))) (le_pow (le_int) (le_int))) (aJ qx vc rfl T.wM rfl (aa (Al (cY hE lA rfl T.qY rfl (aa (af 2) (ag))) (le_pow (le_int) (le_int))) (ag)))) (aa (cb (aA (aA (af 2) (le_mul (le_mul (le_int) (af 1)) (af 1))) (le_mul (le_int) (af 1))) (le_int)) (aa (le_int) (ag))))))))
theorem dC:aM ["_law_box_here", "_law_many", "_law_told", "_law_once"] ["_law_box_here", "_law_many"] (ax gy):=by walk_at "sc"
theorem ao (T:Txt w.params K mg t):bb P w K mg base 1 "_law_take" ["_law_box_here", "_law_many"] ai:=aY T.mh T.lX dC jU ll (fun _ _ _ _ _ _ _ _=>by walk_at "b2") fun _ _ _ _ _ _ hr hu=>
  aj (b3 (tX (aF (af 0) (le_int)) (le_int)) (aj (aB 2 dC.nd (cb (aF (af 0) (le_int)) (af 1))) (aj (dS (af 0) (le_int) (de (aF (af 0) (le_int)) (af 1))) (ay (aO (af 2))))) (bo)) (aj (dS (af 0) (le_int) (aA (aF (af 0) (le_int)) (le_int))) (aj (aB 3 dC.nd (cb (aA (aA (le_mul (aF (af 0) (le_int)) (le_int)) (le_mul (le_int) (aF (af 0) (le_int)))) (le_int)) (le_int))) (aj (dS (af 0) (le_int) (cb (aA (le_mul (af 3) (af 3)) (aF (af 0) (le_int))) (le_int))) (ay (aO (cb (de (aF (af 0) (le_int)) (le_int)) (af 1)))))))
theorem aN:aM ["_law_box_here", "_law_many", "_law_letters", "_law_size", "_law_at", "_law_first", "_law_way_here", "_law_found", "_law_k", "_law_sign", "_law_stem"] ["_law_box_here", "_law_many"] (ax fw):=by walk_at "sc"
theorem e8 (T:Txt w.params K mg t):bb P w K mg base 2 "_law_names" ["_law_box_here", "_law_many"] a8:=aY T.kf T.k8 aN hW jD (fun _ _ _ _ _ _ _ _=>by walk_at "b2") fun _ _ _ _ _ _ hr hu=>
  aj (aB 2 aN.nd (le_str)) (aj (aB 3 aN.nd (aA (le_int) (ak (ao T) hr rfl (aa (af 0) (aa (le_int) (ag)))))) (aj (aB 4 aN.nd (ak (ao T) hr rfl (aa (af 0) (aa (af 3) (ag))))) (aj (aB 5 aN.nd (ak (ao T) hr rfl (aa (af 0) (aa (le_int) (ag))))) (aj (aB 6 aN.nd (ak (ao T) hr rfl (aa (af 0) (aa (le_int) (ag))))) (aj (aB 7 aN.nd (eN (ag))) (aj (fC PassesOwn.never rfl (fM rfl T.ko (af 1)) (kF 8 aN.nd) (aj (aB 9 aN.nd (oB (af 2) (cb (aA (af 5) (le_mul (le_int) (af 8))) (le_int)))) (ay (b3 (lt_eq hu (af 6) (le_int)) (aj (aB 10 aN.nd (oB (af 2) (af 4))) (ay (cv (le_app (af 7) (aA (aA (gU (af 10) (af 4)) (af 9)) (gU (af 10) (oi (oi (af 3) (le_int)) (af 4)))))))) (ay (b3 (lt_eq hu (af 6) (le_int)) (ay (cv (le_app (af 7) (gU (af 9) (aA (le_int) (cb (aA (af 5) (le_mul (le_int) (af 8))) (le_int))))))) (ay (cv (le_app (af 7) (gU (oB (af 2) (af 5)) (aA (le_int) (af 8)))))))))))) (ay (aO (iA (af 7))))))))))
theorem dg:aM ["_law_top", "_law_bottom", "_law_one", "_law_other"] ["_law_top", "_law_bottom"] (ax gi):=by walk_at "sc"
theorem dZ (T:Txt w.params K mg t):bb P w K mg base 1 "_law_part" ["_law_top", "_law_bottom"] a5:=aY T.mr T.m4 dg jz kQ (fun _ _ _ _ _ _ _ _=>by walk_at "b2") fun _ _ _ _ _ _ hr hu=>
  aj (tJ 2 3 rfl dg.nd (aa (cY hE lA rfl T.qY rfl (aa (af 0) (ag))) (aa (af 1) (ag)))) (aj (sS PassesOwn.never (tX (af 3) (le_int)) (ay (tJ 2 3 rfl dg.nd (aa (af 3) (aa (cb (af 2) (af 3)) (ag)))))) (ay (aO (aE (aa (de (af 0) (af 2)) (aa (de (af 1) (af 2)) (ag)))))))
theorem cR:aM ["_law_box_here", "_law_low", "_law_high", "_law_bottom"] ["_law_box_here", "_law_low", "_law_high"] (ax dM):=by walk_at "sc"
theorem dI (T:Txt w.params K mg t):bb P w K mg base 2 "_law_fraction" ["_law_box_here", "_law_low", "_law_high"] aQ:=aY T.gS T.gR cR fc fN (fun _ _ _ _ _ _ _ _=>by walk_at "b3") fun _ _ _ _ _ _ hr hu=>
  aj (aB 3 cR.nd (aF (bB (aa (le_int) (aa (le_int) (aa (le_int) (aa (le_int) (aa (le_int) (aa (le_int) (ag)))))))) (ak (ao T) hr rfl (aa (af 0) (aa (le_int) (ag)))))) (ay (aO (ak (dZ T) hr rfl (aa (aA (le_mul (af 1) (af 3)) (ak (ao T) hr rfl (aa (af 0) (aa (aA (le_mul (oi (af 2) (af 1)) (af 3)) (le_int)) (ag))))) (aa (af 3) (ag))))))
theorem bf:aM ["_law_box_here", "_law_most", "_law_word", "_law_top", "_law_w", "_law_up", "_law_down", "_law_low"] ["_law_box_here", "_law_most"] (ax gj):=by walk_at "sc"
theorem mE (T:Txt w.params K mg t):bb P w K mg base 3 "_law_rule" ["_law_box_here", "_law_most"] bq:=aY T.l5 T.mv bf jl kC (fun _ _ _ _ _ _ _ _=>by walk_at "b2") fun _ _ _ _ _ _ hr hu=>
  aj (aB 2 bf.nd (aF (bB (aa (le_str) (aa (le_str) (aa (le_str) (aa (le_str) (aa (le_str) (ag))))))) (ak (ao T) hr rfl (aa (af 0) (aa (le_int) (ag)))))) (aj (aB 3 bf.nd (ak (dI T) hr rfl (aa (af 0) (aa (le_int) (aa (af 1) (ag)))))) (aj (aB 4 bf.nd (ak (dI T) hr rfl (aa (af 0) (aa (le_int) (aa (de (aF (af 3) (le_int)) (aF (af 3) (le_int))) (ag)))))) (aj (b3 (lt_eq hu (af 2) (le_str)) (ay (aO (aE (aa (af 2) (aa (af 4) (ag)))))) (bo)) (aj (aB 5 bf.nd (ak (dZ T) hr rfl (aa (aA (le_int) (ak (ao T) hr rfl (aa (af 0) (aa (le_int) (ag))))) (aa (aA (le_int) (ak (ao T) hr rfl (aa (af 0) (aa (le_int) (ag))))) (ag))))) (aj (aB 6 bf.nd (aF (bB (aa (aE (aa (le_int) (aa (le_int) (ag)))) (aa (aE (aa (le_int) (aa (le_int) (ag)))) (aa (aE (aa (le_int) (aa (le_int) (ag)))) (aa (aE (aa (le_int) (aa (le_int) (ag)))) (ag)))))) (ak (ao T) hr rfl (aa (af 0) (aa (le_int) (ag)))))) (aj (b3 (lt_eq hu (af 2) (le_str)) (ay (aO (aE (aa (af 2) (aa (af 4) (aa (ak (dZ T) hr rfl (aa (aA (aF (af 5) (le_int)) (aF (af 5) (le_int))) (aa (aF (af 5) (le_int)) (ag)))) (aa (af 6) (aa (af 3) (ag))))))))) (bo)) (aj (b3 (lt_eq hu (af 2) (le_str)) (ay (aO (aE (aa (af 2) (aa (af 4) (aa (af 5) (aa (aF (bB (aa (af 6) (aa (aE (aa (le_int) (aa (le_int) (ag)))) (aa (aE (aa (le_int) (aa (le_int) (ag)))) (ag))))) (ak (ao T) hr rfl (aa (af 0) (aa (le_int) (ag))))) (aa (af 3) (ag))))))))) (bo)) (aj (b3 (lt_eq hu (af 2) (le_str)) (aj (aB 7 bf.nd (ak (ao T) hr rfl (aa (af 0) (aa (le_int) (ag))))) (ay (aO (aE (aa (af 2) (aa (af 4) (aa (af 5) (aa (af 7) (aa (aA (af 7) (ak (ao T) hr rfl (aa (af 0) (aa (le_int) (ag))))) (aa (af 3) (ag))))))))))) (bo)) (ay (aO (aE (aa (af 2) (aa (af 4) (aa (af 5) (aa (af 6) (aa (af 3) (ag)))))))))))))))))
theorem cw:aM ["_law_box_here", "_law_name", "_law_pace", "_law_room", "_law_mark"] ["_law_box_here", "_law_name"] (ax iO):=by walk_at "sc"
theorem nY (T:Txt w.params K mg t):bb P w K mg base 2 "_law_way" ["_law_box_here", "_law_name"] bI:=aY T.oz T.oI cw lQ mC (fun _ _ _ _ _ _ _ _=>by walk_at "b2") fun _ _ _ _ _ _ hr hu=>
  aj (aB 2 cw.nd (aF (bB (aa (aA (le_int) (ak (ao T) hr rfl (aa (af 0) (aa (le_int) (ag))))) (aa (aA (le_int) (ak (ao T) hr rfl (aa (af 0) (aa (le_int) (ag))))) (ag)))) (de (ak (ao T) hr rfl (aa (af 0) (aa (le_int) (ag)))) (le_int)))) (aj (aB 3 cw.nd (aF (bB (aa (aA (le_int) (ak (ao T) hr rfl (aa (af 0) (aa (le_int) (ag))))) (aa (aA (le_int) (ak (ao T) hr rfl (aa (af 0) (aa (le_int) (ag))))) (ag)))) (de (ak (ao T) hr rfl (aa (af 0) (aa (le_int) (ag)))) (le_int)))) (aj (aB 4 cw.nd (aF (bB (aa (eP) (aa (cb (ak (ao T) hr rfl (aa (af 0) (aa (aA (af 3) (le_int)) (ag)))) (le_int)) (aa (le_int) (ag))))) (cb (ak (ao T) hr rfl (aa (af 0) (aa (le_int) (ag)))) (le_int)))) (ay (aO (aE (aa (af 1) (aa (af 2) (aa (af 3) (aa (af 4) (aa (aF (bB (aa (le_str) (aa (le_str) (ag)))) (ak (ao T) hr rfl (aa (af 0) (aa (le_int) (ag))))) (ag)))))))))))
theorem bp:aM ["_law_box_here", "_law_name", "_law_ways", "_law_most", "_law_road", "_law_beat", "_law_many"] ["_law_box_here", "_law_name", "_law_ways", "_law_most"] (ax cL):=by walk_at "sc"
theorem jn (T:Txt w.params K mg t):bb P w K mg base 4 "_law_sender" ["_law_box_here", "_law_name", "_law_ways", "_law_most"] a9:=aY T.jy T.jB bp gJ iJ (fun _ _ _ _ _ _ _ _=>by walk_at "b4") fun _ _ _ _ _ _ hr hu=>
  aj (aB 4 bp.nd (aJ bC cU rfl T.eo rfl (aa (bT (fsc:=ax cL) ["_law_box_here", "_law_name", "_law_ways", "_law_most", "_law_road", "_law_beat", "_law_many"] ["_law_way_here", "_law_box_here"] 1 [0] rfl rfl (b4 (af 2)) (fun cl C s₀ H₀ ex=>⟨bV 0 (show (["_law_way_here", "_law_box_here"]:List Str).Nodup from by decide +kernel),vx (tX (ak (ao T) hr rfl (aa (af 1) (aa (le_int) (ag)))) (le_int)),aF (af 0) (le_int)⟩) rfl rfl (by decide +kernel)) (ag)))) (aj (b3 (lt_eq hu (af 4) (aE (ag))) (ay (aB 4 bp.nd (aE (aa (aF (aF (af 2) (ak (ao T) hr rfl (aa (af 0) (aa (cY fJ lO rfl T.rA rfl (aa (af 2) (ag))) (ag))))) (le_int)) (ag))))) (bo)) (aj (aB 5 bp.nd (aF (bB (aa (aA (le_int) (ak (ao T) hr rfl (aa (af 0) (aa (le_int) (ag))))) (aa (aA (le_int) (ak (ao T) hr rfl (aa (af 0) (aa (le_int) (ag))))) (ag)))) (de (ak (ao T) hr rfl (aa (af 0) (aa (le_int) (ag)))) (le_int)))) (aj (aB 6 bp.nd (aF (bB (aa (eP) (aa (ak (ao T) hr rfl (aa (af 0) (aa (le_int) (ag)))) (ag)))) (ak (ao T) hr rfl (aa (af 0) (aa (le_int) (ag)))))) (ay (aO (aE (aa (af 1) (aa (af 4) (aa (af 5) (aa (ak (ao T) hr rfl (aa (af 0) (aa (le_int) (ag)))) (aa (af 6) (aa (ak (mE T) hr rfl (aa (af 0) (aa (af 3) (ag)))) (ag)))))))))))))
theorem bK:aM ["_law_box_here", "_law_most", "_law_senders", "_law_grid", "_law_many", "_law_ways", "_law_names_here"] ["_law_box_here", "_law_most", "_law_senders"] (ax cu):=by walk_at "sc"
theorem mq (T:Txt w.params K mg t):bb P w K mg base 5 "_law_plan" ["_law_box_here", "_law_most", "_law_senders"] bw:=aY T.mN T.mJ bK jr lP (fun _ _ _ _ _ _ _ _=>by walk_at "b3") fun _ _ _ _ _ _ hr hu=>
  aj (aB 3 bK.nd (aF (bB (aa (le_int) (aa (le_int) (aa (le_int) (aa (aA (le_int) (ak (ao T) hr rfl (aa (af 0) (aa (le_int) (ag))))) (ag)))))) (ak (ao T) hr rfl (aa (af 0) (aa (le_int) (ag)))))) (aj (aB 4 bK.nd (aF (bB (aa (aA (le_int) (ak (ao T) hr rfl (aa (af 0) (aa (le_int) (ag))))) (aa (aA (le_int) (ak (ao T) hr rfl (aa (af 0) (aa (le_int) (ag))))) (ag)))) (de (ak (ao T) hr rfl (aa (af 0) (aa (le_int) (ag)))) (le_int)))) (aj (aB 5 bK.nd (aJ bC cU rfl T.eo rfl (aa (bT (fsc:=ax cu) ["_law_box_here", "_law_most", "_law_senders", "_law_grid", "_law_many", "_law_ways", "_law_names_here"] ["_law_name", "_law_box_here"] 1 [0] rfl rfl (b4 (ak (e8 T) hr rfl (aa (af 0) (aa (af 4) (ag))))) (fun cl C s₀ H₀ ex=>⟨bV 0 (show (["_law_name", "_law_box_here"]:List Str).Nodup from by decide +kernel),dq,ak (nY T) hr rfl (aa (af 1) (aa (af 0) (ag)))⟩) rfl rfl (by decide +kernel)) (ag)))) (aj (aB 6 bK.nd (uf rfl T.tQ rfl (aa (ak (e8 T) hr rfl (aa (af 0) (aa (ak (ao T) hr rfl (aa (af 0) (aa (aA (af 2) (le_int)) (ag)))) (ag)))) (ag)))) (ay (aO (aE (aa (af 3) (aa (af 5) (aa (aJ bC cU rfl T.eo rfl (aa (bT (fsc:=ax cu) ["_law_box_here", "_law_most", "_law_senders", "_law_grid", "_law_many", "_law_ways", "_law_names_here"] ["_law_name", "_law_box_here", "_law_ways", "_law_most"] 1 [0,5,1] rfl rfl (b4 (af 6)) (fun cl C s₀ H₀ ex=>⟨bV 0 (show (["_law_name", "_law_box_here", "_law_ways", "_law_most"]:List Str).Nodup from by decide +kernel),dq,ak (jn T) hr rfl (aa (af 1) (aa (af 0) (aa (af 2) (aa (af 3) (ag)))))⟩) rfl rfl (by decide +kernel)) (ag))) (ag))))))))))
theorem iI:aM ["_law_one"] ["_law_one"] (ax eG):=by walk_at "sc"
theorem ji (T:Txt w.params K mg t):bb P w K mg base 1 "_law_figure" ["_law_one"] aX:=aY T.jv T.jx iI gI iQ (fun _ _ _ _ _ _ _ _=>by walk_at "b1") fun _ _ _ _ _ _ hr hu=>
  aj (b3 (iL (nu rfl T.du rfl (af 0) rfl T.wM rfl)) (ay (aO (aJ aT bh rfl T.cV rfl (aa (af 0) (ag))))) (bo)) (aj (b3 (lt_eq hu (aF (af 0) (le_int)) (le_int)) (ay (aO (aJ aT bh rfl T.cV rfl (aa (aF (af 0) (le_int)) (ag))))) (bo)) (ay (aO (aA (aA (aJ aT bh rfl T.cV rfl (aa (aF (af 0) (le_int)) (ag))) (le_str)) (aJ aT bh rfl T.cV rfl (aa (aF (af 0) (le_int)) (ag)))))))
theorem aD:aM ["_law_plan_here", "_law_rows_here", "_law_name", "_law_pace", "_law_room", "_law_mark", "_law_sort", "_law_words", "_law_road", "_law_beat", "_law_begin", "_law_many", "_law_rule_here"] ["_law_plan_here"] (ax dU):=by walk_at "sc"
theorem mf (T:Txt w.params K mg t):bb P w K mg base 2 "_law_rows" ["_law_plan_here"] bx:=aY T.lS T.nc aD jH lN (fun _ _ _ _ _ _ _ _=>by walk_at "b1") fun _ _ _ _ _ _ hr hu=>
  aj (aB 1 aD.nd (eN (aa (aA (le_str) (aJ aT bh rfl T.cV rfl (aa (aF (af 0) (le_int)) (ag)))) (ag)))) (aj (fC PassesOwn.never rfl (b4 (aF (af 0) (le_int))) (kx rfl (aL 2 aD.nd (aL 3 aD.nd (aL 4 aD.nd (aL 5 aD.nd (aL 6 aD.nd (gW))))))) (aj (aB 7 aD.nd (eN (aa (le_str) (aa (af 2) (aa (aJ aT bh rfl T.cV rfl (aa (af 3) (ag))) (aa (aJ aT bh rfl T.cV rfl (aa (af 4) (ag))) (aa (le_str) (aa (af 6) (ag))))))))) (aj (b3 (lZ (af 5) (eP)) (ay (dS (af 7) (le_int) (aJ aT bh rfl T.cV rfl (aa (af 5) (ag))))) (bo)) (ay (cv (le_app (af 1) (eT (le_str) (iA (af 7))))))))) (aj (fC PassesOwn.never rfl (b4 (aF (af 0) (le_int))) (kx rfl (aL 2 aD.nd (aL 8 aD.nd (aL 9 aD.nd (aL 10 aD.nd (aL 11 aD.nd (aL 12 aD.nd (gW)))))))) (aj (aB 7 aD.nd (eN (aa (le_str) (aa (af 2) (aa (mi (le_str) (af 8)) (aa (aJ aT bh rfl T.cV rfl (aa (af 9) (ag))) (aa (aJ aT bh rfl T.cV rfl (aa (af 10) (ag))) (aa (le_str) (aa (aF (af 12) (le_int)) (ag)))))))))) (aj (b3 (lZ (af 11) (eP)) (ay (dS (af 7) (le_int) (aJ aT bh rfl T.cV rfl (aa (af 11) (ag))))) (bo)) (ay (cv (le_app (af 1) (eT (le_str) (aA (iA (af 7)) (bT (fsc:=ax dU) ["_law_plan_here", "_law_rows_here", "_law_name", "_law_pace", "_law_room", "_law_mark", "_law_sort", "_law_words", "_law_road", "_law_beat", "_law_begin", "_law_many", "_law_rule_here"] ["_law_one"] 1 [] rfl rfl (b4 (rq (af 12) (kG (le_int)) (wA))) (fun cl C s₀ H₀ ex=>⟨bV 0 (show (["_law_one"]:List Str).Nodup from by decide +kernel),dq,ak (ji T) hr rfl (aa (af 0) (ag))⟩) rfl rfl (by decide +kernel)))))))))) (ay (aO (iA (af 1))))))
theorem az:aM ["_law_box_here", "_law_plan_here", "_law_grid", "_law_ways", "_law_senders", "_law_some", "_law_rows_here", "_law_name", "_law_road", "_law_beat", "_law_begin", "_law_many", "_law_rule_here"] ["_law_box_here", "_law_plan_here"] (ax b5):=by walk_at "sc"
theorem iW (T:Txt w.params K mg t):bb P w K mg base 2 "_law_greater" ["_law_box_here", "_law_plan_here"] aZ:=aY T.ix T.iF az fQ gQ (fun _ _ _ _ _ _ _ _=>by walk_at "b2") fun _ _ _ _ _ _ hr hu=>
  aj (zf (af 1) (kx rfl (aL 2 az.nd (aL 3 az.nd (aL 4 az.nd (gW)))))) (aj (aB 3 az.nd (aJ bC cU rfl T.eo rfl (aa (bT (fsc:=ax b5) ["_law_box_here", "_law_plan_here", "_law_grid", "_law_ways", "_law_senders", "_law_some", "_law_rows_here", "_law_name", "_law_road", "_law_beat", "_law_begin", "_law_many", "_law_rule_here"] ["_law_way_here", "_law_box_here"] 1 [0] rfl rfl (b4 (af 3)) (fun cl C s₀ H₀ ex=>⟨bV 0 (show (["_law_way_here", "_law_box_here"]:List Str).Nodup from by decide +kernel),dq,aE (aa (aF (af 0) (le_int)) (aa (le_int) (aa (le_int) (aa (aF (bB (aa (eP) (aa (le_int) (ag)))) (ak (ao T) hr rfl (aa (af 1) (aa (le_int) (ag))))) (aa (aF (af 0) (le_int)) (ag))))))⟩) rfl rfl (by decide +kernel)) (ag)))) (aj (aB 5 az.nd (bB (aa (aE (aa (le_str) (aa (aE (aa (le_int) (aa (le_int) (ag)))) (ag)))) (aa (aE (aa (le_str) (aa (aE (aa (le_int) (aa (le_int) (ag)))) (aa (aE (aa (le_int) (aa (le_int) (ag)))) (aa (aE (aa (le_int) (aa (le_int) (ag)))) (aa (aE (aa (le_int) (aa (le_int) (ag)))) (ag))))))) (ag))))) (aj (aB 5 az.nd (aA (af 5) (bB (aa (aE (aa (le_str) (aa (aE (aa (le_int) (aa (le_int) (ag)))) (aa (aE (aa (le_int) (aa (le_int) (ag)))) (aa (le_int) (aa (le_int) (aa (aE (aa (le_int) (aa (le_int) (ag)))) (ag)))))))) (aa (aE (aa (le_str) (aa (aE (aa (le_int) (aa (le_int) (ag)))) (aa (aE (aa (le_int) (aa (le_int) (ag)))) (aa (aE (aa (le_int) (aa (le_int) (ag)))) (aa (aE (aa (le_int) (aa (le_int) (ag)))) (ag))))))) (ag)))))) (aj (aB 6 az.nd (eN (ag))) (aj (fC PassesOwn.never rfl (b4 (af 4)) (kx rfl (aL 7 az.nd (aL 8 az.nd (aL 9 az.nd (aL 10 az.nd (aL 11 az.nd (aL 12 az.nd (gW)))))))) (aj (aB 11 az.nd (aF (bB (aa (eP) (aa (le_pow (le_int) (le_int)) (aa (le_int) (ag))))) (ak (ao T) hr rfl (aa (af 0) (aa (le_int) (ag)))))) (ay (cv (le_app (af 6) (aE (aa (af 7) (aa (af 8) (aa (le_int) (aa (le_pow (le_int) (le_int)) (aa (af 11) (aa (aF (af 5) (ak (ao T) hr rfl (aa (af 0) (aa (le_int) (ag))))) (ag))))))))))))) (ay (aO (aE (aa (le_int) (aa (af 3) (aa (aJ bC cU rfl T.eo rfl (aa (af 6) (ag))) (ag))))))))))))
theorem bF:aM ["_law_plan_here", "_law_due", "_law_turn", "_law_found"] ["_law_plan_here"] (ax dY):=by walk_at "sc"
theorem dR (T:Txt w.params K mg t):bb P w K mg base 6 "_law_written" ["_law_plan_here"] aS:=aY T.ib T.iy bF fE gE (fun _ _ _ _ _ _ _ _=>by walk_at "b1") fun _ _ _ _ _ _ hr hu=>
  aj (aB 1 bF.nd (eT (le_str) (ak (mf T) hr rfl (aa (af 0) (ag))))) (aj (fC PassesOwn.never rfl (fM rfl T.ko (le_int)) (kF 2 bF.nd) (aj (aB 3 bF.nd (ak (ng T) hr rfl (aa (af 0) (ag)))) (ay (b3 (LW.lt (wy (oP (iL (nu rfl T.du rfl (af 3) rfl T.cV rfl))) (rU (A7 hu (af 3) (af 1))))) (ay (aO (pf))) (bo))))) (ay (aO (pf))))
theorem k7:aM ["_law_script", "_law_k", "_law_box_here", "_law_plan_here"] ["_law_script"] (ax wL):=by walk_at "sc"
theorem pG (T:Txt w.params K mg t):eQ P w K mg base CX0 7 t.sE t.wO ["_law_script"] (lift K bS):=by
  refine wI (T:=qN) T.pG k7 kU (fun cdv A outer s H E hr=>?_) xO
  have hu:=hr.units
  exact aj (fC PassesOwn.never rfl (fM rfl T.ko (aA (le_int) (cY fJ lO rfl T.rA rfl (aa (rq (af 0) (wA) (kG (le_int))) (ag))))) (kF 1 k7.nd) (aj (aB 2 k7.nd (ak (nG T) hr rfl (aa (af 0) (aa (af 1) (ag))))) (aj (aB 3 k7.nd (ak (mq T) hr rfl (aa (af 2) (aa (le_int) (aa (le_int) (ag)))))) (ay (b3 (LW.lt (wy (oP (iL (ak (dR T) hr rfl (aa (af 3) (ag))))) (rU (oP (iL (ak (dR T) hr rfl (aa (ak (iW T) hr rfl (aa (af 2) (aa (af 3) (ag)))) (ag)))))))) (ay (aO (pf))) (bo)))))) (ay (aO (pf)))
end
theorem all_mk {l:PySem.W.OpenLaw}{w:World}{K:PySem.W.Frag}{mg:Str→Option Value}{fa:Addr}{t:Adr}(hfa:mg "law" = some (.ref fa))(T:Txt w.params K mg t):∃ fd:FuncData,(∀ (s:Shared) (v:Value),BindsTo s fd ⟨[v],[]⟩ [("_law_script", v)])∧∀ base:Heap,K.In base→base.Ns mainGlobals mg→eQ l.prog w K mg base CX0 7 fa fd ["_law_script"] (lift K bS):=by
  have e:=hfa.symm.trans T.Aa
  injection e with e
  injection e with e
  subst e
  obtain ⟨oc,od,kV,dc,pm,an,cd,ct,sl,ed,_,_⟩:=T.pG.ex
  exact ⟨_,fun s v=>.of_eq (by rw[ed];rfl),fun base _ _=>pG T⟩
end Kk
namespace PySem.W.Fast
def tw14179015766108033312:=0
def tw10574518872891214048:=0
def tw16947123374725292033:=0
def tw16958030522368249825:=0
def tw3691113825421764131:=0
def tw8378234619547460452:=0
def tw2139536050773248037:=0
def tw17201229398577223205:=0
def tw2373273239608995461:=0
def tw11902773583014187909:=0
def tw15124166358053638053:=0
def tw6383584860390310022:=0
def tw17348258627189902630:=0
def tw8216890228444498758:=0
def tw13470813888668790855:=0
def tw2865839221013708904:=0
def tw1370410264624304840:=0
def tw1127647948036541320:=0
def tw10085956362403001737:=0
def tw5234991621961688617:=0
def tw15610389546279282091:=0
def tw7637271605051434700:=0
def tw2025994906508854797:=0
def tw13209569977293609645:=0
def tw3322998136805155918:=0
def tw16704843205249722768:=0
def tw13525665255816372656:=0
def tw3297994615670477616:=0
def tw17026805798623188113:=0
def tw3976920455736263281:=0
def tw14220792021015420625:=0
def tw18245932559047159537:=0
def tw6156775623560835057:=0
def tw1003445449002025203:=0
def tw17719933884050163860:=0
def tw9207034616309794516:=0
def tw2637159547941562389:=0
def tw36659568877745365:=0
def tw1806635845691096917:=0
def tw2406974530275639350:=0
def tw16359490918103837942:=0
def tw12799355421236632246:=0
def tw14994791502324119414:=0
def tw1564417989148855607:=0
def tw14863885672024705240:=0
def tw12132630595710346008:=0
def tw17916313490851198169:=0
def tw6554161739352943706:=0
def tw4948199795067994490:=0
def tw11738794591290128986:=0
def tw17929475330780722938:=0
def tw14840107255553250939:=0
def tw17870568935960361692:=0
def tw13739422417795936124:=0
def tw11713215745968016316:=0
def tw14582434863210705853:=0
def tw6559484109291117246:=0
def tw4120718260323974271:=0
def tw11476644080833628447:=0
def tw12102814432245387807:=0
end PySem.W.Fast
open PySem PySem.W PyProof.Rows L2 L3
set_option maxRecDepth 100000 in
set_option maxHeartbeats 0 in
theorem PySem.Challenge.cw_swellways_k75_plans_written_holds : PySem.Challenge.rw_swellways_k75_plans_written.Holds := by
  w_on;o_law;k_head;(case hw=>w_witness2)
  k_fill
  refine L3.zO (l:=PySem.Challenge.rw_swellways_k75_plans_written) (k:=7) (sp:=Kk.bS) (x := "_law_script") rfl rfl ⟨rfl,by decide,by decide⟩ (fun w h Y=>PySem.W.kIn_of Y) Kk.fB ?F
  case F=>
    intro w mg fa h KX G hmg
    refine' Kk.all_mk (t:=⟨_,_,_,_,_,_,_,_,_,_,_,_,_,_,_,_,_,_,_,_,_,_,_,_,_,_,_,_,_,_,_,_,_,_,_,_,_,_⟩) hmg ⟨mg_of KX G ?_,bc ?_ ?_ ?_,mg_of KX G ?_,bc ?_ ?_ ?_,mg_of KX G ?_,bc ?_ ?_ ?_,mg_of KX G ?_,bc ?_ ?_ ?_,mg_of KX G ?_,bc ?_ ?_ ?_,mg_of KX G ?_,bc ?_ ?_ ?_,mg_of KX G ?_,bc ?_ ?_ ?_,mg_of KX G ?_,bc ?_ ?_ ?_,mg_of KX G ?_,bc ?_ ?_ ?_,mg_of KX G ?_,bc ?_ ?_ ?_,mg_of KX G ?_,bc ?_ ?_ ?_,mg_of KX G ?_,bc ?_ ?_ ?_,mg_of KX G ?_,bc ?_ ?_ ?_,mg_of KX G ?_,bc ?_ ?_ ?_,mg_of KX G ?_,bc ?_ ?_ ?_,mg_of KX G ?_,bc ?_ ?_ ?_,mg_of KX G ?_,bc ?_ ?_ ?_,mg_of KX G ?_,bc ?_ ?_ ?_,mg_of KX G ?_,bc ?_ ?_ ?_,mg_none_of KX G ?_,mg_none_of KX G ?_,mg_none_of KX G ?_,mg_none_of KX G ?_,mg_none_of KX G ?_,mg_none_of KX G ?_,mg_none_of KX G ?_,mg_none_of KX G ?_,fG KX G ?_,fG KX G ?_,fG KX G ?_,fG KX G ?_,fG KX G ?_,fG KX G ?_⟩
    all_goals try first | k_is | rfl
