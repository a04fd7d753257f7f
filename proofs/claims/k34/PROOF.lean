import PyProof.Rows.All
import Wide.All
import OpenK.AllK
import Wide.FinOn
import Lean
import PyProof.EqAt
import PyProof.EqKinds
import PyProof.TupleCall
import PyProof.P3Eq
import PyProof.NeKinds
import PyProof.NeData
import PyProof.ZipIter
import PyProof.EnumMake
import PyProof.EnumFor
import OpenK.KTop
import PyProof.IsRules
import PyProof.AttrMissHeap
import PyProof.DictUpdate
import KE.KDictOf
import PyProof.Rows.SortStr
import PyProof.FString5
import PyProof.StrOps
import PyProof.ListRange
import PyProof.TupleOfGen
import PyProof.Rows.SumAny
import PyProof.Rows.CallKwBuiltin
import PyProof.StrLoop
import PyProof.StrWalks
import PyProof.StrOps2
import PyProof.SliceStr2
import PyProof.StrBlockI
import PyProof.StrLaws
import PyProof.StrBlock
import PyProof.StrBlockL
import PyProof.StrCalls2
import KE.KStrOpen
import KE.KDictList
import PyProof.DictValues
import PyProof.DictTruth
import KE.KUnpack
import PySem.Challenge.RW_swellways_k34_numbers_moved
set_option Elab.async false
set_option linter.all false
set_option maxRecDepth 100000
set_option maxHeartbeats 4000000
namespace L2
open PySem PySem.Spec PyProof.Rows
abbrev Key:=Sum Int Str
def sX:Key→Value→Bool
  | .inl k,v=>Value.isInt k v
  | .inr x,v=>Value.isStrOf x v
def Tw (w:World):Key→Int
  | .inl k=>hashInt k
  | .inr x=>hashStr w x
theorem cj:∀ {k:Key} {v:Value},sX k v=true→(∃ i t,k=Sum.inl i∧v=Value.int i t)∨(∃ x t,k=Sum.inr x∧v=Value.str x t)
  | .inl i,v,h=>by
    obtain ⟨t,e⟩:=Value.isInt_shape (k:=i) (v:=v) h
    exact .inl ⟨i,t,rfl,e⟩
  | .inr x,v,h=>by
    obtain ⟨t,e⟩:=Value.isStrOf_shape (x:=x) (v:=v) h
    exact .inr ⟨x,t,rfl,e⟩
theorem Dw (i:Int)(t:Tok):sX (.inl i) (.int i t)=true:=by simp[sX,Value.isInt]
theorem CF (x:Str)(t:Tok):sX (.inr x) (.str x t)=true:=by simp[sX,Value.isStrOf]
theorem Pw (a b:Int):decide ((Sum.inl a:Key)=Sum.inl b)=(a == b):=by
  by_cases e:a=b
  · subst e;simp
  · have h:¬ (Sum.inl a:Key)=Sum.inl b:=fun q=>e (Sum.inl.inj q)
    rw[decide_eq_false h]
    exact (beq_eq_false_iff_ne.mpr e).symm
theorem O0 (a b:Str):decide ((Sum.inr a:Key)=Sum.inr b)=decide (a=b):=by
  by_cases e:a=b
  · subst e;simp
  · have h:¬ (Sum.inr a:Key)=Sum.inr b:=fun q=>e (Sum.inr.inj q)
    rw[decide_eq_false h,decide_eq_false e]
theorem NW (a:Int)(b:Str):decide ((Sum.inl a:Key)=Sum.inr b)=false:=decide_eq_false (fun q=>nomatch q)
theorem OK (a:Str)(b:Int):decide ((Sum.inr a:Key)=Sum.inl b)=false:=decide_eq_false (fun q=>nomatch q)
def cc (prog:Program)(w:World):PySem.KeyKind prog w Key where
  is:=sX
  hash:=Tw w
  inj:=fun v a b ha hb=>by
    rcases cj ha with ⟨i,t,rfl,rfl⟩ | ⟨x,t,rfl,rfl⟩
    · rcases cj hb with ⟨j,u,rfl,e⟩ | ⟨y,u,rfl,e⟩
      · injection e with e1 _;rw[e1]
      · exact nomatch e
    · rcases cj hb with ⟨j,u,rfl,e⟩ | ⟨y,u,rfl,e⟩
      · exact nomatch e
      · injection e with e1 _;rw[e1]
  byValue:=fun k v h=>by
    rcases cj h with ⟨i,t,rfl,rfl⟩ | ⟨x,t,rfl,rfl⟩ <;> rfl
  pyHash:=fun hv h=>by
    rcases cj hv with ⟨i,t,rfl,rfl⟩ | ⟨x,t,rfl,rfl⟩
    · exact wpAny_pyHash_int h
    · exact wpAny_pyHash_str h
  eqBool:=fun hu hv h=>by
    rcases cj hu with ⟨i,t,rfl,rfl⟩ | ⟨x,t,rfl,rfl⟩
    · rcases cj hv with ⟨j,u,rfl,rfl⟩ | ⟨y,u,rfl,rfl⟩
      · rw[Pw] at h;exact wpAny_eqBool_int h
      · rw[NW] at h;exact SeqAt.EqAt.int_str i t y u _ _ _ _ h
    · rcases cj hv with ⟨j,u,rfl,rfl⟩ | ⟨y,u,rfl,rfl⟩
      · rw[OK] at h;exact SeqAt.EqAt.str_int x t j u _ _ _ _ h
      · rw[O0] at h;exact wpAny_eqBool_str h
  «strs»:=fun k x t v h=>by
    rcases cj h with ⟨i,u,rfl,e⟩ | ⟨y,u,rfl,e⟩
    · exact nomatch e
    · injection e with e1 _
      subst e1
      cases v<;>rfl
theorem yf (prog:Program)(w:World)(i:Int)(t:Tok):(cc prog w).is (.inl i) (.int i t)=true:=Dw i t
theorem wU (prog:Program)(w:World)(x:Str)(t:Tok):(cc prog w).is (.inr x) (.str x t)=true:=CF x t
end L2
namespace L2
open PySem PySem.Spec PyProof.Rows
inductive V where
  | non | bl (b:Bool) | int (i:Int) | str (x:Str) | byt (b:Array UInt8) | flt (b:UInt64) | ref (a:Addr) | ty (n:String)
  deriving DecidableEq
def RelV:V→Value→Prop
  | .non,u=>u=Value.none
  | .bl b,u=>u=Value.bool b
  | .int i,u=>∃ t,u=Value.int i t
  | .str x,u=>∃ t,u=Value.str x t
  | .byt b,u=>∃ t,u=Value.bytes b t
  | .flt b,u=>∃ t,u=Value.float b t
  | .ref a,u=>u=Value.ref a
  | .ty n,u=>u=Value.type n
abbrev Vals:List V→List Value→Prop:=Paired RelV
theorem Vals.length {xs:List V}{us:List Value}(r:Vals xs us):xs.length=us.length:=Paired.length r
theorem Vals.get:∀ {xs:List V} {us:List Value} {i:Nat} {x:V},Vals xs us→xs[i]? = some x→∃ u,us[i]? = some u∧RelV x u
  | _,_,_,_,.nil,e=>by simp at e
  | _,_,0,_,.cons r _,e=>by simp at e;subst e;exact ⟨_,rfl,r⟩
  | _,_,i+1,x,.cons _ t,e=>by
    obtain ⟨u,h1,h2⟩:=Vals.get (i:=i) (x:=x) t (by simpa using e)
    exact ⟨u,by simpa using h1,h2⟩
theorem Vals.set {x:V}{u:Value}(r:RelV x u):∀ {xs:List V} {us:List Value} (i:Nat),Vals xs us→Vals (xs.set i x) (us.set i u)
  | _,_,_,.nil=>.nil
  | _,_,0,.cons _ t=>.cons r t
  | _,_,i+1,.cons q t=>.cons q (Vals.set r i t)
theorem Vals.append:∀ {xs ys:List V} {us ws:List Value},Vals xs us→Vals ys ws→Vals (xs++ys) (us++ws)
  | _,_,_,_,.nil,s=>s
  | _,_,_,_,.cons r t,s=>.cons r (Vals.append t s)
theorem Vals.take:∀ {xs:List V} {us:List Value} (n:Nat),Vals xs us→Vals (xs.take n) (us.take n)
  | _,_,0,_=>.nil
  | _,_,_+1,.nil=>.nil
  | _,_,n+1,.cons r t=>.cons r (Vals.take n t)
theorem Vals.drop:∀ {xs:List V} {us:List Value} (n:Nat),Vals xs us→Vals (xs.drop n) (us.drop n)
  | _,_,0,r=>r
  | _,_,_+1,.nil=>.nil
  | _,_,n+1,.cons _ t=>Vals.drop n t
def oB:Option V→Option Value→Prop
  | some v,some u=>RelV v u
  | none,none=>True
  | _,_=>False
def KV {κ:Type}:List (κ×V)→List (κ×Value)→Prop:=Paired fun (p:κ×V) (q:κ×Value)=>p.1=q.1∧RelV p.2 q.2
def kV:Key→V
  | .inl i=>.int i
  | .inr x=>.str x
inductive HO where
    | lst (xs:List V)
    | tup (xs:List V)
    | dK (kvs:List (Key×V)) | dT (kvs:List (List Key×V))
    | set (S:Int→Bool) (n:Nat)
    | ins (C dx:Addr) (fs:List (Str×V))
    | own (x:Addr)
    | xd (fs:List (Str×V))
    | met (f x:Addr)
    | rng (lo hi:Int)
    | frz (o:Obj) (u:HO)
    | tbl (ps:Array Value)
    | ext (φ:Heap→Prop)
abbrev Hp:=Addr→Option HO
def upd (H:Hp)(a:Addr)(o:HO):Hp:=fun b=>if b=a then some o else H b
theorem aM {H:Hp}{a:Addr}{o:HO}:upd H a o a=some o:=by unfold upd;rw[if_pos rfl]
theorem aL {H:Hp}{a b:Addr}{o:HO}(h:b≠a):upd H a o b=H b:=by unfold upd;rw[if_neg h]
theorem tQ {H:Hp}{a:Addr}{o u:HO}:upd (upd H a o) a u=upd H a u:=by
  funext b;unfold upd;split<;>rfl
theorem Q5 {H:Hp}{a b:Addr}{o u:HO}(h:H a=some o)(h':H b=some u)(d:o≠u):a≠b:=by
  intro e;subst e;rw[h] at h';exact d (Option.some.inj h')
theorem bf {H:Hp}{a b:Addr}{o:HO}(h:H a=some o)(h':H b=none):a≠b:=by
  intro e;subst e;rw[h] at h';cases h'
def u9 (h:Heap)(a:Addr)(items:Array Value):Prop:=∃ n,h.get? a=some { cls:=.type "tuple", data:=.seq items n }
theorem u9.tup {h:Heap}{a:Addr}{items:Array Value}(p:u9 h a items):IsTup h a items:=by obtain ⟨n,e⟩:=p;exact ⟨_,e,rfl,n,rfl⟩
theorem u9.new (h:Heap)(items:Array Value):u9 (h.push { cls:=.type "tuple", data:=.seq items }) h.objs.size items:=⟨_,Heap.get?_push_size _ rfl⟩
section
variable (P:Program) (w:World)
def dM (H:Hp)(h:Heap)(a:Addr):HO→Prop
  | .lst xs=>xs.length≤sizeLine∧∃ (its:List Value) (n:Nat),Vals xs its∧h.get? a=some { cls:=.type "list", data:=.seq its.toArray n }
  | .tup xs=>xs.length≤sizeLine∧∃ its:List Value,Vals xs its∧u9 h a its.toArray
  | .dK kvs=>kvs.length≤sizeLine∧(a == sysModules)=false∧∃ vs,KV kvs vs∧h.DictOf (cc P w) a vs
  | .dT kvs=>kvs.length≤sizeLine∧(a == sysModules)=false∧∃ xs:List (List Key×Addr×Value),
      Paired (fun (p:List Key×V) (q:List Key×Addr×Value)=>p.1=q.1∧H q.2.1=some (.tup (p.1.map kV))∧RelV p.2 q.2.2) kvs xs∧
      ∃ o es ep,h.get? a=some o∧o.ExactDict∧o.data=.dict es ep∧es.toList=xs.map (entryOfKey (tupleKind (cc P w)))∧(xs.map (·.1)).Nodup
  | .set S n=>h.SetOf (intKind P w) a S n
  | .ins C dx fs=>H dx=some (.own a)∧fs.length≤1000∧dx≠a∧h.get? a=some (PySem.W.instObj C dx)∧
      ∃ mA,h.Ns1 dx mA∧(∀ f,oB (fs.lookup f) (mA f))∧PySem.Within mA (fs.map (·.1))
  | .own _=>∃ o,h.get? a=some o
  | .xd fs=>∃ mA,h.Ns1 a mA∧∀ f,oB (fs.lookup f) (mA f)
  | .rng lo hi=>∃ t u v,h.get? a=some { cls:=.type "range", data:=.fields #[.int lo t,.int hi u,.int 1 v] }
  | .frz o u=>h.get? a=some o∧dM H h a u
  | .tbl ps=>h.get? a=some { cls:=.none,data:=.fields ps }
  | .met f x=>h.get? a=some (PySem.W.methodObj (.ref f) (.ref x))
  | .ext φ=>φ h∧(∃ o,h.get? a=some o)∧∀ h1 h2:Heap,φ h1→(∀ o,h1.get? a=some o→h2.get? a=some o)→φ h2
def HOk (H:Hp)(h:Heap):Prop:=∀ a o,H a=some o→dM P w H h a o
end
section
variable {P:Program} {w:World} {H H':Hp} {h h':Heap} {a:Addr} {o:HO}
theorem dM.lt (x:dM P w H h a o):a < h.objs.size:=by
  cases o with
  | lst xs=>obtain ⟨_,_,_,_,e⟩:=x;exact Heap.lt_size e
  | tup xs=>obtain ⟨_,_,_,p⟩:=x;exact p.tup.lt
  | dK kvs=>obtain ⟨_,_,_,_,o,_,_,e,_⟩:=x;exact Heap.lt_size e
  | dT kvs=>obtain ⟨_,_,_,_,o,_,_,e,_⟩:=x;exact Heap.lt_size e
  | set S n=>obtain ⟨o,_,_,_,e,_⟩:=x;exact Heap.lt_size e
  | ins C dx fs=>obtain ⟨_,_,_,e,_⟩:=x;exact Heap.lt_size e
  | own y=>obtain ⟨_,e⟩:=x;exact Heap.lt_size e
  | xd fs=>obtain ⟨_,⟨_,_,_,e,_⟩,_⟩:=x;exact Heap.lt_size e
  | rng lo hi=>obtain ⟨_,_,_,e⟩:=x;exact Heap.lt_size e
  | frz ob u=>obtain ⟨e,_⟩:=x;exact Heap.lt_size e
  | tbl ps=>exact Heap.lt_size (show h.get? a=some _ from x)
  | met f y=>exact Heap.lt_size (show h.get? a=some _ from x)
  | ext φ=>obtain ⟨_,⟨_,e⟩,_⟩:=x;exact Heap.lt_size e
theorem Paired.OT {α β:Type}{F G:α→β→Prop}:∀ {l₁:List α} {l₂:List β},Paired F l₁ l₂→(∀ a b,F a b→G a b)→Paired G l₁ l₂
  | _,_,.nil,_=>.nil
  | _,_,.cons r t,f=>.cons (f _ _ r) (Paired.OT t f)
theorem dM.lI (x:dM P w H h a o)(k:∀ b u,(b=a∨H b=some (.own a))→h.get? b=some u→h'.get? b=some u)
    (ho:∀ b,H b=some (.own a)→H' b=some (.own a)) (ht:∀ b xs,H b=some (.tup xs)→H' b=some (.tup xs)):dM P w H' h' a o:=by
  induction o with
  | lst xs=>obtain ⟨z,its,n,r,e⟩:=x;exact ⟨z,its,n,r,k _ _ (.inl rfl) e⟩
  | tup xs=>obtain ⟨z,its,r,m,e⟩:=x;exact ⟨z,its,r,m,k _ _ (.inl rfl) e⟩
  | dK kvs=>obtain ⟨z,y,vs,r,ob,es,ep,e,c⟩:=x;exact ⟨z,y,vs,r,ob,es,ep,k _ _ (.inl rfl) e,c⟩
  | dT kvs=>
    obtain ⟨z,y,xs,r,ob,es,ep,e,c⟩:=x
    exact ⟨z,y,xs,Paired.OT r fun p q z=>⟨z.1,ht _ _ z.2.1,z.2.2⟩,ob,es,ep,k _ _ (.inl rfl) e,c⟩
  | set S n=>obtain ⟨ob,es,ep,t,e,c⟩:=x;exact ⟨ob,es,ep,t,k _ _ (.inl rfl) e,c⟩
  | ins C dx fs=>
    obtain ⟨d,z,ne,e,mA,⟨od,es,ep,e2,c⟩,r⟩:=x
    exact ⟨ho _ d,z,ne,k _ _ (.inl rfl) e,mA,⟨od,es,ep,k _ _ (.inr d) e2,c⟩,r⟩
  | own y=>obtain ⟨ob,e⟩:=x;exact ⟨ob,k _ _ (.inl rfl) e⟩
  | xd fs=>obtain ⟨mA,⟨od,es,ep,e,c⟩,r⟩:=x;exact ⟨mA,⟨od,es,ep,k _ _ (.inl rfl) e,c⟩,r⟩
  | rng lo hi=>obtain ⟨t,u,v,e⟩:=x;exact ⟨t,u,v,k _ _ (.inl rfl) e⟩
  | frz ob u ih=>obtain ⟨e,q⟩:=x;exact ⟨k _ _ (.inl rfl) e,ih q⟩
  | tbl ps=>
    have e:h.get? a=some { cls:=.none,data:=.fields ps }:=x
    show h'.get? a=some { cls:=.none,data:=.fields ps }
    exact k a _ (.inl rfl) e
  | met f y=>
    have e:h.get? a=some (PySem.W.methodObj (.ref f) (.ref y)):=x
    show h'.get? a=some (PySem.W.methodObj (.ref f) (.ref y))
    exact k a _ (.inl rfl) e
  | ext φ=>obtain ⟨p,⟨o,e⟩,st⟩:=x;exact ⟨st _ _ p fun o q=>k _ _ (.inl rfl) q,⟨o,k _ _ (.inl rfl) e⟩,st⟩
theorem HOk.lt (x:HOk P w H h)(e:H a=some o):a < h.objs.size:=(x a o e).lt
theorem HOk.fresh (x:HOk P w H h)(e:h.objs.size≤a):H a=none:=by
  cases q:H a with
  | none=>rfl
  | some u=>exact absurd (Nat.lt_of_lt_of_le (x.lt q) e) (Nat.lt_irrefl _)
theorem HOk.kept (x:HOk P w H h)(k:∀ b u,h.get? b=some u→h'.get? b=some u):HOk P w H h':=fun a o e=>
  (x a o e).lI (fun b u _ q=>k b u q) (fun _ q=>q) fun _ _ q=>q
theorem HOk.laid (x:HOk P w H h)(k:∀ b u,h.get? b=some u→h'.get? b=some u)(hp:h.objs.size≤a)(new:dM P w (upd H a o) h' a o):HOk P w (upd H a o) h':=fun b u e=>by
  have hn:=x.fresh hp
  by_cases hb:b=a
  · subst hb;rw[aM] at e;cases e;exact new
  · rw[aL hb] at e
    exact (x b u e).lI (fun c v _ q=>k c v q) (fun c q=>by rw[aL (bf q hn)];exact q) fun c xs q=>by rw[aL (bf q hn)];exact q
end
def Rd (H:Hp)(a:Addr)(u:HO):Prop:=H a=some u∨∃ o,H a=some (.frz o u)
theorem Rd.of {H:Hp}{a:Addr}{u:HO}(h:H a=some u):Rd H a u:=.inl h
theorem Rd.ok {P:Program}{w:World}{H:Hp}{h:Heap}{a:Addr}{u:HO}(r:Rd H a u)(x:HOk P w H h):dM P w H h a u:=by
  rcases r with r | ⟨o,r⟩
  · exact x a u r
  · obtain ⟨_,q⟩:=x a _ r
    exact q
def Mut:Option HO→Prop
  | some (.lst _)=>True
  | some (.dK _)=>True
  | some (.dT _)=>True
  | some (.set _ _)=>True
  | some (.ins _ _ _)=>True
  | some (.ext _)=>True
  | _=>False
section
variable {P:Program} {w:World} {H:Hp} {h h':Heap} {x e:Addr} {o':HO}
theorem HOk.write (ok:HOk P w H h)(mu:Mut (H x))(he:e=x∨H e=some (.own x))(k:∀ b u,b≠e→h.get? b=some u→h'.get? b=some u)(heo:∃ u,h'.get? e=some u)
    (new:dM P w (upd H x o') h' x o'):HOk P w (upd H x o') h':=fun b u q=>by
  have Q2:∀ c y,H c=some (.own y)→c≠x:=fun c y r z=>by subst z;rw[r] at mu;exact mu
  have TK:∀ c xs,H c=some (.tup xs)→c≠x:=fun c xs r z=>by subst z;rw[r] at mu;exact mu
  by_cases hb:b=x
  · subst hb;rw[aM] at q;cases q;exact new
  · rw[aL hb] at q
    by_cases hbe:b=e
    · have q':H b=some (.own x):=by
        rcases he with z | z
        · exact absurd (hbe.trans z) hb
        · rw[hbe];exact z
      rw[q] at q';cases q'
      obtain ⟨v,hv⟩:=heo
      exact ⟨v,by rw[hbe];exact hv⟩
    · refine (ok b u q).lI (fun c v hc r=>k c v ?_ r) (fun c r=>by rw[aL (Q2 c b r)];exact r) fun c xs r=>by rw[aL (TK c xs r)];exact r
      rcases hc with rfl | hc
      · exact hbe
      · rintro rfl
        rcases he with z | z
        · exact Q2 c b hc z
        · rw[hc] at z;cases z;exact hb rfl
end
structure Un (fs ex:List Addr) (H H':Hp) (h h':Heap):Prop where
  keep:∀ b o,h.get? b=some o→H b=none→b ∉ fs→b ∉ ex→h'.get? b=some o
  slot:∀ b o,h.get? b=some o→H b=none→b∈fs→b ∉ ex→∃ sl,h'.get? b=some { o with slots:=sl }
  free:∀ b o,h.get? b=some o→H b=none→b ∉ ex→H' b=none
  there:∀ b o,h.get? b=some o→b ∉ ex→∃ o',h'.get? b=some o'
  mi:∀ b xs,H b=some (.tup xs)→H' b=some (.tup xs)
  lL:∀ b o u,H b=some (.frz o u)→H' b=some (.frz o u)
  me:∀ b ps,H b=some (.tbl ps)→∃ more,H' b=some (.tbl (ps++more))
section
variable {fs fs' ex ex':List Addr} {H H1 H2:Hp} {h h1 h2 h':Heap} {a x e:Addr} {o:HO}
theorem Un.any (u:Un fs ex H H1 h h1){b:Addr}{ob:Obj}(q:h.get? b=some ob)(n:H b=none)(hx:b ∉ ex):∃ sl,h1.get? b=some { ob with slots:=sl }:=by
  by_cases hb:b∈fs
  · exact u.slot b ob q n hb hx
  · exact ⟨ob.slots,u.keep b ob q n hb hx⟩
theorem Un.trans (a:Un fs ex H H1 h h1)(b:Un fs ex H1 H2 h1 h2):Un fs ex H H2 h h2 where
  keep:=fun c ob q n hc hx=>b.keep c ob (a.keep c ob q n hc hx) (a.free c ob q n hx) hc hx
  slot:=fun c ob q n hc hx=>by
    obtain ⟨sl,e1⟩:=a.slot c ob q n hc hx
    obtain ⟨sl',e2⟩:=b.slot c _ e1 (a.free c ob q n hx) hc hx
    exact ⟨sl',e2⟩
  free:=fun c ob q n hx=>by
    obtain ⟨o',e1⟩:=a.there c ob q hx
    exact b.free c o' e1 (a.free c ob q n hx) hx
  there:=fun c ob q hx=>by
    obtain ⟨o',e1⟩:=a.there c ob q hx
    exact b.there c o' e1 hx
  mi:=fun c xs q=>b.mi c xs (a.mi c xs q)
  lL:=fun c ob xs q=>b.lL c ob xs (a.lL c ob xs q)
  me:=fun c ps q=>by
    obtain ⟨m1,e1⟩:=a.me c ps q
    obtain ⟨m2,e2⟩:=b.me c _ e1
    exact ⟨m1++m2,by rw[e2,Array.append_assoc]⟩
theorem Un.kept (k:∀ b u,h.get? b=some u→h'.get? b=some u):Un fs ex H H h h':=
  ⟨fun b ob q _ _ _=>k b ob q,fun b ob q _ _ _=>⟨ob.slots,k b ob q⟩,fun _ _ _ n _=>n,fun b ob q _=>⟨ob,k b ob q⟩,fun _ _ q=>q,fun _ _ _ q=>q,fun _ ps q=>⟨#[],by rw[q];simp⟩⟩
theorem Un.refl:Un fs ex H H h h:=Un.kept fun _ _ q=>q
theorem Un.laid (k:∀ b u,h.get? b=some u→h'.get? b=some u)(hp:h.objs.size≤a)(hn:H a=none):Un fs ex H (upd H a o) h h' where
  keep:=fun b u q _ _ _=>k b u q
  slot:=fun b u q _ _ _=>⟨u.slots,k b u q⟩
  free:=fun b u q n _=>by rw[aL (Nat.ne_of_lt (Nat.lt_of_lt_of_le (Heap.lt_size q) hp))];exact n
  there:=fun b u q _=>⟨u,k b u q⟩
  mi:=fun b xs q=>by rw[aL (bf q hn)];exact q
  lL:=fun b u xs q=>by rw[aL (bf q hn)];exact q
  me:=fun b ps q=>⟨#[],by rw[aL (bf q hn),q];simp⟩
theorem Un.write (mu:Mut (H x))(he:e=x∨H e=some (.own x))(k:∀ b u,b≠e→h.get? b=some u→h'.get? b=some u)(heo:∃ u,h'.get? e=some u):Un fs ex H (upd H x o) h h':=by
  have hx:∀ b,H b=none→b≠x:=fun b n z=>by subst z;rw[n] at mu;exact mu
  have hb:∀ b,H b=none→b≠e:=fun b n z=>by
    subst z
    rcases he with r | r
    · exact hx b n r
    · rw[n] at r;cases r
  have hm:∀ b u,H b=some u→¬ Mut (some u)→b≠x:=fun b u q nm z=>by subst z;rw[q] at mu;exact nm mu
  refine ⟨fun b u q n _ _=>k b u (hb b n) q,fun b u q n _ _=>⟨u.slots,k b u (hb b n) q⟩,fun b u q n _=>by rw[aL (hx b n)];exact n,fun b u q _=>?_,
    fun b xs q=>by rw[aL (hm b _ q fun z=>z)];exact q,fun b u xs q=>by rw[aL (hm b _ q fun z=>z)];exact q,fun b ps q=>⟨#[],by rw[aL (hm b _ q fun z=>z),q];simp⟩⟩
  by_cases hbe:b=e
  · subst hbe;exact heo
  · exact ⟨u,k b u hbe q⟩
theorem Un.mono (u:Un fs ex H H1 h h1)(hs:∀ b∈fs,b∈fs')(hx:∀ b∈ex,b∈ex'):Un fs' ex' H H1 h h1:=
  ⟨fun b ob q n hb he=>u.keep b ob q n (fun z=>hb (hs b z)) fun z=>he (hx b z),fun _ _ q n _ he=>u.any q n fun z=>he (hx _ z),fun b ob q n he=>u.free b ob q n fun z=>he (hx b z),fun b ob q he=>u.there b ob q fun z=>he (hx b z),u.mi,u.lL,u.me⟩
end
def trk (h:Heap)(H:Hp):List Addr:=(List.range h.objs.size).filter fun a=>(H a).isSome
def tS (h:Heap)(H:Hp):Heap:=PySem.W.hideAll h (trk h H)
theorem DT (h:Heap)(H:Hp):(tS h H).objs.size=h.objs.size:=PySem.W.hideAll_size _ _
theorem E4 {h:Heap}{H:Hp}{b:Addr}{o:Obj}(e:h.get? b=some o)(n:H b=none):(tS h H).get? b=some o:=
  PySem.W.hideAll_get _ e fun hm=>by
    have q:(H b).isSome=true:=(List.mem_filter.mp hm).2
    rw[n] at q;simp at q
theorem IQ {h:Heap}{H:Hp}{b:Addr}{o:Obj}(e:(tS h H).get? b=some o):h.get? b=some o∧H b=none:=by
  have e':h.get? b=some o:=PySem.W.of_hideAll (trk h H) e
  refine ⟨e',?_⟩
  cases q:H b with
  | none=>rfl
  | some x=>
    have hm:b∈trk h H:=List.mem_filter.mpr ⟨List.mem_range.mpr (Heap.lt_size e'),by simp[q]⟩
    have z:(tS h H).get? b=none:=PySem.W.hideAll_none (trk h H) hm
    rw[z] at e;cases e
def Js (g h:Heap)(L:Addr):List (Addr×Obj):=(List.range h.objs.size).filterMap fun a=>if a=L∨(g.get? a).isSome=true then none else (h.get? a).map fun o=>(a,o)
def rest (g h:Heap)(L d:Addr):List (Addr×Obj):=(Js g h L).filter fun p=>decide (p.1≠d)
end L2
namespace L2
open PySem PySem.Spec PyProof.Rows
structure Mod (K:PySem.W.Frag) (mg:Str→Option Value) (base:Heap):Prop where
  kin:K.In base
  glob:base.Ns mainGlobals mg
  blt:∃ mb,base.Ns builtinsNs mb∧∀ x:Str,x ≠ "__name__" → mb x=bootBuiltins x
  nolimit:base.NoLimit
structure Cx where
  prog:Program
  w:World
  K:PySem.W.Frag
  mg:Str→Option Value
  base:Heap
  A:Around
  N:List Str
  s₀:Shared
  H₀:Hp
  env:Env
  outer:List Env
  stack:List Env
  ex:List Addr
  fn:Str→Bool
  calm:Bool
  pn:List (Addr×Obj)
  xe:Value→Shared→Prop
def frs (l:List Env):List Addr:=l.filterMap (·.frame)
abbrev Cx.fs (X:Cx):List Addr:=frs X.outer
def Vis (sc:Scope)(x:Str):Prop:=sc.names.lookup x=some .local∨sc.names.lookup x=some .cell∨sc.names.lookup x=some .free
def Loc (sc:Scope)(x:Str):Prop:=sc.names.lookup x=some .local∨sc.names.lookup x=some .cell
def Look (env:Env)(h:Heap)(m:Str→Option Value)(x:Str)(u:Value):Prop:=
  (env.kindOf x=some .local∧m x=some u)∨((env.kindOf x=some .cell∨env.kindOf x=some .free)∧∃ c,env.cells.lookup x=some c∧h.IsCell c (some u))
structure Cx.Ok (X:Cx):Prop where
  mod:Mod X.K X.mg X.base
  kind:X.env.scope.kind=.function
  glob:X.env.globals=mainGlobals
  blt:X.env.builtins=builtinsNs
  above:X.s₀.heap.objs.size≤X.env.locals
  inj:∀ x y c,X.env.cells.lookup x=some c→X.env.cells.lookup y=some c→x=y
  has:∀ x,(X.env.kindOf x=some .cell∨X.env.kindOf x=some .free)→∃ c,X.env.cells.lookup x=some c
  cab:∀ x c,X.fn x=true→X.env.cells.lookup x=some c→X.s₀.heap.objs.size≤c
  hd:X.calm=true→X.A.handled=none
  frames:X.A.frames=some X.stack
  stk:X.stack=X.outer∨(X.stack=X.env::X.outer∧X.env.frame=some X.env.locals)
  exf:∀ b∈X.ex,b≠X.env.locals∧∀ x c,X.env.cells.lookup x=some c→c≠b
  bs:∀ b o,X.base.get? b=some o→X.s₀.heap.get? b=some o∧X.H₀ b=none
  bsz:X.base.objs.size≤X.s₀.heap.objs.size
  zl:∀ b o,X.base.get? b=some o→b ∉ X.ex
  zI:∀ b∈X.ex,b ∉ X.fs
  oi:X.s₀.heap.FunFrames X.base X.outer
  frf:∀ b∈X.fs,X.H₀ b=none
structure Inv (X:Cx) (pins:List (Addr×Obj)) (σ:List (Option V)) (H:Hp) (s:Shared):Prop where
  ok:X.Ok
  os:s.os=X.s₀.os
  bare:AllBare s.gens
  base:Un X.fs X.ex X.H₀ H X.s₀.heap s.heap
  loc:∃ m,s.heap.Ns X.env.locals m∧∀ (i:Nat) (x:Str) (v:V),X.N[i]? = some x→σ[i]? = some (some v)→Vis X.env.scope x→∃ u,RelV v u∧Look X.env s.heap m x u
  cell:∀ x c,X.env.cells.lookup x=some c→∃ v,s.heap.IsCell c v
  free:H X.env.locals=none
  ir:∀ x c,X.env.cells.lookup x=some c→H c=none
  pin:∀ p∈X.pn++pins,s.heap.get? p.1=some p.2∧H p.1=none∧p.1≠X.env.locals∧p.1 ∉ X.fs∧∀ v,p.2.data≠.cell v
  hok:HOk X.prog X.w H s.heap
  len:σ.length=X.N.length
section
variable {X:Cx} {pins:List (Addr×Obj)} {σ:List (Option V)} {H H':Hp} {s:Shared} {h':Heap}
theorem Cx.Ok.Tv (ok:X.Ok){b:Addr}{o:Obj}(e:X.base.get? b=some o):b ∉ X.fs:=fun hb=>by
  have:=(ok.oi.mem hb).1
  rw[e] at this;cases this
theorem Inv.bs (I:Inv X pins σ H s):∀ b o,X.base.get? b=some o→s.heap.get? b=some o∧H b=none:=fun b o e=>
  ⟨I.base.keep b o (I.ok.bs b o e).1 (I.ok.bs b o e).2 (I.ok.Tv e) (I.ok.zl b o e),I.base.free b o (I.ok.bs b o e).1 (I.ok.bs b o e).2 (I.ok.zl b o e)⟩
theorem Inv.bk (I:Inv X pins σ H s):∀ b o,X.base.get? b=some o→s.heap.get? b=some o:=fun b o e=>(I.bs b o e).1
theorem Inv.mod (I:Inv X pins σ H s):Mod X.K X.mg X.base:=I.ok.mod
theorem Inv.kIn (I:Inv X pins σ H s):X.K.In s.heap:=I.ok.mod.kin.keeps I.bk
theorem Inv.nolimit (I:Inv X pins σ H s):s.heap.NoLimit:=I.ok.mod.nolimit.keeps I.bk
theorem Inv.fr (I:Inv X pins σ H s):∃ m,Fr X.base X.env.locals s.heap m:=
  let ⟨m,hn,_⟩:=I.loc
  ⟨m,hn,I.bk,Nat.le_trans I.ok.bsz I.ok.above⟩
theorem Inv.lt (I:Inv X pins σ H s):X.env.locals < s.heap.objs.size:=let ⟨_,hn,_⟩:=I.loc;hn.lt
theorem Inv.sz (I:Inv X pins σ H s):X.s₀.heap.objs.size≤s.heap.objs.size:=Nat.le_trans I.ok.above (Nat.le_of_lt I.lt)
theorem Inv.Sb (I:Inv X pins σ H s){a:Addr}(h:s.heap.objs.size≤a):a ∉ X.fs:=fun hb=>by
  obtain ⟨_,o,ho,_⟩:=I.ok.oi.mem hb
  exact absurd (Nat.lt_of_lt_of_le (Heap.lt_size ho) (Nat.le_trans I.sz h)) (Nat.lt_irrefl _)
theorem Inv.cne (I:Inv X pins σ H s):∀ x c,X.env.cells.lookup x=some c→c≠X.env.locals:=fun x c e z=>by
  obtain ⟨v,o,ho,hd⟩:=I.cell x c e
  obtain ⟨m,⟨o',es,ep,ho',hd',_⟩,_⟩:=I.loc
  rw[z,ho'] at ho;cases ho;rw[hd'] at hd;cases hd
theorem Inv.oi (I:Inv X pins σ H s):s.heap.FunFrames X.base X.outer:=by
  have all:∀ (l:List Env),(∀ b∈frs l,b∈X.fs)→X.s₀.heap.FunFrames X.base l→s.heap.FunFrames X.base l:=by
    intro l
    induction l with
    | nil=>intro _ _;trivial
    | cons env r ih=>
      intro hs hl
      obtain ⟨hk,⟨L,o,hf,hn,ho,hd⟩,hr⟩:=hl
      have hL:L∈X.fs:=hs L (by unfold frs;rw[List.filterMap_cons,hf];exact List.mem_cons_self)
      obtain ⟨sl,e⟩:=I.base.slot L o ho (I.ok.frf L hL) hL fun z=>I.ok.zI L z hL
      exact ⟨hk,⟨L,_,hf,hn,e,hd⟩,ih (fun b hb=>hs b (by unfold frs;rw[List.filterMap_cons,hf];exact List.mem_cons_of_mem _ hb)) hr⟩
  exact all X.outer (fun _ hb=>hb) I.ok.oi
theorem Inv.stack (I:Inv X pins σ H s):s.heap.FunFrames X.base X.stack:=by
  rcases I.ok.stk with e | ⟨e,hf⟩
  · rw[e];exact I.oi
  · rw[e]
    obtain ⟨m,hn,_⟩:=I.loc
    refine .cons (by rw[I.ok.kind];decide) hf hn ?_ I.oi
    exact Heap.get?_none_of_le (Nat.le_trans I.ok.bsz I.ok.above)
theorem Inv.p7 (I:Inv X pins σ H s):∀ b∈frs X.stack,b∈X.env.locals::X.fs:=fun b hb=>by
  rcases I.ok.stk with e | ⟨e,hf⟩
  · rw[e] at hb;exact List.mem_cons_of_mem _ hb
  · rw[e] at hb
    unfold frs at hb
    rw[List.filterMap_cons,hf] at hb
    exact hb
theorem Inv.oJ (I:Inv X pins σ H s):∀ b∈frs X.stack,H b=none:=fun b hb=>by
  rcases List.mem_cons.mp (I.p7 b hb) with e | hb
  · rw[e];exact I.free
  · obtain ⟨_,o,ho,_⟩:=I.ok.oi.mem hb
    exact I.base.free b o ho (I.ok.frf b hb) fun z=>I.ok.zI b z hb
theorem Inv.step {g':Array GenState}{t':Nat}{d':Drawn}{ch:List Addr}(I:Inv X pins σ H s)
    (hch:∀ b∈ch,(b∈X.ex∨X.s₀.heap.objs.size≤b)∧b≠X.env.locals∧(∀ x c,X.env.cells.lookup x=some c→c≠b)∧∀ p∈X.pn++pins,p.1≠b)
    (keep:∀ b o,b≠X.env.locals→b ∉ X.fs→b ∉ ch→s.heap.get? b=some o→H b=none→h'.get? b=some o)
    (slot:∀ b o,b≠X.env.locals→b∈X.fs→b ∉ ch→s.heap.get? b=some o→H b=none→∃ sl,h'.get? b=some { o with slots:=sl }) (free:∀ b o,b ∉ ch→s.heap.get? b=some o→H b=none→H' b=none)
    (there:∀ b o,b ∉ ch→s.heap.get? b=some o→∃ o',h'.get? b=some o')
    (mi:∀ b xs,H b=some (.tup xs)→H' b=some (.tup xs)) (lL:∀ b o u,H b=some (.frz o u)→H' b=some (.frz o u)) (me:∀ b ps,H b=some (.tbl ps)→∃ more,H' b=some (.tbl (ps++more)))
    (ns:∀ m,s.heap.Ns X.env.locals m→h'.Ns X.env.locals m) (hok:HOk X.prog X.w H' h') (hg:AllBare g') :
    Inv X pins σ H' { s with heap:=h',gens:=g',drawn:=d',toks:=t' }:=by
  have neL:∀ b o,X.s₀.heap.get? b=some o→b≠X.env.locals:=fun b o e=>Nat.ne_of_lt (Nat.lt_of_lt_of_le (Heap.lt_size e) I.ok.above)
  have neC:∀ b o,X.s₀.heap.get? b=some o→b ∉ X.ex→b ∉ ch:=fun b o e hx hb=>by
    rcases (hch b hb).1 with z | z
    · exact hx z
    · exact absurd (Nat.lt_of_lt_of_le (Heap.lt_size e) z) (Nat.lt_irrefl _)
  have cellK:∀ x c,X.env.cells.lookup x=some c→∀ v,s.heap.IsCell c v→h'.IsCell c v:=fun x c e v ⟨o,ho,hd⟩=>by
    have nch:c ∉ ch:=fun z=>(hch c z).2.2.1 x c e rfl
    by_cases hc:c∈X.fs
    · obtain ⟨sl,q⟩:=slot c o (I.cne x c e) hc nch ho (I.ir x c e)
      exact ⟨_,q,hd⟩
    · exact ⟨o,keep c o (I.cne x c e) hc nch ho (I.ir x c e),hd⟩
  refine ⟨I.ok,I.os,hg,⟨fun b o e n hb hx=>?_,fun b o e n hb hx=>?_,fun b o e n hx=>?_,fun b o e hx=>?_,fun b xs e=>mi b xs (I.base.mi b xs e),fun b o xs e=>lL b o xs (I.base.lL b o xs e),fun b ps e=>?_⟩,?_,fun x c e=>?_,?_,fun x c e=>?_,fun p hp=>?_,hok,I.len⟩
  · exact keep b o (neL b o e) hb (neC b o e hx) (I.base.keep b o e n hb hx) (I.base.free b o e n hx)
  · obtain ⟨sl,e1⟩:=I.base.slot b o e n hb hx
    obtain ⟨sl',e2⟩:=slot b _ (neL b o e) hb (neC b o e hx) e1 (I.base.free b o e n hx)
    exact ⟨sl',e2⟩
  · obtain ⟨o',e1⟩:=I.base.there b o e hx
    exact free b o' (neC b o e hx) e1 (I.base.free b o e n hx)
  · obtain ⟨o',e1⟩:=I.base.there b o e hx
    exact there b o' (neC b o e hx) e1
  · obtain ⟨m1,e1⟩:=I.base.me b ps e
    obtain ⟨m2,e2⟩:=me b _ e1
    exact ⟨m1++m2,by rw[e2,Array.append_assoc]⟩
  · obtain ⟨m,hn,hl⟩:=I.loc
    refine ⟨m,ns m hn,fun i x v e1 e2 e3=>?_⟩
    obtain ⟨u,r,l⟩:=hl i x v e1 e2 e3
    refine ⟨u,r,?_⟩
    rcases l with l | ⟨k,c,e,z⟩
    · exact .inl l
    · exact .inr ⟨k,c,e,cellK x c e _ z⟩
  · obtain ⟨v,z⟩:=I.cell x c e
    exact ⟨v,cellK x c e v z⟩
  · obtain ⟨m,⟨o,_,_,ho,_⟩,_⟩:=I.loc
    exact free _ o (fun z=>(hch _ z).2.1 rfl) ho I.free
  · obtain ⟨v,o,ho,hd⟩:=I.cell x c e
    exact free c o (fun z=>(hch c z).2.2.1 x c e rfl) ho (I.ir x c e)
  · obtain ⟨e,n,ne,nf,d⟩:=I.pin p hp
    have nch:p.1 ∉ ch:=fun z=>(hch p.1 z).2.2.2 p hp rfl
    exact ⟨keep p.1 p.2 ne nf nch e n,free p.1 p.2 nch e n,ne,nf,d⟩
theorem Inv.un {t':Nat}(I:Inv X pins σ H s)(u:Un X.fs [] H H' s.heap h')(hok:HOk X.prog X.w H' h'):Inv X pins σ H' { s with heap:=h',toks:=t' }:=by
  obtain ⟨m,⟨o,es,ep,ho,r⟩,_⟩:=id I.loc
  obtain ⟨sl,hL⟩:=u.any ho I.free (by simp)
  exact I.step (g':=s.gens) (d':=s.drawn) (ch:=[]) (fun _ z=>nomatch z) (fun b o _ hb _ e n=>u.keep b o e n hb (by simp)) (fun b o _ hb _ e n=>u.slot b o e n hb (by simp)) (fun b o _ e n=>u.free b o e n (by simp)) (fun b o _ e=>u.there b o e (by simp)) u.mi u.lL u.me (fun m' hm=>by
    obtain ⟨o',es',ep',ho',r'⟩:=hm
    rw[ho] at ho';cases ho'
    exact ⟨_,es',ep',hL,r'⟩) hok I.bare
theorem Inv.call {g':Array GenState}{t':Nat}{d':Drawn}{ch:List Addr}(I:Inv X pins σ H s)(u:Un (frs X.stack) ch H H' s.heap h')(hok:HOk X.prog X.w H' h')(hg:AllBare g')
    (hch:∀ b∈ch,(b∈X.ex∨X.s₀.heap.objs.size≤b)∧b≠X.env.locals∧(∀ x c,X.env.cells.lookup x=some c→c≠b)∧∀ p∈X.pn++pins,p.1≠b) :
    Inv X pins σ H' { s with heap:=h',gens:=g',drawn:=d',toks:=t' }:=by
  obtain ⟨m,⟨o,es,ep,ho,r⟩,_⟩:=id I.loc
  obtain ⟨sl,hL⟩:=u.any ho I.free fun z=>(hch _ z).2.1 rfl
  exact I.step (ch:=ch) hch (fun b o hL hb hc e n=>u.keep b o e n (fun z=>(List.mem_cons.mp (I.p7 b z)).elim hL hb) hc) (fun b o _ _ hc e n=>u.any e n hc) (fun b o hc e n=>u.free b o e n hc) (fun b o hc e=>u.there b o e hc) u.mi u.lL u.me (fun m' hm=>by
    obtain ⟨o',es',ep',ho',r'⟩:=hm
    rw[ho] at ho';cases ho'
    exact ⟨_,es',ep',hL,r'⟩) hok hg
theorem Inv.turned {t':Nat}{it:Addr}(I:Inv X pins σ H s)(k:∀ b o,b≠it→s.heap.get? b=some o→h'.get? b=some o)(hn:H it=none)(hL:it≠X.env.locals)
    (h1:it∈X.ex∨X.s₀.heap.objs.size≤it) (h2:∀ x c,X.env.cells.lookup x=some c→c≠it) (h3:∀ p∈X.pn++pins,p.1≠it):Inv X pins σ H { s with heap:=h',toks:=t' }:=by
  have nit:∀ b u,H b=some u→b≠it:=fun b u e z=>by rw[z,hn] at e;cases e
  refine I.step (g':=s.gens) (d':=s.drawn) (ch:=[it]) (fun b hb=>?_) (fun b o _ _ hc e _=>k b o (fun z=>hc (by simp[z])) e) (fun b o _ _ hc e _=>⟨o.slots,k b o (fun z=>hc (by simp[z])) e⟩) (fun _ _ _ _ n=>n)
    (fun b o hc e=>⟨o,k b o (fun z=>hc (by simp[z])) e⟩) (fun _ _ e=>e) (fun _ _ _ e=>e) (fun b ps e=>⟨#[],by rw[e];simp⟩) (fun m hm=>?_) (fun b u e=>?_) I.bare
  · have e:b=it:=by simpa using hb
    subst e
    exact ⟨h1,hL,h2,h3⟩
  · obtain ⟨o,es,ep,ho,r⟩:=hm
    exact ⟨o,es,ep,k _ o (Ne.symm hL) ho,r⟩
  · refine (I.hok b u e).lI (fun c v hc q=>k c v ?_ q) (fun _ q=>q) fun _ _ q=>q
    rcases hc with z | z
    · rw[z];exact nit b u e
    · exact nit c _ z
theorem Inv.tok (I:Inv X pins σ H s)(t:Nat):Inv X pins σ H { s with toks:=t }:=I.un (h':=s.heap) (t':=t) Un.refl I.hok
theorem Inv.kept {t':Nat}(I:Inv X pins σ H s)(k:∀ b u,s.heap.get? b=some u→h'.get? b=some u):Inv X pins σ H { s with heap:=h',toks:=t' }:=I.un (Un.kept k) (I.hok.kept k)
theorem Inv.laid {a:Addr}{o:HO}{t':Nat}(I:Inv X pins σ H s)(k:∀ b u,s.heap.get? b=some u→h'.get? b=some u)(hp:s.heap.objs.size≤a)(new:dM X.prog X.w (upd H a o) h' a o) :
    Inv X pins σ (upd H a o) { s with heap:=h',toks:=t' }:=I.un (Un.laid k hp (I.hok.fresh hp)) (I.hok.laid k hp new)
theorem Inv.write {x e:Addr}{o:HO}{t':Nat}(I:Inv X pins σ H s)(mu:Mut (H x))(he:e=x∨H e=some (.own x))(k:∀ b u,b≠e→s.heap.get? b=some u→h'.get? b=some u)(heo:∃ u,h'.get? e=some u)
    (new:dM X.prog X.w (upd H x o) h' x o):Inv X pins σ (upd H x o) { s with heap:=h',toks:=t' }:=I.un (Un.write mu he k heo) (I.hok.write mu he k heo new)
theorem Inv.weak {σ':List (Option V)}(I:Inv X pins σ H s)(hl:σ'.length=σ.length)(w:∀ (i:Nat) v,σ'[i]? = some (some v)→σ[i]? = some (some v)):Inv X pins σ' H s:=
  ⟨I.ok,I.os,I.bare,I.base,let ⟨m,hn,hl'⟩:=I.loc;⟨m,hn,fun i x v e1 e2 e3=>hl' i x v e1 (w i v e2) e3⟩,I.cell,I.free,I.ir,I.pin,I.hok,hl.trans I.len⟩
theorem Inv.B9 {pins':List (Addr×Obj)}(I:Inv X pins σ H s)(h:∀ p∈pins',s.heap.get? p.1=some p.2∧H p.1=none∧p.1≠X.env.locals∧p.1 ∉ X.fs∧∀ v,p.2.data≠.cell v):Inv X pins' σ H s:=
  ⟨I.ok,I.os,I.bare,I.base,I.loc,I.cell,I.free,I.ir,fun p hp=>(List.mem_append.mp hp).elim (fun z=>I.pin p (List.mem_append_left _ z)) (h p),I.hok,I.len⟩
theorem yp {N:List Str}(hN:N.Nodup){i j:Nat}{x:Str}(a:N[i]? = some x)(b:N[j]? = some x):i=j:=by
  obtain ⟨h1,e1⟩:=List.getElem?_eq_some_iff.mp a
  obtain ⟨h2,e2⟩:=List.getElem?_eq_some_iff.mp b
  exact (List.getElem_inj hN).mp (e1.trans e2.symm)
theorem Dd {M:Model}{A:Around}{E:Value→Shared→Prop}{i:Nat}{x:Str}{v:V}{u:Value}{Q:Unit→Shared→Prop}(I:Inv X pins σ H s)(hN:X.N.Nodup)(hi:X.N[i]? = some x)(hx:Loc X.env.scope x)(r:RelV v u)
    (h:∀ s',Inv X pins (σ.set i (some v)) H s'→(∃ a,Heap.SameBut a s.heap s'.heap∧(a=X.env.locals∨X.env.cells.lookup x=some a))→Q () s') (hf:X.fn x=true∨X.env.scope.names.lookup x=some .local:=by first | exact .inl rfl | exact .inr rfl | assumption):wpAny M A (storeName X.env x u) Q E s:=by
  obtain ⟨m,hn,hl⟩:=id I.loc
  have S6:(X.env.scope.kind == .class || (X.env.scope.kind == .module&&X.env.locals != X.env.globals))=false:=by rw[I.ok.kind];rfl
  have hiσ:i < σ.length:=by rw[I.len];exact (List.getElem?_eq_some_iff.mp hi).1
  have cne:=I.cne
  have tracked:∀ {a:Addr} {h':Heap},(∃ o,s.heap.get? a=some o∧H a=none)→Heap.SameBut a s.heap h'→HOk X.prog X.w H h':=fun {a h'} ha hs b ob e=>by
    obtain ⟨_,_,hfree⟩:=ha
    refine (I.hok b ob e).lI (fun c w' hc q=>(hs.2 c ?_).trans q) (fun _ q=>q) fun _ _ q=>q
    rintro rfl
    rcases hc with rfl | hc
    · rw[hfree] at e;cases e
    · rw[hfree] at hc;cases hc
  rcases hx with hk | hk
  · refine wpAny_storeName_local hk hn (fun h' hn' hs=>?_) S6
    obtain ⟨oL,_,_,hoL,_⟩:=id hn
    refine h _ ⟨I.ok,I.os,I.bare,⟨fun b o e n hb hx=>?_,fun b o e n hb hx=>?_,I.base.free,fun b o e hx=>?_,I.base.mi,I.base.lL,I.base.me⟩,⟨_,hn',fun j y v' e1 e2 e3=>?_⟩,fun y c e=>?_,I.free,I.ir,fun p hp=>?_,tracked ⟨oL,hoL,I.free⟩ hs,by simpa using I.len⟩ ⟨_,hs,.inl rfl⟩
    · exact (hs.2 b (Nat.ne_of_lt (Nat.lt_of_lt_of_le (Heap.lt_size e) I.ok.above))).trans (I.base.keep b o e n hb hx)
    · obtain ⟨sl,e1⟩:=I.base.slot b o e n hb hx
      exact ⟨sl,(hs.2 b (Nat.ne_of_lt (Nat.lt_of_lt_of_le (Heap.lt_size e) I.ok.above))).trans e1⟩
    · obtain ⟨o',e1⟩:=I.base.there b o e hx
      exact ⟨o',(hs.2 b (Nat.ne_of_lt (Nat.lt_of_lt_of_le (Heap.lt_size e) I.ok.above))).trans e1⟩
    · by_cases hj:j=i
      · subst hj
        rw[hi] at e1;cases e1
        rw[List.getElem?_set_self hiσ] at e2
        cases e2
        exact ⟨u,r,.inl ⟨hk,by simp⟩⟩
      · rw[List.getElem?_set_ne (Ne.symm hj)] at e2
        obtain ⟨u',r',q⟩:=hl j y v' e1 e2 e3
        refine ⟨u',r',?_⟩
        rcases q with ⟨k,e⟩ | ⟨k,c,e,z⟩
        · refine .inl ⟨k,?_⟩
          have:y≠x:=fun e=>hj (yp hN e1 (e ▸ hi))
          simp[this,e]
        · exact .inr ⟨k,c,e,z.sameBut hs (cne y c e)⟩
    · obtain ⟨w',z⟩:=I.cell y c e
      exact ⟨w',z.sameBut hs (cne y c e)⟩
    · obtain ⟨e,n,ne,nf,d⟩:=I.pin p hp
      exact ⟨(hs.2 p.1 ne).trans e,n,ne,nf,d⟩
  · have hfn:X.fn x=true:=by
      rcases hf with z | z
      · exact z
      · rw[z] at hk;cases hk
    obtain ⟨c,hc⟩:=I.ok.has x (.inl hk)
    obtain ⟨w',z⟩:=I.cell x c hc
    refine wpAny_storeName_cell I.ok.kind hk hc z (fun h' hc' hs=>?_)
    obtain ⟨oc,hoc,hocd⟩:=id z
    refine h { s with heap:=h' } ⟨I.ok,I.os,I.bare,⟨fun b o e n hb hx=>?_,fun b o e n hb hx=>?_,I.base.free,fun b o e hx=>?_,I.base.mi,I.base.lL,I.base.me⟩,⟨m,hn.sameBut hs (Ne.symm (cne x c hc)),fun j y v' e1 e2 e3=>?_⟩,fun y c' e=>?_,I.free,I.ir,fun p hp=>?_,tracked ⟨oc,hoc,I.ir x c hc⟩ hs,by simpa using I.len⟩ ⟨c,hs,.inr hc⟩
    · exact (hs.2 b (Nat.ne_of_lt (Nat.lt_of_lt_of_le (Heap.lt_size e) (I.ok.cab x c hfn hc)))).trans (I.base.keep b o e n hb hx)
    · obtain ⟨sl,e1⟩:=I.base.slot b o e n hb hx
      exact ⟨sl,(hs.2 b (Nat.ne_of_lt (Nat.lt_of_lt_of_le (Heap.lt_size e) (I.ok.cab x c hfn hc)))).trans e1⟩
    · obtain ⟨o',e1⟩:=I.base.there b o e hx
      exact ⟨o',(hs.2 b (Nat.ne_of_lt (Nat.lt_of_lt_of_le (Heap.lt_size e) (I.ok.cab x c hfn hc)))).trans e1⟩
    · by_cases hj:j=i
      · subst hj
        rw[hi] at e1;cases e1
        rw[List.getElem?_set_self hiσ] at e2
        cases e2
        exact ⟨u,r,.inr ⟨.inl hk,c,hc,hc'⟩⟩
      · rw[List.getElem?_set_ne (Ne.symm hj)] at e2
        obtain ⟨u',r',q⟩:=hl j y v' e1 e2 e3
        refine ⟨u',r',?_⟩
        rcases q with q | ⟨k,c',e,z'⟩
        · exact .inl q
        · refine .inr ⟨k,c',e,z'.sameBut hs ?_⟩
          rintro rfl
          exact hj (yp hN e1 (I.ok.inj _ _ _ e hc ▸ hi))
    · by_cases hcc:c'=c
      · subst hcc;exact ⟨_,hc'⟩
      · obtain ⟨w2,z2⟩:=I.cell y c' e
        exact ⟨w2,z2.sameBut hs hcc⟩
    · obtain ⟨e,n,ne,nf,d⟩:=I.pin p hp
      refine ⟨(hs.2 p.1 ?_).trans e,n,ne,nf,d⟩
      intro q
      rw[q,hoc] at e
      have q':oc=p.2:=Option.some.inj e
      exact d w' (by rw[← q'];exact hocd)
theorem jA {M:Model}{A:Around}{E:Value→Shared→Prop}{i:Nat}{x:Str}{v:V}{u:Value}{Q:Unit→Shared→Prop}(I:Inv X pins σ H s)(hN:X.N.Nodup)(hi:X.N[i]? = some x)(hx:Loc X.env.scope x)(r:RelV v u)
    (h:∀ s',Inv X pins (σ.set i (some v)) H s'→Q () s') (hf:X.fn x=true∨X.env.scope.names.lookup x=some .local:=by first | exact .inl rfl | exact .inr rfl | assumption):wpAny M A (storeName X.env x u) Q E s:=
  Dd I hN hi hx r (fun s' I' _=>h s' I') hf
theorem Inv.xh {s':Shared}{ch:List Addr}(I:Inv X pins σ H s)(ho:s'.os=s.os)(u:Un (frs X.stack) ch H H' s.heap s'.heap)(hok:HOk X.prog X.w H' s'.heap)(hg:AllBare s'.gens)
    (hch:∀ b∈ch,(b∈X.ex∨X.s₀.heap.objs.size≤b)∧b≠X.env.locals∧(∀ x c,X.env.cells.lookup x=some c→c≠b)∧∀ p∈X.pn++pins,p.1≠b):Inv X pins σ H' s':=by
  obtain ⟨h',g',d',t',o'⟩:=s'
  have e:o'=s.os:=ho
  subst e
  exact I.call (g':=g') (t':=t') (d':=d') u hok hg hch
end
abbrev XK:=Value→Option Addr→Hp→Prop
abbrev St:=List (Option V)
abbrev VK:=V→Hp→Prop
abbrev TE:=St→Hp→VK→Prop
abbrev TT:=St→Hp→(Bool→Hp→Prop)→Prop
abbrev TA:=St→Hp→(List V→Hp→Prop)→Prop
structure Ends where
  nx:St→Hp→Prop
  rt:VK
  bk:St→Hp→Prop:=fun _ _=>False
  ct:St→Hp→Prop:=fun _ _=>False
abbrev TS:=Ends→St→Hp→Prop
def EP (X:Cx)(pins:List (Addr×Obj))(σ:St)(Q:VK)(u:Value)(s':Shared):Prop:=∃ v H',Inv X pins σ H' s'∧RelV v u∧Q v H'
def TP (X:Cx)(pins:List (Addr×Obj))(σ:St)(Q:Bool→Hp→Prop)(b:Bool)(s':Shared):Prop:=∃ H',Inv X pins σ H' s'∧Q b H'
def AP (X:Cx)(pins:List (Addr×Obj))(σ:St)(Q:List V→Hp→Prop)(us:List Value)(s':Shared):Prop:=∃ vs H',Inv X pins σ H' s'∧Vals vs us∧Q vs H'
def SP (X:Cx)(pins:List (Addr×Obj))(D:Ends)(f:Flow)(s':Shared):Prop:=
  match f with
  | .next=>∃ σ' H',Inv X pins σ' H' s'∧D.nx σ' H'
  | .brk=>∃ σ' H',Inv X pins σ' H' s'∧D.bk σ' H'
  | .cont=>∃ σ' H',Inv X pins σ' H' s'∧D.ct σ' H'
  | .ret u=>∃ v σ' H',Inv X pins σ' H' s'∧RelV v u∧D.rt v H'
def PE (X:Cx)(e:Expr)(t:TE):Prop:=
  ∀ (pins:List (Addr×Obj)) (s:Shared) (σ:St) (H:Hp) (Q:VK),Inv X pins σ H s→t σ H Q→wpAny (model X.prog X.w) X.A (eval e X.env) (EP X pins σ Q) X.xe s
def PT (X:Cx)(e:Expr)(t:TT):Prop:=
  ∀ (pins:List (Addr×Obj)) (s:Shared) (σ:St) (H:Hp) (Q:Bool→Hp→Prop),Inv X pins σ H s→t σ H Q→wpAny (model X.prog X.w) X.A (isTrue e X.env (eval e X.env)) (TP X pins σ Q) X.xe s
def PW (X:Cx)(e:Expr)(t:TT):Prop:=
  ∀ (whole:Sem Value) (pins:List (Addr×Obj)) (s:Shared) (σ:St) (H:Hp) (Q:Bool→Hp→Prop),Inv X pins σ H s→t σ H Q→wpAny (model X.prog X.w) X.A (isTrue e X.env whole) (TP X pins σ Q) X.xe s
theorem PW.pt {X:Cx}{e:Expr}{t:TT}(h:PW X e t):PT X e t:=h _
def PA (X:Cx)(es:List Expr)(t:TA):Prop:=
  ∀ (pos:Pos) (pins:List (Addr×Obj)) (s:Shared) (σ:St) (H:Hp) (Q:List V→Hp→Prop),Inv X pins σ H s→t σ H Q→wpAny (model X.prog X.w) X.A (spliced (backTo pos (starEach es X.env))) (AP X pins σ Q) X.xe s
def PS (X:Cx)(st:Stmt)(t:TS):Prop:=
  ∀ (pins:List (Addr×Obj)) (s:Shared) (σ:St) (H:Hp) (D:Ends),Inv X pins σ H s→t D σ H→wpAny (model X.prog X.w) X.A (exec st X.env) (SP X pins D) X.xe s
def PSs (X:Cx)(st:List Stmt)(t:TS):Prop:=
  ∀ (pins:List (Addr×Obj)) (s:Shared) (σ:St) (H:Hp) (D:Ends),Inv X pins σ H s→t D σ H→wpAny (model X.prog X.w) X.A (execs st X.env) (SP X pins D) X.xe s
theorem thn {α:Type}{t:Sem α}{Q Q':α→Shared→Prop}{M:Model}{A:Around}{E:Value→Shared→Prop}{s:Shared}(h:wpAny M A t Q E s)(hQ:∀ a s,Q a s→Q' a s):wpAny M A t Q' E s:=wpAny_mono h hQ fun _ _ x=>x
end L2
namespace L2
open PySem PySem.Spec PyProof.Rows
section
variable {X:Cx}
def QP (i:Nat):TE:=fun σ H Q=>∃ v,σ[i]? = some (some v)∧Q v H
def tC (v:V):TE:=fun _ H Q=>Q v H
theorem Hf {i:Nat}{x:Str}{pos:Pos}(hN:X.N[i]? = some x)(hv:Vis X.env.scope x)(hd:(x == ("__debug__" : Str))=false:=by decide)(hcd:(x == ("__classdict__" : Str))=false:=by decide):PE X (.Name x pos) (QP i):=by
  intro pins s σ H Q I h
  obtain ⟨v,e,h⟩:=h
  obtain ⟨m,hn,hl⟩:=I.loc
  obtain ⟨u,r,l⟩:=hl i x v hN e hv
  have fin:EP X pins σ Q u s:=⟨v,H,I,r,h⟩
  rcases l with ⟨hk,hm⟩ | ⟨hk,c,hc,hcell⟩
  · exact wpAny_Name (wpAny_loadName_local I.ok.kind hk hn hm fin) hd
  · rcases hk with hk | hk
    · exact wpAny_Name (wpAny_loadName_cell I.ok.kind hk hc hcell fin) hd
    · exact wpAny_Name (wpAny_loadName_free I.ok.kind hk hc hcell fin hcd) hd
theorem Oa {i j pos}:PE X (.Constant (.int i) j pos) (tC (.int i)):=fun _ _ _ H _ I h=>wpAny_Constant_int ⟨.int i,H,I.tok _,⟨_,rfl⟩,h⟩
theorem RZ {b j pos}:PE X (.Constant (.bool b) j pos) (tC (.bl b)):=fun _ _ _ H _ I h=>Constant_bool ⟨.bl b,H,I,rfl,h⟩
theorem Oi {j pos}:PE X (.Constant .none j pos) (tC .non):=fun _ _ _ H _ I h=>Constant_none ⟨.non,H,I,rfl,h⟩
theorem Es {x j pos}:PE X (.Constant (.str x) j pos) (tC (.str x)):=fun _ _ _ H _ I h=>Calls.Constant_str ⟨.str x,H,I.tok _,⟨_,rfl⟩,h⟩
def Gl (X:Cx)(x:Str):Prop:=X.env.kindOf x=some .globalImplicit
theorem Bi {E:Value→Shared→Prop}{pins:List (Addr×Obj)}{s:Shared}{σ:St}{H:Hp}{x:Str}{u:Value}{pos:Pos}{Q:Value→Shared→Prop}(I:Inv X pins σ H s)(hg:Gl X x)(hm:X.mg x=some u)(h:Q u s)
    (hd:(x == ("__debug__" : Str))=false:=by decide):wpAny (model X.prog X.w) X.A (eval (.Name x pos) X.env) Q E s:=
  Calls.Name_function_global I.ok.kind hg (Calls.loadGlobal_global (by rw[I.ok.glob];exact I.mod.glob.keeps I.bk) hm h) hd
theorem iC {E:Value→Shared→Prop}{pins:List (Addr×Obj)}{s:Shared}{σ:St}{H:Hp}{x:Str}{u:Value}{pos:Pos}{Q:Value→Shared→Prop}(I:Inv X pins σ H s)(hg:Gl X x)(hm:X.mg x=none)(hv:bootBuiltins x=some u)(h:Q u s)
    (hn:x ≠ "__name__" := by decide) (hd:(x == ("__debug__" : Str))=false:=by decide):wpAny (model X.prog X.w) X.A (eval (.Name x pos) X.env) Q E s:=by
  obtain ⟨mb,h1,h2⟩:=I.mod.blt
  exact Calls.Name_function_global I.ok.kind hg (Calls.loadGlobal_builtin (by rw[I.ok.glob];exact I.mod.glob.keeps I.bk) hm (by rw[I.ok.blt];exact h1.keeps I.bk) ((h2 x hn).trans hv) h) hd
theorem L0 {x:Str}{v:V}{u:Value}{pos:Pos}(hg:Gl X x)(hm:X.mg x=some u)(r:RelV v u)(hd:(x == ("__debug__" : Str))=false:=by decide):PE X (.Name x pos) (tC v):=
  fun _ _ _ H _ I h=>Bi I hg hm ⟨v,H,I,r,h⟩ hd
theorem BB {x:Str}{v:V}{u:Value}{pos:Pos}(hg:Gl X x)(hm:X.mg x=none)(hv:bootBuiltins x=some u)(r:RelV v u)(hn:x ≠ "__name__" := by decide)(hd:(x == ("__debug__" : Str))=false:=by decide):PE X (.Name x pos) (tC v):=
  fun _ _ _ H _ I h=>iC I hg hm hv ⟨v,H,I,r,h⟩ hn hd
variable {a b:Expr} {ta tb:TE} {pos:Pos}
def tB (t:TE):TT:=fun σ H Q=>t σ H fun x H1=>∃ c,x=.bl c∧Q c H1
theorem OG {e:Expr}{t:TE}(h:PE X e t)(he:∀ whole,isTrue e X.env whole=(do let v ← whole;standAt e.pos;holding [v] (truthy v)):=by intro _;rfl):PT X e (tB t):=by
  intro pins s σ H Q I hw
  refine isTrue_plain (thn (h pins s σ H _ I hw) fun v s1 ⟨x,H1,I1,r1,q1⟩=>?_) (he _)
  obtain ⟨d,rfl,q⟩:=q1
  cases r1
  exact wpAny_truthy_bool ⟨H1,I1,q⟩
variable {tA tB':TT} {rest:List Expr}
def Sx (t u:TT):TT:=fun σ H Q=>t σ H fun c H1=>if c=true then u σ H1 Q else Q false H1
def tOr (t u:TT):TT:=fun σ H Q=>t σ H fun c H1=>if c=true then Q true H1 else u σ H1 Q
def T4 (t:TT):TT:=fun σ H Q=>t σ H fun c H1=>Q (!c) H1
theorem pw_and1 (ha:PT X a tA):PW X (.BoolOp .And [a] pos) tA:=by
  intro wh pins s σ H Q I h
  refine isTrue_and (thn (ha pins s σ H Q I h) fun c s1 e=>?_)
  cases c with
  | true=>exact isTrue_and_nil e
  | false=>exact e
theorem pw_or1 (ha:PT X a tA):PW X (.BoolOp .Or [a] pos) tA:=by
  intro wh pins s σ H Q I h
  refine isTrue_or (thn (ha pins s σ H Q I h) fun c s1 e=>?_)
  cases c with
  | false=>exact isTrue_or_nil e
  | true=>exact e
theorem pw_and (ha:PT X a tA)(hb:PW X (.BoolOp .And (b::rest) pos) tB'):PW X (.BoolOp .And (a::b::rest) pos) (Sx tA tB'):=by
  intro wh pins s σ H Q I h
  refine isTrue_and (thn (ha pins s σ H _ I h) fun c s1 ⟨H1,I1,q1⟩=>?_)
  cases c with
  | true=>exact hb wh pins s1 σ H1 Q I1 q1
  | false=>exact ⟨H1,I1,q1⟩
theorem pw_or (ha:PT X a tA)(hb:PW X (.BoolOp .Or (b::rest) pos) tB'):PW X (.BoolOp .Or (a::b::rest) pos) (tOr tA tB'):=by
  intro wh pins s σ H Q I h
  refine isTrue_or (thn (ha pins s σ H _ I h) fun c s1 ⟨H1,I1,q1⟩=>?_)
  cases c with
  | true=>exact ⟨H1,I1,q1⟩
  | false=>exact hb wh pins s1 σ H1 Q I1 q1
theorem MR (ha:PT X a tA):PT X (.UnaryOp .Not a pos) (T4 tA):=by
  intro pins s σ H Q I h
  exact isTrue_not (ha pins s σ H (fun c H1=>Q (!c) H1) I h)
def Ry (ta tb:TE):TE:=fun σ H Q=>ta σ H fun x H1=>∃ c,x=.bl c∧if c=true then tb σ H1 Q else Q (.bl false) H1
def T7 (ta tb:TE):TE:=fun σ H Q=>ta σ H fun x H1=>∃ c,x=.bl c∧if c=true then Q (.bl true) H1 else tb σ H1 Q
def QJ (ta:TE):TE:=fun σ H Q=>ta σ H fun x H1=>∃ c,x=.bl c∧Q (.bl (!c)) H1
theorem O6 {op}{t:TE}(h:PE X a t):PE X (.BoolOp op [a] pos) t:=fun pins s σ H Q I hw=>BoolOp_one (h pins s σ H Q I hw)
theorem Nw (ha:PE X a ta)(hb:PE X (.BoolOp .And (b::rest) pos) tb):PE X (.BoolOp .And (a::b::rest) pos) (Ry ta tb):=by
  intro pins s σ H Q I h
  refine BoolOp_and (thn (ha pins s σ H _ I h) fun v s1 ⟨x,H1,I1,r1,q1⟩=>?_)
  obtain ⟨c,rfl,q1⟩:=q1
  cases r1
  refine wpAny_truthy_bool ?_
  cases c with
  | true=>exact hb pins s1 σ H1 Q I1 q1
  | false=>exact ⟨.bl false,H1,I1,rfl,q1⟩
theorem R0 (ha:PE X a ta)(hb:PE X (.BoolOp .Or (b::rest) pos) tb):PE X (.BoolOp .Or (a::b::rest) pos) (T7 ta tb):=by
  intro pins s σ H Q I h
  refine BoolOp_or (thn (ha pins s σ H _ I h) fun v s1 ⟨x,H1,I1,r1,q1⟩=>?_)
  obtain ⟨c,rfl,q1⟩:=q1
  cases r1
  refine wpAny_truthy_bool ?_
  cases c with
  | false=>exact hb pins s1 σ H1 Q I1 q1
  | true=>exact ⟨.bl true,H1,I1,rfl,q1⟩
theorem Ph (ha:PE X a ta):PE X (.UnaryOp .Not a pos) (QJ ta):=by
  intro pins s σ H Q I h
  refine UnaryOp_ (thn (ha pins s σ H _ I h) fun v s1 ⟨x,H1,I1,r1,q1⟩=>?_)
  obtain ⟨c,rfl,q1⟩:=q1
  cases r1
  exact not_of (wpAny_truthy_bool ⟨.bl (!c),H1,I1,rfl,q1⟩)
def tIf (t:TT)(ta tb:TE):TE:=fun σ H Q=>t σ H fun c H1=>if c=true then ta σ H1 Q else tb σ H1 Q
theorem Iu {c:Expr}(hc:PT X c tA)(ha:PE X a ta)(hb:PE X b tb):PE X (.IfExp c a b pos) (tIf tA ta tb):=by
  intro pins s σ H Q I h
  refine wpAny_IfExp (thn (hc pins s σ H _ I h) fun d s1 ⟨H1,I1,q1⟩=>?_)
  cases d with
  | true=>exact ha pins s1 σ H1 Q I1 q1
  | false=>exact hb pins s1 σ H1 Q I1 q1
end
end L2
namespace L2
open PySem PySem.Spec PyProof.Rows
def SqL (K:PySem.W.Frag)(H:Hp)(a:Addr)(xs:List V):Prop:=
  Rd H a (.lst xs)∨
    ∃ (o:Obj) (its:Array Value) (n:Nat),K.lookup a=some o∧o.cls=.type "list" ∧ o.dict=none∧o.data=.seq its n∧its.size≤sizeLine∧Vals xs its.toList
def SqT (K:PySem.W.Frag)(H:Hp)(a:Addr)(xs:List V):Prop:=
  Rd H a (.tup xs)∨
    ∃ (o:Obj) (its:Array Value) (n:Nat),K.lookup a=some o∧o.cls=.type "tuple" ∧ o.dict=none∧o.data=.seq its n∧its.size≤sizeLine∧Vals xs its.toList
def TL:Value→Option V
  | .none=>some .non
  | .bool b=>some (.bl b)
  | .int i _=>some (.int i)
  | .str x _=>some (.str x)
  | .bytes b _=>some (.byt b)
  | .float b _=>some (.flt b)
  | .ref a=>some (.ref a)
  | .type n=>some (.ty n)
  | _=>none
theorem RelV.abs {x:V}{u:Value}(r:RelV x u):TL u=some x:=by
  cases x with
  | non=>cases r;rfl
  | bl _=>cases r;rfl
  | int _=>obtain ⟨t,rfl⟩:=r;rfl
  | str _=>obtain ⟨t,rfl⟩:=r;rfl
  | byt _=>obtain ⟨t,rfl⟩:=r;rfl
  | flt _=>obtain ⟨t,rfl⟩:=r;rfl
  | ref _=>cases r;rfl
  | ty _=>cases r;rfl
theorem RelV.inj {x y:V}{u:Value}(r:RelV x u)(q:RelV y u):x=y:=Option.some.inj (r.abs.symm.trans q.abs)
theorem Vals.inj:∀ {xs ys:List V} {us:List Value},Vals xs us→Vals ys us→xs=ys
  | _,_,_,.nil,.nil=>rfl
  | _,_,_,.cons r t,.cons r' t'=>by rw[r.inj r',Vals.inj t t']
section
variable {X:Cx} {pins:List (Addr×Obj)} {σ:St} {H:Hp} {s:Shared} {a:Addr} {xs ys:List V}
theorem SqL.of {K:PySem.W.Frag}(h:H a=some (.lst xs)):SqL K H a xs:=.inl (.inl h)
theorem SqT.of {K:PySem.W.Frag}(h:H a=some (.tup xs)):SqT K H a xs:=.inl (.inl h)
theorem Inv.list (I:Inv X pins σ H s)(h:SqL X.K H a xs):∃ its:List Value,Vals xs its∧PlainL s.heap a its.toArray∧xs.length≤sizeLine:=by
  rcases h with h | ⟨o,its,n,hk,hc,hd,hs,hz,r⟩
  · obtain ⟨z,its,n,r,e⟩:=h.ok I.hok
    exact ⟨its,r,⟨_,n,e,rfl,rfl,rfl⟩,z⟩
  · refine ⟨its.toList,r,⟨o,n,I.kIn a o hk,hc,hd,by simpa using hs⟩,?_⟩
    have e:=r.length
    simp only[Array.length_toList] at e
    omega
theorem Inv.tuple (I:Inv X pins σ H s)(h:SqT X.K H a xs):∃ its:List Value,Vals xs its∧IsTup s.heap a its.toArray∧xs.length≤sizeLine:=by
  rcases h with h | ⟨o,its,n,hk,hc,hdn,hs,hz,r⟩
  · obtain ⟨z,its,r,p⟩:=h.ok I.hok
    exact ⟨its,r,p.tup,z⟩
  · refine ⟨its.toList,r,⟨o,I.kIn a o hk,hc,n,by simpa using hs⟩,?_⟩
    have e:=r.length
    simp only[Array.length_toList] at e
    omega
theorem Inv.xN (I:Inv X pins σ H s)(h:SqL X.K H a xs)(h':SqL X.K H a ys):xs=ys:=by
  obtain ⟨its,r,⟨o,n,e,_,_,d⟩,_⟩:=I.list h
  obtain ⟨its',r',⟨o',n',e',_,_,d'⟩,_⟩:=I.list h'
  rw[e] at e';cases e'
  rw[d] at d'
  injection d' with d1 _
  have:its=its':=by simpa using congrArg Array.toList d1
  subst this
  exact r.inj r'
theorem Inv.sI (I:Inv X pins σ H s)(h:SqT X.K H a xs)(h':SqT X.K H a ys):xs=ys:=by
  obtain ⟨its,r,⟨o,e,_,n,d⟩,_⟩:=I.tuple h
  obtain ⟨its',r',⟨o',e',_,n',d'⟩,_⟩:=I.tuple h'
  rw[e] at e';cases e'
  rw[d] at d'
  injection d' with d1 _
  have:its=its':=by simpa using congrArg Array.toList d1
  subst this
  exact r.inj r'
end
abbrev Cx.nU (X:Cx)(E:Value→Shared→Prop):Cx:={ X with xe:=E }
abbrev Cx.nox (X:Cx):Cx:=X.nU fun _ _=>False
theorem Cx.Ok.nU {X:Cx}(ok:X.Ok)(E:Value→Shared→Prop):(X.nU E).Ok:=
  ⟨ok.mod,ok.kind,ok.glob,ok.blt,ok.above,ok.inj,ok.has,ok.cab,ok.hd,ok.frames,ok.stk,ok.exf,ok.bs,ok.bsz,ok.zl,ok.zI,ok.oi,ok.frf⟩
theorem Cx.Ok.gU {X:Cx}{E:Value→Shared→Prop}(ok:(X.nU E).Ok):X.Ok:=
  ⟨ok.mod,ok.kind,ok.glob,ok.blt,ok.above,ok.inj,ok.has,ok.cab,ok.hd,ok.frames,ok.stk,ok.exf,ok.bs,ok.bsz,ok.zl,ok.zI,ok.oi,ok.frf⟩
section
variable {X:Cx} {pins:List (Addr×Obj)} {σ:St} {H:Hp} {s:Shared} {E:Value→Shared→Prop}
theorem Inv.nU (I:Inv X pins σ H s)(E:Value→Shared→Prop):Inv (X.nU E) pins σ H s:=⟨I.ok.nU E,I.os,I.bare,I.base,I.loc,I.cell,I.free,I.ir,I.pin,I.hok,I.len⟩
theorem Inv.gU (I:Inv (X.nU E) pins σ H s):Inv X pins σ H s:=⟨I.ok.gU,I.os,I.bare,I.base,I.loc,I.cell,I.free,I.ir,I.pin,I.hok,I.len⟩
theorem SP.gU {D:Ends}{f:Flow}{s':Shared}(h:SP (X.nU E) pins D f s'):SP X pins D f s':=by
  cases f with
  | next=>obtain ⟨σ',H',I,q⟩:=h;exact ⟨σ',H',I.gU,q⟩
  | brk=>obtain ⟨σ',H',I,q⟩:=h;exact ⟨σ',H',I.gU,q⟩
  | cont=>obtain ⟨σ',H',I,q⟩:=h;exact ⟨σ',H',I.gU,q⟩
  | ret u=>obtain ⟨v,σ',H',I,r,q⟩:=h;exact ⟨v,σ',H',I.gU,r,q⟩
theorem PE.nox {e:Expr}{t:TE}(h:PE X.nox e t):PE X e t:=fun pins s σ H Q I hw=>
  wpAny_mono (h pins s σ H Q (I.nU _) hw) (fun _ _ ⟨v,H',I',r,q⟩=>⟨v,H',I'.gU,r,q⟩) fun _ _ z=>False.elim z
theorem PT.nox {e:Expr}{t:TT}(h:PT X.nox e t):PT X e t:=fun pins s σ H Q I hw=>
  wpAny_mono (h pins s σ H Q (I.nU _) hw) (fun _ _ ⟨H',I',q⟩=>⟨H',I'.gU,q⟩) fun _ _ z=>False.elim z
theorem PSs.nox {st:List Stmt}{t:TS}(h:PSs X.nox st t):PSs X st t:=fun pins s σ H D I hw=>
  wpAny_mono (h pins s σ H D (I.nU _) hw) (fun _ _ q=>q.gU) fun _ _ z=>False.elim z
end
section
variable {X:Cx} {st:Stmt} {rest:List Stmt} {t u:TS} {e:Expr} {te:TE} {pos:Pos}
def Q7:TS:=fun D σ H=>D.nx σ H
def SF (t u:TS):TS:=fun D σ H=>t { D with nx:=u D } σ H
theorem Jk:PSs X [] Q7:=fun _ _ σ H _ I h=>wpAny_execs_nil ⟨σ,H,I,h⟩
theorem GC (h1:PS X st t)(h2:PSs X rest u):PSs X (st::rest) (SF t u):=by
  intro pins s σ H D I h
  refine wpAny_execs_cons (thn (h1 pins s σ H { D with nx:=u D } I h) fun f s1 q=>?_)
  cases f with
  | next=>
    obtain ⟨σ',H',I',q⟩:=q
    exact h2 pins s1 σ' H' D I' q
  | ret v=>exact q
  | brk=>exact q
  | cont=>exact q
theorem K1 (h1:PS X st t):PSs X [st] t:=by
  intro pins s σ H D I h
  refine wpAny_execs_cons (thn (h1 pins s σ H D I h) fun f s1 q=>?_)
  cases f with
  | next=>exact wpAny_execs_nil q
  | ret v=>exact q
  | brk=>exact q
  | cont=>exact q
theorem Inv.quiet {pins:List (Addr×Obj)}{σ:St}{H:Hp}{s:Shared}(I:Inv X pins σ H s):interactive X.env=false:=by simp[interactive,I.ok.kind]
def RR (te:TE):TS:=fun D σ H=>te σ H fun _ H1=>D.nx σ H1
theorem IV (he:PE X e te)(hs:swapsWith e none pos.line X.env=pure false:=by rfl):PS X (.Expr e pos) (RR te):=by
  intro pins s σ H D I h
  exact wpAny_Expr_any (thn (he pins s σ H _ I h) fun v s1 ⟨x,H1,I1,r1,q1⟩=>⟨σ,H1,I1,q1⟩) I.quiet hs
def Su (te:TE):TS:=fun D σ H=>te σ H D.rt
theorem Nz (he:PE X e te):PS X (.Return (some e) pos) (Su te):=by
  intro pins s σ H D I h
  exact wpAny_Return_some (thn (he pins s σ H _ I h) fun v s1 ⟨x,H1,I1,r1,q1⟩=>⟨x,σ,H1,I1,r1,q1⟩)
def SY (c:TT)(t u:TS):TS:=fun D σ H=>c σ H fun b H1=>if b=true then t D σ H1 else u D σ H1
theorem Qm {c:Expr}{a b:List Stmt}{tc:TT}(hc:PT X c tc)(ha:PSs X a t)(hb:PSs X b u):PS X (.If c a b pos) (SY tc t u):=by
  intro pins s σ H D I h
  refine wpAny_If (thn (hc pins s σ H _ I h) fun d s1 ⟨H1,I1,q1⟩=>?_)
  cases d with
  | true=>exact ha pins s1 σ H1 D I1 q1
  | false=>exact hb pins s1 σ H1 D I1 q1
end
abbrev TG:=V→St→Hp→(St→Hp→Prop)→Prop
abbrev TGs:=List V→St→Hp→(St→Hp→Prop)→Prop
def PG (X:Cx)(target:Expr)(t:TG):Prop:=
  ∀ (pins:List (Addr×Obj)) (s:Shared) (σ:St) (H:Hp) (v:V) (u:Value) (Q:St→Hp→Prop),Inv X pins σ H s→RelV v u→t v σ H Q→
    wpAny (model X.prog X.w) X.A (assign target X.env u) (fun _ s'=>∃ σ' H',Inv X pins σ' H' s'∧Q σ' H') X.xe s
def PGs (X:Cx)(ts:List Expr)(t:TGs):Prop:=
  ∀ (pins:List (Addr×Obj)) (s:Shared) (σ:St) (H:Hp) (vs:List V) (us:List Value) (Q:St→Hp→Prop),Inv X pins σ H s→Vals vs us→t vs σ H Q→
    wpAny (model X.prog X.w) X.A (assignInOrder ((assignEach ts X.env).map (·.2)) us) (fun _ s'=>∃ σ' H',Inv X pins σ' H' s'∧Q σ' H') X.xe s
abbrev TIp:=V→V→Hp→VK→Prop
def PIp (X:Cx)(op:Operator)(t:TIp):Prop:=
  ∀ (pins:List (Addr×Obj)) (s:Shared) (σ:St) (H:Hp) (x y:V) (v u:Value) (Q:VK),Inv X pins σ H s→RelV x v→RelV y u→t x y H Q→
    wpAny (model X.prog X.w) X.A (inplaceOp op v u) (EP X pins σ Q) X.xe s
section
variable {X:Cx} {pos:Pos}
def lK (i:Nat):TG:=fun v σ H Q=>Q (σ.set i (some v)) H
theorem iz {i:Nat}{x:Str}(hN:X.N.Nodup)(hi:X.N[i]? = some x)(hx:Loc X.env.scope x)(hf:X.fn x=true∨X.env.scope.names.lookup x=some .local:=by first | exact .inl rfl | exact .inr rfl | assumption):PG X (.Name x pos) (lK i):=by
  intro pins s σ H v u Q I r h
  exact wpAny_assign_Name (jA I hN hi hx r (fun s' I'=>⟨_,H,I',h⟩) hf)
def Tq:TGs:=fun vs σ H Q=>vs=[]∧Q σ H
def QO (t:TG)(u:TGs):TGs:=fun vs σ H Q=>∃ v r,vs=v::r∧t v σ H fun σ' H'=>u r σ' H' Q
theorem Ca:PGs X [] Tq:=by
  intro pins s σ H vs us Q I r h
  obtain ⟨e,h⟩:=h
  subst e
  cases r
  exact assignInOrder_nil ⟨σ,H,I,h⟩
theorem vK {e:Expr}{es:List Expr}{t:TG}{u:TGs}(h1:PG X e t)(h2:PGs X es u)
    (hs:(assignEach (e::es) X.env).map (·.2)=assign e X.env::(assignEach es X.env).map (·.2):=by rfl):PGs X (e::es) (QO t u):=by
  intro pins s σ H vs us Q I r h
  obtain ⟨v,vr,e1,h⟩:=h
  subst e1
  cases r with
  | cons r rr=>
    rw[hs]
    refine assignInOrder_cons (thn (h1 pins s σ H _ _ _ I r h) fun _ s1 ⟨σ1,H1,I1,q1⟩=>?_)
    exact h2 pins s1 σ1 H1 _ _ Q I1 rr q1
def SG (K:PySem.W.Frag)(n:Nat)(t:TGs):TG:=fun v σ H Q=>∃ a xs,v=.ref a∧SqT K H a xs∧xs.length=n∧t xs σ H Q
theorem HE {es:List Expr}{k:Nat}{t:TGs}{n:Nat}(hc:X.calm=true)(h:PGs X es t)
    (hn:(assignEach es X.env).length=n:=by rfl) (hst:(assignEach es X.env).findIdx? (·.1)=none:=by rfl):PG X (.Tuple es k pos) (SG X.K n t):=by
  intro pins s σ H v u Q I r hw
  obtain ⟨a,xs,e1,hq,hl,hw⟩:=hw
  subst e1
  cases r
  obtain ⟨its,rv,ht,hz⟩:=I.tuple hq
  refine assign_Tuple_tuple (I.ok.hd hc) ht (by simp[hn,← hl,rv.length]) hst fun h' hx=>?_
  have I1:Inv X pins σ H { s with heap:=h' }:=I.kept (t':=s.toks) fun b o e=>hx b o (Nat.ne_of_lt (Heap.lt_size e)) e
  exact h pins _ σ H xs _ Q I1 (by simpa using rv) hw
def Ls (te:TE)(g:TG):TS:=fun D σ H=>te σ H fun x H1=>g x σ H1 D.nx
theorem Ny {tg e:Expr}{te:TE}{g:TG}(he:PE X e te)(hg:PG X tg g)(hs:swapsWithSole [tg] e pos.line X.env=pure false:=by rfl)(hw:swappedStores [tg] e X.env=pure none:=by rfl)
    (h1:(assignEach [tg] X.env).map (·.2)=[assign tg X.env]:=by rfl):PS X (.Assign [tg] e pos) (Ls te g):=by
  intro pins s σ H D I h
  refine wpAny_Assign_stores (thn (he pins s σ H _ I h) fun v s1 ⟨x,H1,I1,r1,q1⟩=>?_) hs hw
  rw[h1]
  exact thn (hg pins s1 σ H1 x v _ I1 r1 q1) fun _ s2 q=>q
theorem ON {i:Nat}{x:Str}{e:Expr}{te:TE}{pos':Pos}(hN:X.N.Nodup)(hi:X.N[i]? = some x)(hx:Loc X.env.scope x)(he:PE X e te)(hs:swapsWith e (some (.Name x pos')) pos.line X.env=pure false:=by rfl)(hf:X.fn x=true∨X.env.scope.names.lookup x=some .local:=by first | exact .inl rfl | exact .inr rfl | assumption) :
    PS X (.Assign [.Name x pos'] e pos) (Ls te (lK i)):=by
  intro pins s σ H D I h
  refine wpAny_Assign_Name (thn (he pins s σ H _ I h) fun v s1 ⟨y,H1,I1,r1,q1⟩=>?_) hs
  exact jA I1 hN hi hx r1 (fun s2 I2=>⟨_,H1,I2,q1⟩) hf
def Sr (i j:Nat)(ta:TA):TS:=fun D σ H=>ta σ H fun vs H1=>∃ v w,vs=[v,w]∧D.nx ((σ.set i (some v)).set j (some w)) H1
theorem Nh {i j:Nat}{x y:Str}{a b:Expr}{ta:TA}{px py pt:Pos}{kt k2 pt2}(hc:X.calm=true)(hN:X.N.Nodup)(hi:X.N[i]? = some x)(hj:X.N[j]? = some y)(hij:i≠j)
    (hx:X.env.scope.names.lookup x=some .local) (hy:X.env.scope.names.lookup y=some .local) (ha:PA X [a,b] ta)
    (hw:swappedStores [.Tuple [.Name x px,.Name y py] kt pt] (.Tuple [a,b] k2 pt2) X.env=pure (some [x,y]))
    (hs:swapsWithSole [.Tuple [.Name x px,.Name y py] kt pt] (.Tuple [a,b] k2 pt2) pos.line X.env=pure false:=by rfl) :
    PS X (.Assign [.Tuple [.Name x px,.Name y py] kt pt] (.Tuple [a,b] k2 pt2) pos) (Sr i j ta):=by
  intro pins s σ H D I h
  rw[exec_Assign_arm]
  refine wpAny_bind (wpAny_standAt ?_)
  rw[hs]
  refine wpAny_bind (wpAny_pure ?_)
  rw[if_neg (by decide)]
  refine wpAny_bind (Tuple_ (thn (ha _ pins s σ H _ I h) fun us s1 ⟨vs,H1,I1,r1,q1⟩=>?_))
  obtain ⟨v,w,e1,q1⟩:=q1
  subst e1
  obtain ⟨u1,u2,rfl,rv,rw'⟩:∃ u1 u2,us=[u1,u2]∧RelV v u1∧RelV w u2:=by
    cases r1 with
    | cons p q=>
      cases q with
      | cons p' q'=>
        cases q'
        exact ⟨_,_,rfl,p,p'⟩
  refine wpAny_newObj_type ?_ (by show 2≤sizeLine;decide)
  have I2:Inv X pins σ H1 { s1 with heap:=s1.heap.push { cls:=.type "tuple", data:=.seq [u1,u2].toArray } }:=I1.kept (t':=s1.toks) fun b o e=>Heap.get?_push_of_some _ e
  rw[hw]
  refine wpAny_bind (wpAny_pure ?_)
  show wpAny (model X.prog X.w) X.A (do rule "assign.swapped-stores";let items ← unpackItems (.ref s1.heap.objs.size) 2 none;assignInOrder [fun v=>bindName X.env y v,fun v=>bindName X.env x v] items.reverse;pure Flow.next) _ _ _
  refine wpAny_bind (wpAny_rule (wpAny_bind (unpackItems_tuple (items:=#[u1,u2]) (I.ok.hd hc) (IsTup.new s1.heap _) fun h' hx'=>?_)))
  have I3:=I2.kept (h':=h') (t':=s1.toks) fun b o e=>hx' b o (Nat.ne_of_lt (Heap.lt_size e)) e
  show wpAny _ _ (assignInOrder [fun v=>bindName X.env y v,fun v=>bindName X.env x v] [u2,u1] >>= fun _=>pure Flow.next) _ _ _
  refine wpAny_bind (assignInOrder_cons (wpAny_bindName (jA I3 hN hj (.inl hy) rw' (fun s2 I4=>?_) (.inr hy))))
  refine assignInOrder_cons (wpAny_bindName (jA I4 hN hi (.inl hx) rv (fun s3 I5=>assignInOrder_nil (wpAny_pure ?_)) (.inr hx)))
  rw[List.set_comm _ _ (Ne.symm hij)] at I5
  exact ⟨_,H1,I5,q1⟩
def QW (i:Nat)(te:TE)(ti:TIp):TS:=fun D σ H=>∃ x,σ[i]? = some (some x)∧te σ H fun y H1=>ti x y H1 fun z H2=>D.nx (σ.set i (some z)) H2
theorem Px {i:Nat}{x:Str}{e:Expr}{te:TE}{op:Operator}{ti:TIp}{pos':Pos}(hN:X.N.Nodup)(hi:X.N[i]? = some x)(hx:Loc X.env.scope x)(he:PE X e te)(ho:PIp X op ti)(hf:X.fn x=true∨X.env.scope.names.lookup x=some .local:=by first | exact .inl rfl | exact .inr rfl | assumption) :
    PS X (.AugAssign (.Name x pos') op e pos) (QW i te ti):=by
  intro pins s σ H D I h
  obtain ⟨v,e1,h⟩:=h
  obtain ⟨m,hn,hl⟩:=I.loc
  have vis:Vis X.env.scope x:=by rcases hx with k | k;exact .inl k;exact .inr (.inl k)
  obtain ⟨u,r,l⟩:=hl i x v hi e1 vis
  refine wpAny_AugAssign_Name ?_
  have go:wpAny (model X.prog X.w) X.A (eval e X.env) (fun w s₂=>wpAny (model X.prog X.w) X.A (inplaceOp op u w) (fun r s₃=>wpAny (model X.prog X.w) X.A (storeName X.env x r) (fun _=>SP X pins D .next) X.xe s₃) X.xe s₂) X.xe s:=by
    refine thn (he pins s σ H _ I h) fun w s1 ⟨y,H1,I1,r1,q1⟩=>?_
    refine thn (ho pins s1 σ H1 v y u w _ I1 r r1 q1) fun z s2 ⟨zv,H2,I2,r2,q2⟩=>?_
    exact jA I2 hN hi hx r2 (fun s3 I3=>⟨_,H2,I3,q2⟩) hf
  rcases l with ⟨hk,hm⟩ | ⟨hk,c,hc,hcell⟩
  · exact wpAny_loadName_local I.ok.kind hk hn hm go
  · rcases hk with hk | hk
    · exact wpAny_loadName_cell I.ok.kind hk hc hcell go
    · rcases hx with k | k
      · have:X.env.scope.names.lookup x=some .free:=hk
        rw[k] at this;cases this
      · have:X.env.scope.names.lookup x=some .free:=hk
        rw[k] at this;cases this
def ipI (f:Int→Int→Int):TIp:=fun x y H Q=>∃ i j,x=.int i∧y=.int j∧Q (.int (f i j)) H
theorem Ov:PIp X .Add (ipI fun i j=>i+j):=by
  intro pins s σ H x y v u Q I r1 r2 h
  obtain ⟨i,j,e1,e2,q⟩:=h
  subst e1;subst e2
  obtain ⟨t,rfl⟩:=r1
  obtain ⟨t',rfl⟩:=r2
  exact iadd_int ⟨.int _,H,I.tok _,⟨_,rfl⟩,q⟩
end
section
variable {X:Cx} {pos:Pos}
def Pz (c:TT)(tb:TS):TS:=fun D σ H=>∃ W:Nat→St→Hp→Prop,(∃ m,W m σ H)∧∀ m σ H,W m σ H→
  c σ H fun b H1=>if b=true then ∃ N:St→Hp→Prop,(∀ σ' H',N σ' H'→∃ m',m' < m∧W m' σ' H')∧tb { D with nx:=N,ct:=N,bk:=D.nx } σ H1 else D.nx σ H1
theorem EF {c:Expr}{body:List Stmt}{tc:TT}{tb:TS}(hp:PassesOwn (model X.prog X.w) X.A X.env X.xe)(hc:PT X c tc)(hb:PSs X body tb):PS X (.While c body [] pos) (Pz tc tb):=by
  intro pins s σ H D I h
  obtain ⟨W,⟨m0,w0⟩,turn⟩:=h
  refine wpAny_While (codeAny_whileLoop (fun n s'=>∃ σ' H',Inv X pins σ' H' s'∧W n σ' H') ?_ m0 ⟨σ,H,I,w0⟩)
  rintro n s1 ⟨σ1,H1,I1,w1⟩
  refine wpAny_passesOwn hp (thn (hc pins s1 σ1 H1 _ I1 (turn n σ1 H1 w1)) fun b s2 ⟨H2,I2,q2⟩=>?_)
  cases b with
  | true=>
    obtain ⟨N,hN,q2⟩:=q2
    rw[if_pos rfl]
    refine wpAny_passesOwn hp (thn (hb pins s2 σ1 H2 _ I2 q2) fun f s3 q3=>?_)
    cases f with
    | next=>
      obtain ⟨σ3,H3,I3,n3⟩:=q3
      obtain ⟨m',hm,w3⟩:=hN σ3 H3 n3
      exact ⟨m',hm,σ3,H3,I3,w3⟩
    | cont=>
      obtain ⟨σ3,H3,I3,n3⟩:=q3
      obtain ⟨m',hm,w3⟩:=hN σ3 H3 n3
      exact ⟨m',hm,σ3,H3,I3,w3⟩
    | brk=>exact q3
    | ret v=>exact q3
  | false=>
    rw[if_neg Bool.false_ne_true]
    exact wpAny_execs_nil ⟨σ1,H2,I2,q2⟩
end
structure It where
  go:Nat→Hp→Prop
  yld:Nat→Hp→V→Hp→Prop
  stop:Nat→Hp→Prop
def lE (X:Cx)(pins:List (Addr×Obj))(H:Hp)(b:Addr):Prop:=
  H b=none∧b≠X.env.locals∧b ∉ X.fs∧(b∈X.ex∨X.s₀.heap.objs.size≤b)∧(∀ x c,X.env.cells.lookup x=some c→c≠b)∧∀ p∈X.pn++pins,p.1≠b
theorem Inv.zH {X:Cx}{pins:List (Addr×Obj)}{σ:St}{H H':Hp}{s:Shared}{b:Addr}(I:Inv X pins σ H s)(hb:s.heap.objs.size≤b)(hn:H' b=none):lE X pins H' b:=by
  refine ⟨hn,Nat.ne_of_gt (Nat.lt_of_lt_of_le I.lt hb),I.Sb hb,.inr (Nat.le_trans I.sz hb),fun x c e z=>?_,fun p hp z=>?_⟩
  · obtain ⟨v,q⟩:=I.cell x c e
    exact absurd (Nat.lt_of_lt_of_le q.lt (by rw[z];exact hb)) (Nat.lt_irrefl _)
  · exact absurd (Nat.lt_of_lt_of_le (Heap.lt_size (I.pin p hp).1) (by rw[z];exact hb)) (Nat.lt_irrefl _)
structure Turn (P:Program) (w:World) (K:PySem.W.Frag) (tg:Expr) (J:It) (fp:List Addr) (it:Addr) (tn:Nat→Heap→Prop):Prop where
  mem:it∈fp
  obj:∀ i h,tn i h→∀ b∈fp,∃ o,h.get? b=some o∧∀ v,o.data≠.cell v
  keep:∀ i h h',tn i h→(∀ b∈fp,∀ o,h.get? b=some o→h'.get? b=some o)→tn i h'
  item:∀ (X:Cx),X.prog=P→X.w=w→X.K=K→X.calm=true→∀ (i:Nat) (pins:List (Addr×Obj)) (s:Shared) (σ:St) (H:Hp) (E:Value→Shared→Prop),Inv X pins σ H s→(∀ b∈fp,lE X pins H b)→tn i s.heap→J.go i H→
    wpAny (model P w) X.A (pyNext (.ref it)) (fun r s1=>∃ u,r=some u∧
      wpAny (model P w) X.A (letOwnedTupleGo tg (.ref it) u) (fun _ s2=>∃ x H',Inv X pins σ H' s2∧RelV x u∧J.yld i H x H'∧tn (i+1) s2.heap∧∀ b∈fp,H' b=none) E s1) E s
  done:∀ (X:Cx),X.prog=P→X.w=w→X.K=K→X.calm=true→∀ (i:Nat) (pins:List (Addr×Obj)) (s:Shared) (σ:St) (H:Hp) (E:Value→Shared→Prop),Inv X pins σ H s→(∀ b∈fp,lE X pins H b)→tn i s.heap→J.stop i H→
    wpAny (model P w) X.A (pyNext (.ref it)) (fun r s1=>r=none∧Inv X pins σ H s1) E s
  self:∀ (A:Around) (i:Nat) (s:Shared) (Q:Value→Shared→Prop) (E:Value→Shared→Prop),tn i s.heap→Q (.ref it) s→wpAny (model P w) A (pyIter (.ref it)) Q E s
abbrev TI:=St→Hp→(It→Hp→Prop)→Prop
def PIE (X:Cx)(pins:List (Addr×Obj))(σ:St)(tg:Expr)(R:It→Hp→Prop)(itv:Value)(s2:Shared):Prop:=
  ∃ (it:Addr) (fp:List Addr) (tn:Nat→Heap→Prop) (J:It) (H':Hp),itv=.ref it∧Inv X pins σ H' s2∧Turn X.prog X.w X.K tg J fp it tn∧tn 0 s2.heap∧(∀ b∈fp,lE X pins H' b)∧R J H'
def PI (X:Cx)(tg iter:Expr)(wi:TI):Prop:=
  ∀ (pins:List (Addr×Obj)) (s:Shared) (σ:St) (H:Hp) (R:It→Hp→Prop),Inv X pins σ H s→wi σ H R→
    wpAny (model X.prog X.w) X.A (eval iter X.env) (fun v s1=>wpAny (model X.prog X.w) X.A (pyIter v) (PIE X pins σ tg R) X.xe s1) X.xe s
theorem E7 {M:Model}{A:Around}{E:Value→Shared→Prop}{s:Shared}{tg:Expr}{it:Addr}{u:Value}{o:Obj}{n:String}{vs:Array Value}{Q:Unit→Shared→Prop}(ho:s.heap.get? it=some o)(hc:o.cls=.type n)(hd:o.data=.fields vs)
    (hn:["enumerate", "zip", "dict_itemiterator", "dict_reverseitemiterator", "odict_iterator", "itertools.zip_longest", "itertools.pairwise"].contains n=false) (hQ:Q () s):wpAny M A (letOwnedTupleGo tg (.ref it) u) Q E s:=by
  unfold letOwnedTupleGo
  cases tg<;>first
    | exact wpAny_pure hQ
    | (cases u<;>first
        | exact wpAny_pure hQ
        | (refine wpAny_bind (wpAny_load ho ?_)
           rw[hc,hd]
           show wpAny M A (if (["enumerate", "zip", "dict_itemiterator", "dict_reverseitemiterator", "odict_iterator", "itertools.zip_longest", "itertools.pairwise"].contains n&&vs[0]? == some (rawInt _))=true then _ else _) Q E s
           rw[if_neg (by intro h;rw[hn,Bool.false_and] at h;cases h)]
           exact wpAny_pure hQ))
def Itl (K:PySem.W.Frag)(a:Addr):It:=
  ⟨fun i H=>∃ xs x,SqL K H a xs∧xs[i]? = some x,fun i H x H'=>H'=H∧∀ xs,SqL K H a xs→xs[i]? = some x,fun i H=>∃ xs,SqL K H a xs∧xs.length≤i⟩
def Itt (K:PySem.W.Frag)(a:Addr):It:=
  ⟨fun i H=>∃ xs x,SqT K H a xs∧xs[i]? = some x,fun i H x H'=>H'=H∧∀ xs,SqT K H a xs→xs[i]? = some x,fun i H=>∃ xs,SqT K H a xs∧xs.length≤i⟩
def Itr (lo:Int)(n:Nat):It:=⟨fun i _=>i < n,fun i H x H'=>H'=H∧x=.int (lo+i),fun i _=>n≤i⟩
theorem tm {P:Program}{w:World}{K:PySem.W.Frag}{tg:Expr}(a it:Addr):Turn P w K tg (Itl K a) [it] it (fun i h=>h.IsListIter it a i) where
  mem:=by simp
  obj:=fun i h st b hb=>by
    have e:b=it:=by simpa using hb
    subst e
    obtain ⟨o,e,c,d⟩:=st
    exact ⟨o,e,fun v z=>by rw[d] at z;cases z⟩
  keep:=fun i h h' st k=>st.at fun o e=>k it (by simp) o e
  item:=by
    intro X hP hw hK hc i pins s σ H E I hf st hg
    subst hP hw hK
    obtain ⟨xs,x,hq,hx⟩:=hg
    obtain ⟨its,rv,p,hz⟩:=I.list hq
    obtain ⟨u,hu,ru⟩:=rv.get hx
    obtain ⟨f0,f1,f2,f3,f4,f5⟩:=hf it (by simp)
    refine wpAny_pyNext_list_item st p.isList (x:=u) (by simpa using hu) fun h' st' sb=>?_
    have I1:Inv X pins σ H { s with heap:=h' }:=I.turned (t':=s.toks) (fun b o hb e=>(sb.2 b hb).trans e) f0 f1 f3 f4 f5
    obtain ⟨o,e,c,d⟩:=id st'
    exact ⟨u,rfl,E7 (s:={ s with heap:=h' }) e c d (by decide) ⟨x,H,I1,ru,⟨rfl,fun ys hy=>by rw[I.xN hy hq];exact hx⟩,st',fun b hb=>(hf b hb).1⟩⟩
  done:=by
    intro X hP hw hK hc i pins s σ H E I hf st hg
    subst hP hw hK
    obtain ⟨xs,hq,hx⟩:=hg
    obtain ⟨its,rv,p,hz⟩:=I.list hq
    obtain ⟨f0,f1,f2,f3,f4,f5⟩:=hf it (by simp)
    have hl:=rv.length
    exact wpAny_pyNext_list_end (I.ok.hd hc) st p.isList (by simp;omega) fun h' eb=>⟨rfl,I.turned (t':=s.toks) (fun b o hb e=>eb b o hb e) f0 f1 f3 f4 f5⟩
  self:=fun _ _ _ _ _ st h=>wpAny_pyIter_listiter st h
theorem AZ {P:Program}{w:World}{K:PySem.W.Frag}{tg:Expr}(a it:Addr):Turn P w K tg (Itt K a) [it] it (fun i h=>h.IsTupleIter it a i) where
  mem:=by simp
  obj:=fun i h st b hb=>by
    have e:b=it:=by simpa using hb
    subst e
    obtain ⟨o,e,c,d⟩:=st
    exact ⟨o,e,fun v z=>by rw[d] at z;cases z⟩
  keep:=fun i h h' st k=>st.at fun o e=>k it (by simp) o e
  item:=by
    intro X hP hw hK hc i pins s σ H E I hf st hg
    subst hP hw hK
    obtain ⟨xs,x,hq,hx⟩:=hg
    obtain ⟨its,rv,p,hz⟩:=I.tuple hq
    obtain ⟨u,hu,ru⟩:=rv.get hx
    obtain ⟨f0,f1,f2,f3,f4,f5⟩:=hf it (by simp)
    refine wpAny_pyNext_tuple_item st (show s.heap.IsTuple a its.toArray from p) (x:=u) (by simpa using hu) fun h' st' sb=>?_
    have I1:Inv X pins σ H { s with heap:=h' }:=I.turned (t':=s.toks) (fun b o hb e=>(sb.2 b hb).trans e) f0 f1 f3 f4 f5
    obtain ⟨o,e,c,d⟩:=id st'
    exact ⟨u,rfl,E7 (s:={ s with heap:=h' }) e c d (by decide) ⟨x,H,I1,ru,⟨rfl,fun ys hy=>by rw[I.sI hy hq];exact hx⟩,st',fun b hb=>(hf b hb).1⟩⟩
  done:=by
    intro X hP hw hK hc i pins s σ H E I hf st hg
    subst hP hw hK
    obtain ⟨xs,hq,hx⟩:=hg
    obtain ⟨its,rv,p,hz⟩:=I.tuple hq
    obtain ⟨f0,f1,f2,f3,f4,f5⟩:=hf it (by simp)
    have hl:=rv.length
    exact wpAny_pyNext_tuple_end (I.ok.hd hc) st (show s.heap.IsTuple a its.toArray from p) (by simp;omega) fun h' eb=>⟨rfl,I.turned (t':=s.toks) (fun b o hb e=>eb b o hb e) f0 f1 f3 f4 f5⟩
  self:=fun _ _ _ _ _ st h=>wpAny_pyIter_tupleiter st h
theorem yN {P:Program}{w:World}{K:PySem.W.Frag}{tg:Expr}(it:Addr)(lo:Int)(n:Nat):Turn P w K tg (Itr lo n) [it] it (fun i h=>IsRangeIter h it (lo+(i:Nat)*1) ((n:Int) - (i:Nat)) 1) where
  mem:=by simp
  obj:=fun i h st b hb=>by
    have e:b=it:=by simpa using hb
    subst e
    exact ⟨_,st,fun v z=>by
      have z':Data.fields _=Data.cell v:=z
      cases z'⟩
  keep:=fun i h h' st k=>k it (by simp) _ st
  item:=by
    intro X hP hw hK hc i pins s σ H E I hf st hg
    subst hP hw hK
    obtain ⟨f0,f1,f2,f3,f4,f5⟩:=hf it (by simp)
    have W:=Walks.range (prog:=X.prog) (w:=X.w) (I.ok.hd hc) it lo 1 n
    refine W.item i s _ _ hg st fun v h' tk hv st' kk=>?_
    obtain ⟨t,rfl⟩:=hv
    have I1:Inv X pins σ H { s with heap:=h',toks:=tk }:=I.turned (fun b o hb e=>kk b o (by simpa using hb) e) f0 f1 f3 f4 f5
    refine ⟨_,rfl,E7 (s:={ s with heap:=h',toks:=tk }) (n := "range_iterator") st' rfl rfl (by decide) ⟨.int (lo+i),H,I1,⟨t,?_⟩,⟨rfl,rfl⟩,st',fun b hb=>(hf b hb).1⟩⟩
    rw[Int.mul_one]
  done:=by
    intro X hP hw hK hc i pins s σ H E I hf st hg
    subst hP hw hK
    obtain ⟨f0,f1,f2,f3,f4,f5⟩:=hf it (by simp)
    exact wpAny_pyNext_range_end (I.ok.hd hc) st (by have:n≤i:=hg;omega) fun h' eb=>⟨rfl,I.turned (t':=s.toks) (fun b o hb e=>eb b o hb e) f0 f1 f3 f4 f5⟩
  self:=fun _ _ _ _ _ st h=>wpAny_pyIter_rangeiter st h
end L2
namespace L2
open PySem PySem.Spec PyProof.Rows
section
variable {X:Cx} {tg:Expr}
def L8 (K:PySem.W.Frag)(tl:TE):TI:=fun σ H R=>tl σ H fun x H1=>∃ a,x=.ref a∧(∃ xs,SqL K H1 a xs)∧R (Itl K a) H1
theorem BJ {l:Expr}{tl:TE}(hl:PE X l tl):PI X tg l (L8 X.K tl):=by
  intro pins s σ H R I h
  refine thn (hl pins s σ H _ I h) fun v s1 ⟨x,H1,I1,r1,q1⟩=>?_
  obtain ⟨a,e,⟨xs,hq⟩,q⟩:=q1
  subst e
  cases r1
  obtain ⟨its,rv,p,hz⟩:=I1.list hq
  refine wpAny_pyIter_list p.isList ?_
  refine ⟨s1.heap.objs.size,[s1.heap.objs.size],_,_,H1,rfl,I1.kept (t':=s1.toks) fun b o e=>Heap.get?_push_of_some _ e,tm a _,⟨_,Heap.get?_push_size _ rfl,rfl,rfl⟩,fun b hb=>?_,q⟩
  have e:b=s1.heap.objs.size:=by simpa using hb
  subst e
  exact I1.zH (Nat.le_refl _) (I1.hok.fresh (Nat.le_refl _))
theorem Iv {pins:List (Addr×Obj)}{σ:St}{H:Hp}{s:Shared}{R:It→Hp→Prop}{E:Value→Shared→Prop}{lo hi:Int}{t u v:Tok}{tk:Nat}(I:Inv X pins σ H s)(h1:-(2 ^ 62)≤lo)(h2:lo < 2 ^ 62)(h3:-(2 ^ 62)≤hi)(h4:hi < 2 ^ 62)
    (q:R (Itr lo (hi - lo).toNat) H):wpAny (model X.prog X.w) X.A (pyIter (.ref s.heap.objs.size)) (PIE X pins σ tg R) E { s with heap:=s.heap.push { cls:=.type "range", data:=.fields #[.int lo t,.int hi u,.int 1 v] },toks:=tk }:=by
  refine wpAny_pyIter_range (IsRange.new ..) (small_one h1 h2 h3 h4) ?_
  have I1:Inv X pins σ H { s with heap:=s.heap.push { cls:=.type "range", data:=.fields #[.int lo t,.int hi u,.int 1 v] },toks:=tk }:=I.kept fun b o e=>Heap.get?_push_of_some _ e
  refine ⟨(s.heap.push { cls:=.type "range", data:=.fields #[.int lo t,.int hi u,.int 1 v] }).objs.size,[(s.heap.push { cls:=.type "range", data:=.fields #[.int lo t,.int hi u,.int 1 v] }).objs.size],_,_,H,rfl,
    I1.kept (t':=tk) fun b o e=>Heap.get?_push_of_some _ e,yN _ lo (hi - lo).toNat,?_,fun b hb=>?_,q⟩
  · have e1:lo+((0:Nat):Int)*1=lo:=by simp
    have e2:(((hi - lo).toNat:Nat):Int) - ((0:Nat):Int)=Builtin.Range.rangeSize lo hi 1:=by rw[rangeSize_one];split<;>omega
    show IsRangeIter _ _ (lo+((0:Nat):Int)*1) ((((hi - lo).toNat:Nat):Int) - ((0:Nat):Int)) 1
    rw[e1,e2]
    exact Heap.get?_push_size _ rfl
  · have e:b=(s.heap.push { cls:=.type "range", data:=.fields #[.int lo t,.int hi u,.int 1 v] }).objs.size:=by simpa using hb
    subst e
    exact I1.zH (Nat.le_refl _) (I1.hok.fresh (Nat.le_refl _))
def QB (ta:TA):TI:=fun σ H R=>ta σ H fun vs H1=>∃ j:Int,vs=[.int j]∧-(2 ^ 62)≤j∧j < 2 ^ 62∧R (Itr 0 j.toNat) H1
theorem DN {a:Expr}{ta:TA}{p pos:Pos}(hg:Gl X "range")(hm:X.mg "range" = none)(ha:PA X [a] ta)(hs:starEach [a] X.env=[(false,eval a X.env)]:=by rfl):PI X tg (.Call (.Name "range" p) [a] [] pos) (QB ta):=by
  intro pins s σ H R I h
  refine Call_ (iC I hg hm boot_range (PyProof.Rows.callWith_type1 (thn (ha pos pins s σ H _ I h) fun us s1 ⟨vs,H1,I1,r1,q1⟩=>?_) hs rfl))
  obtain ⟨j,e,q1,q2,q⟩:=q1
  subst e
  cases r1 with
  | cons r rr=>
    cases rr
    obtain ⟨t,rfl⟩:=r
    exact call_range_1 (Iv I1 (by omega) (by omega) q1 q2 (by simpa using q))
def S8 (wi:TI)(g:TG)(tb:TS):TS:=fun D σ H=>wi σ H fun J H1=>∃ W:Nat→Nat→St→Hp→Prop,(∃ m,W 0 m σ H1)∧∀ i m σ H,W i m σ H→
  (J.stop i H∧D.nx σ H)∨(J.go i H∧∃ N:St→Hp→Prop,(∀ σ' H',N σ' H'→∃ m',m' < m∧W (i+1) m' σ' H')∧∀ x H',J.yld i H x H'→g x σ H' fun σ2 H2=>tb { D with nx:=N,ct:=N,bk:=D.nx } σ2 H2)
def ky (fp:List Addr)(h:Heap):List (Addr×Obj):=fp.filterMap fun b=>(h.get? b).map fun o=>(b,o)
theorem cp {fp:List Addr}{h:Heap}{b:Addr}{o:Obj}(hb:b∈fp)(e:h.get? b=some o):(b,o)∈ky fp h:=List.mem_filterMap.mpr ⟨b,hb,by rw[e];rfl⟩
theorem DL {fp:List Addr}{h:Heap}{p:Addr×Obj}(hp:p∈ky fp h):p.1∈fp∧h.get? p.1=some p.2:=by
  obtain ⟨b,hb,e⟩:=List.mem_filterMap.mp hp
  cases q:h.get? b with
  | none=>rw[q] at e;cases e
  | some o=>
    rw[q] at e
    have e':(b,o)=p:=Option.some.inj e
    subst e'
    exact ⟨hb,q⟩
theorem Inv.pinned {pins:List (Addr×Obj)}{σ:St}{H:Hp}{s:Shared}{fp:List Addr}(I:Inv X pins σ H s)(hf:∀ b∈fp,lE X pins H b)(ho:∀ b∈fp,∃ o,s.heap.get? b=some o∧∀ v,o.data≠.cell v):Inv X (pins++ky fp s.heap) σ H s:=
  I.B9 fun p hp=>(List.mem_append.mp hp).elim (fun z=>I.pin p (List.mem_append_right _ z)) fun z=>by
    obtain ⟨hb,e⟩:=DL z
    obtain ⟨f0,f1,f2,_⟩:=hf p.1 hb
    obtain ⟨o,e',d⟩:=ho p.1 hb
    rw[e] at e';cases e'
    exact ⟨e,f0,f1,f2,d⟩
theorem Inv.fE {pins pl:List (Addr×Obj)}{σ:St}{H:Hp}{s:Shared}(I:Inv X (pins++pl) σ H s):Inv X pins σ H s:=I.B9 fun p hp=>I.pin p (List.mem_append_right _ (List.mem_append_left _ hp))
theorem PD {iter:Expr}{body:List Stmt}{wi:TI}{g:TG}{tb:TS}{pos:Pos}(hp:PassesOwn (model X.prog X.w) X.A X.env X.xe)(hc:X.calm=true)(hi:PI X tg iter wi)(hg:PG X tg g)(hb:PSs X body tb)
    (hs:∀ x,foldedSetIterable iter X.env x=pure x:=by intro _;rfl):PS X (.For tg iter body [] pos) (S8 wi g tb):=by
  intro pins s σ H D I h
  refine wpAny_For (thn (hi pins s σ H _ I h) fun v s1 h1=>thn h1 fun itv s2 h2=>?_) hs
  obtain ⟨it,fp,tn,J,H2,e,I2,T,st2,f2,W,⟨m0,w0⟩,turn⟩:=h2
  subst e
  -- what stays true of the iterator's objects through the loop
  have kC:∀ {H':Hp},(∀ b∈fp,H' b=none)→∀ b∈fp,lE X pins H' b:=fun hn b hb=>⟨hn b hb,(f2 b hb).2⟩
  refine codeAny_forLoop_any (fun n s'=>∃ i σ' H',Inv X pins σ' H' s'∧tn i s'.heap∧(∀ b∈fp,H' b=none)∧W i n σ' H') ?_ m0 ⟨0,σ,H2,I2,st2,fun b hb=>(f2 b hb).1,w0⟩
  rintro n s3 ⟨i,σ3,H3,I3,st3,fr3,w3⟩
  rcases turn i n σ3 H3 w3 with ⟨stop,qn⟩ | ⟨go,N,hN,step⟩
  · refine wpAny_passesOwn hp (thn (T.done X rfl rfl rfl hc i pins s3 σ3 H3 X.xe I3 (kC fr3) st3 stop) fun r s4 ⟨hr,I4⟩=>?_)
    subst hr
    exact wpAny_execs_nil ⟨σ3,H3,I4,qn⟩
  · refine wpAny_passesOwn hp (thn (T.item X rfl rfl rfl hc i pins s3 σ3 H3 X.xe I3 (kC fr3) st3 go) fun r s4 ⟨u,hr,h4⟩=>?_)
    subst hr
    refine wpAny_passesOwn hp (thn h4 fun _ s5 ⟨x,H5,I5,r5,y5,st5,fr5⟩=>?_)
    have I5':=I5.pinned (kC fr5) (T.obj _ _ st5)
    refine wpAny_passesOwn hp (thn (hg _ s5 σ3 H5 x u _ I5' r5 (step x H5 y5)) fun _ s6 ⟨σ6,H6,I6,q6⟩=>?_)
    refine wpAny_passesOwn hp (thn (hb _ s6 σ6 H6 _ I6 q6) fun f s7 q7=>?_)
    have again:∀ {σ7:St} {H7:Hp},Inv X (pins++ky fp s5.heap) σ7 H7 s7→N σ7 H7→∃ m,m < n∧∃ i σ' H',Inv X pins σ' H' s7∧tn i s7.heap∧(∀ b∈fp,H' b=none)∧W i m σ' H':=fun {σ7 H7} I7 n7=>by
      obtain ⟨m',hm,w7⟩:=hN σ7 H7 n7
      refine ⟨m',hm,i+1,σ7,H7,I7.fE,T.keep _ _ _ st5 fun b hb o e=>(I7.pin (b,o) (List.mem_append_right _ (List.mem_append_right _ (cp hb e)))).1,fun b hb=>?_,w7⟩
      obtain ⟨o,e,d⟩:=T.obj _ _ st5 b hb
      exact (I7.pin (b,o) (List.mem_append_right _ (List.mem_append_right _ (cp hb e)))).2.1
    cases f with
    | next=>obtain ⟨σ7,H7,I7,n7⟩:=q7;exact again I7 n7
    | cont=>obtain ⟨σ7,H7,I7,n7⟩:=q7;exact again I7 n7
    | brk=>obtain ⟨σ7,H7,I7,q7⟩:=q7;exact ⟨σ7,H7,I7.fE,q7⟩
    | ret v=>obtain ⟨x7,σ7,H7,I7,r7,q7⟩:=q7;exact ⟨x7,σ7,H7,I7.fE,r7,q7⟩
end
end L2
namespace L2
open PySem PySem.Spec PyProof.Rows
abbrev R2:=V→V→Hp→VK→Prop
def OpR (X:Cx)(f:Value→Value→Sem Value)(r:R2):Prop:=
  ∀ (pins:List (Addr×Obj)) (s:Shared) (σ:St) (H:Hp) (x y:V) (v u:Value) (Q:VK),Inv X pins σ H s→RelV x v→RelV y u→r x y H Q→
    wpAny (model X.prog X.w) X.A (f v u) (EP X pins σ Q) X.xe s
def UnR (X:Cx)(f:Value→Sem Value)(r:V→Hp→VK→Prop):Prop:=
  ∀ (pins:List (Addr×Obj)) (s:Shared) (σ:St) (H:Hp) (x:V) (v:Value) (Q:VK),Inv X pins σ H s→RelV x v→r x H Q→
    wpAny (model X.prog X.w) X.A (f v) (EP X pins σ Q) X.xe s
def bV (X:Cx)(f:Value)(r:List V→Hp→VK→Prop):Prop:=
  ∀ (pins:List (Addr×Obj)) (s:Shared) (σ:St) (H:Hp) (xs:List V) (us:List Value) (Q:VK),Inv X pins σ H s→Vals xs us→r xs H Q→
    wpAny (model X.prog X.w) X.A (call f us) (EP X pins σ Q) X.xe s
def tOp (r:R2)(ta tb:TE):TE:=fun σ H Q=>ta σ H fun x H1=>tb σ H1 fun y H2=>r x y H2 Q
def tUn (r:V→Hp→VK→Prop)(ta:TE):TE:=fun σ H Q=>ta σ H fun x H1=>r x H1 Q
def rI (C:Int→Int→Prop)(g:Int→Int→V):R2:=fun x y H Q=>∃ i j,x=.int i∧y=.int j∧C i j∧Q (g i j) H
def rI0 (g:Int→Int→V):R2:=fun x y H Q=>∃ i j,x=.int i∧y=.int j∧Q (g i j) H
def rU (g:Int→V):V→Hp→VK→Prop:=fun x H Q=>∃ i,x=.int i∧Q (g i) H
section
variable {X:Cx} {a b c:Expr} {ta tb tc:TE} {pos:Pos}
theorem Pl (ha:PE X a ta)(hb:PE X b tb){pins:List (Addr×Obj)}{s:Shared}{σ:St}{H:Hp}{R:V→V→Hp→Prop}(I:Inv X pins σ H s)
    (h:ta σ H fun x H1=>tb σ H1 fun y H2=>R x y H2) {Q:Value→Shared→Prop} {f:Value→Value→Sem Value}
    (hf:∀ v u s2 x y H2,Inv X pins σ H2 s2→RelV x v→RelV y u→R x y H2→wpAny (model X.prog X.w) X.A (f v u) Q X.xe s2) :
    wpAny (model X.prog X.w) X.A (eval a X.env) (fun v s₁=>wpAny (model X.prog X.w) X.A (eval b X.env) (fun u s₂=>wpAny (model X.prog X.w) X.A (f v u) Q X.xe s₂) X.xe s₁) X.xe s:=by
  refine thn (ha pins s σ H _ I h) fun v s1 ⟨x,H1,I1,r1,q1⟩=>?_
  refine thn (hb pins s1 σ H1 _ I1 q1) fun u s2 ⟨y,H2,I2,r2,q2⟩=>?_
  exact hf v u s2 x y H2 I2 r1 r2 q2
theorem MF {op:Operator}{r:R2}(ho:OpR X (binaryOp op) r)(ha:PE X a ta)(hb:PE X b tb):PE X (.BinOp a op b pos) (tOp r ta tb):=by
  intro pins s σ H Q I h
  exact wpAny_BinOp (Pl ha hb I h fun v u s2 x y H2 I2 rx ry q=>ho pins s2 σ H2 x y v u Q I2 rx ry q)
theorem RC {op:UnaryOp}{r:V→Hp→VK→Prop}(ho:UnR X (unaryOp op) r)(ha:PE X a ta):PE X (.UnaryOp op a pos) (tUn r ta):=by
  intro pins s σ H Q I h
  exact UnaryOp_ (thn (ha pins s σ H _ I h) fun v s1 ⟨x,H1,I1,r1,q1⟩=>ho pins s1 σ H1 x v Q I1 r1 q1)
theorem opI {f:Value→Value→Sem Value}{C:Int→Int→Prop}{g:Int→Int→Int}
    (rule:∀ (i j:Int) (t u:Tok) (s:Shared) (Q:Value→Shared→Prop) (E:Value→Shared→Prop),C i j→Q (.int (g i j) s.toks) { s with toks:=s.toks+1 }→wpAny (model X.prog X.w) X.A (f (.int i t) (.int j u)) Q E s) :
    OpR X f (rI C fun i j=>.int (g i j)):=by
  intro pins s σ H x y v u Q I rx ry h
  obtain ⟨i,j,rfl,rfl,hc,q⟩:=h
  obtain ⟨t,rfl⟩:=rx
  obtain ⟨t',rfl⟩:=ry
  exact rule i j t t' s _ _ hc ⟨.int (g i j),H,I.tok _,⟨_,rfl⟩,q⟩
theorem QS {f:Value→Value→Sem Value}{g:Int→Int→Int}
    (rule:∀ (i j:Int) (t u:Tok) (s:Shared) (Q:Value→Shared→Prop) (E:Value→Shared→Prop),Q (.int (g i j) s.toks) { s with toks:=s.toks+1 }→wpAny (model X.prog X.w) X.A (f (.int i t) (.int j u)) Q E s) :
    OpR X f (rI0 fun i j=>.int (g i j)):=by
  intro pins s σ H x y v u Q I rx ry h
  obtain ⟨i,j,rfl,rfl,q⟩:=h
  obtain ⟨t,rfl⟩:=rx
  obtain ⟨t',rfl⟩:=ry
  exact rule i j t t' s _ _ ⟨.int (g i j),H,I.tok _,⟨_,rfl⟩,q⟩
theorem Pf {f:Value→Value→Sem Value}{g:Int→Int→Bool}
    (rule:∀ (i j:Int) (t u:Tok) (s:Shared) (Q:Value→Shared→Prop) (E:Value→Shared→Prop),Q (.bool (g i j)) s→wpAny (model X.prog X.w) X.A (f (.int i t) (.int j u)) Q E s) :
    OpR X f (rI0 fun i j=>.bl (g i j)):=by
  intro pins s σ H x y v u Q I rx ry h
  obtain ⟨i,j,rfl,rfl,q⟩:=h
  obtain ⟨t,rfl⟩:=rx
  obtain ⟨t',rfl⟩:=ry
  exact rule i j t t' s _ _ ⟨.bl (g i j),H,I,rfl,q⟩
def Sg (i j:Int):Prop:=0≤j∧j≤1000000∧i.natAbs < 2 ^ 64
def Qn (i j:Int):Prop:=(-(2 ^ 64) < i∧i < 2 ^ 64)∨(-(2 ^ 64) < j∧j < 2 ^ 64)
theorem Qn.ok {i j:Int}(h:Qn i j):IntMulOk i j:=by
  rcases h with ⟨h1,h2⟩ | ⟨h1,h2⟩
  · exact .of_left (intBits_le_64 h1 h2)
  · exact .of_right (intBits_le_64 h1 h2)
theorem M5:OpR X (binaryOp .Add) (rI0 fun i j=>.int (i+j)):=QS fun _ _ _ _ _ _ _ q=>add_int q
theorem M4:OpR X (binaryOp .Sub) (rI0 fun i j=>.int (i - j)):=QS fun _ _ _ _ _ _ _ q=>sub_int q
theorem IF:OpR X (binaryOp .Mod) (rI (fun _ j=>j≠0) fun i j=>.int (i.fmod j)):=opI fun _ _ _ _ _ _ _ hc q=>mod_int' hc q
theorem Oj:OpR X (binaryOp .Pow) (rI Sg fun i j=>.int (i ^ j.toNat)):=opI fun _ _ _ _ _ _ _ hc q=>pow_int_small hc.1 hc.2.1 hc.2.2 q
theorem unI {f:Value→Sem Value}{g:Int→Int}
    (rule:∀ (i:Int) (t:Tok) (s:Shared) (Q:Value→Shared→Prop) (E:Value→Shared→Prop),Q (.int (g i) s.toks) { s with toks:=s.toks+1 }→wpAny (model X.prog X.w) X.A (f (.int i t)) Q E s) :
    UnR X f (rU fun i=>.int (g i)):=by
  intro pins s σ H x v Q I rx h
  obtain ⟨i,rfl,q⟩:=h
  obtain ⟨t,rfl⟩:=rx
  exact rule i t s _ _ ⟨.int (g i),H,I.tok _,⟨_,rfl⟩,q⟩
theorem Nj:UnR X (unaryOp .USub) (rU fun i=>.int (-i)):=unI fun _ _ _ _ _ q=>neg_int q
end
def R5:V→V→Bool
  | .non,.non=>true | .non,.int _=>true | .int _,.non=>true | .non,.bl _=>true | .bl _,.non=>true | .non,.str _=>true | .str _,.non=>true
  | .int _,.int _=>true | .bl _,.bl _=>true | .str _,.str _=>true | .byt _,.byt _=>true
  | .int _,.str _=>true | .str _,.int _=>true | .bl _,.str _=>true | .str _,.bl _=>true
  | _,_=>false
def rEq:R2:=fun x y H Q=>R5 x y=true∧Q (.bl (decide (x=y))) H
def rNe:R2:=fun x y H Q=>R5 x y=true∧Q (.bl (!decide (x=y))) H
section
variable {X:Cx} {a b c:Expr} {ta tb tc:TE} {pos:Pos}
theorem N2 {pins:List (Addr×Obj)}{σ:St}{H:Hp}{s:Shared}{Q:VK}{k k':Bool}(I:Inv X pins σ H s)(q:Q (.bl k) H)(e:k=k'):EP X pins σ Q (.bool k') s:=by
  subst e
  exact ⟨.bl k,H,I,rfl,q⟩
theorem MJ:OpR X (compareOp .Lt) (rI0 fun i j=>.bl (decide (i < j))):=Pf fun _ _ _ _ _ _ _ q=>lt_int q
theorem QZ:OpR X (compareOp .Gt) (rI0 fun i j=>.bl (decide (j < i))):=Pf fun _ _ _ _ _ _ _ q=>gt_int q
theorem ME:OpR X (compareOp .GtE) (rI0 fun i j=>.bl (decide (j≤i))):=Pf fun _ _ _ _ _ _ _ q=>ge_int q
theorem HY:OpR X (compareOp .Is) (fun x y H Q=>y=.non∧Q (.bl (decide (x=.non))) H):=by
  intro pins s σ H x y v u Q I rx ry h
  obtain ⟨rfl,q⟩:=h
  cases ry
  refine is_none_gen (N2 I q ?_)
  cases x<;>first
    | (cases rx;rfl)
    | (obtain ⟨t,rfl⟩:=rx;rfl)
theorem OpR.or {f:Value→Value→Sem Value}{r r':R2}(h:OpR X f r)(h':OpR X f r'):OpR X f (fun x y H Q=>r x y H Q∨r' x y H Q):=by
  intro pins s σ H x y v u Q I rx ry q
  rcases q with q | q
  · exact h pins s σ H x y v u Q I rx ry q
  · exact h' pins s σ H x y v u Q I rx ry q
theorem gA (b:Expr){op:CmpOp}(h:op≠.In:=by decide)(h2:op≠.NotIn:=by decide):behindInMarks op b=false:=by
  have e1:(op == CmpOp.In)=false:=by cases op<;>first | rfl | exact absurd rfl h
  have e2:(op == CmpOp.NotIn)=false:=by cases op<;>first | rfl | exact absurd rfl h2
  cases b<;>simp[behindInMarks,e1,e2]
theorem JJ {op:CmpOp}{r:R2}(ho:OpR X (compareOp op) r)(ha:PE X a ta)(hb:PE X b tb)(hm:behindInMarks op b=false):PE X (.Compare a [op] [b] pos) (tOp r ta tb):=by
  intro pins s σ H Q I h
  exact wpAny_Compare1 (Pl ha hb I h fun v u s2 x y H2 I2 rx ry q=>ho pins s2 σ H2 x y v u Q I2 rx ry q) hm
def Mz (t:TE):TT:=fun σ H Q=>t σ H fun x H'=>∃ k,x=.bl k∧Q k H'
theorem Lr {op:CmpOp}{r:R2}(ho:OpR X (compareOp op) r)(ha:PE X a ta)(hb:PE X b tb)(hm:behindInMarks op b=false):PT X (.Compare a [op] [b] pos) (Mz (tOp r ta tb)):=by
  intro pins s σ H Q I h
  refine wpAny_isTrue_Compare1 (thn (ha pins s σ H _ I h) fun v s1 ⟨x,H1,I1,r1,q1⟩=>thn (hb pins s1 σ H1 _ I1 q1) fun u s2 ⟨y,H2,I2,r2,q2⟩=>
    thn (ho pins s2 σ H2 x y v u _ I2 r1 r2 q2) fun c s3 ⟨z,H3,I3,r3,k,e,q3⟩=>?_) hm
  subst e
  cases r3
  exact wpAny_truthy_bool ⟨H3,I3,q3⟩
theorem pk:(sizeLine:Nat) < 2 ^ 63:=by rw[sizeLine_eq];decide
theorem yG:OpR X (binaryOp .Add) (fun x y H Q=>∃ i j,x=.str i∧y=.str j∧i.length+j.length≤sizeLine∧Q (.str (i++j)) H):=by
  intro pins s σ H x y v u Q I rx ry h
  obtain ⟨i,j,rfl,rfl,hz,q⟩:=h
  obtain ⟨t,rfl⟩:=rx
  obtain ⟨t',rfl⟩:=ry
  exact add_str (fun t' tk=>⟨.str (i++j),H,I.tok _,⟨_,rfl⟩,q⟩) hz
theorem vals1 {x:V}{us:List Value}(r:Vals [x] us):∃ u,us=[u]∧RelV x u:=by
  cases r with
  | cons r1 r2=>cases r2;exact ⟨_,rfl,r1⟩
theorem vals2 {x y:V}{us:List Value}(r:Vals [x,y] us):∃ u w',us=[u,w']∧RelV x u∧RelV y w':=by
  cases r with
  | cons r1 r2=>
    cases r2 with
    | cons r3 r4=>cases r4;exact ⟨_,_,rfl,r1,r3⟩
theorem ri:bV X (.builtin "abs") (fun xs H Q=>∃ i,xs=[.int i]∧Q (.int (if i < 0 then -i else i)) H):=by
  intro pins s σ H xs us Q I r h
  obtain ⟨i,rfl,q⟩:=h
  obtain ⟨u,rfl,t,rfl⟩:=vals1 r
  exact call_abs_int fun u tk=>⟨.int (if i < 0 then -i else i),H,I.tok _,⟨_,rfl⟩,q⟩
theorem tG (hc:X.calm=true):bV X (.builtin "max") (fun xs H Q=>∃ i j,xs=[.int i,.int j]∧Q (.int (if j > i then j else i)) H):=by
  intro pins s σ H xs us Q I r h
  obtain ⟨i,j,rfl,q⟩:=h
  obtain ⟨u,w',rfl,⟨t,rfl⟩,⟨t',rfl⟩⟩:=vals2 r
  refine max_two_ints (I.ok.hd hc) fun h' tk k=>⟨_,H,I.kept k,?_,q⟩
  by_cases hj:j > i
  · rw[if_pos hj,if_pos hj];exact ⟨_,rfl⟩
  · rw[if_neg hj,if_neg hj];exact ⟨_,rfl⟩
theorem DG (hc:X.calm=true):bV X (.builtin "min") (fun xs H Q=>∃ i j,xs=[.int i,.int j]∧Q (.int (if j < i then j else i)) H):=by
  intro pins s σ H xs us Q I r h
  obtain ⟨i,j,rfl,q⟩:=h
  obtain ⟨u,w',rfl,⟨t,rfl⟩,⟨t',rfl⟩⟩:=vals2 r
  refine min_two_ints (I.ok.hd hc) fun h' tk k=>⟨_,H,I.kept k,?_,q⟩
  by_cases hj:j < i
  · rw[if_pos hj,if_pos hj];exact ⟨_,rfl⟩
  · rw[if_neg hj,if_neg hj];exact ⟨_,rfl⟩
theorem Cp:bV X (.type "int") (fun xs H Q=>(∃ i,xs=[.int i]∧Q (.int i) H)∨∃ k,xs=[.bl k]∧Q (.int (if k then 1 else 0)) H):=by
  intro pins s σ H xs us Q I r h
  rcases h with ⟨i,rfl,q⟩ | ⟨k,rfl,q⟩
  · obtain ⟨u,rfl,t,rfl⟩:=vals1 r
    exact call_int_int ⟨.int i,H,I,⟨_,rfl⟩,q⟩
  · obtain ⟨u,rfl,r1⟩:=vals1 r
    cases r1
    exact call_int_bool ⟨.int (if k then 1 else 0),H,I.tok _,⟨_,rfl⟩,q⟩
end
end L2
namespace L2
open PySem PySem.Spec PyProof.Rows
structure Qs (h:Heap) (x dx C:Addr) (mA:Str→Option Value):Prop where
  obj:h.get? x=some (PySem.W.instObj C dx)
  ns:h.Ns1 dx mA
  ne:dx≠x
theorem CK {h:Heap}{dx:Addr}{mA:Str→Option Value}(n:h.Ns1 dx mA):∃ od,h.get? dx=some od∧∀ name,PySem.W.lookIn name od=some (mA name):=by
  obtain ⟨o,es,ep,ho,hd,hk,_,hm⟩:=n
  refine ⟨o,ho,fun name=>?_⟩
  have e:=hm name
  unfold nsFind findBy at e
  rw[← Array.find?_toList] at e
  unfold PySem.W.lookIn
  rw[hd]
  dsimp only
  split
  · rename_i y q
    rw[q] at e
    exact congrArg some e
  · rename_i q
    rw[q] at e
    have a:es.toList.any (·.refKey)=false:=by
      rw[List.any_eq_false]
      intro y hy
      obtain ⟨z,t,hkey⟩:=hk y (Array.mem_toList_iff.mp hy)
      simp[DictEntry.refKey,hkey]
    have a':¬ es.toList.any (·.refKey)=true:=by rw[a];exact Bool.false_ne_true
    rw[if_neg a']
    exact congrArg some e
theorem Qs.look {h:Heap}{x dx C:Addr}{mA:Str→Option Value}(I:Qs h x dx C mA):∃ od,PySem.W.InstAt h x (PySem.W.instObj C dx) C (some od)∧∀ name,PySem.W.lookIn name od=some (mA name):=
  let ⟨od,ho,hl⟩:=CK I.ns
  ⟨od,⟨I.obj,rfl,rfl,ho⟩,hl⟩
section
variable {prog:Program} {w:World} {A:Around} {E:Value→Shared→Prop} {s:Shared} {K:PySem.W.Frag} {x dx C f:Addr} {mA:Str→Option Value} {name:Str} {v:Value}
end
theorem oB.some_of {v:V}{o:Option Value}(r:oB (some v) o):∃ u,o=some u∧RelV v u:=by
  cases o with
  | none=>exact (show False from r).elim
  | some u=>exact ⟨u,rfl,r⟩
section
variable {P:Program} {w:World} {H H':Hp} {h h':Heap} {a C dx:Addr} {fs fs':List (Str×V)}
end
structure Cls (K:PySem.W.Frag) (C:Addr):Prop where
  pg:PySem.W.plainGet K C Str.empty=true
  hd:PySem.W.hasDictIn K C=true
  po:PySem.W.plainOver K C=true
  sa:PySem.W.findIn K (.ref C) "__setattr__" = some (some (.builtin "object.__setattr__"))
theorem Cls.get {K:PySem.W.Frag}{C:Addr}(c:Cls K C)(f:Str):PySem.W.plainGet K C f=true:=c.pg
section
variable {X:Cx} {pins:List (Addr×Obj)} {σ:St} {H:Hp} {s:Shared} {a C dx:Addr} {fs:List (Str×V)} {f:Str} {v:V} {A:Around} {E:Value→Shared→Prop}
theorem Inv.made (I:Inv X pins σ H s):Inv X pins σ (upd (upd H s.heap.objs.size (.own (s.heap.objs.size+1))) (s.heap.objs.size+1) (.ins C s.heap.objs.size []))
    { s with heap:=(s.heap.push PySem.W.emptyDict).push (PySem.W.instObj C s.heap.objs.size) }:=by
  have e1:(s.heap.push PySem.W.emptyDict).get? s.heap.objs.size=some PySem.W.emptyDict:=Heap.get?_push_size s.heap rfl
  have e2:((s.heap.push PySem.W.emptyDict).push (PySem.W.instObj C s.heap.objs.size)).get? (s.heap.objs.size+1)=some (PySem.W.instObj C s.heap.objs.size):=by
    have:=Heap.get?_push_size (s.heap.push PySem.W.emptyDict) (o:=PySem.W.instObj C s.heap.objs.size) rfl
    rwa [Heap.size_push] at this
  have e3:(s.heap.push PySem.W.emptyDict).Ns s.heap.objs.size (fun _=>none):=⟨PySem.W.emptyDict,#[],_,e1,rfl,(fun e he=>absurd he (by simp)),fun _=>rfl⟩
  have I1:=I.laid (a:=s.heap.objs.size) (o:=.own (s.heap.objs.size+1)) (h':=s.heap.push PySem.W.emptyDict) (t':=s.toks) (fun b u q=>Heap.get?_push_of_some _ q) (Nat.le_refl _) ⟨_,e1⟩
  refine I1.laid (a:=s.heap.objs.size+1) (o:=.ins C s.heap.objs.size []) (t':=s.toks) (fun b u q=>Heap.get?_push_of_some _ q) (Nat.le_of_eq (Heap.size_push _ _)) ?_
  have ne:s.heap.objs.size≠s.heap.objs.size+1:=Nat.ne_of_lt (Nat.lt_succ_self _)
  refine ⟨by rw[aL ne,aM],Nat.zero_le _,ne,e2,fun _=>none,(Heap.Ns1.of_empty e3).at fun o q=>Heap.get?_push_of_some _ q,fun _=>True.intro,fun y hy=>absurd rfl hy⟩
end
def RQ (X:Cx)(op:Operator)(rd:V→V→Hp→VK→Prop):Prop:=
  ∀ (pins:List (Addr×Obj)) (s:Shared) (σ:St) (H:Hp) (x y:V) (u v:Value) (Q:VK),Inv X pins σ H s→RelV x u→RelV y v→rd x y H Q→wpAny (model X.prog X.w) X.A (inplaceOp op u v) (EP X pins σ Q) X.xe s
section
variable {X:Cx} {o e value:Expr} {f:Str} {pos pos' tpos:Pos} {ta tv:TE}
def Q9:V→V→Hp→VK→Prop:=fun x y H Q=>∃ i j,x=.int i∧y=.int j∧Q (.int (i+j)) H
def j8:V→V→Hp→VK→Prop:=fun x y H Q=>∃ i j,x=.int i∧y=.int j∧Q (.int (i - j)) H
theorem N6:RQ X .Add Q9:=by
  rintro pins s σ H x y u v Q I rx ry ⟨i,j,rfl,rfl,q⟩
  obtain ⟨t,rfl⟩:=(show ∃ t,u=Value.int i t from rx)
  obtain ⟨t',rfl⟩:=(show ∃ t',v=Value.int j t' from ry)
  exact PyProof.Rows.iadd_int ⟨.int (i+j),H,I.tok _,⟨_,rfl⟩,q⟩
end
section
variable {X:Cx} {pins:List (Addr×Obj)} {σ:St} {H:Hp} {s:Shared} {A:Around} {E:Value→Shared→Prop} {Q:Value→Shared→Prop} {c:Value} {b:Bool}
end
end L2
namespace L2
open PySem PySem.Spec PyProof.Rows
structure fM (k:Nat) (A:Around):Prop where
  hd:A.handled=none
  dp:A.depth+3*k+5 < recursionLimit
  un:A.units+16*k+200 < cLine
theorem fM.mono {j k:Nat}{A:Around}(r:fM k A)(h:j≤k):fM j A:=⟨r.hd,by have:=r.dp;omega,by have:=r.un;omega⟩
theorem fM.deeper {k:Nat}{A:Around}(r:fM (k+1) A)(env:Env):fM k (A.deeper env):=
  ⟨r.hd,by have:=r.dp;show A.depth+1+3*k+5 < _;omega,by have:=r.un;show A.units+3+16*k+200 < _;omega⟩
theorem fM.in1 {k:Nat}{A:Around}(r:fM (k+1) A):fM k A.in1:=
  ⟨r.hd,by have:=r.dp;show A.depth+3*k+5 < _;omega,by have:=r.un;show A.units+1+16*k+200 < _;omega⟩
theorem fM.depth {k:Nat}{A:Around}(r:fM k A):A.depth < recursionLimit:=by have:=r.dp;omega
theorem fM.units {k:Nat}{A:Around}(r:fM k A):A.units+64 < cLine:=by have:=r.un;omega
def Rf:TA:=fun _ H Q=>Q [] H
def Mv (ta:TE)(tr:TA):TA:=fun σ H Q=>ta σ H fun x H1=>tr σ H1 fun xs H2=>Q (x::xs) H2
section
variable {X:Cx} {e:Expr} {es:List Expr} {te:TE} {t:TA} {pos:Pos}
theorem iM:PA X [] Rf:=fun _ _ _ _ H Q I h=>Calls.spliced_nil ⟨[],H,I,.nil,h⟩
theorem eV (ha:PE X e te)(hr:PA X es t)(hs:starEach (e::es) X.env=(false,eval e X.env)::starEach es X.env:=by rfl):PA X (e::es) (Mv te t):=by
  intro pos pins s σ H Q I h
  rw[hs]
  show wpAny _ _ (spliced ((false,eval e X.env)::backTo pos (starEach es X.env))) _ _ s
  refine Calls.spliced_cons (thn (ha pins s σ H _ I h) fun u s1 ⟨x,H1,I1,r1,q1⟩=>?_)
  exact thn (hr pos pins s1 σ H1 _ I1 q1) fun us s2 ⟨xs,H2,I2,r2,q2⟩=>⟨x::xs,H2,I2,.cons r1 r2,q2⟩
def SQ (t:TA):TE:=fun σ H Q=>t σ H fun xs H1=>xs.length≤sizeLine∧∀ p,H1 p=none→Q (.ref p) (upd H1 p (.tup xs))
def Sm (t:TA):TE:=fun σ H Q=>t σ H fun xs H1=>xs.length≤sizeLine∧∀ p,H1 p=none→Q (.ref p) (upd H1 p (.lst xs))
theorem MQ {x1}(h:PA X es t):PE X (.Tuple es x1 pos) (SQ t):=by
  intro pins s σ H Q I hq
  refine wpAny_Tuple_spliced (thn (h pos pins s σ H _ I hq) fun us s1 ⟨xs,H1,I1,r,z,q⟩=>⟨by rw[← r.length];exact z,?_⟩)
  have hf:H1 s1.heap.objs.size=none:=I1.hok.fresh (Nat.le_refl _)
  refine ⟨.ref s1.heap.objs.size,upd H1 s1.heap.objs.size (.tup xs),I1.laid (t':=s1.toks) (fun b u e=>Heap.get?_push_of_some _ e) (Nat.le_refl _) ?_,rfl,q _ hf⟩
  exact ⟨z,us,r,⟨_,Heap.get?_push_size _ rfl⟩⟩
theorem EA (h:PA X es t):PE X (.List es pos) (Sm t):=by
  intro pins s σ H Q I hq
  refine wpAny_List_spliced (thn (h pos pins s σ H _ I hq) fun us s1 ⟨xs,H1,I1,r,z,q⟩=>⟨by rw[← r.length];exact z,?_⟩)
  have hf:H1 s1.heap.objs.size=none:=I1.hok.fresh (Nat.le_refl _)
  refine ⟨.ref s1.heap.objs.size,upd H1 s1.heap.objs.size (.lst xs),I1.laid (t':=s1.toks) (fun b u e=>Heap.get?_push_of_some _ e) (Nat.le_refl _) ?_,rfl,q _ hf⟩
  exact ⟨z,us,0,r,Heap.get?_push_size _ rfl⟩
end
abbrev Sp:=List V→Hp→VK→XK→Prop
abbrev CXT:=List Env→Hp→Shared→XK→Value→Shared→Prop
structure yR (P:Program) (w:World) (K:PySem.W.Frag) (mg:Str→Option Value) (base:Heap) (A:Around) (outer:List Env) (s:Shared) (H:Hp):Prop where
  frames:A.frames=some outer
  mod:Mod K mg base
  bs:∀ b o,base.get? b=some o→s.heap.get? b=some o∧H b=none
  bsz:base.objs.size≤s.heap.objs.size
  oi:s.heap.FunFrames base outer
  frf:∀ b∈frs outer,H b=none
  hok:HOk P w H s.heap
  bare:AllBare s.gens
def CE (outer:List Env)(P:Program)(w:World)(H:Hp)(s:Shared)(Q:VK)(u:Value)(s':Shared):Prop:=
  ∃ v H',s'.os=s.os∧AllBare s'.gens∧Un (frs outer) [] H H' s.heap s'.heap∧HOk P w H' s'.heap∧RelV v u∧Q v H'
def CR (CX:CXT)(outer:List Env)(P:Program)(w:World)(H:Hp)(s:Shared)(Q:VK)(E:XK)(r:Result)(s':Shared):Prop:=
  match r with
  | .ok (.ret u)=>CE outer P w H s Q u s'
  | .ok _=>False
  | .error e=>CX outer H s E e s'
structure gR (P:Program) (w:World) (K:PySem.W.Frag) (mg:Str→Option Value) (base:Heap) (CX:CXT) (k:Nat) (f:Addr) (fd:FuncData) (ps:List Str) (sp:Sp):Prop where
  len:∀ vs H Q E,sp vs H Q E→vs.length=ps.length
  run:∀ (A:Around) (outer:List Env) (s:Shared) (H:Hp) (args:Args) (us:List Value) (vs:List V) (Q:VK) (E:XK),fM k A→yR P w K mg base A outer s H→BindsTo s fd args (ps.zip us)→Vals vs us→sp vs H Q E→
    codeAny (model P w) A (.call (.ref f) args) (CR CX outer P w H s Q E) s
theorem gR.mono {P:Program}{w:World}{K:PySem.W.Frag}{mg:Str→Option Value}{base:Heap}{CX:CXT}{j k:Nat}{f:Addr}{fd:FuncData}{ps:List Str}{sp:Sp}(F:gR P w K mg base CX j f fd ps sp)(h:j≤k) :
    gR P w K mg base CX k f fd ps sp:=⟨F.len,fun A outer s H args us vs Q E hr=>F.run A outer s H args us vs Q E (hr.mono h)⟩
theorem gR.imp {P:Program}{w:World}{K:PySem.W.Frag}{mg:Str→Option Value}{base:Heap}{CX:CXT}{k:Nat}{f:Addr}{fd:FuncData}{ps:List Str}{sp sp':Sp}(F:gR P w K mg base CX k f fd ps sp)
    (h:∀ vs H Q E,sp' vs H Q E→sp vs H Q E):gR P w K mg base CX k f fd ps sp':=
  ⟨fun vs H Q E q=>F.len vs H Q E (h _ _ _ _ q),fun A outer s H args us vs Q E hr he hb hv hs=>F.run A outer s H args us vs Q E hr he hb hv (h _ _ _ _ hs)⟩
theorem yR.in1 {P:Program}{w:World}{K:PySem.W.Frag}{mg:Str→Option Value}{base:Heap}{A:Around}{outer:List Env}{s:Shared}{H:Hp}(e:yR P w K mg base A outer s H) :
    yR P w K mg base A.in1 outer s H:=⟨e.frames,e.mod,e.bs,e.bsz,e.oi,e.frf,e.hok,e.bare⟩
section
variable {X:Cx} {pins:List (Addr×Obj)} {σ:St} {H:Hp} {s s':Shared}
theorem Inv.Ts (I:Inv X pins σ H s):yR X.prog X.w X.K X.mg X.base X.A X.stack s H:=
  ⟨I.ok.frames,I.ok.mod,I.bs,Nat.le_trans I.ok.bsz I.sz,I.stack,I.oJ,I.hok,I.bare⟩
theorem Inv.after {Q:VK}{u:Value}(I:Inv X pins σ H s)(h:CE X.stack X.prog X.w H s Q u s'):EP X pins σ Q u s':=by
  obtain ⟨v,H',os,bare,un,hok,r,q⟩:=h
  obtain ⟨hh,g,d,t,os'⟩:=s'
  obtain rfl:os'=s.os:=os
  exact ⟨v,H',I.call (h':=hh) (g':=g) (d':=d) (t':=t) (ch:=[]) un hok bare (fun b z=>absurd z (by simp)),r,q⟩
end
def Qv (sp:Sp)(dvs:List V)(E:XK)(t:TA):TE:=fun σ H Q=>t σ H fun vs H1=>sp (vs++dvs) H1 Q E
def Binds (K:PySem.W.Frag)(fd:FuncData)(ps:List Str)(ds:List Value):Prop:=
  ∀ (s:Shared) (us:List Value),K.In s.heap→(us++ds).length=ps.length→BindsTo s fd ⟨us,[]⟩ (ps.zip (us++ds))
theorem Binds.all {K:PySem.W.Frag}{fd:FuncData}{ps:List Str}(h:∀ us:List Value,us.length=ps.length→bindArgs fd ⟨us,[]⟩=pure (ps.zip us)):Binds K fd ps []:=fun s us _ hl=>by
  rw[List.append_nil] at hl ⊢
  exact .of_eq (h us hl)
def Passes (CX:CXT)(X:Cx)(E:XK):Prop:=∀ (pins:List (Addr×Obj)) (σ:St) (H:Hp) (s:Shared) (e:Value) (s':Shared),Inv X pins σ H s→CX X.stack H s E e s'→X.xe e s'
section
variable {X:Cx} {CX:CXT} {k:Nat} {f C:Addr} {fd:FuncData} {ps:List Str} {sp:Sp} {dvs:List V} {ds:List Value} {E:XK} {x m:Str} {p pos apos:Pos} {e o:Expr} {es:List Expr} {ta:TE} {t:TA}
theorem Ot {pins:List (Addr×Obj)}{σ:St}{H:Hp}{s:Shared}{Q:VK}{us:List Value}{vs:List V}(F:gR X.prog X.w X.K X.mg X.base CX k f fd ps sp)(hr:fM k X.A)(hb:Binds X.K fd ps ds)(hd:Vals dvs ds)(hx:Passes CX X E)
    (I:Inv X pins σ H s) (r:Vals vs us) (h:sp (vs++dvs) H Q E):wpAny (model X.prog X.w) X.A (call (.ref f) us) (EP X pins σ Q) X.xe s:=by
  have r2:Vals (vs++dvs) (us++ds):=r.append hd
  have hl:(us++ds).length=ps.length:=by rw[← r2.length];exact F.len _ _ _ _ h
  refine wpAny_call (codeAny_mono (F.run X.A X.stack s H ⟨us,[]⟩ (us++ds) (vs++dvs) Q E hr I.Ts (hb s us I.kIn hl) r2 h) fun r s' hq=>?_)
  cases r with
  | error e=>exact hx pins σ H s e s' I hq
  | ok fl=>
    cases fl with
    | ret u=>exact I.after hq
    | next=>exact False.elim hq
    | brk=>exact False.elim hq
    | cont=>exact False.elim hq
theorem LK (F:gR X.prog X.w X.K X.mg X.base CX k f fd ps sp)(hr:fM k X.A)(hg:Gl X x)(hm:X.mg x=some (.ref f))(hk:PySem.W.keepIn X.K (.ref f)=true)(hb:Binds X.K fd ps ds)(hd:Vals dvs ds)(hx:Passes CX X E)
    (ha:PA X (e::es) t) (hdb:(x == ("__debug__" : Str))=false:=by decide) (he:starEach (e::es) X.env=(false,eval e X.env)::starEach es X.env:=by rfl) (hpl:(backTo pos (starEach es X.env)).any (·.1)=false:=by rfl) :
    PE X (.Call (.Name x p) (e::es) [] pos) (Qv sp dvs E t):=by
  intro pins s σ H Q I h
  refine wpAny_Call_Name_kw (Bi I hg hm ?_ hdb)
  refine PySem.W.callWith_K (h₀:=X.base) I.ok.mod.kin hk (thn (ha pos pins s σ H _ I h) fun us s1 ⟨vs,H1,I1,r,q⟩=>⟨I1.kIn,?_⟩) he hpl
  exact Ot F hr hb hd hx I1 r q
end
def PK (X:Cx)(kws:List Keyword)(t:TA):Prop:=
  ∀ (pos:Pos) (pins:List (Addr×Obj)) (s:Shared) (σ:St) (H:Hp) (Q:List V→Hp→Prop),Inv X pins σ H s→t σ H Q→wpAny (model X.prog X.w) X.A (evalAll ((backToKw pos (keywordEach kws X.env)).map (·.2))) (AP X pins σ Q) X.xe s
section
variable {X:Cx} {CX:CXT} {k:Nat} {f C:Addr} {fd:FuncData} {ps ks:List Str} {sp:Sp} {E:XK} {x m:Str} {p pos apos kpos:Pos} {e o:Expr} {es:List Expr} {kws:List Keyword} {te ta:TE} {t tk:TA} {nm:Option Str}
theorem Ng:PK X [] Rf:=fun _ _ _ _ H Q I h=>wpAny_evalAll_nil ⟨[],H,I,.nil,h⟩
theorem Lv (ha:PE X e te)(hr:PK X kws t):PK X (⟨nm,e,kpos⟩::kws) (Mv te t):=by
  intro pos pins s σ H Q I h
  show wpAny _ _ (evalAll ((do let v ← eval e X.env;standAt pos;pure v)::(backToKw pos (keywordEach kws X.env)).map (·.2))) _ _ s
  refine wpAny_evalAll_cons (wpAny_bind (thn (ha pins s σ H _ I h) fun u s1 ⟨x,H1,I1,r1,q1⟩=>wpAny_bind (wpAny_standAt (wpAny_pure ?_))))
  exact thn (hr pos pins s1 σ H1 _ I1 q1) fun us s2 ⟨xs,H2,I2,r2,q2⟩=>⟨x::xs,H2,I2,.cons r1 r2,q2⟩
variable {g:List Value→List Value→List Value} {gV:List V→List V→List V}
end
structure aI (N P:List Str) (sc:Scope):Prop where
  kind:sc.kind=.function
  co:sc.isCoroutine=false
  gen:sc.isGenerator=false
  nd:N.Nodup
  pre:N.take P.length=P
  par:∀ x∈P,sc.names.lookup x=some .local∨sc.names.lookup x=some .cell
  Nn:∀ y∈sc.names,y.2≠.free
theorem sP {kindOf:Str→Option NameKind}{x:Str}:∀ {binds:List (Str×Value)} {m:Str→Option Value},(∀ v,(x,v) ∉ binds)→bindL kindOf binds m x=m x
  | [],_,_=>rfl
  | (n,v)::r,m,h=>by
    unfold bindL
    rw[sP fun w hw=>h w (List.mem_cons_of_mem _ hw)]
    split
    · have:x≠n:=by rintro rfl;exact h v List.mem_cons_self
      simp[this]
    · rfl
theorem tf {kindOf:Str→Option NameKind}{x:Str}:∀ {binds:List (Str×Value)} {m:Str→Option Value},(∀ v,(x,v) ∉ binds)→bindC kindOf binds m x=m x
  | [],_,_=>rfl
  | (n,v)::r,m,h=>by
    unfold bindC
    rw[tf fun w hw=>h w (List.mem_cons_of_mem _ hw)]
    split
    · rfl
    · have:x≠n:=by rintro rfl;exact h v List.mem_cons_self
      simp[this]
theorem sJ {kindOf:Str→Option NameKind}{x:Str}{v:Value}:∀ {P:List Str} {vs:List Value} {i:Nat} {m:Str→Option Value},P.Nodup→P[i]? = some x→vs[i]? = some v→kindOf x=some .local→
    bindL kindOf (P.zip vs) m x=some v
  | [],_,_,_,_,h,_,_=>by simp at h
  | _::_,[],_,_,_,_,h,_=>by simp at h
  | p::P,w::vs,0,m,nd,h1,h2,hk=>by
    simp at h1 h2;subst h1;subst h2
    show bindL kindOf ((p,w)::P.zip vs) m p=_
    unfold bindL
    rw[sP fun v hv=>(List.nodup_cons.mp nd).1 (List.of_mem_zip hv).1,if_pos hk]
    simp
  | p::P,w::vs,i+1,m,nd,h1,h2,hk=>by
    show bindL kindOf ((p,w)::P.zip vs) m x=_
    unfold bindL
    exact sJ (i:=i) (List.nodup_cons.mp nd).2 (by simpa using h1) (by simpa using h2) hk
theorem tu {kindOf:Str→Option NameKind}{x:Str}{v:Value}:∀ {P:List Str} {vs:List Value} {i:Nat} {m:Str→Option Value},P.Nodup→P[i]? = some x→vs[i]? = some v→kindOf x≠some .local→
    bindC kindOf (P.zip vs) m x=some v
  | [],_,_,_,_,h,_,_=>by simp at h
  | _::_,[],_,_,_,_,h,_=>by simp at h
  | p::P,w::vs,0,m,nd,h1,h2,hk=>by
    simp at h1 h2;subst h1;subst h2
    show bindC kindOf ((p,w)::P.zip vs) m p=_
    unfold bindC
    rw[tf fun v hv=>(List.nodup_cons.mp nd).1 (List.of_mem_zip hv).1,if_neg hk]
    simp
  | p::P,w::vs,i+1,m,nd,h1,h2,hk=>by
    show bindC kindOf ((p,w)::P.zip vs) m x=_
    unfold bindC
    exact tu (i:=i) (List.nodup_cons.mp nd).2 (by simpa using h1) (by simpa using h2) hk
def start (N:List Str)(vs:List V):St:=vs.map some++List.replicate (N.length - vs.length) none
def xc (CX:CXT)(P:Program)(w:World)(K:PySem.W.Frag)(mg:Str→Option Value)(base:Heap)(N:List Str)(qual:Str)(scope:Scope)(f:Addr)(cd:Value)(A:Around)(outer:List Env)(s:Shared)(H:Hp)(E:XK):Cx where
  prog:=P
  w:=w
  K:=K
  mg:=mg
  base:=base
  A:=A.deeper (envOfC qual scope s.heap.objs.size f cd)
  N:=N
  s₀:=s
  H₀:=H
  env:=envOfC qual scope s.heap.objs.size f cd
  outer:=outer
  stack:=envOfC qual scope s.heap.objs.size f cd::outer
  ex:=[]
  calm:=true
  fn:=fun _=>true
  pn:=[]
  xe:=fun e s'=>wpAny (model P w) (A.deeper (envOfC qual scope s.heap.objs.size f cd)) (leaving (envOfC qual scope s.heap.objs.size f cd) e) (fun _ s''=>CX outer H s E e s'') (fun e' s''=>CX outer H s E e' s'') s'
theorem yr {sc:Scope}{n:Nat}{x:Str}(h:sc.names.lookup x=some .cell):∃ c,(cellsFrom n sc.names []).lookup x=some c:=by
  have q:=PySem.W.cellsFrom_some sc.names n [] (.inl h)
  exact Option.isSome_iff_exists.mp q
theorem CP {CX:CXT}{P:Program}{w:World}{K:PySem.W.Frag}{mg:Str→Option Value}{base:Heap}{N ps:List Str}{qual:Str}{scope:Scope}{f:Addr}{cd:Value}{A:Around}{outer:List Env}{s s1:Shared}{H:Hp}{E:XK}{us:List Value}{vs:List V}
    (S:aI N ps scope) (hd:A.handled=none) (e0:yR P w K mg base A outer s H) (hl:vs.length=ps.length) (r:Vals vs us)
    (x:InCallC s s.heap.objs.size (bindL (envOfC qual scope s.heap.objs.size f cd).kindOf (ps.zip us) fun _=>none) (cellsFrom (s.heap.objs.size+1) scope.names []) (bindC (envOfC qual scope s.heap.objs.size f cd).kindOf (ps.zip us) fun _=>none) s1) :
    Inv (xc CX P w K mg base N qual scope f cd A outer s H E) [] (start N vs) H s1:=by
  have hpl:ps.length≤N.length:=by have:=congrArg List.length S.pre;rw[List.length_take] at this;omega
  obtain ⟨h1,tk,rfl,hk⟩:=x.done
  have noA:∀ b:Addr,b ∉ (xc CX P w K mg base N qual scope f cd A outer s H E).ex:=fun b z=>absurd (show b∈([]:List Addr) from z) (by simp)
  refine ⟨⟨e0.mod,S.kind,rfl,rfl,Nat.le_refl _,fun y z c h1 h2=>?_,fun y hy=>?_,fun y c _ h=>?_,fun _=>hd,Around.frames_deeper e0.frames,.inr ⟨rfl,rfl⟩,fun b z=>absurd z (noA b),e0.bs,e0.bsz,fun b _ _=>noA b,fun b z=>absurd z (noA b),e0.oi,e0.frf⟩,
    rfl,e0.bare,Un.kept hk,⟨_,x.toInCall.ns,fun i y v h1 h2 h3=>?_⟩,fun y c h=>⟨_,x.cell y c h⟩,e0.hok.fresh (Nat.le_refl _),fun y c h=>?_,fun p hp=>absurd (show p∈([]:List (Addr×Obj)) from hp) (by simp),e0.hok.kept hk,?_⟩
  · exact name_of_addr x.apart (PySem.mem_of_lookup h1) (PySem.mem_of_lookup h2)
  · have hy:scope.names.lookup y=some .cell∨scope.names.lookup y=some .free:=hy
    rcases hy with hy | hy
    · exact yr hy
    · exact absurd rfl (S.Nn _ (PySem.mem_of_lookup hy))
  · exact Nat.le_of_lt (x.above y c (PySem.mem_of_lookup h))
  · have hi:i < vs.length:=by
      unfold start at h2
      by_cases hi:i < vs.length
      · exact hi
      · rw[List.getElem?_append_right (by simpa using hi)] at h2
        rw[List.getElem?_replicate] at h2
        split at h2<;>cases h2
    have ha:vs[i]? = some v:=by
      unfold start at h2
      rw[List.getElem?_append_left (by simpa using hi),List.getElem?_map] at h2
      cases e:vs[i]? with
      | none=>rw[e] at h2;cases h2
      | some a=>rw[e] at h2;cases h2;rfl
    obtain ⟨u,hu,rv⟩:=r.get ha
    have hp:ps[i]? = some y:=by
      rw[← S.pre,List.getElem?_take_of_lt (by omega)];exact h1
    have ndP:ps.Nodup:=by rw[← S.pre];exact S.nd.sublist (List.take_sublist _ _)
    refine ⟨u,rv,?_⟩
    rcases S.par y (List.mem_of_getElem? hp) with k | k
    · exact .inl ⟨k,sJ ndP hp hu k⟩
    · obtain ⟨c,e⟩:=yr (n:=s.heap.objs.size+1) k
      refine .inr ⟨.inl k,c,e,?_⟩
      have q:=x.cell y c e
      rw[tu ndP hp hu (by show scope.names.lookup y≠_;rw[k];decide)] at q
      exact q
  · exact e0.hok.fresh (Nat.le_of_lt (x.above y c (PySem.mem_of_lookup h)))
  · unfold start
    show _=N.length
    rw[List.length_append,List.length_map,List.length_replicate]
    omega
theorem Qc {CX:CXT}{P:Program}{w:World}{K:PySem.W.Frag}{mg:Str→Option Value}{base:Heap}{k:Nat}{f:Addr}{name qual:Str}{params:Arguments}{body:List Stmt}{scope:Scope}{dV kV doc pm cdv ct oc:Value}{an od:Option Addr}
    {osl:Array (Option Value)} {N ps:List Str} {sp:Sp} (lk:K.lookup f=some ⟨oc,od,.func (PySem.W.fnOf name qual params body scope dV kV doc pm an cdv ct),osl⟩) (hcd:PySem.W.codeIn K cdv qual=true) (S:aI N ps scope)
    (len:∀ vs H Q E,sp vs H Q E→vs.length=ps.length)
    (hbody:∀ (A:Around) (outer:List Env) (s:Shared) (H:Hp) (vs:List V) (Q:VK) (E:XK),fM k (A.deeper (envOfC qual scope s.heap.objs.size f cdv))→sp vs H Q E→
      ∃ t,PSs (xc CX P w K mg base N qual scope f cdv A outer s H E) body t∧t { nx:=fun _ H'=>Q .non H',rt:=Q } (start N vs) H) :
    gR P w K mg base CX (k+1) f (PySem.W.fnOf name qual params body scope dV kV doc pm an cdv ct) ps sp:=by
  refine ⟨len,fun A outer s H args us vs Q E hr e0 hb r hsp=>?_⟩
  have hl:=len _ _ _ _ hsp
  have KX:K.In s.heap:=e0.mod.kin.keeps fun b o e=>(e0.bs b o e).1
  have lim:s.heap.NoLimit:=e0.mod.nolimit.keeps fun b o e=>(e0.bs b o e).1
  have gv:∀ y∈ps.zip us,scope.names.lookup y.1=some .local∨(scope.names.lookup y.1=some .cell∧((cellsFrom (s.heap.objs.size+1) scope.names []).lookup y.1).isSome=true):=fun ⟨n,v⟩ hy=>by
    rcases S.par n (List.of_mem_zip hy).1 with q | q
    · exact .inl q
    · exact .inr ⟨q,PySem.W.cellsFrom_some _ _ _ (.inl q)⟩
  refine codeAny_call_function hr.depth (KX _ _ lk) rfl S.co S.gen rfl (PySem.W.codeRec_of KX hcd) (hb _ _ _ _ ?_)
  refine wpAny_newFunctionEnv_cells S.kind gv fun env he s1 x=>?_
  subst he
  refine ⟨lim.keeps x.toInCall.keep,codeAny_func ?_⟩
  obtain ⟨t,ht,hq⟩:=hbody A outer s H vs Q E (hr.deeper _) hsp
  have I:Inv (xc CX P w K mg base N qual scope f cdv A outer s H E) [] (start N vs) H s1:=CP S hr.hd e0 hl r x
  refine wpAny_mono (ht [] s1 (start N vs) H _ I hq) (fun fl s' hs=>?_) fun e s' hs=>hs
  have fin:∀ {σ':St} {H':Hp} {v:V} {u:Value},Inv (xc CX P w K mg base N qual scope f cdv A outer s H E) [] σ' H' s'→RelV v u→Q v H'→CE outer P w H s Q u s':=
    fun {σ' H' v u} J rv q=>⟨v,H',J.os,J.bare,J.base,J.hok,rv,q⟩
  cases fl with
  | ret u=>
    obtain ⟨v,σ',H',J,rv,q⟩:=hs
    exact fin J rv q
  | next=>
    obtain ⟨σ',H',J,q⟩:=hs
    exact fin (v:=V.non) (u:=Value.none) J rfl q
  | brk=>
    obtain ⟨_,_,_,q⟩:=hs
    exact False.elim q
  | cont=>
    obtain ⟨_,_,_,q⟩:=hs
    exact False.elim q
end L2
namespace L2
open PySem PySem.Spec PyProof.Rows
section
variable {X:Cx} {x:Str} {p pos:Pos} {e:Expr} {es:List Expr} {t:TA} {id T:String} {r:List V→Hp→VK→Prop}
def tCB (r:List V→Hp→VK→Prop)(t:TA):TE:=fun σ H Q=>t σ H fun vs H1=>r vs H1 Q
theorem lr (hc:bV X (.builtin id) r)(hg:Gl X x)(hm:X.mg x=none)(hv:bootBuiltins x=some (.builtin id))(ha:PA X (e::es) t)(hn:x ≠ "__name__" := by decide)(hdb:(x == ("__debug__" : Str))=false:=by decide)
    (he:starEach (e::es) X.env=(false,eval e X.env)::starEach es X.env:=by rfl) (hpl:(backTo pos (starEach es X.env)).any (·.1)=false:=by rfl):PE X (.Call (.Name x p) (e::es) [] pos) (tCB r t):=by
  intro pins s σ H Q I h
  refine wpAny_Call_Name_kw (iC I hg hm hv ?_ hn hdb)
  exact PyProof.Rows.callWith_builtin1 (thn (ha pos pins s σ H _ I h) fun us s1 ⟨vs,H1,I1,r1,q1⟩=>hc pins s1 σ H1 vs us Q I1 r1 q1) he hpl
theorem sY (hc:bV X (.type T) r)(hg:Gl X x)(hm:X.mg x=none)(hv:bootBuiltins x=some (.type T))(ha:PA X (e::es) t)(hn:x ≠ "__name__" := by decide)(hdb:(x == ("__debug__" : Str))=false:=by decide)
    (he:starEach (e::es) X.env=(false,eval e X.env)::starEach es X.env:=by rfl) (hpl:(backTo pos (starEach es X.env)).any (·.1)=false:=by rfl):PE X (.Call (.Name x p) (e::es) [] pos) (tCB r t):=by
  intro pins s σ H Q I h
  refine wpAny_Call_Name_kw (iC I hg hm hv ?_ hn hdb)
  exact PyProof.Rows.callWith_type1 (thn (ha pos pins s σ H _ I h) fun us s1 ⟨vs,H1,I1,r1,q1⟩=>hc pins s1 σ H1 vs us Q I1 r1 q1) he hpl
end
end L2
namespace HT
open PySem PyProof.Rows
section
open PySem.SeqAt
open PySem.AutoSeq1 (wpAny_loadPart')
open PySem.MeetsSeq PySem.MeetsSeq2 PySem.MeetsSeq3
end
section
variable {prog:Program} {w:World} {A:Around} {E:Value→Shared→Prop} {s:Shared}
theorem Ji {t b:Addr}{vs ws:List Value}{Q:Value→Shared→Prop}(ht:IsTup s.heap t vs.toArray)(hb:IsTup s.heap b ws.toArray)(hv:vs≠[])
    (h1:ws=[]→Q (.ref t) s) (h2:ws≠[]→Q (.ref s.heap.objs.size) { s with heap:=s.heap.push { cls:=.type "tuple", data:=.seq (vs++ws).toArray } })
    (hsz:vs.length+ws.length≤sizeLine):wpAny (model prog w) A (binaryOp .Add (.ref t) (.ref b)) Q E s:=by
  obtain ⟨⟨cls,dd,data,sl⟩,ho,hc,n,hd⟩:=id ht
  obtain ⟨⟨cls2,dd2,data2,sl2⟩,ho2,hc2,n2,hd2⟩:=id hb
  simp only at hc hd hc2 hd2
  subst hc hd hc2 hd2
  have e:vs.toArray++ws.toArray=(vs++ws).toArray:=by simp
  by_cases hw:ws=[]
  · exact concat_meets ⟨_,ho,rfl⟩ ⟨_,ho2,rfl⟩ noFill_tuple_add seq_tuple_add PySem.F.slot_tuple_add PySem.F.entry_tuple_add (PySem.F.args_tuple_add_2 _ _)
      (tuple_addW1 t b vs.toArray ws.toArray n n2 dd dd2 sl sl2 (by simpa using hv) (by simp[hw])) ⟨ho,ho2,h1 hw⟩
  · refine concat_meets ⟨_,ho,rfl⟩ ⟨_,ho2,rfl⟩ noFill_tuple_add seq_tuple_add PySem.F.slot_tuple_add PySem.F.entry_tuple_add (PySem.F.args_tuple_add_2 _ _)
      (tuple_addW2 t b vs.toArray ws.toArray n n2 dd dd2 sl sl2 (by simpa using hv) (by simpa using hw) (by rw[List.size_toArray,List.size_toArray];exact hsz)) ⟨ho,ho2,?_⟩
    rw[e]
    exact h2 hw
def sIx (n d:Nat):Option Int→Nat
  | none=>d
  | some v=>if v < 0 then (v+(n:Int)).toNat else min v.toNat n
theorem xr (n d:Nat):sIx n d none=d:=rfl
theorem Bj (n d k:Nat):sIx n d (some (k:Int))=min k n:=by
  show (if (k:Int) < 0 then ((k:Int)+(n:Int)).toNat else min (k:Int).toNat n)=min k n
  rw[if_neg (by omega),Int.toNat_natCast]
theorem NC (n d:Nat)(hd:d≤n)(o:Option Int):sIx n d o≤n:=by
  cases o with
  | none=>exact hd
  | some v=>
    show (if v < 0 then (v+(n:Int)).toNat else min v.toNat n)≤n
    by_cases hv:v < 0
    · rw[if_pos hv];omega
    · rw[if_neg hv];exact Nat.min_le_right _ _
theorem BD (v:Int)(n d:Nat):(if v < 0 then max (v+(n:Int)) 0 else min v (n:Int))=((sIx n d (some v):Nat):Int):=by
  show (if v < 0 then max (v+(n:Int)) 0 else min v (n:Int))=(((if v < 0 then (v+(n:Int)).toNat else min v.toNat n):Nat):Int)
  by_cases hv:v < 0
  · simp only[if_pos hv];omega
  · simp only[if_neg hv];omega
theorem yC (lo hi:Option Int)(n:Nat):Builtin.Slice.sliceAdjust lo hi 1 (n:Int)=(((sIx n 0 lo:Nat):Int),((sIx n n hi:Nat):Int)):=by
  have h1:¬ ((1:Int) < 0):=by omega
  unfold Builtin.Slice.sliceAdjust
  simp only[h1,if_false]
  refine Prod.ext ?_ ?_
  · cases lo with
    | none=>rfl
    | some v=>exact BD v n 0
  · cases hi with
    | none=>rfl
    | some v=>exact BD v n n
theorem yI (i j:Nat):Builtin.Slice.slicePlaces (i:Int) (j:Int) 1=j - i:=by
  unfold Builtin.Slice.slicePlaces
  have h1:(1:Int) > 0:=by omega
  simp only[h1,if_true,Int.ediv_one]
  split<;>omega
theorem pD {v:Value}{o:Option Int}{Q:Option Int→Shared→Prop}(p:IsPart v o)(h:Q o s):wpAny (model prog w) A (Builtin.Slice.slicePartIndex v) Q E s:=by
  cases p with
  | none=>exact slicePart_none h
  | int i t=>exact slicePart_int h
theorem ij {sl:Addr}{vl vu:Value}{lo hi:Option Int}{n:Nat}{Q:Int×Int×Nat→Shared→Prop}(hs:s.heap.IsSliceOf sl vl vu .none)(pl:IsPart vl lo)(pu:IsPart vu hi)
    (h:Q (((sIx n 0 lo:Nat):Int),1,sIx n n hi - sIx n 0 lo) s):wpAny (model prog w) A (Builtin.Slice.sliceApplied (.ref sl) (pure (n:Int))) Q E s:=by
  obtain ⟨os,hos,hcs,hds⟩:=id hs
  unfold Builtin.Slice.sliceApplied Builtin.Slice.sliceFields
  refine wpAny_bind (wpAny_bind (wpAny_field hos hds (x:=vl) rfl (wpAny_bind (wpAny_field hos hds (x:=vu) rfl (wpAny_bind (wpAny_field hos hds (x:=.none) rfl (wpAny_pure ?_)))))))
  refine wpAny_bind (slicePart_none ?_)
  show wpAny _ _ (if ((1:Int) == 0)=true then _ else _) _ _ s
  rw[if_neg (by decide)]
  refine wpAny_bind (pD pl (wpAny_bind (pD pu (wpAny_bind (wpAny_pure ?_)))))
  show wpAny _ _ (match Builtin.Slice.sliceAdjust lo hi 1 (n:Int) with | (lo,hi)=>pure (lo,(1:Int),Builtin.Slice.slicePlaces lo hi 1)) _ _ s
  rw[yC lo hi n]
  show wpAny _ _ (pure (((sIx n 0 lo:Nat):Int),(1:Int),Builtin.Slice.slicePlaces ((sIx n 0 lo:Nat):Int) ((sIx n n hi:Nat):Int) 1)) _ _ s
  rw[yI]
  exact wpAny_pure h
theorem D9 (xs:Array Value)(i k:Nat):((List.range k).filterMap fun (m:Nat)=>xs[((i:Int)+(m:Int)*1).toNat]?).toArray=((xs.toList.drop i).take k).toArray:=by
  have e:(fun (m:Nat)=>xs[((i:Int)+(m:Int)*1).toNat]?)=fun m=>xs[i+m]?:=by
    funext m
    have:((i:Int)+(m:Int)*1).toNat=i+m:=by omega
    rw[this]
  rw[e]
  have:=pick_run xs i k
  rw[List.filterMap_map] at this
  have e2:((fun x=>xs[x]?) ∘ fun x=>i+x)=fun m=>xs[i+m]?:=rfl
  rw[e2] at this
  rw[this]
theorem lP {t sl:Addr}{items:Array Value}{vl vu:Value}{lo hi:Option Int}{Q:Value→Shared→Prop}(ht:IsTup s.heap t items)(hs:s.heap.IsSliceOf sl vl vu .none)(pl:IsPart vl lo)(pu:IsPart vu hi)
    (hw:¬ (sIx items.size 0 lo=0∧sIx items.size items.size hi=items.size))
    (h:Q (.ref s.heap.objs.size) { s with heap:=s.heap.push { cls:=.type "tuple", data:=.seq ((items.toList.drop (sIx items.size 0 lo)).take (sIx items.size items.size hi - sIx items.size 0 lo)).toArray } })
    (hsz:items.size≤sizeLine):wpAny (model prog w) A (getItem (.ref t) (.ref sl)) Q E s:=by
  have BW:sizeOk (.seq ((items.toList.drop (sIx items.size 0 lo)).take (sIx items.size items.size hi - sIx items.size 0 lo)).toArray):=by
    show ((items.toList.drop (sIx items.size 0 lo)).take (sIx items.size items.size hi - sIx items.size 0 lo)).toArray.size≤sizeLine
    rw[List.size_toArray,List.length_take,List.length_drop,Array.length_toList]
    omega
  have hj:sIx items.size items.size hi≤items.size:=NC _ _ (Nat.le_refl _) hi
  obtain ⟨os,hos,hcs,hds⟩:=id hs
  have hTs:s.TypeIs (.ref sl) "slice" := ⟨os,hos,hcs⟩
  unfold getItem
  try with_reducible refine wpAny_holding ?_
  first | refine wpAny_bind (wpAny_pure ?_) | skip
  refine wpAny_bind (wpAny_sequenceKey ht.typeIs (by decide) ?_)
  refine wpAny_bind (wpAny_callSpecial?_slot (name:=Str.ofString "__getitem__") ht.typeIs PyProof.Rows.slot_tuple_getitem
    (wpAny_call_entry PyProof.Rows.slot_tuple_getitem ht.typeIs entry_tuple_getitem ?_ (args_tuple_getitem _ _)))
  show wpAny _ _ (Builtin.Tuple.tupleItemsOf (.ref t) >>= _) _ _ s
  refine wpAny_bind (tupleItemsOf_ ht ?_)
  refine wpAny_bind (wpAny_typeOf hTs ?_)
  rw[if_pos (by decide)]
  refine wpAny_bind (ij hs pl pu ?_)
  have hno:¬ ((((sIx items.size 0 lo:Nat):Int) == 0&&(1:Int) == 1&&(sIx items.size items.size hi - sIx items.size 0 lo) == items.size)=true):=by
    intro q
    rw[Bool.and_eq_true,Bool.and_eq_true] at q
    have q1:((sIx items.size 0 lo:Nat):Int)=0:=eq_of_beq q.1.1
    have q2:sIx items.size items.size hi - sIx items.size 0 lo=items.size:=eq_of_beq q.2
    exact hw ⟨by omega,by omega⟩
  show wpAny _ _ (if (((sIx items.size 0 lo:Nat):Int) == 0&&(1:Int) == 1&&(sIx items.size items.size hi - sIx items.size 0 lo) == items.size)=true then _ else _) _ _ s
  rw[if_neg hno,D9]
  first
    | exact wpAny_bind (m:=Builtin.Tuple.tupleExact _) (wpAny_newObj_type (wpAny_pure ⟨_,rfl,wpAny_pure h⟩) BW)
    | exact wpAny_bind (m:=Builtin.Tuple.tupleExact _) (wpAny_newObj_type (wpAny_bind (wpAny_pure (wpAny_pure ⟨_,rfl,wpAny_pure h⟩))) BW)
    | exact wpAny_bind (wpAny_bind (m:=Builtin.Tuple.tupleExact _) (wpAny_newObj_type (wpAny_pure (wpAny_pure ⟨_,rfl,wpAny_pure h⟩)) BW))
    | exact wpAny_bind (wpAny_bind (m:=Builtin.Tuple.tupleExact _) (wpAny_newObj_type (wpAny_pure ⟨_,rfl,wpAny_pure h⟩) BW))
end
end HT
namespace L2
open PySem PySem.Spec PyProof.Rows
abbrev TO:=St→Hp→(Option Int→Hp→Prop)→Prop
def PO (X:Cx)(e:Option Expr)(t:TO):Prop:=
  ∀ (pins:List (Addr×Obj)) (s:Shared) (σ:St) (H:Hp) (Q:Option Int→Hp→Prop),Inv X pins σ H s→t σ H Q→
    wpAny (model X.prog X.w) X.A (evalPart e X.env) (fun u s'=>∃ o H',Inv X pins σ H' s'∧IsPart u o∧Q o H') X.xe s
def JP:TO:=fun _ H Q=>Q none H
def Qe (t:TE):TO:=fun σ H Q=>t σ H fun x H1=>∃ i,x=.int i∧Q (some i) H1
theorem intsAre_of {ns:List Int}:∀ {us:List Value},Vals (ns.map V.int) us→IntsAre us ns:=by
  induction ns with
  | nil=>intro us r;rw[List.map_nil] at r;cases r;exact .nil
  | cons n ns ih=>
    intro us r
    rw[List.map_cons] at r
    cases r with
    | cons r1 r2=>
      obtain ⟨t,e⟩:=r1
      subst e
      exact .cons n t (ih r2)
section
variable {X:Cx} {e:Expr} {te:TE} {lo hi:Option Expr} {tl th:TO} {pos p2:Pos}
theorem LQ:PO X none JP:=by
  intro pins s σ H Q I h
  rw[evalPart_none]
  exact wpAny_pure ⟨none,H,I,.none,h⟩
theorem LL (h:PE X e te):PO X (some e) (Qe te):=by
  intro pins s σ H Q I hw
  rw[evalPart_some]
  refine thn (h pins s σ H _ I hw) fun u s1 ⟨x,H1,I1,r1,q1⟩=>?_
  obtain ⟨i,rfl,q⟩:=q1
  obtain ⟨t,rfl⟩:=r1
  exact ⟨some i,H1,I1,.int i t,q⟩
def SlR (X:Cx)(r:V→Option Int→Option Int→Hp→VK→Prop):Prop:=
  ∀ (pins:List (Addr×Obj)) (s:Shared) (σ:St) (H:Hp) (x:V) (v vl vu:Value) (lo hi:Option Int) (sl:Addr) (Q:VK),Inv X pins σ H s→RelV x v→s.heap.IsSliceOf sl vl vu .none→IsPart vl lo→IsPart vu hi→r x lo hi H Q→
    ∃ T id,typeLookup (.type T) "__getitem__" = pure (some (.builtin id))∧s.TypeIs v T∧wpAny (model X.prog X.w) X.A (getItem v (.ref sl)) (EP X pins σ Q) X.xe s
theorem SlR.or {r r':V→Option Int→Option Int→Hp→VK→Prop}(h:SlR X r)(h':SlR X r'):SlR X (fun x lo hi H Q=>r x lo hi H Q∨r' x lo hi H Q):=by
  intro pins s σ H x v vl vu lo hi sl Q I rx hs pl pu q
  rcases q with q | q
  · exact h pins s σ H x v vl vu lo hi sl Q I rx hs pl pu q
  · exact h' pins s σ H x v vl vu lo hi sl Q I rx hs pl pu q
def tSl (r:V→Option Int→Option Int→Hp→VK→Prop)(te:TE)(tl th:TO):TE:=fun σ H Q=>te σ H fun x H1=>tl σ H1 fun l H2=>th σ H2 fun u H3=>r x l u H3 Q
theorem Ho {r:V→Option Int→Option Int→Hp→VK→Prop}(hr:SlR X r)(he:PE X e te)(hl:PO X lo tl)(hu:PO X hi th):PE X (.Subscript e (.Slice lo hi none p2) pos) (tSl r te tl th):=by
  intro pins s σ H Q I h
  refine Subscript_ (thn (he pins s σ H _ I h) fun v s1 ⟨x,H1,I1,r1,q1⟩=>?_)
  refine wpAny_Slice (thn (hl pins s1 σ H1 _ I1 q1) fun vl s2 ⟨l,H2,I2,pl,q2⟩=>thn (hu pins s2 σ H2 _ I2 q2) fun vu s3 ⟨u,H3,I3,pu,q3⟩=>?_)
  rw[evalPart_none]
  refine wpAny_pure ?_
  have I4:Inv X pins σ H3 { s3 with heap:=s3.heap.push { cls:=.type "slice", data:=.fields #[vl,vu,.none] } }:=I3.kept (t':=s3.toks) fun b ob q=>Heap.get?_push_of_some _ q
  obtain ⟨T,id,hT,ht,hg⟩:=hr pins { s3 with heap:=s3.heap.push { cls:=.type "slice", data:=.fields #[vl,vu,.none] } } σ H3 x v vl vu l u s3.heap.objs.size Q I4 r1 (Heap.IsSliceOf.new ..) pl pu q3
  show wpAny (model X.prog X.w) X.A (subscriptTail e (.Slice lo hi none p2) v (.ref s3.heap.objs.size)) (EP X pins σ Q) X.xe { s3 with heap:=s3.heap.push { cls:=.type "slice", data:=.fields #[vl,vu,.none] } }
  exact tail_any (ops:=[.ref s3.heap.objs.size,v]) ht hT hg (by with_unfolding_all rfl)
def vv (xs:List V)(lo hi:Option Int):List V:=(xs.drop (HT.sIx xs.length 0 lo)).take (HT.sIx xs.length xs.length hi - HT.sIx xs.length 0 lo)
theorem nv (xs:List V)(lo hi:Option Int):(vv xs lo hi).length≤xs.length:=by
  unfold vv
  rw[List.length_take,List.length_drop]
  omega
def SI (K:PySem.W.Frag):V→Option Int→Option Int→Hp→VK→Prop:=fun x lo hi H Q=>∃ a xs,x=.ref a∧SqT K H a xs∧
  ¬ (HT.sIx xs.length 0 lo=0∧HT.sIx xs.length xs.length hi=xs.length)∧∀ p,H p=none→Q (.ref p) (upd H p (.tup (vv xs lo hi)))
theorem O7:SlR X (SI X.K):=by
  intro pins s σ H x v vl vu lo hi sl Q I rx hs pl pu h
  obtain ⟨a,xs,rfl,hx,hw,q⟩:=h
  cases rx
  obtain ⟨its,r,ht,hz⟩:=I.tuple hx
  have hlen:its.toArray.size=xs.length:=by rw[List.size_toArray];exact r.length.symm
  refine ⟨"tuple", _,PyProof.Rows.slot_tuple_getitem.lookup,ht.typeIs,?_⟩
  refine HT.lP ht hs pl pu (by rw[hlen];exact hw) ?_ (by rw[hlen];exact hz)
  rw[hlen]
  refine ⟨.ref s.heap.objs.size,_,I.laid (t':=s.toks) (o:=.tup (vv xs lo hi)) (fun b ob q=>Heap.get?_push_of_some _ q) (Nat.le_refl _) ?_,rfl,q _ (I.hok.fresh (Nat.le_refl _))⟩
  exact ⟨Nat.le_trans (nv xs lo hi) hz,_,(r.drop (HT.sIx xs.length 0 lo)).take (HT.sIx xs.length xs.length hi - HT.sIx xs.length 0 lo),u9.new _ _⟩
def MD (K:PySem.W.Frag):R2:=fun x y H Q=>∃ a b xs ys,x=.ref a∧y=.ref b∧SqT K H a xs∧SqT K H b ys∧xs≠[]∧xs.length+ys.length≤sizeLine∧
  (ys=[]→Q (.ref a) H)∧(ys≠[]→∀ p,H p=none→Q (.ref p) (upd H p (.tup (xs++ys))))
theorem Vals.u5 {xs:List V}{us:List Value}(r:Vals xs us):us=[]↔xs=[]:=by
  cases r with
  | nil=>simp
  | cons _ _=>simp
theorem Jo:OpR X (binaryOp .Add) (MD X.K):=by
  intro pins s σ H x y v u Q I rx ry h
  obtain ⟨a,b,xs,ys,rfl,rfl,ha,hb,hx,hz,q1,q2⟩:=h
  cases rx
  cases ry
  obtain ⟨its,r1,p1,_⟩:=I.tuple ha
  obtain ⟨its2,r2,p2,_⟩:=I.tuple hb
  refine HT.Ji p1 p2 (fun z=>hx (r1.u5.mp z)) (fun z=>⟨.ref a,H,I,rfl,q1 (r2.u5.mp z)⟩) (fun z=>?_) (by rw[← r1.length,← r2.length];exact hz)
  refine ⟨.ref s.heap.objs.size,_,I.laid (t':=s.toks) (o:=.tup (xs++ys)) (fun b ob q=>Heap.get?_push_of_some _ q) (Nat.le_refl _) ?_,rfl,q2 (fun w=>z (r2.u5.mpr w)) _ (I.hok.fresh (Nat.le_refl _))⟩
  exact ⟨by rw[List.length_append];exact hz,_,r1.append r2,u9.new _ _⟩
end
end L2
namespace L2
open PySem PySem.Spec PyProof.Rows
def ixN (n:Nat)(i:Int):Option Nat:=if 0≤i then (if i < n then some i.toNat else none) else if -(n:Int)≤i then some (i+n).toNat else none
def atI {α:Type}(xs:List α)(i:Int):Option α:=(ixN xs.length i).bind fun j=>xs[j]?
theorem Jw {n:Nat}{i:Int}{j:Nat}(h:ixN n i=some j):seqIndex? i n=some j∧j < n∧-(n:Int)≤i∧i < n:=by
  unfold ixN at h
  by_cases h0:0≤i
  · rw[if_pos h0] at h
    by_cases h1:i < n
    · rw[if_pos h1] at h
      have e:i.toNat=j:=Option.some.inj h
      exact ⟨by rw[seqIndex_of h0 h1,e],by omega,by omega,h1⟩
    · rw[if_neg h1] at h;cases h
  · rw[if_neg h0] at h
    by_cases h1:-(n:Int)≤i
    · rw[if_pos h1] at h
      have e:(i+n).toNat=j:=Option.some.inj h
      exact ⟨by rw[seqIndex_neg (by omega) h1,e],by omega,h1,by omega⟩
    · rw[if_neg h1] at h;cases h
theorem tV {α:Type}{xs:List α}{i:Int}{v:α}(h:atI xs i=some v):∃ j,seqIndex? i xs.length=some j∧xs[j]? = some v∧j < xs.length∧-(xs.length:Int)≤i∧i < xs.length:=by
  unfold atI at h
  cases e:ixN xs.length i with
  | none=>rw[e] at h;cases h
  | some j=>
    rw[e] at h
    obtain ⟨h1,h2,h3,h4⟩:=Jw e
    exact ⟨j,h1,h,h2,h3,h4⟩
def Ck (b:Expr):Prop:=∀ o i,subscripted b false o i=operate [o,i] (getItem o i)
def IxR (X:Cx)(r:R2):Prop:=
  ∀ (value slice:Expr) (pins:List (Addr×Obj)) (s:Shared) (σ:St) (H:Hp) (x y:V) (v u:Value) (Q:VK),Inv X pins σ H s→RelV x v→RelV y u→r x y H Q→
    subscripted slice false v u=operate [v,u] (getItem v u)→wpAny (model X.prog X.w) X.A (subscriptTail value slice v u) (EP X pins σ Q) X.xe s
def MtR (X:Cx)(id:String)(r:V→List V→Hp→VK→Prop):Prop:=
  ∀ (pins:List (Addr×Obj)) (s:Shared) (σ:St) (H:Hp) (x:V) (xs:List V) (v:Value) (us:List Value) (Q:VK),Inv X pins σ H s→RelV x v→Vals xs us→r x xs H Q→
    wpAny (model X.prog X.w) X.A (call (.builtin id) (v::us)) (EP X pins σ Q) X.xe s
section
variable {X:Cx} {a b:Expr} {ta tb:TE} {pos:Pos}
theorem IxR.or {r r':R2}(h:IxR X r)(h':IxR X r'):IxR X (fun x y H Q=>r x y H Q∨r' x y H Q):=by
  intro value slice pins s σ H x y v u Q I rx ry q hs
  rcases q with q | q
  · exact h value slice pins s σ H x y v u Q I rx ry q hs
  · exact h' value slice pins s σ H x y v u Q I rx ry q hs
theorem MtR.or {id:String}{r r':V→List V→Hp→VK→Prop}(h:MtR X id r)(h':MtR X id r'):MtR X id (fun x xs H Q=>r x xs H Q∨r' x xs H Q):=by
  intro pins s σ H x xs v us Q I rx rs q
  rcases q with q | q
  · exact h pins s σ H x xs v us Q I rx rs q
  · exact h' pins s σ H x xs v us Q I rx rs q
theorem R6 {r:R2}(hr:IxR X r)(ha:PE X a ta)(hb:PE X b tb)(hs:Ck b):PE X (.Subscript a b pos) (tOp r ta tb):=by
  intro pins s σ H Q I h
  exact Subscript_ (Pl ha hb I h fun v u s2 x y H2 I2 rx ry q=>hr a b pins s2 σ H2 x y v u Q I2 rx ry q (hs _ _))
def RW (K:PySem.W.Frag):R2:=fun x y H Q=>∃ p xs i v,x=.ref p∧y=.int i∧SqL K H p xs∧atI xs i=some v∧Q v H
def Rz (K:PySem.W.Frag):R2:=fun x y H Q=>∃ p xs i v,x=.ref p∧y=.int i∧SqT K H p xs∧atI xs i=some v∧Q v H
def QV:R2:=fun x y H Q=>∃ z i c,x=.str z∧y=.int i∧z.length≤sizeLine∧atI z.cps.toList i=some c∧Q (.str ⟨#[c]⟩) H
theorem LN:IxR X (RW X.K):=by
  intro value slice pins s σ H x y v u Q I rx ry h hs
  obtain ⟨p,xs,i,z,rfl,rfl,hq,he,q⟩:=h
  cases rx
  obtain ⟨t,rfl⟩:=ry
  obtain ⟨its,r,pl,hz⟩:=I.list hq
  obtain ⟨j,h1,h2,h3,h4,h5⟩:=tV he
  obtain ⟨w,ew,rw'⟩:=r.get h2
  have hl:=r.length
  have hn:=pk
  have fin:EP X pins σ Q w s:=⟨z,H,I,rw',q⟩
  by_cases h0:0≤i
  · have hj:i.toNat=j:=by
      rw[seqIndex_of h0 h5] at h1
      exact Option.some.inj h1
    exact item_listR pl.isList h0 (by omega) (by rw[hj];simpa using ew) fin hs
  · have hj:(i+(its.toArray.size:Int)).toNat=j:=by
      rw[seqIndex_neg (by omega) h4] at h1
      rw[List.size_toArray,← hl]
      exact Option.some.inj h1
    exact subscriptTail_builtinR (x:=w) pl.isList.typeIs slot_list_getitem.lookup
      (wpAny_getItem_list_neg (Q:=fun r s'=>r=w∧EP X pins σ Q r s') pl.isList (by omega) (by rw[List.size_toArray]<;>omega) (by omega) (by rw[hj];simpa using ew) ⟨rfl,fin⟩) hs
theorem N1:IxR X (Rz X.K):=by
  intro value slice pins s σ H x y v u Q I rx ry h hs
  obtain ⟨p,xs,i,z,rfl,rfl,hq,he,q⟩:=h
  cases rx
  obtain ⟨t,rfl⟩:=ry
  obtain ⟨its,r,pl,hz⟩:=I.tuple hq
  obtain ⟨j,h1,h2,h3,h4,h5⟩:=tV he
  obtain ⟨w,ew,rw'⟩:=r.get h2
  have hl:=r.length
  have hn:=pk
  have fin:EP X pins σ Q w s:=⟨z,H,I,rw',q⟩
  exact subscriptTail_builtinR (x:=w) pl.typeIs slot_tuple_getitem.lookup
    (getItem_tuple (j:=j) (Q:=fun r s'=>r=w∧EP X pins σ Q r s') pl (by omega) (by omega) (by rw[List.size_toArray,← hl];exact h1) (by simpa using ew) ⟨rfl,fin⟩) hs
theorem Pa:IxR X QV:=by
  intro value slice pins s σ H x y v u Q I rx ry h hs
  obtain ⟨z,i,c,rfl,rfl,hz,he,q⟩:=h
  obtain ⟨t,rfl⟩:=rx
  obtain ⟨t',rfl⟩:=ry
  obtain ⟨j,h1,h2,h3,h4,h5⟩:=tV he
  have hl:z.cps.toList.length=z.length:=by simp[Str.length]
  rw[hl] at h1 h4 h5
  have hn:=pk
  exact tail_any (typeIs_str s z t) slot_str_getitem.lookup (getItem_str (c:=c) (by
    have e1:decide (i < -(2 ^ 63:Int))=false:=decide_eq_false (by omega)
    have e2:decide (i ≥ 2 ^ 63)=false:=decide_eq_false (by omega)
    rw[e1,e2,Bool.or_false]) (by rw[h1];simpa using h2) ⟨.str ⟨#[c]⟩,H,I.tok _,⟨_,rfl⟩,q⟩) hs
def rIx (K:PySem.W.Frag):R2:=fun x y H Q=>RW K x y H Q∨Rz K x y H Q∨QV x y H Q
theorem OU:IxR X (rIx X.K):=LN.or (N1.or Pa)
theorem Inv.lst {pins:List (Addr×Obj)}{σ:St}{H:Hp}{s:Shared}{p:Addr}{xs:List V}(I:Inv X pins σ H s)(h:H p=some (.lst xs)) :
    ∃ (its:List Value) (n:Nat),Vals xs its∧s.heap.get? p=some { cls:=.type "list", data:=.seq its.toArray n }∧xs.length≤sizeLine:=by
  obtain ⟨z,its,n,r,e⟩:=I.hok p _ h
  exact ⟨its,n,r,e,z⟩
theorem uo (lo hi:Option Int)(n:Nat):(sliceBounds lo hi none n).1=((HT.sIx n 0 lo:Nat):Int)∧(sliceBounds lo hi none n).2.1=((HT.sIx n n hi:Nat):Int)∧(sliceBounds lo hi none n).2.2=1:=by
  refine ⟨?_,?_,rfl⟩
  · cases lo with
    | none=>simp[sliceBounds,HT.sIx]
    | some i=>
      simp only[sliceBounds,HT.sIx,Option.getD_none,show (1:Int) > 0 by decide,if_true]
      by_cases h:i < 0
      · simp only[h,if_true]<;>omega
      · simp only[h,if_false]<;>omega
  · cases hi with
    | none=>simp[sliceBounds,HT.sIx]
    | some i=>
      simp only[sliceBounds,HT.sIx,Option.getD_none,show (1:Int) > 0 by decide,if_true]
      by_cases h:i < 0
      · simp only[h,if_true]<;>omega
      · simp only[h,if_false]<;>omega
theorem r6 (its:List Value)(lo hi:Option Int):slicePick its.toArray lo hi none=((its.drop (HT.sIx its.length 0 lo)).take (HT.sIx its.length its.length hi - HT.sIx its.length 0 lo)).toArray:=by
  obtain ⟨h1,h2,h3⟩:=uo lo hi its.toArray.size
  unfold slicePick
  rw[h1,h2,h3]
  simp only[sliceRange_one,pick_run,List.size_toArray]<;>rfl
def TX (K:PySem.W.Frag):V→Option Int→Option Int→Hp→VK→Prop:=fun x lo hi H Q=>∃ a xs,x=.ref a∧SqL K H a xs∧∀ p,H p=none→Q (.ref p) (upd H p (.lst (vv xs lo hi)))
theorem K6:SlR X (TX X.K):=by
  intro pins s σ H x v vl vu lo hi sl Q I rx hs pl pu h
  obtain ⟨a,xs,rfl,hx,q⟩:=h
  cases rx
  obtain ⟨its,r,ht,hz⟩:=I.list hx
  have hlen:=r.length
  refine ⟨"list", _,slot_list_getitem.lookup,ht.isList.typeIs,?_⟩
  refine wpAny_getItem_list_slice ht.isList hs pl pu .none (by simp) ?_ (by rw[List.size_toArray]<;>omega)
  rw[r6,← hlen]
  refine ⟨.ref s.heap.objs.size,_,I.laid (t':=s.toks) (o:=.lst (vv xs lo hi)) (fun b ob q=>Heap.get?_push_of_some _ q) (Nat.le_refl _) ?_,rfl,q _ (I.hok.fresh (Nat.le_refl _))⟩
  exact ⟨Nat.le_trans (nv xs lo hi) hz,_,0,(r.drop (HT.sIx xs.length 0 lo)).take (HT.sIx xs.length xs.length hi - HT.sIx xs.length 0 lo),Heap.get?_push_size _ rfl⟩
def Mt:V→Bool
  | .non=>true
  | .bl _=>true
  | .int _=>true
  | .str _=>true
  | _=>false
def eqV:V→V→Bool
  | .non,.non=>true
  | .bl a,.bl b=>a == b
  | .bl a,.int b=>(if a then 1 else 0) == b
  | .int a,.bl b=>a == (if b then 1 else 0)
  | .int a,.int b=>a == b
  | .str a,.str b=>a == b
  | _,_=>false
def inV (x:V)(xs:List V):Bool:=xs.any fun y=>eqV y x
def rIn (K:PySem.W.Frag)(neg:Bool):R2:=fun x y H Q=>∃ p xs,y=.ref p∧(SqL K H p xs∨SqT K H p xs)∧Mt x=true∧xs.all Mt=true∧Q (.bl (if neg then !inV x xs else inV x xs)) H
theorem tO:bV X (.builtin "len") (fun xs H Q=>∃ p ys,xs=[.ref p]∧(SqL X.K H p ys∨SqT X.K H p ys)∧Q (.int ys.length) H):=by
  intro pins s σ H xs us Q I r h
  obtain ⟨p,ys,rfl,hq,q⟩:=h
  obtain ⟨u,rfl,rx⟩:=vals1 r
  cases rx
  have hn:=pk
  rcases hq with hq | hq
  · obtain ⟨its,r',pl,hz⟩:=I.list hq
    have hlen:=r'.length
    exact Calls.call_len_list pl.isList (by simp only[List.size_toArray]<;>omega) ⟨.int ys.length,H,I.tok _,⟨s.toks+1,by rw[List.size_toArray,hlen]⟩,q⟩
  · obtain ⟨its,r',pl,hz⟩:=I.tuple hq
    have hlen:=r'.length
    exact len_tuple pl (by simp only[List.size_toArray]<;>omega) ⟨.int ys.length,H,I.tok _,⟨s.toks+1,by rw[List.size_toArray,hlen]⟩,q⟩
theorem uL:bV X (.builtin "len") (fun xs H Q=>∃ z,xs=[.str z]∧z.length≤sizeLine∧Q (.int z.length) H):=by
  intro pins s σ H xs us Q I r h
  obtain ⟨z,rfl,hz,q⟩:=h
  obtain ⟨u,rfl,t,rfl⟩:=vals1 r
  have hn:=pk
  exact len_str (by omega) ⟨.int z.length,H,I.tok _,⟨_,rfl⟩,q⟩
theorem bV.or {f:Value}{r r':List V→Hp→VK→Prop}(h:bV X f r)(h':bV X f r'):bV X f (fun xs H Q=>r xs H Q∨r' xs H Q):=by
  intro pins s σ H xs us Q I rs q
  rcases q with q | q
  · exact h pins s σ H xs us Q I rs q
  · exact h' pins s σ H xs us Q I rs q
theorem iW:bV X (.type "list") (fun xs H Q=>∃ p ys,xs=[.ref p]∧(SqL X.K H p ys∨SqT X.K H p ys)∧∀ l,H l=none→Q (.ref l) (upd H l (.lst ys))):=by
  intro pins s σ H xs us Q I r h
  obtain ⟨p,ys,rfl,hq,q⟩:=h
  obtain ⟨u,rfl,rx⟩:=vals1 r
  cases rx
  have fin:∀ (its:List Value),Vals ys its→ys.length≤sizeLine→∀ (h':Heap) (c':Nat),(∀ b o',s.heap.get? b=some o'→h'.get? b=some o')→
      h'.get? s.heap.objs.size=some { cls:=.type "list", dict:=none,data:=.seq its.toArray c',slots:=#[] }→EP X pins σ Q (.ref s.heap.objs.size) { s with heap:=h' }:=fun its r' hz h' c' kp e=>
    ⟨.ref s.heap.objs.size,_,I.laid (t':=s.toks) kp (Nat.le_refl _) (show dM X.prog X.w _ h' _ (.lst ys) from ⟨hz,its,c',r',e⟩),rfl,q _ (I.hok.fresh (Nat.le_refl _))⟩
  rcases hq with hq | hq
  · obtain ⟨its,r',pl,hz⟩:=I.list hq
    have hlen:=r'.length
    obtain ⟨o,ho,hc,n,hd⟩:=pl.isList
    exact call_list_seq p (.inl rfl) ho hc hd (fun h' c' kp e=>fin its r' hz h' c' kp e) (by simp only[List.size_toArray]<;>omega)
  · obtain ⟨its,r',pl,hz⟩:=I.tuple hq
    have hlen:=r'.length
    obtain ⟨o,ho,hc,n,hd⟩:=pl
    exact call_list_seq p (.inr rfl) ho hc hd (fun h' c' kp e=>fin its r' hz h' c' kp e) (by simp only[List.size_toArray]<;>omega)
theorem aJ:bV X (.type "tuple") (fun xs H Q=>∃ p ys,xs=[.ref p]∧((SqL X.K H p ys∧∀ l,H l=none→Q (.ref l) (upd H l (.tup ys)))∨(SqT X.K H p ys∧Q (.ref p) H))):=by
  intro pins s σ H xs us Q I r h
  obtain ⟨p,ys,rfl,h⟩:=h
  obtain ⟨u,rfl,rx⟩:=vals1 r
  cases rx
  rcases h with ⟨hq,q⟩ | ⟨hq,q⟩
  · obtain ⟨its,r',pl,hz⟩:=I.list hq
    have hlen:=r'.length
    refine call_tuple_list pl.isList (fun h' kp=>?_) (by simp only[List.size_toArray]<;>omega)
    have I1:Inv X pins σ H { s with heap:=h' }:=I.kept (t':=s.toks) kp
    have I2:Inv X pins σ (upd H h'.objs.size (.tup ys)) { s with heap:=h'.push { cls:=.type "tuple", data:=.seq its.toArray } }:=
      I1.laid (t':=s.toks) (fun b o e=>Heap.get?_push_of_some _ e) (Nat.le_refl _) (show dM X.prog X.w _ _ _ (.tup ys) from ⟨hz,its,r',u9.new _ _⟩)
    exact ⟨.ref h'.objs.size,_,I2,rfl,q _ (I1.hok.fresh (Nat.le_refl _))⟩
  · obtain ⟨its,r',pl,hz⟩:=I.tuple hq
    exact call_tuple_same pl ⟨.ref p,H,I,rfl,q⟩
def tyV (K:PySem.W.Frag)(T:String)(x:V)(H:Hp):Prop:=match x with
  | .str _=>T = "str"
  | .int _=>T = "int"
  | .ref p=>(T = "list" ∧ ∃ xs,SqL K H p xs)∨(T = "tuple" ∧ ∃ o,K.lookup p=some o∧o.cls=.type "tuple" ∧ o.dict=none)∨
      (T = "dict" ∧ ((∃ kvs,H p=some (.dK kvs))∨∃ kvs,H p=some (.dT kvs)))∨(T = "set" ∧ ∃ S n,H p=some (.set S n))
  | _=>False
theorem Oq {pins:List (Addr×Obj)}{σ:St}{H:Hp}{s:Shared}{T:String}{x:V}{v:Value}(I:Inv X pins σ H s)(r:RelV x v)(ty:tyV X.K T x H) :
    s.TypeIs v T∧∀ a,v=.ref a→∃ ob,s.heap.get? a=some ob∧ob.dict=none:=by
  cases x with
  | str z=>
    obtain ⟨t,rfl⟩:=r
    cases (show T = "str" from ty)
    exact ⟨typeIs_str s z t,fun _ e=>nomatch e⟩
  | int i=>
    obtain ⟨t,rfl⟩:=r
    cases (show T = "int" from ty)
    exact ⟨typeIs_int s i t,fun _ e=>nomatch e⟩
  | ref p=>
    cases r
    rcases ty with ⟨rfl,xs,hq⟩ | ⟨rfl,o,hk,hc,hd⟩ | ⟨rfl,hk⟩ | ⟨rfl,S,n,hk⟩
    · obtain ⟨its,_,pl,_⟩:=I.list hq
      refine ⟨pl.isList.typeIs,fun a e=>?_⟩
      cases e
      obtain ⟨o,n,e,c,hd,_⟩:=pl
      exact ⟨o,e,hd⟩
    · refine ⟨⟨o,I.kIn p o hk,hc⟩,fun a e=>?_⟩
      cases e
      exact ⟨o,I.kIn _ o hk,hd⟩
    · have z:∃ o,s.heap.get? p=some o∧o.ExactDict:=by
        rcases hk with ⟨kvs,hk⟩ | ⟨kvs,hk⟩
        · obtain ⟨_,_,_,_,o,_,_,e,ex,_⟩:=I.hok p _ hk
          exact ⟨o,e,ex⟩
        · obtain ⟨_,_,_,_,o,_,_,e,ex,_⟩:=I.hok p _ hk
          exact ⟨o,e,ex⟩
      obtain ⟨o,e,ex⟩:=z
      refine ⟨⟨o,e,ex.1⟩,fun a e2=>?_⟩
      cases e2
      exact ⟨o,e,ex.2.1⟩
    · obtain ⟨o,_,_,_,e,ex,_⟩:=I.hok p _ hk
      refine ⟨⟨o,e,ex.1⟩,fun a e2=>?_⟩
      cases e2
      exact ⟨o,e,ex.2.1⟩
  | _=>exact False.elim ty
def tBM (K:PySem.W.Frag)(T:String)(r:V→List V→Hp→VK→Prop)(to:TE)(t:TA):TE:=fun σ H Q=>to σ H fun x H1=>tyV K T x H1∧t σ H1 fun xs H2=>r x xs H2 Q
variable {o e:Expr} {es:List Expr} {to:TE} {t:TA} {name:Str} {apos cpos:Pos} {T id:String} {r:V→List V→Hp→VK→Prop}
theorem Cn (pa:PlainAttrs T)(slot:Slot T name id)(hty:typeOf (.builtin id)=pure (.type "method_descriptor"))(hm:MtR X id r)(ho:PE X o to)(ha:PA X (e::es) t)
    (hbase:attributeBase o name X.env (eval o X.env)=eval o X.env:=by rfl)
    (hfew:((backTo cpos (starEach (e::es) X.env)).all (fun x=>!x.1)&&(backToKw cpos (keywordEach [] X.env)).all (fun x=>x.1.isSome)
      && decide ((e::es).length+([]:List Keyword).length+(if ([]:List Keyword).isEmpty then 0 else 1) < 30))=true:=by rfl)
    (hline:(apos.endLine == cpos.line)=true:=by rfl) (hs:starEach (e::es) X.env=(false,eval e X.env)::starEach es X.env:=by rfl) (hplain:(backTo cpos (starEach es X.env)).any (·.1)=false:=by rfl) :
    PE X (.Call (.Attribute o name apos) (e::es) [] cpos) (tBM X.K T r to t):=by
  intro pins s σ H Q I h
  refine wpAny_Call_method_late hbase hfew hline rfl (thn (ho pins s σ H _ I h) fun v s1 ⟨x,H1,I1,r1,ty,q1⟩=>?_)
  obtain ⟨h1,h2⟩:=Oq I1 r1 ty
  refine ⟨T,id,pa,slot,hty,h1,h2,?_⟩
  have hA:=ha cpos pins s1 σ H1 _ I1 q1
  rw[hs] at hA ⊢
  refine Calls.callWith_builtin (by show (false || (backTo cpos (starEach es X.env)).any (·.1))=false;rw[hplain]<;>rfl) (Calls.evalArgs_plain ?_)
  exact thn hA fun us s2 ⟨vs,H2,I2,r2,q2⟩=>hm pins s2 σ H2 x vs v us Q I2 r1 r2 q2
end
end L2
namespace L2
open PySem PySem.Spec PyProof.Rows
def MtM (X:Cx)(id:String)(r:V→List V→Hp→VK→Prop):Prop:=
  ∀ (pins:List (Addr×Obj)) (s:Shared) (σ:St) (H:Hp) (x:V) (xs:List V) (v:Value) (us:List Value) (Q:VK),Inv X pins σ H s→RelV x v→Vals xs us→r x xs H Q→
    wpAny (model X.prog X.w) X.A (call (.builtin id) (v::us)) (EP X pins σ Q) X.xe s
theorem Vals.one:∀ {x:V} {us:List Value},Vals [x] us→∃ u,us=[u]∧RelV x u
  | _,_,.cons r .nil=>⟨_,rfl,r⟩
theorem Vals.zero:∀ {us:List Value},Vals [] us→us=[]
  | _,.nil=>rfl
theorem Vals.eraseIdx:∀ {xs:List V} {us:List Value} (i:Nat),Vals xs us→Vals (xs.eraseIdx i) (us.eraseIdx i)
  | _,_,_,.nil=>.nil
  | _,_,0,.cons _ t=>t
  | _,_,i+1,.cons r t=>.cons r (Vals.eraseIdx i t)
theorem Vals.reverse {xs:List V}{us:List Value}(h:Vals xs us):Vals xs.reverse us.reverse:=by
  induction h with
  | nil=>exact .nil
  | cons r t ih=>rw[List.reverse_cons,List.reverse_cons];exact Vals.append ih (.cons r .nil)
theorem Vals.rep {xs:List V}{us:List Value}(h:Vals xs us):∀ k:Nat,Vals (List.replicate k xs).flatten (List.replicate k us).flatten
  | 0=>.nil
  | k+1=>by
    rw[List.replicate_succ,List.replicate_succ,List.flatten_cons,List.flatten_cons]
    exact Vals.append h (Vals.rep h k)
theorem sO {α:Type}:∀ (l:List α) (i:Nat),(l.eraseIdx i).length≤l.length
  | [],_=>Nat.le_refl _
  | _::_,0=>Nat.le_succ _
  | _::r,i+1=>Nat.succ_le_succ (sO r i)
section
variable {X:Cx} {pins:List (Addr×Obj)} {σ:St} {H:Hp} {s:Shared} {l b:Addr} {xs ys zs:List V}
theorem Inv.Ly {its its':List Value}{n:Nat}{f:Array Value→Array Value}{t':Nat}(I:Inv X pins σ H s)(hH:H l=some (.lst xs))
    (e:s.heap.get? l=some { cls:=.type "list", data:=.seq its.toArray n }) (hf:f its.toArray=its'.toArray) (hv:Vals ys its') (hz:ys.length≤sizeLine) :
    Inv X pins σ (upd H l (.lst ys)) { s with heap:=s.heap.update l (Obj.mapSeq f),toks:=t' }:=by
  have q:=PySem.IsL.update e f
  rw[hf] at q
  refine I.write (x:=l) (e:=l) (by rw[hH];exact trivial) (.inl rfl) (fun b' u hb hu=>(Heap.get?_update_other s.heap (Obj.mapSeq f) (Ne.symm hb)).trans hu) ⟨_,q⟩ ?_
  exact ⟨hz,its',_,hv,q⟩
theorem Inv.Tj {its:List Value}{t':Nat}(I:Inv X pins σ H s)(hv:Vals ys its)(hz:ys.length≤sizeLine) :
    Inv X pins σ (upd H s.heap.objs.size (.lst ys)) { s with heap:=s.heap.push { cls:=.type "list", data:=.seq its.toArray },toks:=t' }:=
  I.laid (fun _ _ q=>Heap.get?_push_of_some _ q) (Nat.le_refl _) ⟨hz,its,0,hv,Heap.get?_push_size _ rfl⟩
theorem Inv.fresh (I:Inv X pins σ H s):H s.heap.objs.size=none:=I.hok.fresh (Nat.le_refl _)
theorem Inv.LC (I:Inv X pins σ H s)(hH:H l=some (.lst xs)):xs.length≤sizeLine∧∃ (its:List Value) (n:Nat),Vals xs its∧xs.length=its.length∧s.heap.get? l=some { cls:=.type "list", data:=.seq its.toArray n }:=by
  obtain ⟨z,its,n,r,e⟩:=I.hok l _ hH
  exact ⟨z,its,n,r,r.length,e⟩
theorem xl {n:Nat}(h:n≤sizeLine):Builtin.List.listTooLong n=false:=by
  unfold Builtin.List.listTooLong
  exact decide_eq_false (by omega)
end
section
variable {X:Cx}
def Lx:V→List V→Hp→VK→Prop:=fun x vs H Q=>∃ l xs y,x=.ref l∧vs=[y]∧H l=some (.lst xs)∧xs.length < sizeLine∧Q .non (upd H l (.lst (xs++[y])))
theorem jZ:MtM X "list.append" Lx:=by
  intro pins s σ H x vs v us Q I rx rv h
  obtain ⟨l,xs,y,rfl,rfl,hH,hz,q⟩:=h
  cases rx
  obtain ⟨u,rfl,ru⟩:=rv.one
  obtain ⟨z,its,n,r,hl,e⟩:=I.LC hH
  refine call_meets F.slot_list_append ⟨_,e,rfl⟩ F.entry_list_append (F.args_list_append_2 _ _) (PySem.list_append l its.toArray n u (by rw[List.size_toArray];omega)) ⟨e,?_⟩
  refine ⟨.non,_,I.Ly (its':=its++[u]) hH e (by simp) (r.append (.cons ru .nil)) ?_,rfl,q⟩
  rw[List.length_append,List.length_singleton]
  omega
def N9:V→List V→Hp→VK→Prop:=fun x vs H Q=>∃ l xs i k y,x=.ref l∧vs=[.int i]∧H l=some (.lst xs)∧-(2 ^ 63)≤i∧i < 2 ^ 63∧seqIndex? i xs.length=some k∧xs[k]? = some y∧Q y (upd H l (.lst (xs.eraseIdx k)))
theorem D7:MtM X "list.pop" N9:=by
  intro pins s σ H x vs v us Q I rx rv h
  obtain ⟨l,xs,i,k,y,rfl,rfl,hH,h1,h2,hk,hy,q⟩:=h
  cases rx
  obtain ⟨u,rfl,ru⟩:=rv.one
  obtain ⟨t,rfl⟩:=ru
  obtain ⟨z,its,n,r,hl,e⟩:=I.LC hH
  obtain ⟨w,hw,rw'⟩:=r.get hy
  refine call_meets F.slot_list_pop ⟨_,e,rfl⟩ F.entry_list_pop (F.args_list_pop_2 _ _)
    (MeetsSeq.list_pop_at l its.toArray n i t k w (fitsIndex_both h1 h2) (by rw[List.size_toArray,← hl];exact hk) (by rw[← Array.getElem?_toList];exact hw) (by rw[List.size_toArray];omega)) ⟨e,?_⟩
  refine ⟨y,_,I.Ly (its':=its.eraseIdx k) hH e ?_ (r.eraseIdx k) ?_,rw',q⟩
  · show its.toArray.eraseIdxIfInBounds k=(its.eraseIdx k).toArray
    rw[List.eraseIdxIfInBounds_toArray]
  · have:=sO xs k
    omega
end
section
variable {prog:Program} {w:World} {A:Around} {E:Value→Shared→Prop} {s:Shared}
end
section
variable {X:Cx}
end
end L2
namespace Att
open PySem PySem.W PySem.Calls PyProof.Rows
theorem om {P:Params}{h:Heap}:∀ (ns:List Int) (vs:List Value),WellAll P h vs (ns.map WData.int)→IntsAre vs ns:=by
  intro ns
  induction ns with
  | nil=>
    intro vs w
    rw[List.map_nil] at w
    cases w
    exact .nil
  | cons n ns ih=>
    intro vs w
    rw[List.map_cons] at w
    cases w with
    | cons a b=>
      cases a
      exact .cons _ _ (ih _ b)
theorem Cy {l:OpenLaw}{n:Nat}(hn:l.most=some n){P:Params}{h:Heap}{args:List WData}{vals:List Value}
    (hpre:l.row.toRowW.claim.pre args=true) (hwl:WellAll P h vals args) :
    ∃ a vs ns,vals=[Value.ref a]∧args=[WData.list (ns.map WData.int)]∧h.get? a=some { cls:=.type "list", data:=.seq vs.toArray }∧IntsAre vs ns∧ns.length≤n:=by
  have hsh:WShape.hasAll [] args [.list .int]=true:=(pre_splitW hpre).1
  have hc:l.pre.holds [] { args:=args }=true:=(pre_splitW hpre).2
  obtain ⟨d,r,rfl,h1,h2⟩:=hasAllW_cons hsh
  obtain rfl:=hasAllW_nil h2
  obtain ⟨xs,rfl,h3⟩:=hasW_list h1
  obtain ⟨ns,rfl⟩:=items_int h3
  have hlen:ns.length≤n:=by
    unfold OpenLaw.pre at hc
    have h4:(WTm.not (.lt (.lit (.int (n:Int))) (.len (.arg 0)))).holds [] { args:=[.list (ns.map .int)] }=true:=by
      have h4:=(holds_andW hc).1
      rw[hn] at h4
      exact h4
    have h5:=condW_of h4 (w_not (w_lt w_lit (w_len_list (w_arg rfl))))
    rw[List.length_map] at h5
    refine Nat.le_of_not_lt fun q=>?_
    have q':(n:Int) < ((ns.length:Nat):Int):=by omega
    first
      | (rw[decide_eq_true q'] at h5;exact absurd h5 (by decide))
      | (simp at h5;omega)
  cases hwl with
  | cons w1 w2=>
    cases w2
    cases w1 with
    | list ho hall=>exact ⟨_,_,ns,rfl,rfl,ho,om ns _ hall,hlen⟩
theorem DI (l:OpenLaw)(args:List WData):l.row.toRowW.claim.post args (.bool true) args=true:=
  postW_of (r:=l.row.toRowW) (X:=(true == true))
    (show WShape.has [] (.bool true) .bool=true by first | rfl | decide | simp[WShape.has,WShape.arms,WShape.armsAll])
    (show (WTm.eq .res (.lit (.bool true))).value [] { args:=args,res:=some (.bool true),after:=args }=some (.bool (true == true)) from w_eq_bool (w_res rfl) w_lit) rfl
theorem vR {l:OpenLaw}{n:Nat}{q:Program}{loose:List Str}{XP:(Str→Option Value)→Heap→Prop}{YP:World→Heap→Prop}{d:DefRec}
    (hn:l.most=some n) (hdf:d.params.defaults=[])
    (call:∀ (w:World) (s₀ s₁:Shared) (mg mb:Str→Option Value) (fa:Addr) (o:Obj) (pm cd doc:Value) (a:Addr) (vs:List Value) (ns:List Int),
      Ground q loose [] XP w s₀ mg mb s₁.heap→YP w s₁.heap→
      s₁.heap.get? fa=some o→o.data=.func (docDef d.name d.params d.body d.scope pm cd doc)→s₁.heap.CodeRec cd d.name→mg d.name=some (.ref fa)→
      s₁.heap.get? a=some { cls:=.type "list", data:=.seq vs.toArray }→IntsAre vs ns→ns.length≤n→s₁.gens = #[]→
      codeAny (model l.prog w) callerA (.call (.ref fa) ⟨[.ref a],[]⟩) (fun r s'=>r=.ok (.ret (.bool true))∧OldK s₁.heap s'.heap∧s'.os=s₁.os∧AllBare s'.gens) s₁) :
    WalkO q loose XP YP l.row.toRowW d [] (fun f vs=>PySem.call f vs):=by
  intro w s₀ s₁ mg mb G Y fa o pm cd doc dV kV ho hd hcd hD hmg hg args vals as hpre hlay hrd hwl hlo
  obtain rfl:dV=.none:=Dflts.none hD hdf
  obtain rfl:kV=.none:=Dflts.noKw hD
  obtain ⟨a,vs,ns,rfl,rfl,hobj,hints,hlen⟩:=Cy hn hpre hwl
  refine enter_call (codeAny_mono (call w s₀ s₁ mg mb fa o pm cd doc a vs ns G Y ho (fd_plain hd) hcd hmg hobj hints hlen hg) fun r s' hq=>?_)
  obtain ⟨rfl,h2,h3,h4⟩:=hq
  exact ⟨.inl ⟨.bool true,.bool true,[],rfl,fun _=>rfl,.bool true,DI l _,fun _=>⟨List.Pairwise.nil,fun _ hm=>(nomatch hm)⟩⟩,h2,h3,h4⟩
section
variable {prog:Program} {w:World} {A:Around} {E:Value→Shared→Prop} {s:Shared} {K:Frag}
end
end Att
namespace L2
open PySem PySem.Spec PyProof.Rows
theorem sZ:∀ {vs:List Value} {ns:List Int},IntsAre vs ns→Vals (ns.map V.int) vs
  | _,_,.nil=>.nil
  | _,_,.cons n t h=>.cons ⟨t,rfl⟩ (sZ h)
def Kq (H:Hp):Prop:=∀ b,H b=none∨∃ o xs,H b=some (.frz o (.lst xs))
theorem Et {P:Program}{w:World}{K:PySem.W.Frag}{mg mb:Str→Option Value}{CX:CXT}{k:Nat}{fa a:Addr}{fd:FuncData}{x:Str}{sp:Sp}{s₁:Shared}{vs:List Value}{ns:List Int}
    (KX:K.In s₁.heap) (hns:s₁.heap.Ns mainGlobals mg) (hb:s₁.heap.Ns builtinsNs mb) (hbb:∀ x:Str,x ≠ "__name__" → mb x=bootBuiltins x) (hlim:s₁.heap.NoLimit) (hg:s₁.gens = #[])
    (ha:s₁.heap.get? a=some { cls:=.type "list", data:=.seq vs.toArray }) (hi:IntsAre vs ns) (hl:ns.length≤sizeLine) (hr:fM k callerA)
    (F:∀ base:Heap,K.In base→base.Ns mainGlobals mg→gR P w K mg base CX k fa fd [x] sp) (hbind:∀ (s:Shared) (u:Value),BindsTo s fd ⟨[u],[]⟩ [(x,u)])
    (hsp:∀ H:Hp,Kq H→SqL K H a (ns.map V.int)→sp [.ref a] H (fun v _=>v=.bl true) fun _ _ _=>False)
    (hCX:∀ H e s',CX [] H s₁ (fun _ _ _=>False) e s'→False) :
    codeAny (model P w) callerA (.call (.ref fa) ⟨[.ref a],[]⟩) (fun r s'=>r=.ok (.ret (.bool true))∧OldK s₁.heap s'.heap∧s'.os=s₁.os∧AllBare s'.gens) s₁:=by
  have rv:=sZ hi
  have SV:=hi.length
  -- from an abstract heap in which nothing but the script may be tracked
  have core:∀ H:Hp,Kq H→SqL K H a (ns.map V.int)→HOk P w H s₁.heap→(∀ b,H b≠none→b=a)→(H a≠none→K.lookup a=none)→
      codeAny (model P w) callerA (.call (.ref fa) ⟨[.ref a],[]⟩) (fun r s'=>r=.ok (.ret (.bool true))∧OldK s₁.heap s'.heap∧s'.os=s₁.os∧AllBare s'.gens) s₁:=by
    intro H hO hS hok hA hK
    have base_of:∀ {b:Addr} {o:Obj},s₁.heap.get? b=some o→H b=none→(tS s₁.heap H).get? b=some o:=fun e n=>E4 e n
    have noA:∀ {b:Addr} {o:Obj} {es:Array DictEntry} {ep:Nat},s₁.heap.get? b=some o→o.data=.dict es ep→H b=none:=fun {b o es ep} e d=>by
      cases q:H b with
      | none=>rfl
      | some u=>
        have e':b=a:=hA b (by rw[q];simp)
        subst e'
        rw[ha] at e;cases e
        have d':Data.seq vs.toArray _=Data.dict es ep:=d
        cases d'
    have nsK:∀ {b:Addr} {m:Str→Option Value},s₁.heap.Ns b m→(tS s₁.heap H).Ns b m:=fun {b m} ⟨o,es,ep,e,d,r⟩=>⟨o,es,ep,base_of e (noA e d),d,r⟩
    have hKb:K.In (tS s₁.heap H):=fun b o e=>base_of (KX b o e) (by
      cases q:H b with
      | none=>rfl
      | some u=>
        have e':b=a:=hA b (by rw[q];simp)
        subst e'
        rw[hK (by rw[q];simp)] at e;cases e)
    have hM:Mod K mg (tS s₁.heap H):=⟨hKb,nsK hns,⟨mb,nsK hb,hbb⟩,let ⟨mc,h1,h2⟩:=hlim;⟨mc,nsK h1,h2⟩⟩
    have e0:yR P w K mg (tS s₁.heap H) callerA [] s₁ H:=⟨rfl,hM,fun b o e=>IQ e,Nat.le_of_eq (DT _ _),trivial,fun b hb=>absurd (show b∈([]:List Addr) from hb) (by simp),hok,.of_eq hg⟩
    refine codeAny_mono ((F _ hKb (nsK hns)).run callerA [] s₁ H ⟨[.ref a],[]⟩ [.ref a] [.ref a] _ _ hr e0 (hbind s₁ (.ref a)) (.cons rfl .nil) (hsp H hO hS)) fun r s' h=>?_
    cases r with
    | error e=>exact (hCX H e s' h).elim
    | ok fl=>
      cases fl with
      | next=>exact False.elim h
      | brk=>exact False.elim h
      | cont=>exact False.elim h
      | ret u=>
        obtain ⟨v,H',os,bare,un,hok',r',q⟩:=h
        have q':v=.bl true:=q
        subst q'
        obtain rfl:u=Value.bool true:=r'
        refine ⟨rfl,OldK.of_keep fun b o e=>?_,os,bare⟩
        cases q:H b with
        | none=>exact un.keep b o e q (by intro z;exact absurd (show b∈([]:List Addr) from z) (by simp)) (by simp)
        | some u=>
          rcases hO b with z | ⟨ob,xs,z⟩
          · rw[q] at z;cases z
          · have z2:=un.lL b ob _ z
            obtain ⟨e1,_⟩:=hok b _ z
            obtain ⟨e2,_⟩:=hok' b _ z2
            rw[e] at e1;cases e1
            exact e2
  cases hk:K.lookup a with
  | some o=>
    -- the script is one of the module's own objects
    have e:=KX a o hk
    rw[ha] at e
    cases e
    refine core (fun _=>none) (fun _=>.inl rfl) (.inr ⟨_,vs.toArray,_,hk,rfl,rfl,rfl,by rw[List.size_toArray,SV];exact hl,by simpa using rv⟩) (fun b u z=>by have z':(none:Option HO)=some u:=z;cases z') (fun b z=>absurd rfl z) fun z=>absurd rfl z
  | none=>
    refine core (fun b=>if b=a then some (.frz { cls:=.type "list", data:=.seq vs.toArray } (.lst (ns.map V.int))) else none) (fun b=>?_) (.inl (.inr ⟨{ cls:=.type "list", data:=.seq vs.toArray },if_pos rfl⟩)) (fun b u z=>?_) (fun b z=>?_) fun _=>hk
    · by_cases hb:b=a
      · exact .inr ⟨_,_,if_pos hb⟩
      · exact .inl (if_neg hb)
    · by_cases hb:b=a
      · have z':=(if_pos hb).symm.trans z
        cases z'
        subst hb
        exact ⟨ha,by rw[List.length_map];exact hl,vs,_,rv,ha⟩
      · have z':=(if_neg hb).symm.trans z
        cases z'
    · by_cases hb:b=a
      · exact hb
      · exact absurd (if_neg hb) z
end L2
namespace L2
open PySem PySem.Spec PyProof.Rows
theorem JM {l:PySem.W.OpenLaw}{n k:Nat}{q:Program}{loose:List Str}{XP:(Str→Option Value)→Heap→Prop}{YP:World→Heap→Prop}{d:DefRec}{K:Params→PySem.W.Frag}{CX:World→CXT}{sp:World→Sp}{x:Str}
    (hn:l.most=some n) (hn2:n≤sizeLine) (hdf:d.params.defaults=[]) (hr:fM k callerA)
    (hY:∀ (w:World) (h:Heap),YP w h→(K w.params).In h)
    (F:∀ (w:World) (mg:Str→Option Value) (fa:Addr) (h:Heap),(K w.params).In h→h.Ns mainGlobals mg→mg d.name=some (.ref fa)→
      ∃ fd:FuncData,(∀ (s:Shared) (u:Value),BindsTo s fd ⟨[u],[]⟩ [(x,u)])∧
        ∀ base:Heap,(K w.params).In base→base.Ns mainGlobals mg→gR l.prog w (K w.params) mg base (CX w) k fa fd [x] (sp w))
    (hsp:∀ (w:World) (H:Hp) (a:Addr) (ns:List Int),ns.length≤n→Kq H→SqL (K w.params) H a (ns.map V.int)→sp w [.ref a] H (fun v _=>v=.bl true) fun _ _ _=>False)
    (hCX:∀ (w:World) (H:Hp) (s:Shared) (e:Value) (s':Shared),CX w [] H s (fun _ _ _=>False) e s'→False) :
    PySem.W.WalkO q loose XP YP l.row.toRowW d [] (fun f vs=>PySem.call f vs):=by
  refine Att.vR hn hdf fun w s₀ s₁ mg mb fa o pm cd doc a vs ns G Y ho hd hcd hmg hobj hints hlen hg=>?_
  have KX:=hY w _ Y
  obtain ⟨fd,hb,hF⟩:=F w mg fa _ KX G.T.g hmg
  exact Et KX G.T.g G.T.b G.T.builtins G.T.nolimit hg hobj hints (Nat.le_trans hlen hn2) hr hF hb (fun H hO hS=>hsp w H a ns hlen hO hS) fun H e s'=>hCX w H s₁ e s'
end L2
namespace L2
open PySem PySem.Spec PyProof.Rows
def lZ (s:Stmt):Arguments:=match s with
  | .FunctionDef _ a _ _ _ _ _ _ _ _=>a
  | _=>{ posonlyargs:=[],args:=[],vararg:=none,kwonlyargs:=[],kw_defaults:=[],kwarg:=none,defaults:=[] }
def gK (s:Stmt):List Stmt:=match s with
  | .FunctionDef _ _ b _ _ _ _ _ _ _=>b
  | _=>[]
def av (s:Stmt):Scope:=match s with
  | .FunctionDef _ _ _ _ _ _ sc _ _ _=>sc
  | _=>{ kind:=.function,names:=[],isGenerator:=false,isCoroutine:=false }
abbrev CX0:CXT:=fun _ _ _ _ _ _=>False
abbrev E0:XK:=fun _ _ _=>False
theorem Qy {X:Cx}:Passes CX0 X E0:=fun _ _ _ _ _ _ _ h=>h.elim
structure Fun (K:PySem.W.Frag) (x qual:Str) (st:Stmt) (f:Addr) (fd:FuncData):Prop where
  ex:∃ (oc:Value) (od:Option Addr) (kV doc pm:Value) (an:Option Addr) (cdv ct:Value) (osl:Array (Option Value)),
    fd=PySem.W.fnOf x qual (lZ st) (gK st) (av st) .none kV doc pm an cdv ct∧K.lookup f=some ⟨oc,od,.func fd,osl⟩∧PySem.W.codeIn K cdv qual=true
  kp:PySem.W.keepIn K (.ref f)=true
section
variable {P:Program} {w:World} {K:PySem.W.Frag} {mg:Str→Option Value} {base:Heap}
theorem Fun.ok {x qual:Str}{st:Stmt}{f:Addr}{fd:FuncData}{N ps:List Str}{k:Nat}{sp:Sp}(F:Fun K x qual st f fd)(S:aI N ps (av st))(len:∀ vs H Q E,sp vs H Q E→vs.length=ps.length)
    (hbody:∀ (cdv:Value) (A:Around) (outer:List Env) (s:Shared) (H:Hp) (vs:List V) (Q:VK) (E:XK),fM k (A.deeper (envOfC qual (av st) s.heap.objs.size f cdv))→sp vs H Q E→
      ∃ t,PSs (xc CX0 P w K mg base N qual (av st) f cdv A outer s H E).nox (gK st) t∧t { nx:=fun _ H'=>Q .non H',rt:=Q } (start N vs) H):gR P w K mg base CX0 (k+1) f fd ps sp:=by
  obtain ⟨oc,od,kV,doc,pm,an,cdv,ct,osl,rfl,lk,hcd⟩:=F.ex
  refine Qc lk hcd S len fun A outer s H vs Q E hr hsp=>?_
  obtain ⟨t,h,q⟩:=hbody cdv A outer s H vs Q E hr hsp
  exact ⟨t,h.nox,q⟩
theorem Fun.binds {x qual:Str}{st:Stmt}{f:Addr}{fd:FuncData}{ps:List Str}(F:Fun K x qual st f fd)
    (h:∀ (kV doc pm:Value) (an:Option Addr) (cdv ct:Value) (us:List Value),us.length=ps.length→bindArgs (PySem.W.fnOf x qual (lZ st) (gK st) (av st) .none kV doc pm an cdv ct) ⟨us,[]⟩=pure (ps.zip us)):Binds K fd ps []:=by
  obtain ⟨oc,od,kV,doc,pm,an,cdv,ct,osl,rfl,lk,hcd⟩:=F.ex
  exact .all (h kV doc pm an cdv ct)
theorem aS {x qual:Str}{st:Stmt}{f:Addr}{oc:Value}{od an:Option Addr}{osl:Array (Option Value)}{kV doc pm cdv ct:Value}(l:K.lookup f=some ⟨oc,od,.func (PySem.W.fnOf x qual (lZ st) (gK st) (av st) .none kV doc pm an cdv ct),osl⟩)
    (c:PySem.W.codeIn K cdv qual=true) (k:PySem.W.keepIn K (.ref f)=true):Fun K x qual st f (PySem.W.fnOf x qual (lZ st) (gK st) (av st) .none kV doc pm an cdv ct):=⟨⟨oc,od,kV,doc,pm,an,cdv,ct,osl,rfl,l,c⟩,k⟩
end
section
variable {X:Cx}
theorem pv (i:Nat){x:Str}{pos:Pos}(hN:X.N[i]? = some x:=by rfl)(hv:Vis X.env.scope x:=by first | exact Or.inl rfl | exact Or.inr (Or.inl rfl) | exact Or.inr (Or.inr rfl))(hd:(x == ("__debug__" : Str))=false:=by decide)
    (hcd:(x == ("__classdict__" : Str))=false:=by decide):PE X (.Name x pos) (QP i):=Hf hN hv hd hcd
end
theorem pW {A B:Prop}(h:B):if false=true then A else B:=by
  rw[if_neg Bool.false_ne_true]
  exact h
theorem pG {A B:Prop}(h:A):if true=true then A else B:=by
  rw[if_pos rfl]
  exact h
def rF (H H':Hp):Prop:=∀ b o,H b=some o→H' b=some o
theorem rF.refl (H:Hp):rF H H:=fun _ _ h=>h
theorem rF.trans {H H1 H2:Hp}(a:rF H H1)(b:rF H1 H2):rF H H2:=fun c o h=>b c o (a c o h)
theorem rF.free {H H':Hp}(e:rF H H'){l:Addr}(h:H' l=Option.none):H l=Option.none:=by
  cases q:H l with
  | none=>rfl
  | some o=>
    rw[e l o q] at h
    cases h
theorem rF.seq {K:PySem.W.Frag}{H H':Hp}{a:Addr}{xs:List V}(e:rF H H')(h:SqL K H a xs):SqL K H' a xs:=by
  rcases h with (h | ⟨o,h⟩) | h
  · exact .inl (.inl (e _ _ h))
  · exact .inl (.inr ⟨o,e _ _ h⟩)
  · exact .inr h
end L2
namespace L2
open PySem PySem.Spec PyProof.Rows
section
variable {κ:Type} [DecidableEq κ]
def gX (kvs:List (κ×V))(k:κ):Option V:=(kvs.find? fun kv=>decide (kv.1=k)).map (·.2)
def putK (kvs:List (κ×V))(k:κ)(v:V):List (κ×V):=
  if (kvs.any fun kv=>decide (kv.1=k))=true then kvs.map (fun kv=>if kv.1=k then (kv.1,v) else kv) else kvs++[(k,v)]
def Mi (kvs:List (κ×V))(k:κ):List (κ×V):=kvs.filter fun kv=>decide (kv.1≠k)
theorem kX {p:κ×V}{r:List (κ×V)}{k:κ}(e:p.1=k):gX (p::r) k=some p.2:=by simp[gX,List.find?_cons,e]
theorem lQ {p:κ×V}{r:List (κ×V)}{k:κ}(e:¬ p.1=k):gX (p::r) k=gX r k:=by simp[gX,List.find?_cons,e]
theorem pH (k:κ):∀ kvs:List (κ×V),(kvs.any fun kv=>decide (kv.1=k))=(gX kvs k).isSome
  | []=>rfl
  | p::r=>by
    rw[List.any_cons]
    by_cases e:p.1=k
    · simp only[kX e,decide_eq_true e,Bool.true_or,Option.isSome_some]
    · rw[lQ e,decide_eq_false e,Bool.false_or];exact pH k r
theorem jv (kvs:List (κ×V))(k:κ)(v:V):(putK kvs k v).length≤kvs.length+1:=by
  unfold putK
  split
  · rw[List.length_map];omega
  · rw[List.length_append,List.length_cons,List.length_nil];omega
theorem EK {kvs:List (κ×V)}{k:κ}(v:V)(h:gX kvs k=none):putK kvs k v=kvs++[(k,v)]:=by
  unfold putK
  rw[pH,h]
  exact if_neg (by decide)
theorem oB.DV {o:Option V}{u:Option Value}(r:oB o u):o.isSome=u.isSome:=by
  cases o with
  | none=>cases u with
    | none=>rfl
    | some _=>exact (show False from r).elim
  | some _=>cases u with
    | none=>exact (show False from r).elim
    | some _=>rfl
theorem oB.getD {o:Option V}{u:Option Value}{d:V}{d':Value}(r:oB o u)(rd:RelV d d'):RelV (o.getD d) (u.getD d'):=by
  cases o with
  | none=>cases u with
    | none=>exact rd
    | some _=>exact (show False from r).elim
  | some _=>cases u with
    | none=>exact (show False from r).elim
    | some _=>exact r
theorem KV.val {kvs:List (κ×V)}{vs:List (κ×Value)}(r:KV kvs vs)(k:κ):oB (gX kvs k) (valueAt vs k):=by
  unfold KV at r
  induction r with
  | nil=>exact True.intro
  | @cons p q ps qs h t ih=>
    obtain ⟨h1,h2⟩:=h
    by_cases e:p.1=k
    · have e':q.1=k:=h1.symm.trans e
      have b:valueAt (q::qs) k=some q.2:=by simp[valueAt,List.find?_cons,e']
      rw[kX e,b];exact h2
    · have e':¬ q.1=k:=fun z=>e (h1.trans z)
      have b:valueAt (q::qs) k=valueAt qs k:=by simp[valueAt,List.find?_cons,e']
      rw[lQ e,b];exact ih
theorem KV.any {kvs:List (κ×V)}{vs:List (κ×Value)}(r:KV kvs vs)(k:κ):(kvs.any fun kv=>decide (kv.1=k))=vs.any fun kv=>decide (kv.1=k):=by
  unfold KV at r
  induction r with
  | nil=>rfl
  | cons h t ih=>rw[List.any_cons,List.any_cons,ih,h.1]
theorem KV.PZ {kvs:List (κ×V)}{vs:List (κ×Value)}(r:KV kvs vs)(k:κ){y:V}{u:Value}(ry:RelV y u) :
    KV (kvs.map fun kv=>if kv.1=k then (kv.1,y) else kv) (vs.map fun kv=>if kv.1=k then (kv.1,u) else kv):=by
  unfold KV at r ⊢
  induction r with
  | nil=>exact .nil
  | @cons p q ps qs h t ih=>
    rw[List.map_cons,List.map_cons]
    refine .cons ?_ ih
    obtain ⟨h1,h2⟩:=h
    by_cases e:p.1=k
    · rw[if_pos e,if_pos (h1.symm.trans e)];exact ⟨h1,ry⟩
    · rw[if_neg e,if_neg (fun z=>e (h1.trans z))];exact ⟨h1,h2⟩
theorem KV.put {kvs:List (κ×V)}{vs:List (κ×Value)}(r:KV kvs vs)(k:κ){y:V}{u:Value}(ry:RelV y u):KV (putK kvs k y) (stored vs k u):=by
  unfold putK stored
  rw[r.any k]
  by_cases e:(vs.any fun kv=>decide (kv.1=k))=true
  · rw[if_pos e,if_pos e];exact r.PZ k ry
  · rw[if_neg e,if_neg e];exact Paired.snoc r ⟨rfl,ry⟩
theorem KV.drop {kvs:List (κ×V)}{vs:List (κ×Value)}(r:KV kvs vs)(k:κ):KV (Mi kvs k) (without vs k):=by
  unfold KV at r ⊢
  unfold Mi without
  induction r with
  | nil=>exact .nil
  | @cons p q ps qs h t ih=>
    obtain ⟨h1,h2⟩:=h
    rw[List.filter_cons,List.filter_cons]
    by_cases e:p.1=k
    · have a:¬ decide (p.1≠k)=true:=by simp[e]
      have b:¬ decide (q.1≠k)=true:=by simp[h1.symm.trans e]
      rw[if_neg a,if_neg b];exact ih
    · have e':¬ q.1=k:=fun z=>e (h1.trans z)
      have a:decide (p.1≠k)=true:=by simp[e]
      have b:decide (q.1≠k)=true:=by simp[e']
      rw[if_pos a,if_pos b];exact .cons ⟨h1,h2⟩ ih
theorem KV.keys {kvs:List (κ×V)}{vs:List (κ×Value)}(r:KV kvs vs):kvs.map (·.1)=vs.map (·.1):=by
  unfold KV at r
  induction r with
  | nil=>rfl
  | cons h t ih=>rw[List.map_cons,List.map_cons,ih,h.1]
theorem KV.length {kvs:List (κ×V)}{vs:List (κ×Value)}(r:KV kvs vs):kvs.length=vs.length:=Paired.length r
end
theorem w4 {P:Program}{w:World}{k:Key}{u:Value}(r:RelV (kV k) u):(cc P w).is k u=true:=by
  cases k with
  | inl i=>obtain ⟨t,e⟩:=(show ∃ t,u=Value.int i t from r);subst e;exact yf P w i t
  | inr x=>obtain ⟨t,e⟩:=(show ∃ t,u=Value.str x t from r);subst e;exact wU P w x t
theorem tK {P:Program}{w:World}:∀ {ks:List Key} {us:List Value},Vals (ks.map kV) us→ItemsAre (cc P w) ks us
  | [],_,r=>by rw[List.map_nil] at r;cases r;exact .nil
  | k::ks,_,r=>by
    rw[List.map_cons] at r
    cases r with
    | cons h t=>exact .cons (w4 h) (tK t)
abbrev KT (H:Hp):List (List Key×V)→List (List Key×Addr×Value)→Prop:=Paired fun p q=>p.1=q.1∧H q.2.1=some (.tup (p.1.map kV))∧RelV p.2 q.2.2
theorem KT.val {H:Hp}{kvs:List (List Key×V)}{xs:List (List Key×Addr×Value)}(r:KT H kvs xs)(k:List Key):oB (gX kvs k) ((atKey xs k).map (·.2)):=by
  induction r with
  | nil=>exact True.intro
  | @cons p q ps qs h t ih=>
    obtain ⟨h1,_,h2⟩:=h
    by_cases e:p.1=k
    · have e':q.1=k:=h1.symm.trans e
      have b:atKey (q::qs) k=some q.2:=by simp[atKey,List.find?_cons,e']
      rw[kX e,b];exact h2
    · have e':¬ q.1=k:=fun z=>e (h1.trans z)
      have b:atKey (q::qs) k=atKey qs k:=by simp[atKey,List.find?_cons,e']
      rw[lQ e,b];exact ih
theorem KT.PZ {H:Hp}{kvs:List (List Key×V)}{xs:List (List Key×Addr×Value)}(r:KT H kvs xs)(k:List Key){y:V}{u:Value}(ry:RelV y u) :
    KT H (kvs.map fun kv=>if kv.1=k then (kv.1,y) else kv) (xs.map (putAt k u)):=by
  induction r with
  | nil=>exact .nil
  | @cons p q ps qs h t ih=>
    rw[List.map_cons,List.map_cons]
    refine .cons ?_ ih
    obtain ⟨h1,h2,h3⟩:=h
    unfold putAt
    by_cases e:p.1=k
    · rw[if_pos e,if_pos (h1.symm.trans e)];exact ⟨h1,h2,ry⟩
    · rw[if_neg e,if_neg (fun z=>e (h1.trans z))];exact ⟨h1,h2,h3⟩
theorem KT.put {H:Hp}{kvs:List (List Key×V)}{xs:List (List Key×Addr×Value)}(r:KT H kvs xs)(k:List Key){b:Addr}{y:V}{u:Value}(hb:H b=some (.tup (k.map kV)))(ry:RelV y u) :
    KT H (putK kvs k y) (storedH xs k b u):=by
  have e:(kvs.any fun kv=>decide (kv.1=k))=(atKey xs k).isSome:=by
    rw[pH,(r.val k).DV,Option.isSome_map]
  unfold putK storedH
  rw[e]
  by_cases q:(atKey xs k).isSome=true
  · rw[if_pos q,if_pos q];exact r.PZ k ry
  · rw[if_neg q,if_neg q];exact Paired.snoc r ⟨rfl,hb,ry⟩
theorem KT.keeps {H H':Hp}{kvs:List (List Key×V)}{xs:List (List Key×Addr×Value)}(r:KT H kvs xs)(ht:∀ b ys,H b=some (.tup ys)→H' b=some (.tup ys)):KT H' kvs xs:=
  Paired.OT r fun _ _ z=>⟨z.1,ht _ _ z.2.1,z.2.2⟩
section
variable {P:Program} {w:World} {H:Hp} {h:Heap} {a:Addr}
theorem L9 {u:HO}(ok:HOk P w H h)(e:Rd H a u):dM P w H h a u:=e.ok ok
theorem EL {kvs:List (Key×V)}(ok:HOk P w H h)(e:Rd H a (.dK kvs)):kvs.length≤sizeLine∧(a == sysModules)=false∧∃ vs,KV kvs vs∧h.DictOf (cc P w) a vs:=
  show dM P w H h a (.dK kvs) from L9 ok e
theorem Mk {kvs:List (Key×V)}(ok:HOk P w H h)(e:H a=some (.dK kvs)):kvs.length≤sizeLine∧(a == sysModules)=false∧∃ vs,KV kvs vs∧h.DictOf (cc P w) a vs:=EL ok (.inl e)
theorem z9 {ks:List Key}(ok:HOk P w H h)(e:H a=some (.tup (ks.map kV))):(tupleKind (cc P w)).is h ks a:=by
  obtain ⟨_,its,r,n,h1⟩:=(show dM P w H h a (.tup (ks.map kV)) from ok a _ e)
  exact ⟨_,its.toArray,n,h1,rfl,rfl,by simpa using tK r⟩
theorem Ht {kvs:List (List Key×V)}(ok:HOk P w H h)(e:Rd H a (.dT kvs)):kvs.length≤sizeLine∧(a == sysModules)=false∧
    ∃ xs,KT H kvs xs∧h.DictOfH (tupleKind (cc P w)) a xs:=by
  obtain ⟨z,y,xs,r,o,es,ep,h1,h2,h3,h4,h5⟩:=(show dM P w H h a (.dT kvs) from L9 ok e)
  refine ⟨z,y,xs,r,o,es,ep,h1,h2,h3,h4,fun x hx=>?_,h5⟩
  have all:∀ {l:List (List Key×V)} {m:List (List Key×Addr×Value)},KT H l m→∀ x∈m,(tupleKind (cc P w)).is h x.1 x.2.1:=by
    intro l m q
    induction q with
    | nil=>intro x hx;exact nomatch hx
    | @cons p q ps qs hq t ih=>
      intro x hx
      rcases List.mem_cons.mp hx with e | hx
      · subst e
        exact z9 ok (by rw[← hq.1];exact hq.2.1)
      · exact ih x hx
  exact all r x hx
theorem RV {kvs:List (List Key×V)}(ok:HOk P w H h)(e:H a=some (.dT kvs)):kvs.length≤sizeLine∧(a == sysModules)=false∧
    ∃ xs,KT H kvs xs∧h.DictOfH (tupleKind (cc P w)) a xs:=Ht ok (.inl e)
end
def sf (H:Hp)(a:Addr)(y:V)(r:Option V):Prop:=
  (∃ kvs k,Rd H a (.dK kvs)∧y=kV k∧r=gX kvs k)∨∃ kvs k b,Rd H a (.dT kvs)∧y=.ref b∧H b=some (.tup (k.map kV))∧r=gX kvs k
def ur (H:Hp)(a:Addr)(y v:V)(H':Hp):Prop:=
  (∃ kvs k,H a=some (.dK kvs)∧y=kV k∧kvs.length < sizeLine∧H'=upd H a (.dK (putK kvs k v)))∨
  ∃ kvs k b,H a=some (.dT kvs)∧y=.ref b∧H b=some (.tup (k.map kV))∧kvs.length < sizeLine∧H'=upd H a (.dT (putK kvs k v))
theorem sf.k {H:Hp}{a:Addr}{kvs:List (Key×V)}{k:Key}(e:H a=some (.dK kvs)):sf H a (kV k) (gX kvs k):=.inl ⟨kvs,k,.inl e,rfl,rfl⟩
theorem sf.t {H:Hp}{a b:Addr}{kvs:List (List Key×V)}{k:List Key}(e:H a=some (.dT kvs))(eb:H b=some (.tup (k.map kV))):sf H a (.ref b) (gX kvs k):=.inr ⟨kvs,k,b,.inl e,rfl,eb,rfl⟩
theorem ur.k {H:Hp}{a:Addr}{kvs:List (Key×V)}{k:Key}{v:V}(e:H a=some (.dK kvs))(hl:kvs.length < sizeLine):ur H a (kV k) v (upd H a (.dK (putK kvs k v))):=.inl ⟨kvs,k,e,rfl,hl,rfl⟩
theorem ur.t {H:Hp}{a b:Addr}{kvs:List (List Key×V)}{k:List Key}{v:V}(e:H a=some (.dT kvs))(eb:H b=some (.tup (k.map kV)))(hl:kvs.length < sizeLine) :
    ur H a (.ref b) v (upd H a (.dT (putK kvs k v))):=.inr ⟨kvs,k,b,e,rfl,eb,hl,rfl⟩
section
variable {X:Cx} {pins:List (Addr×Obj)} {σ:St} {H:Hp} {s:Shared} {a:Addr} {y v:V} {u r:Value} {o:Option V} {A:Around} {E:Value→Shared→Prop}
theorem Inv.big (I:Inv X pins σ H s):sysModules < s.heap.objs.size:=by
  have h:mainGlobals < s.heap.objs.size:=(I.mod.glob.keeps I.bk).lt
  exact Nat.lt_trans (by decide) h
theorem sT {Q:Value→Shared→Prop}(hu:A.units+1 < cLine)(I:Inv X pins σ H s)(g:sf H a y (some v))(ry:RelV y u)(h:∀ w' s',Inv X pins σ H s'→RelV v w'→Q w' s') :
    wpAny (model X.prog X.w) A (getItem (.ref a) u) Q E s:=by
  rcases g with ⟨kvs,k,e,ey,l⟩ | ⟨kvs,k,b,e,ey,eb,l⟩
  · subst ey
    obtain ⟨z,hd,vs,rel,dd⟩:=EL I.hok e
    obtain ⟨w',hw,rw'⟩:=oB.some_of (v:=v) (o:=valueAt vs k) (by rw[l];exact rel.val k)
    exact wpAny_getItem_of (w4 ry) dd.mapOf hw (h w' _ (I.tok _) rw')
  · subst ey
    cases (show u=Value.ref b from ry)
    obtain ⟨z,hd,xs,rel,dd⟩:=Ht I.hok e
    obtain ⟨w',hw,rw'⟩:=oB.some_of (v:=v) (o:=(atKey xs k).map (·.2)) (by rw[l];exact rel.val k)
    obtain ⟨p,hp,hp2⟩:=Option.map_eq_some_iff.mp hw
    refine wpAny_getItem_heap (tupleKind_room_in1 hu) (z9 I.hok eb) dd hp ?_
    rw[hp2]
    exact h w' _ (I.tok _) rw'
theorem uq {h':Heap}{t':Nat}{ob:HO}(I:Inv X pins σ H s)(mu:Mut (H a))(hs:Heap.SameBut a s.heap h')(he:∃ q,h'.get? a=some q)(new:dM X.prog X.w (upd H a ob) h' a ob) :
    Inv X pins σ (upd H a ob) { s with heap:=h',toks:=t' }:=
  I.write (x:=a) (e:=a) mu (.inl rfl) (fun b q hb z=>(hs.2 b hb).trans z) he new
theorem yE {P:Program}{w:World}{H':Hp}{h':Heap}{kvs:List (Key×V)}{vs:List (Key×Value)}(z:kvs.length≤sizeLine)(hd:(a == sysModules)=false)(rel:KV kvs vs)(dd:h'.DictOf (cc P w) a vs) :
    dM P w H' h' a (.dK kvs):=⟨z,hd,vs,rel,dd⟩
theorem sH {H':Hp}{Q:Unit→Shared→Prop}(hu:A.units+1 < cLine)(I:Inv X pins σ H s)(g:ur H a y v H')(ry:RelV y u)(rv:RelV v r)(h:∀ s',Inv X pins σ H' s'→Q () s') :
    wpAny (model X.prog X.w) A (setItem (.ref a) u r) Q E s:=by
  rcases g with ⟨kvs,k,e,ey,l,eH⟩ | ⟨kvs,k,b,e,ey,eb,l,eH⟩
  · subst ey eH
    obtain ⟨z,hd,vs,rel,dd⟩:=Mk I.hok e
    have hz:vs.length≤sizeLine:=by rw[← rel.length];exact z
    have hl:(putK kvs k v).length≤sizeLine:=by have:=jv kvs k v;omega
    refine wpAny_setItem_pairs (hsz:=hz) (w4 ry) dd fun h' dd' hs=>h _ ?_
    have he:∃ q,h'.get? a=some q:=let ⟨q,_,_,hq,_⟩:=dd';⟨q,hq⟩
    exact uq I (by rw[e];exact True.intro) hs he (yE hl hd (rel.put k rv) dd')
  · subst ey eH
    cases (show u=Value.ref b from ry)
    obtain ⟨z,hd,xs,rel,dd⟩:=RV I.hok e
    have hz:xs.length≤sizeLine:=by rw[← Paired.length rel];exact z
    have hl:(putK kvs k v).length≤sizeLine:=by have:=jv kvs k v;omega
    refine wpAny_setItem_heap (hsz:=hz) (tupleKind_room_in1 hu) (z9 I.hok eb) dd fun h' dd' hs=>h _ ?_
    obtain ⟨q,es,ep,hq,h2,h3,h4,_,h5⟩:=dd'
    refine uq I (by rw[e];exact True.intro) hs ⟨q,hq⟩ ⟨hl,hd,_,(rel.put k eb rv).keeps fun c ys ec=>?_,q,es,ep,hq,h2,h3,h4,h5⟩
    rw[aL (Q5 ec e (fun z=>nomatch z))]
    exact ec
end
section
variable {X:Cx} {pins:List (Addr×Obj)} {σ:St} {H:Hp} {s:Shared} {a:Addr} {kvs:List (Key×V)} {k:Key} {u:Value} {A:Around} {E:Value→Shared→Prop}
end
def Pj (i:Expr):Prop:=∀ ov iv,subscripted i false ov iv=operate [ov,iv] (getItem ov iv)
theorem K0 {prog:Program}{w:World}{A:Around}{E:Value→Shared→Prop}{s:Shared}{env:Env}{value slice:Expr}{pos:Pos}{T id:String}{Q:Value→Shared→Prop}
    (hl:typeLookup (.type T) "__getitem__" = pure (some (.builtin id))) (hs:Pj slice)
    (h:wpAny (model prog w) A (eval value env) (fun o s₁=>wpAny (model prog w) A (eval slice env) (fun i s₂=>s₂.TypeIs o T∧wpAny (model prog w) A (getItem o i) Q E s₂) E s₁) E s) :
    wpAny (model prog w) A (eval (.Subscript value slice pos) env) Q E s:=by
  refine Subscript_ (wpAny_mono h (fun o s₁ h₁=>wpAny_mono h₁ (fun i s₂ h₂=>?_) fun _ _ x=>x) fun _ _ x=>x)
  obtain ⟨hT,h₂⟩:=h₂
  unfold subscriptTail
  refine wpAny_bind ?_
  rw[getitemInPython_of_ne hT.not_modules]
  refine wpAny_bind (wpAny_specialOf hT hl ?_)
  have fin:wpAny (model prog w) A (subscripted slice false o i) (fun r s₃=>wpAny (model prog w) A (letTemporaryGo value o r >>= fun _=>pure r) Q E s₃) E s₂:=by
    rw[hs o i]
    exact wpAny_operating (wpAny_mono h₂ (fun r s₃ h₃=>wpAny_bind (wpAny_letTemporaryGo (wpAny_pure h₃))) fun _ _ x=>x)
  first
    | exact wpAny_pure (wpAny_bind fin)
    | exact wpAny_bind (wpAny_pure (wpAny_bind fin))
    | exact wpAny_bind fin
theorem wC {X:Cx}{pins:List (Addr×Obj)}{σ:St}{H:Hp}{s:Shared}{a:Addr}{y:V}{o:Option V}(I:Inv X pins σ H s)(g:sf H a y o):s.TypeIs (.ref a) "dict" := by
  rcases g with ⟨kvs,k,e,_,_⟩ | ⟨kvs,k,b,e,_,_,_⟩
  · obtain ⟨_,_,vs,_,dd⟩:=EL I.hok e
    exact dd.typeIs
  · obtain ⟨_,_,xs,_,dd⟩:=Ht I.hok e
    exact dd.typeIs
def Rp (td ty:TE):TE:=fun σ H Q=>td σ H fun x H1=>ty σ H1 fun y H2=>∃ a v,x=.ref a∧sf H2 a y (some v)∧Q v H2
def Rt (td ty tv:TE):TS:=fun D σ H=>tv σ H fun v H1=>td σ H1 fun x H2=>ty σ H2 fun y H3=>∃ a H4,x=.ref a∧ur H3 a y v H4∧D.nx σ H4
def Mb (td ty tv:TE)(rd:V→V→Hp→VK→Prop):TS:=fun D σ H=>td σ H fun x H1=>ty σ H1 fun y H2=>∃ a v,x=.ref a∧sf H2 a y (some v)∧
  tv σ H2 fun y2 H3=>rd v y2 H3 fun z H4=>∃ H5,ur H4 a y z H5∧D.nx σ H5
section
variable {X:Cx} {o i e value:Expr} {pos pos' tpos:Pos} {td ty tv:TE}
theorem LM (hu:X.A.units+1 < cLine)(ho:PE X o td)(hi:PE X i ty)(hs:Pj i):PE X (.Subscript o i pos) (Rp td ty):=by
  intro pins s σ H Q I h
  refine K0 PySem.F.slot_dict_getitem.lookup hs (thn (ho pins s σ H _ I h) fun u s1 ⟨x,H1,I1,rx,q1⟩=>thn (hi pins s1 σ H1 _ I1 q1) fun iv s2 ⟨y,H2,I2,ry,a,v,ex,g,q2⟩=>?_)
  subst ex
  obtain rfl:u=Value.ref a:=rx
  exact ⟨wC I2 g,sT hu I2 g ry fun w' s3 I3 rw'=>⟨v,H2,I3,rw',q2⟩⟩
theorem JU (hu:X.A.units+1 < cLine)(ho:PE X o td)(hi:PE X i ty)(hv:PE X value tv)(hs:swapsWith value (some (.Subscript o i pos')) pos.line X.env=pure false) :
    PS X (.Assign [.Subscript o i pos'] value pos) (Rt td ty tv):=by
  intro pins s σ H D I h
  refine wpAny_Assign_Subscript (thn (hv pins s σ H _ I h) fun r s1 ⟨v,H1,I1,rv,q1⟩=>thn (ho pins s1 σ H1 _ I1 q1) fun u s2 ⟨x,H2,I2,rx,q2⟩=>thn (hi pins s2 σ H2 _ I2 q2) fun iv s3 ⟨y,H3,I3,ry,a,H4,ex,g,q3⟩=>?_) hs
  subst ex
  obtain rfl:u=Value.ref a:=rx
  exact sH hu I3 g ry rv fun s4 I4=>⟨σ,H4,I4,q3⟩
theorem IG {op:Operator}{rd:V→V→Hp→VK→Prop}(hu:X.A.units+1 < cLine)(ho:PE X o td)(hi:PE X i ty)(hv:PE X value tv)(hop:RQ X op rd)
    (ha:∀ ov iv new,augStore i ov iv new=(do holding [new,ov,iv] (setItem ov iv new);release [new,ov,iv] [];pure .next)):PS X (.AugAssign (.Subscript o i tpos) op value pos) (Mb td ty tv rd):=by
  intro pins s σ H D I h
  refine wpAny_AugAssign_SubscriptAny (thn (ho pins s σ H _ I h) fun u s1 ⟨x,H1,I1,rx,q1⟩=>thn (hi pins s1 σ H1 _ I1 q1) fun iv s2 ⟨y,H2,I2,ry,a,v,ex,g,q2⟩=>?_) ha
  subst ex
  obtain rfl:u=Value.ref a:=rx
  refine sT hu I2 g ry fun w' s3 I3 rw'=>thn (hv pins s3 σ H2 _ I3 q2) fun w2 s4 ⟨y2,H3,I4,ry2,q3⟩=>thn (hop pins s4 σ H3 v y2 w' w2 _ I4 rw' ry2 q3) fun w3 s5 ⟨z,H4,I5,rz,H5,g5,q4⟩=>?_
  exact sH hu I5 g5 ry rz fun s6 I6=>⟨σ,H5,I6,q4⟩
end
theorem EI {P:Program}{w:World}{H:Hp}(h:Heap)(hb:sysModules < h.objs.size):dM P w H (h.push { cls:=.type "dict", data:=.dict #[] }) h.objs.size (.dK []):=
  ⟨Nat.zero_le _,beq_eq_false_iff_ne.mpr (Ne.symm (Nat.ne_of_lt hb)),[],.nil,Heap.DictOf.new h⟩
section
variable {X:Cx} {pos:Pos}
end
def uJ:List (TE×TE)→St→Hp→(List (V×V)→Hp→Prop)→Prop
  | [],_,H,Q=>Q [] H
  | (tk,tv)::r,σ,H,Q=>tk σ H fun x H1=>tv σ H1 fun y H2=>uJ r σ H2 fun ps H3=>Q ((x,y)::ps) H3
abbrev VV:List (V×V)→List (Value×Value)→Prop:=Paired fun p q=>RelV p.1 q.1∧RelV p.2 q.2
def PPs (X:Cx)(pos:Pos)(keys:List (Option Expr))(values:List Expr)(trs:List (TE×TE)):Prop:=
  ∀ (pins:List (Addr×Obj)) (s:Shared) (σ:St) (H:Hp) (Q:List (V×V)→Hp→Prop),Inv X pins σ H s→uJ trs σ H Q→
    wpAny (model X.prog X.w) X.A (evalPairs (pairTrees keys values X.env pos)) (fun vs s'=>∃ ps H',Inv X pins σ H' s'∧VV ps vs∧Q ps H') X.xe s
theorem Kn {X:Cx}{pos:Pos}:PPs X pos [] [] []:=fun pins s σ H Q I h=>pairTrees_nil_walk ⟨[],H,I,.nil,h⟩
theorem F7 {X:Cx}{pos:Pos}{k v:Expr}{ks:List (Option Expr)}{vs:List Expr}{tk tv:TE}{trs:List (TE×TE)}(hk:PE X k tk)(hv:PE X v tv)(hr:PPs X pos ks vs trs) :
    PPs X pos (some k::ks) (v::vs) ((tk,tv)::trs):=fun pins s σ H Q I h=>
  pairTrees_cons_walk (thn (hk pins s σ H _ I h) fun u s1 ⟨x,H1,I1,rx,q1⟩=>thn (hv pins s1 σ H1 _ I1 q1) fun w2 s2 ⟨y,H2,I2,ry,q2⟩=>
    thn (hr pins s2 σ H2 _ I2 q2) fun ws s3 ⟨ps,H3,I3,rel,q3⟩=>⟨(x,y)::ps,H3,I3,.cons ⟨rx,ry⟩ rel,q3⟩)
def eB (kvs more:List (Key×V)):List (Key×V):=more.foldl (fun acc kv=>putK acc kv.1 kv.2) kvs
theorem KV.merge:∀ {more:List (Key×V)} {rs:List (Key×Value)} {kvs:List (Key×V)} {vs:List (Key×Value)},KV more rs→KV kvs vs→KV (eB kvs more) (merged vs rs):=by
  intro more rs kvs vs r
  unfold KV at r
  induction r generalizing kvs vs with
  | nil=>intro q;exact q
  | @cons p q ps qs h t ih=>
    intro r0
    have e:KV (putK kvs p.1 p.2) (stored vs q.1 q.2):=by
      have:=r0.put p.1 h.2
      rw[← h.1];exact this
    exact ih e
theorem gT:∀ (more kvs:List (Key×V)),(eB kvs more).length≤kvs.length+more.length
  | [],kvs=>by show kvs.length≤kvs.length+0;omega
  | p::r,kvs=>by
    have h1:=gT r (putK kvs p.1 p.2)
    have h2:=jv kvs p.1 p.2
    show (eB (putK kvs p.1 p.2) r).length≤_
    rw[List.length_cons];omega
theorem qP {P:Program}{w:World}:∀ {kvs:List (Key×V)} {ws:List (Value×Value)},VV (kvs.map fun kv=>(kV kv.1,kv.2)) ws→∃ rs,Carries (cc P w) ws rs∧KV kvs rs
  | [],_,r=>by rw[List.map_nil] at r;cases r;exact ⟨[],True.intro,.nil⟩
  | p::kvs,_,r=>by
    rw[List.map_cons] at r
    cases r with
    | @cons a b as bs h t=>
      obtain ⟨rs,c,q⟩:=qP (P:=P) (w:=w) t
      obtain ⟨b1,b2⟩:=b
      exact ⟨(p.1,b2)::rs,⟨w4 h.1,rfl,c⟩,.cons ⟨rfl,h.2⟩ q⟩
def Q1 (trs:List (TE×TE)):TE:=fun σ H Q=>∀ p,H p=none→uJ trs σ (upd H p (.dK [])) fun ps H2=>H2 p=some (.dK [])∧∃ kvs:List (Key×V),ps=kvs.map (fun kv=>(kV kv.1,kv.2))∧kvs.length≤15∧Q (.ref p) (upd H2 p (.dK (eB [] kvs)))
theorem IY {X:Cx}{pos:Pos}{keys:List (Option Expr)}{values:List Expr}{trs:List (TE×TE)}(h:PPs X pos keys values trs)(hall:keys.all (·.isSome)=true)(hl:keys.length=values.length)(h0:keys≠[])
    (h15:keys.length≤15):PE X (.Dict keys values pos) (Q1 trs):=by
  intro pins s σ H Q I q
  have hn:=I.hok.fresh (Nat.le_refl s.heap.objs.size)
  have I1:=I.laid (a:=s.heap.objs.size) (o:=.dK []) (h':=s.heap.push { cls:=.type "dict", data:=.dict #[] }) (t':=s.toks) (fun _ _ q=>Heap.get?_push_of_some _ q) (Nat.le_refl _) (EI s.heap I.big)
  refine wpAny_Dict_walk (knd:=cc X.prog X.w) hall hl h0 h15 (thn (h pins _ σ _ _ I1 (q _ hn)) fun ws s2 ⟨ps,H2,I2,rel,e,kvs,ep,lk,q2⟩=>?_)
  subst ep
  obtain ⟨rs,c,rk⟩:=qP (P:=X.prog) (w:=X.w) rel
  obtain ⟨z,hd,vs0,r0,dd⟩:=Mk I2.hok e
  cases r0
  refine ⟨rs,c,dd,fun h' dd' hs=>⟨.ref s.heap.objs.size,_,?_,rfl,q2⟩⟩
  have hz:(eB [] kvs).length≤sizeLine:=by
    have h1:=gT kvs []
    rw[List.length_nil] at h1
    rw[sizeLine_eq];omega
  have he:∃ q,h'.get? s.heap.objs.size=some q:=let ⟨q,_,_,hq,_⟩:=dd';⟨q,hq⟩
  exact uq I2 (by rw[e];exact True.intro) hs he (yE hz hd (rk.merge .nil) dd')
section
variable {X:Cx} {pins:List (Addr×Obj)} {σ:St} {H:Hp} {s:Shared} {a:Addr} {y d:V} {u r:Value} {o:Option V} {A:Around} {E:Value→Shared→Prop}
end
section
variable {X:Cx} {o e f:Expr} {apos cpos:Pos} {td ty tx:TE}
end
section
variable {X:Cx} {pins:List (Addr×Obj)} {σ:St} {H:Hp} {s:Shared} {a:Addr} {kvs:List (Key×V)} {A:Around} {E:Value→Shared→Prop}
end
section
variable {X:Cx} {pins:List (Addr×Obj)} {σ:St} {H:Hp} {s:Shared} {a:Addr} {y:V} {u:Value} {A:Around} {E:Value→Shared→Prop}
end
end L2
namespace L3
open PySem
local macro_rules | `(tactic| walk_at "ln")=>`(tactic| (intro ds μ Q h;split at h;rfl;exact h.elim))
theorem Jn {p q:Prop}(a:p)(b:q):p∧q:=⟨a,b⟩
inductive D where
  | non | bl (b:Bool) | int (i:Int) | str (x:Str) | ty (n:String) | tup (ds:List D) | ls (ds:List D) | obj (a:Addr)
inductive MO where
  | lst (ds:List D)
  | dct (kvs:List (L2.Key×D))
abbrev Mu:=Addr→Option MO
def up (μ:Mu)(a:Addr)(o:MO):Mu:=fun b=>if b=a then some o else μ b
theorem aG {μ:Mu}{a:Addr}{o:MO}:up μ a o a=some o:=by unfold up;rw[if_pos rfl]
theorem aU {μ:Mu}{a b:Addr}{o:MO}(h:b≠a):up μ a o b=μ b:=by unfold up;rw[if_neg h]
theorem hX {μ:Mu}{a:Addr}{o u:MO}:up (up μ a o) a u=up μ a u:=by
  funext b;unfold up;split<;>rfl
abbrev ST:=List (Option D)
abbrev DK:=D→Mu→Prop
abbrev ETr:=ST→Mu→DK→Prop
abbrev TTr:=ST→Mu→(Bool→Mu→Prop)→Prop
abbrev ATr:=ST→Mu→(List D→Mu→Prop)→Prop
abbrev DR:=D→Mu→DK→Prop
abbrev DR2:=D→D→Mu→DK→Prop
abbrev FSp:=List D→Mu→DK→Prop
structure En where
  nx:ST→Mu→Prop
  rt:DK
  bk:ST→Mu→Prop:=fun _ _=>False
  ct:ST→Mu→Prop:=fun _ _=>False
abbrev STr:=En→ST→Mu→Prop
abbrev GTr:=D→ST→Mu→(ST→Mu→Prop)→Prop
def kIf (c:Bool)(A B:Prop):Prop:=match c with
  | true=>A
  | false=>B
def kB (x:D)(f:Bool→Prop):Prop:=match x with
  | .bl c=>f c
  | _=>False
def kI (x:D)(f:Int→Prop):Prop:=match x with
  | .int c=>f c
  | _=>False
def kO (x:Option D)(f:D→Prop):Prop:=match x with
  | some d=>f d
  | none=>False
def kS (x:D)(f:List D→Prop):Prop:=match x with
  | .tup ds=>f ds
  | .ls ds=>f ds
  | _=>False
def k2 (ds:List D)(f:D→D→Prop):Prop:=match ds with
  | [v,w]=>f v w
  | _=>False
def kL (μ:Mu)(a:Addr)(f:List D→Prop):Prop:=match μ a with
  | some (.lst ds)=>f ds
  | _=>False
def kD (μ:Mu)(a:Addr)(f:List (L2.Key×D)→Prop):Prop:=match μ a with
  | some (.dct ds)=>f ds
  | _=>False
def kN (x:Option Nat)(f:Nat→Prop):Prop:=match x with
  | some d=>f d
  | none=>False
def lk:ST→Nat→Option D
  | [],_=>none
  | o::_,0=>o
  | _::r,n+1=>lk r n
def ah (i:Nat):ETr:=fun ρ μ Q=>kO (lk ρ i) fun d=>Q d μ
def TC (d:D):ETr:=fun _ μ Q=>Q d μ
def aj (r:DR2)(a b:ETr):ETr:=fun ρ μ Q=>a ρ μ fun x μ1=>b ρ μ1 fun y μ2=>r x y μ2 Q
def TUn (r:DR)(a:ETr):ETr:=fun ρ μ Q=>a ρ μ fun x μ1=>r x μ1 Q
def S64 (i:Int):Prop:=-18446744073709551616 < i∧i < 18446744073709551616
def gx (i:Int):Prop:=-115792089237316195423570985008687907853269984665640564039457584007913129639936 < i∧i < 115792089237316195423570985008687907853269984665640564039457584007913129639936
def MulOk (i j:Int):Prop:=(S64 i∨S64 j)∨(gx i∧gx j)
def ji (j:Int):Prop:=j≠0∧gx j
def pC (i j:Int):Prop:=0≤j∧j≤1000000∧i.natAbs < 18446744073709551616
def Q9:DR2:=fun x y μ Q=>match x,y with
  | .int i,.int j=>Q (.int (i+j)) μ
  | .tup a,.tup b=>(a≠[]∧a.length+b.length≤1000000)∧Q (.tup (a++b)) μ
  | _,_=>False
def j8:DR2:=fun x y μ Q=>match x,y with
  | .int i,.int j=>Q (.int (i - j)) μ
  | _,_=>False
def eQ:DR2:=fun x y μ Q=>match x,y with
  | .int i,.int j=>MulOk i j∧Q (.int (i*j)) μ
  | _,_=>False
def mL:DR2:=fun x y μ Q=>match x,y with
  | .int i,.int j=>ji j∧Q (.int (i.fdiv j)) μ
  | _,_=>False
def lJ:DR2:=fun x y μ Q=>match x,y with
  | .int i,.int j=>j≠0∧Q (.int (i.fmod j)) μ
  | _,_=>False
def Hb:DR2:=fun x y μ Q=>match x,y with
  | .int i,.int j=>pC i j∧Q (.int (i ^ j.toNat)) μ
  | _,_=>False
def Kv:DR:=fun x μ Q=>match x with
  | .int i=>Q (.int (-i)) μ
  | _=>False
def Fo (p:Int→Int→Bool):DR2:=fun x y μ Q=>match x,y with
  | .int i,.int j=>Q (.bl (p i j)) μ
  | _,_=>False
def rLt:DR2:=Fo fun i j=>decide (i < j)
def rLe:DR2:=Fo fun i j=>decide (i≤j)
def rGt:DR2:=Fo fun i j=>decide (j < i)
def rGe:DR2:=Fo fun i j=>decide (j≤i)
mutual
def eqD:D→D→Bool
  | .non,.non=>true
  | .bl a,.bl b=>a == b
  | .int a,.int b=>decide (a=b)
  | .bl a,.int b=>decide ((if a then 1 else 0:Int)=b)
  | .int a,.bl b=>decide (a=(if b then 1 else 0:Int))
  | .str a,.str b=>decide (a=b)
  | .tup a,.tup b=>kn a b
  | .ls a,.ls b=>kn a b
  | _,_=>false
def kn:List D→List D→Bool
  | [],[]=>true
  | a::r,b::s=>eqD a b&&kn r s
  | _,_=>false
end
mutual
def okD:Nat→D→Bool
  | _,.non=>true
  | _,.bl _=>true
  | _,.int _=>true
  | _,.str x=>PyData.strOk x
  | n+1,.tup ds=>cX n ds
  | n+1,.ls ds=>cX n ds
  | _,_=>false
def cX:Nat→List D→Bool
  | _,[]=>true
  | n,d::ds=>okD n d&&cX n ds
end
def rEq:DR2:=fun x y μ Q=>(okD 40 x=true∧okD 40 y=true)∧Q (.bl (eqD x y)) μ
def rNe:DR2:=fun x y μ Q=>(okD 40 x=true∧okD 40 y=true)∧Q (.bl (!eqD x y)) μ
def rIs:DR2:=fun x y μ Q=>match y with
  | .non=>(match x with
    | .non=>Q (.bl true) μ
    | _=>Q (.bl false) μ)
  | _=>False
def AS:DR2:=fun x y μ Q=>match y with
  | .non=>(match x with
    | .non=>Q (.bl false) μ
    | _=>Q (.bl true) μ)
  | _=>False
def ig (a b:ETr):ETr:=fun ρ μ Q=>a ρ μ fun x μ1=>kB x fun c=>kIf c (b ρ μ1 Q) (Q (.bl false) μ1)
def EC (a b:ETr):ETr:=fun ρ μ Q=>a ρ μ fun x μ1=>kB x fun c=>kIf c (Q (.bl true) μ1) (b ρ μ1 Q)
def qC (a:ETr):ETr:=fun ρ μ Q=>a ρ μ fun x μ1=>kB x fun c=>Q (.bl (!c)) μ1
def TB (t:ETr):TTr:=fun ρ μ Q=>t ρ μ fun x μ1=>kB x fun c=>Q c μ1
def rY (t u:TTr):TTr:=fun ρ μ Q=>t ρ μ fun c μ1=>kIf c (u ρ μ1 Q) (Q false μ1)
def TOr (t u:TTr):TTr:=fun ρ μ Q=>t ρ μ fun c μ1=>kIf c (Q true μ1) (u ρ μ1 Q)
def Ax (t:TTr):TTr:=fun ρ μ Q=>t ρ μ fun c μ1=>Q (!c) μ1
def l6 (c:TTr)(a b:ETr):ETr:=fun ρ μ Q=>c ρ μ fun k μ1=>kIf k (a ρ μ1 Q) (b ρ μ1 Q)
def zO (r r':DR2)(a b c:ETr):ETr:=fun ρ μ Q=>a ρ μ fun x μ1=>b ρ μ1 fun y μ2=>r x y μ2 fun z μ3=>kB z fun k=>kIf k (c ρ μ3 fun y' μ4=>r' y y' μ4 Q) (Q (.bl false) μ3)
def ar:ATr:=fun _ μ Q=>Q [] μ
def af (a:ETr)(r:ATr):ATr:=fun ρ μ Q=>a ρ μ fun x μ1=>r ρ μ1 fun xs μ2=>Q (x::xs) μ2
def bc (t:ATr):ETr:=fun ρ μ Q=>t ρ μ fun ds μ1=>ds.length≤1000000∧Q (.tup ds) μ1
def fT (t:ATr):ETr:=fun ρ μ Q=>t ρ μ fun ds μ1=>ds.length≤1000000∧Q (.ls ds) μ1
def lY (t:ATr):ETr:=fun ρ μ Q=>t ρ μ fun ds μ1=>ds.length≤1000000∧∀ p,μ1 p=none→Q (.obj p) (up μ1 p (.lst ds))
def aq (sp:FSp)(t:ATr):ETr:=fun ρ μ Q=>t ρ μ fun ds μ1=>sp ds μ1 Q
def atD (ds:List D)(i:Int):Option D:=L2.atI ds i
def rIx:DR2:=fun x y μ Q=>match x,y with
  | .tup ds,.int i=>kO (atD ds i) fun d=>Q d μ
  | .ls ds,.int i=>kO (atD ds i) fun d=>Q d μ
  | .obj a,.int i=>kL μ a fun ds=>kO (atD ds i) fun d=>Q d μ
  | _,_=>False
def wV:FSp:=fun ds μ Q=>match ds with
  | [.int i]=>Q (.int (if i < 0 then -i else i)) μ
  | _=>False
def sM:FSp:=fun ds μ Q=>match ds with
  | [.int i,.int j]=>Q (.int (if j > i then j else i)) μ
  | _=>False
def tq:FSp:=fun ds μ Q=>match ds with
  | [.int i,.int j]=>Q (.int (if j < i then j else i)) μ
  | _=>False
def y1:FSp:=fun ds μ Q=>match ds with
  | [.int i]=>Q (.int i) μ
  | [.bl k]=>Q (.int (if k then 1 else 0)) μ
  | _=>False
def c7:FSp:=fun ds μ Q=>match ds with
  | [.tup xs]=>Q (.int xs.length) μ
  | [.ls xs]=>Q (.int xs.length) μ
  | [.str x]=>x.length≤1000000∧Q (.int x.length) μ
  | [.obj a]=>kL μ a fun xs=>Q (.int xs.length) μ
  | _=>False
def tyD:D→Option String
  | .non=>some "NoneType"
  | .bl _=>some "bool"
  | .int _=>some "int"
  | .str _=>some "str"
  | .tup _=>some "tuple"
  | .ls _=>some "list"
  | _=>none
def eW (t c:String):Bool:=t == c || (t == "bool" && c == "int")
def fe (c:String):DR:=fun x μ Q=>match tyD x with
  | some t=>Q (.bl (eW t c)) μ
  | none=>False
def ba:STr:=fun E ρ μ=>E.nx ρ μ
def aA (t u:STr):STr:=fun E ρ μ=>t { E with nx:=u E } ρ μ
def AO:STr:=fun E ρ μ=>E.bk ρ μ
def Ex:STr:=fun E ρ μ=>E.ct ρ μ
def fG (e:ETr):STr:=fun E ρ μ=>e ρ μ fun _ μ1=>E.nx ρ μ1
def aW (e:ETr):STr:=fun E ρ μ=>e ρ μ E.rt
def HZ:STr:=fun E _ μ=>E.rt .non μ
def bR (c:TTr)(t u:STr):STr:=fun E ρ μ=>c ρ μ fun b μ1=>kIf b (t E ρ μ1) (u E ρ μ1)
def aw (i:Nat):GTr:=fun d ρ μ k=>k (ρ.set i (some d)) μ
def aN (e:ETr)(g:GTr):STr:=fun E ρ μ=>e ρ μ fun d μ1=>g d ρ μ1 E.nx
def oA (i j:Nat)(a:ATr):STr:=fun E ρ μ=>a ρ μ fun ds μ1=>k2 ds fun v w=>E.nx ((ρ.set i (some v)).set j (some w)) μ1
def QR (x z y:D)(μ:Mu)(f:Mu→Prop):Prop:=match x,z with
  | .obj a,.int n=>kL μ a fun ds=>kN (L2.ixN ds.length n) fun j=>f (up μ a (.lst (ds.set j y)))
  | _,_=>False
def zX (o k e:ETr):STr:=fun E ρ μ=>e ρ μ fun y μ1=>o ρ μ1 fun x μ2=>k ρ μ2 fun z μ3=>QR x z y μ3 fun μ4=>E.nx ρ μ4
def uO (c:TTr)(b:STr):STr:=fun E ρ μ=>∃ (P:ST→Mu→Prop) (m:ST→Mu→Nat),P ρ μ∧∀ ρ μ,P ρ μ→
  c ρ μ fun k μ1=>kIf k (b { E with nx:=fun ρ' μ'=>P ρ' μ'∧m ρ' μ' < m ρ μ,ct:=fun ρ' μ'=>P ρ' μ'∧m ρ' μ' < m ρ μ,bk:=E.nx } ρ μ1) (E.nx ρ μ1)
def forR (g:GTr)(b:STr)(E:En):List D→ST→Mu→Prop
  | [],ρ,μ=>E.nx ρ μ
  | d::r,ρ,μ=>g d ρ μ fun ρ1 μ1=>b { E with nx:=forR g b E r,ct:=forR g b E r,bk:=E.nx } ρ1 μ1
def j7 (it:ATr)(g:GTr)(b:STr):STr:=fun E ρ μ=>it ρ μ fun ds μ1=>forR g b E ds ρ μ1
def cx (lo:Int)(n:Nat):List D:=(List.range n).map fun i=>.int (lo+(i:Nat))
def fV (a:ETr):ATr:=fun ρ μ Q=>a ρ μ fun x μ1=>kI x fun j=>(-4611686018427387904≤j∧j < 4611686018427387904)∧Q (cx 0 j.toNat) μ1
def dH (a:ETr):ATr:=fun ρ μ Q=>a ρ μ fun x μ1=>kS x fun ds=>Q ds μ1
def dn (μ:Mu)(a:Addr):Mu:=fun b=>if b=a then none else μ b
theorem pJ {μ:Mu}{a:Addr}{o:MO}(h:μ a=none):dn (up μ a o) a=μ:=by
  funext b
  unfold dn up
  by_cases hb:b=a
  · subst hb;simp[h]
  · simp[hb]
def fo (ρ:ST)(n:Nat)(caps:List Nat):ST:=List.replicate n none++caps.map (lk ρ)
def fR (p:Addr)(G:GTr)(tt:TTr)(te:ETr)(ρc:ST)(K:Mu→Prop):List D→Mu→Prop
  | [],μ=>K μ
  | d::r,μ=>G d ρc μ fun ρ1 μ1=>tt ρ1 μ1 fun b μ2=>kIf b (te ρ1 μ2 fun y μ3=>kL μ3 p fun zs=>zs.length < 1000000∧fR p G tt te ρc K r (up μ3 p (.lst (zs++[y])))) (fR p G tt te ρc K r μ2)
def bE (it:ATr)(G:GTr)(tt:TTr)(te:ETr)(n:Nat)(caps:List Nat):ETr:=fun ρ μ Q=>it ρ μ fun ds μ1=>∀ p,μ1 p=none→
  fR p G tt te (fo ρ n caps) (fun μ'=>kL μ' p fun zs=>Q (.ls zs) (dn μ' p)) ds (up μ1 p (.lst []))
def dm:TTr:=fun _ μ Q=>Q true μ
def HF:FSp:=fun ds μ Q=>match ds with
  | [.ls xs]=>∃ bs:List Bool,xs=bs.map .bl∧Q (.bl (bs.all id)) μ
  | _=>False
theorem cW {g:GTr}{b:STr}{E:En}(P:List D→ST→Mu→Prop)(hnil:∀ ρ μ,P [] ρ μ→E.nx ρ μ)
    (hcons:∀ d r ρ μ (N:ST→Mu→Prop),P (d::r) ρ μ→(∀ ρ' μ',P r ρ' μ'→N ρ' μ')→g d ρ μ fun ρ1 μ1=>b { E with nx:=N,ct:=N,bk:=E.nx } ρ1 μ1) :
    ∀ (ds:List D) (ρ:ST) (μ:Mu),P ds ρ μ→forR g b E ds ρ μ
  | [],ρ,μ,h=>hnil ρ μ h
  | d::r,ρ,μ,h=>hcons d r ρ μ _ h fun ρ' μ' q=>cW P hnil hcons r ρ' μ' q
section
open PySem PySem.Spec PyProof.Rows L2
def SqF (K:PySem.W.Frag)(H:Hp)(a:Addr)(xs:List V):Prop:=
  (∃ o,H a=some (.frz o (.lst xs)))∨
    ∃ (o:Obj) (its:Array Value) (n:Nat),K.lookup a=some o∧o.cls=.type "list" ∧ o.dict=none∧o.data=.seq its n∧its.size≤sizeLine∧Vals xs its.toList
theorem SqF.sq {K:PySem.W.Frag}{H:Hp}{a:Addr}{xs:List V}(h:SqF K H a xs):SqL K H a xs:=by
  rcases h with h | h
  · exact .inl (.inr h)
  · exact .inr h
mutual
inductive Dp (K:PySem.W.Frag) (H:Hp):V→D→Prop
  | non:Dp K H .non .non
  | bl (b:Bool):Dp K H (.bl b) (.bl b)
  | int (n:Int):Dp K H (.int n) (.int n)
  | str (z:Str):Dp K H (.str z) (.str z)
  | ty (n:String):Dp K H (.ty n) (.ty n)
  | tup {a:Addr} {xs:List V} {ds:List D}:SqT K H a xs→DpL K H xs ds→Dp K H (.ref a) (.tup ds)
  | ls {a:Addr} {xs:List V} {ds:List D}:SqF K H a xs→DpL K H xs ds→Dp K H (.ref a) (.ls ds)
  | obj (a:Addr):Dp K H (.ref a) (.obj a)
inductive DpL (K:PySem.W.Frag) (H:Hp):List V→List D→Prop
  | nil:DpL K H [] []
  | cons {v:V} {d:D} {vs:List V} {ds:List D}:Dp K H v d→DpL K H vs ds→DpL K H (v::vs) (d::ds)
end
structure Tk (H H':Hp):Prop where
  tup:∀ a xs,H a=some (.tup xs)→H' a=some (.tup xs)
  frz:∀ a o u,H a=some (.frz o u)→H' a=some (.frz o u)
theorem Tk.refl (H:Hp):Tk H H:=⟨fun _ _ h=>h,fun _ _ _ h=>h⟩
theorem Tk.trans {H H1 H2:Hp}(a:Tk H H1)(b:Tk H1 H2):Tk H H2:=⟨fun c xs h=>b.tup c xs (a.tup c xs h),fun c o u h=>b.frz c o u (a.frz c o u h)⟩
theorem Tk.upd {H:Hp}{a:Addr}{o:HO}(h1:∀ xs,H a≠some (.tup xs))(h2:∀ o u,H a≠some (.frz o u)):Tk H (L2.upd H a o):=
  ⟨fun b xs h=>by rw[aL (fun z=>by subst z;exact h1 _ h)];exact h,fun b o u h=>by rw[aL (fun z=>by subst z;exact h2 _ _ h)];exact h⟩
theorem Tk.new {H:Hp}{a:Addr}{o:HO}(h:H a=none):Tk H (L2.upd H a o):=.upd (fun _ e=>by rw[h] at e;cases e) fun _ _ e=>by rw[h] at e;cases e
theorem Tk.sqT {K:PySem.W.Frag}{H H':Hp}{a:Addr}{xs:List V}(t:Tk H H')(h:SqT K H a xs):SqT K H' a xs:=by
  rcases h with (h | ⟨o,h⟩) | h
  · exact .inl (.inl (t.tup _ _ h))
  · exact .inl (.inr ⟨o,t.frz _ _ _ h⟩)
  · exact .inr h
theorem Tk.sqF {K:PySem.W.Frag}{H H':Hp}{a:Addr}{xs:List V}(t:Tk H H')(h:SqF K H a xs):SqF K H' a xs:=by
  rcases h with ⟨o,h⟩ | h
  · exact .inl ⟨o,t.frz _ _ _ h⟩
  · exact .inr h
mutual
theorem Dp.mono {K:PySem.W.Frag}{H H':Hp}(t:Tk H H'):∀ {v:V} {d:D},Dp K H v d→Dp K H' v d
  | _,_,.non=>.non
  | _,_,.bl b=>.bl b
  | _,_,.int i=>.int i
  | _,_,.str x=>.str x
  | _,_,.ty n=>.ty n
  | _,_,.tup h l=>.tup (t.sqT h) (DpL.mono t l)
  | _,_,.ls h l=>.ls (t.sqF h) (DpL.mono t l)
  | _,_,.obj a=>.obj a
theorem DpL.mono {K:PySem.W.Frag}{H H':Hp}(t:Tk H H'):∀ {vs:List V} {ds:List D},DpL K H vs ds→DpL K H' vs ds
  | _,_,.nil=>.nil
  | _,_,.cons h l=>.cons (Dp.mono t h) (DpL.mono t l)
end
theorem DpL.length {K:PySem.W.Frag}{H:Hp}:∀ {vs:List V} {ds:List D},DpL K H vs ds→vs.length=ds.length
  | _,_,.nil=>rfl
  | _,_,.cons _ l=>by rw[List.length_cons,List.length_cons,DpL.length l]
theorem DpL.get {K:PySem.W.Frag}{H:Hp}:∀ {vs:List V} {ds:List D} {i:Nat} {d:D},DpL K H vs ds→ds[i]? = some d→∃ v,vs[i]? = some v∧Dp K H v d
  | _,_,_,_,.nil,e=>by simp at e
  | _,_,0,_,.cons h _,e=>by simp at e;subst e;exact ⟨_,rfl,h⟩
  | _,_,i+1,d,.cons _ l,e=>by
    obtain ⟨v,e1,h⟩:=DpL.get (i:=i) (d:=d) l (by simpa using e)
    exact ⟨v,by simpa using e1,h⟩
theorem DpL.get' {K:PySem.W.Frag}{H:Hp}:∀ {vs:List V} {ds:List D} {i:Nat} {v:V},DpL K H vs ds→vs[i]? = some v→∃ d,ds[i]? = some d∧Dp K H v d
  | _,_,_,_,.nil,e=>by simp at e
  | _,_,0,_,.cons h _,e=>by simp at e;subst e;exact ⟨_,rfl,h⟩
  | _,_,i+1,d,.cons _ l,e=>by
    obtain ⟨v,e1,h⟩:=DpL.get' (i:=i) (v:=d) l (by simpa using e)
    exact ⟨v,by simpa using e1,h⟩
theorem DpL.set {K:PySem.W.Frag}{H:Hp}{v:V}{d:D}(h:Dp K H v d):∀ {vs:List V} {ds:List D} (i:Nat),DpL K H vs ds→DpL K H (vs.set i v) (ds.set i d)
  | _,_,_,.nil=>.nil
  | _,_,0,.cons _ l=>.cons h l
  | _,_,i+1,.cons q l=>.cons q (DpL.set h i l)
theorem DpL.append {K:PySem.W.Frag}{H:Hp}:∀ {vs ws:List V} {ds es:List D},DpL K H vs ds→DpL K H ws es→DpL K H (vs++ws) (ds++es)
  | _,_,_,_,.nil,s=>s
  | _,_,_,_,.cons h l,s=>.cons h (DpL.append l s)
theorem DpL.at {K:PySem.W.Frag}{H:Hp}{vs:List V}{ds:List D}{i:Int}{d:D}(l:DpL K H vs ds)(e:atD ds i=some d):∃ v,atI vs i=some v∧Dp K H v d:=by
  unfold atD atI at e
  unfold atI
  rw[l.length]
  cases q:ixN ds.length i with
  | none=>rw[q] at e;cases e
  | some j=>
    rw[q] at e
    exact l.get e
def DpK (K:PySem.W.Frag)(H:Hp)(xs:List (Key×V))(kvs:List (Key×D)):Prop:=xs.map (·.1)=kvs.map (·.1)∧DpL K H (xs.map (·.2)) (kvs.map (·.2))
theorem DpK.mono {K:PySem.W.Frag}{H H':Hp}(t:Tk H H'){xs:List (Key×V)}{kvs:List (Key×D)}(h:DpK K H xs kvs):DpK K H' xs kvs:=⟨h.1,h.2.mono t⟩
def zK (K:PySem.W.Frag)(H:Hp)(a:Addr):MO→Prop
  | .lst ds=>∃ xs,H a=some (.lst xs)∧DpL K H xs ds
  | .dct kvs=>∃ xs,H a=some (.dK xs)∧DpK K H xs kvs
theorem zK.go {K:PySem.W.Frag}{H H':Hp}{a:Addr}{o:MO}(h:zK K H a o)(t:Tk H H')(k:∀ u,H a=some u→H' a=some u):zK K H' a o:=by
  cases o with
  | lst ds=>obtain ⟨xs,z,l⟩:=h;exact ⟨xs,k _ z,l.mono t⟩
  | dct kvs=>obtain ⟨xs,z,l⟩:=h;exact ⟨xs,k _ z,l.mono t⟩
theorem zK.ne {K:PySem.W.Frag}{H:Hp}{a q:Addr}{o:MO}{u:HO}(h:zK K H a o)(t:Tk H (L2.upd H q u))(k:a≠q):zK K (L2.upd H q u) a o:=h.go t fun _ e=>by rw[aL k];exact e
def bJ (K:PySem.W.Frag)(H:Hp)(μ:Mu):Prop:=∀ a o,μ a=some o→zK K H a o
theorem bJ.free {K:PySem.W.Frag}{H:Hp}{μ:Mu}(h:bJ K H μ){a:Addr}(e:H a=none):μ a=none:=by
  cases q:μ a with
  | none=>rfl
  | some o=>
    cases o with
    | lst ds=>obtain ⟨xs,z,_⟩:=h a _ q;rw[e] at z;cases z
    | dct ds=>obtain ⟨xs,z,_⟩:=h a _ q;rw[e] at z;cases z
theorem bJ.keep {K:PySem.W.Frag}{H H':Hp}{μ:Mu}(h:bJ K H μ)(t:Tk H H')(k:∀ a u,μ a≠none→H a=some u→H' a=some u):bJ K H' μ:=fun a o e=>by
  exact (h a _ e).go t fun u z=>k a u (by rw[e];simp) z
def Sub (μ μ':Mu):Prop:=∀ a o,μ a=some o→μ' a=some o
theorem Sub.refl (μ:Mu):Sub μ μ:=fun _ _ h=>h
theorem Sub.new {μ:Mu}{p:Addr}{o:MO}(h:μ p=none):Sub μ (up μ p o):=fun a u e=>by
  rw[aU (fun z=>by subst z;rw[h] at e;cases e)];exact e
theorem Sub.trans {μ μ1 μ2:Mu}(a:Sub μ μ1)(b:Sub μ1 μ2):Sub μ μ2:=fun c o h=>b c o (a c o h)
theorem bJ.sub {K:PySem.W.Frag}{H:Hp}{μ μ':Mu}(h:bJ K H μ')(s:Sub μ μ'):bJ K H μ:=fun a o e=>h a o (s a o e)
structure Rl (K:PySem.W.Frag) (σ:L2.St) (H:Hp) (ρ:ST) (μ:Mu):Prop where
  len:ρ.length=σ.length
  loc:∀ i d,lk ρ i=some d→∃ v,σ[i]? = some (some v)∧Dp K H v d
  mu:bJ K H μ
theorem Rl.go {K:PySem.W.Frag}{σ:L2.St}{H H':Hp}{ρ:ST}{μ μ':Mu}(r:Rl K σ H ρ μ)(t:Tk H H')(m:bJ K H' μ'):Rl K σ H' ρ μ':=
  ⟨r.len,fun i d e=>let ⟨v,h1,h2⟩:=r.loc i d e;⟨v,h1,h2.mono t⟩,m⟩
theorem HR:∀ (ρ:ST) (i j:Nat) (d:D),lk (ρ.set i (some d)) j=if i=j∧i < ρ.length then some d else lk ρ j
  | [],i,j,d=>by simp[lk]
  | o::r,0,0,d=>by simp[lk]
  | o::r,0,j+1,d=>by simp[lk]
  | o::r,i+1,0,d=>by simp[lk]
  | o::r,i+1,j+1,d=>by
    show lk (r.set i (some d)) j=_
    rw[HR r i j d]
    simp[lk]
theorem Rl.set {K:PySem.W.Frag}{σ:L2.St}{H:Hp}{ρ:ST}{μ:Mu}(r:Rl K σ H ρ μ){v:V}{d:D}(h:Dp K H v d)(i:Nat):Rl K (σ.set i (some v)) H (ρ.set i (some d)) μ:=by
  refine ⟨by simp[r.len],fun j e q=>?_,r.mu⟩
  rw[HR] at q
  split at q
  · rename_i hc
    obtain ⟨rfl,hlt⟩:=hc
    cases q
    exact ⟨v,by rw[List.getElem?_set_self (by rw[← r.len];exact hlt)],h⟩
  · rename_i hc
    obtain ⟨u,h1,h2⟩:=r.loc j e q
    by_cases hij:i=j
    · subst hij
      have:¬ i < ρ.length:=fun z=>hc ⟨rfl,z⟩
      have hn:σ[i]? = none:=List.getElem?_eq_none_iff.mpr (by rw[← r.len];omega)
      rw[hn] at h1;cases h1
    · exact ⟨u,by rw[List.getElem?_set_ne hij];exact h1,h2⟩
abbrev jH (K:PySem.W.Frag)(H:Hp)(Q:DK)(Q':VK):Prop:=∀ v H' d μ',Tk H H'→bJ K H' μ'→Dp K H' v d→Q d μ'→Q' v H'
def Sim (K:PySem.W.Frag)(t:TE)(T:ETr):Prop:=∀ σ H ρ μ (Q:DK) (Q':VK),Rl K σ H ρ μ→T ρ μ Q→jH K H Q Q'→t σ H Q'
def Ka (K:PySem.W.Frag)(t:TT)(T:TTr):Prop:=∀ σ H ρ μ (Q:Bool→Mu→Prop) (Q':Bool→Hp→Prop),Rl K σ H ρ μ→T ρ μ Q→(∀ b H' μ',Tk H H'→bJ K H' μ'→Q b μ'→Q' b H')→t σ H Q'
def Ql (K:PySem.W.Frag)(t:TA)(T:ATr):Prop:=∀ σ H ρ μ (Q:List D→Mu→Prop) (Q':List V→Hp→Prop),Rl K σ H ρ μ→T ρ μ Q→(∀ vs H' ds μ',Tk H H'→bJ K H' μ'→DpL K H' vs ds→Q ds μ'→Q' vs H')→t σ H Q'
abbrev vE (K:PySem.W.Frag)(H:Hp)(N:ST→Mu→Prop)(N':L2.St→Hp→Prop):Prop:=∀ σ' H' ρ' μ',Tk H H'→Rl K σ' H' ρ' μ'→N ρ' μ'→N' σ' H'
structure FT (K:PySem.W.Frag) (H:Hp) (E:En) (E':Ends):Prop where
  nx:vE K H E.nx E'.nx
  rt:jH K H E.rt E'.rt
  bk:vE K H E.bk E'.bk
  ct:vE K H E.ct E'.ct
theorem FT.go {K:PySem.W.Frag}{H H1:Hp}{E:En}{E':Ends}(e:FT K H E E')(t:Tk H H1):FT K H1 E E':=
  ⟨fun _ _ _ _ t'=>e.nx _ _ _ _ (t.trans t'),fun _ _ _ _ t'=>e.rt _ _ _ _ (t.trans t'),fun _ _ _ _ t'=>e.bk _ _ _ _ (t.trans t'),fun _ _ _ _ t'=>e.ct _ _ _ _ (t.trans t')⟩
def EX (K:PySem.W.Frag)(t:TS)(T:STr):Prop:=∀ σ H ρ μ (E:En) (E':Ends),Rl K σ H ρ μ→T E ρ μ→FT K H E E'→t E' σ H
def NZ (K:PySem.W.Frag)(g:TG)(G:GTr):Prop:=∀ σ H ρ μ v d (k:ST→Mu→Prop) (k':L2.St→Hp→Prop),Rl K σ H ρ μ→Dp K H v d→G d ρ μ k→vE K H k k'→g v σ H k'
structure LE (X:Cx) (e:Expr) (T:ETr):Prop where
  ex:∃ t,PE X e t∧Sim X.K t T
structure LT (X:Cx) (e:Expr) (T:TTr):Prop where
  ex:∃ t,PT X e t∧Ka X.K t T
structure LW (X:Cx) (e:Expr) (T:TTr):Prop where
  ex:∃ t,PW X e t∧Ka X.K t T
structure LA (X:Cx) (es:List Expr) (T:ATr):Prop where
  ex:∃ t,PA X es t∧Ql X.K t T
structure LS (X:Cx) (st:Stmt) (T:STr):Prop where
  ex:∃ t,PS X st t∧EX X.K t T
structure LSs (X:Cx) (sts:List Stmt) (T:STr):Prop where
  ex:∃ t,PSs X sts t∧EX X.K t T
structure LG (X:Cx) (tg:Expr) (G:GTr):Prop where
  ex:∃ g,PG X tg g∧NZ X.K g G
section
variable {X:Cx} {a b c e:Expr} {Ta Tb Tc:ETr} {pos:Pos}
theorem ae (i:Nat){x:Str}(hN:X.N[i]? = some x:=by rfl)(hv:Vis X.env.scope x:=by first | exact Or.inl rfl | exact Or.inr (Or.inl rfl) | exact Or.inr (Or.inr rfl))(hd:(x == ("__debug__" : Str))=false:=by decide)
    (hcd:(x == ("__classdict__" : Str))=false:=by decide):LE X (.Name x pos) (ah i):=
  ⟨_,Hf hN hv hd hcd,fun σ H ρ μ Q Q' r h k=>by
    have h:kO (lk ρ i) fun d=>Q d μ:=h
    cases q:lk ρ i with
    | none=>rw[q] at h;exact False.elim h
    | some d=>
      rw[q] at h
      have h:Q d μ:=h
      obtain ⟨v,e1,p⟩:=r.loc i d q
      exact ⟨v,e1,k v H d μ (.refl H) r.mu p h⟩⟩
theorem le_int {i:Int}{j}:LE X (.Constant (.int i) j pos) (TC (.int i)):=⟨_,Oa,fun σ H ρ μ Q Q' r h k=>k _ H _ μ (.refl H) r.mu (.int i) h⟩
theorem By {b:Bool}{j}:LE X (.Constant (.bool b) j pos) (TC (.bl b)):=⟨_,RZ,fun σ H ρ μ Q Q' r h k=>k _ H _ μ (.refl H) r.mu (.bl b) h⟩
theorem dh {j}:LE X (.Constant .none j pos) (TC .non):=⟨_,Oi,fun σ H ρ μ Q Q' r h k=>k _ H _ μ (.refl H) r.mu .non h⟩
theorem le_str {x:Str}{j}:LE X (.Constant (.str x) j pos) (TC (.str x)):=⟨_,Es,fun σ H ρ μ Q Q' r h k=>k _ H _ μ (.refl H) r.mu (.str x) h⟩
def gZ (K:PySem.W.Frag)(r:R2)(R:DR2):Prop:=∀ H μ x y dx dy (Q:DK) (Q':VK),bJ K H μ→Dp K H x dx→Dp K H y dy→R dx dy μ Q→jH K H Q Q'→r x y H Q'
def Qu (K:PySem.W.Frag)(r:V→Hp→VK→Prop)(R:DR):Prop:=∀ H μ x dx (Q:DK) (Q':VK),bJ K H μ→Dp K H x dx→R dx μ Q→jH K H Q Q'→r x H Q'
theorem jH.go {K:PySem.W.Frag}{H H1:Hp}{Q:DK}{Q':VK}(k:jH K H Q Q')(t:Tk H H1):jH K H1 Q Q':=fun v H' d μ' t'=>k v H' d μ' (t.trans t')
theorem oH {K:PySem.W.Frag}{r:R2}{R:DR2}{ta tb:TE}(hr:gZ K r R)(ha:Sim K ta Ta)(hb:Sim K tb Tb):Sim K (tOp r ta tb) (aj R Ta Tb):=fun σ H ρ μ Q Q' rl h k=>
  ha σ H ρ μ _ _ rl h fun x H1 dx μ1 t1 m1 p1 h1=>hb σ H1 ρ μ1 _ _ (rl.go t1 m1) h1 fun y H2 dy μ2 t2 m2 p2 h2=>hr H2 μ2 x y dx dy Q Q' m2 (p1.mono t2) p2 h2 (k.go (t1.trans t2))
theorem pT {op:Operator}{r:R2}{R:DR2}(ho:OpR X (binaryOp op) r)(hr:gZ X.K r R)(ha:LE X a Ta)(hb:LE X b Tb):LE X (.BinOp a op b pos) (aj R Ta Tb):=by
  obtain ⟨ta,pa,sa⟩:=ha.ex
  obtain ⟨tb,pb,sb⟩:=hb.ex
  exact ⟨_,MF ho pa pb,oH hr sa sb⟩
theorem oE {op:CmpOp}{r:R2}{R:DR2}(ho:OpR X (compareOp op) r)(hr:gZ X.K r R)(ha:LE X a Ta)(hb:LE X b Tb)(hm:behindInMarks op b=false):LE X (.Compare a [op] [b] pos) (aj R Ta Tb):=by
  obtain ⟨ta,pa,sa⟩:=ha.ex
  obtain ⟨tb,pb,sb⟩:=hb.ex
  exact ⟨_,JJ ho pa pb hm,oH hr sa sb⟩
theorem NB {K:PySem.W.Frag}{t:TE}{T:ETr}(h:Sim K t T):Ka K (Mz t) (TB T):=fun σ H ρ μ Q Q' rl hh k=>
  h σ H ρ μ _ _ rl hh fun v H' d μ' t' m' p' h'=>by
    cases p' with
    | bl c=>exact ⟨c,rfl,k c H' μ' t' m' h'⟩
    | _=>exact False.elim h'
theorem N8 {K:PySem.W.Frag}{t:TE}{T:ETr}(h:Sim K t T):Ka K (tB t) (TB T):=fun σ H ρ μ Q Q' rl hh k=>
  h σ H ρ μ _ _ rl hh fun v H' d μ' t' m' p' h'=>by
    cases p' with
    | bl c=>exact ⟨c,rfl,k c H' μ' t' m' h'⟩
    | _=>exact False.elim h'
theorem gJ {op:CmpOp}{r:R2}{R:DR2}(ho:OpR X (compareOp op) r)(hr:gZ X.K r R)(ha:LE X a Ta)(hb:LE X b Tb)(hm:behindInMarks op b=false):LT X (.Compare a [op] [b] pos) (TB (aj R Ta Tb)):=by
  obtain ⟨ta,pa,sa⟩:=ha.ex
  obtain ⟨tb,pb,sb⟩:=hb.ex
  exact ⟨_,Lr ho pa pb hm,NB (oH hr sa sb)⟩
theorem OpR.or {f:Value→Value→Sem Value}{r r':R2}(h:OpR X f r)(h':OpR X f r'):OpR X f (fun x y H Q=>r x y H Q∨r' x y H Q):=fun pins s σ H x y v u Q I rx ry q=>by
  rcases q with q | q
  · exact h pins s σ H x y v u Q I rx ry q
  · exact h' pins s σ H x y v u Q I rx ry q
theorem tT {K:PySem.W.Frag}{C:Int→Int→Prop}{g:Int→Int→V}{R:DR2}(f:Int→Int→D)(hg:∀ H i j,Dp K H (g i j) (f i j))(hR:∀ i j μ Q,R (.int i) (.int j) μ Q→C i j∧Q (f i j) μ)
    (hn:∀ dx dy μ Q,R dx dy μ Q→(∃ i,dx=.int i)∧∃ j,dy=.int j):gZ K (rI C g) R:=fun H μ x y dx dy Q Q' m px py h k=>by
  obtain ⟨⟨i,rfl⟩,j,rfl⟩:=hn _ _ _ _ h
  cases px;cases py
  obtain ⟨h1,h2⟩:=hR _ _ _ _ h
  exact ⟨i,j,rfl,rfl,h1,k _ H _ μ (.refl H) m (hg H i j) h2⟩
theorem A4 {K:PySem.W.Frag}{g:Int→Int→V}{R:DR2}(f:Int→Int→D)(hg:∀ H i j,Dp K H (g i j) (f i j))(hR:∀ i j μ Q,R (.int i) (.int j) μ Q→Q (f i j) μ)
    (hn:∀ dx dy μ Q,R dx dy μ Q→(∃ i,dx=.int i)∧∃ j,dy=.int j):gZ K (rI0 g) R:=fun H μ x y dx dy Q Q' m px py h k=>by
  obtain ⟨⟨i,rfl⟩,j,rfl⟩:=hn _ _ _ _ h
  cases px;cases py
  exact ⟨i,j,rfl,rfl,k _ H _ μ (.refl H) m (hg H i j) (hR _ _ _ _ h)⟩
theorem fQ (ha:LE X a Ta)(hb:LE X b Tb):LE X (.BinOp a .Sub b pos) (aj j8 Ta Tb):=pT M4 (A4 (fun i j=>.int (i - j)) (fun _ _ _=>.int _) (fun _ _ _ _ h=>h) (fun dx dy μ Q h=>by cases dx<;>cases dy<;>first | exact ⟨⟨_,rfl⟩,_,rfl⟩ | exact False.elim h)) ha hb
theorem gx.abs {j:Int}(h:gx j):j.natAbs < 2 ^ 256:=by
  have e:(2:Nat) ^ 256=115792089237316195423570985008687907853269984665640564039457584007913129639936:=by decide +kernel
  rw[e]
  obtain ⟨h1,h2⟩:=h
  omega
theorem MulOk.ok {i j:Int}(h:MulOk i j):IntMulOk i j:=by
  rcases h with (⟨h1,h2⟩ | ⟨h1,h2⟩) | ⟨h1,h2⟩
  · exact .of_left (intBits_le_64 h1 h2)
  · exact .of_right (intBits_le_64 h1 h2)
  · exact .of_le (PyProof.Rows.intBits_le h1.abs) (PyProof.Rows.intBits_le h2.abs) (by decide)
theorem JD:OpR X (binaryOp .Mult) (rI MulOk fun i j=>.int (i*j)):=opI fun _ _ _ _ _ _ _ hc q=>mul_int q hc.ok
theorem ji.np {i j:Int}(h:ji j):Builtin.divisionGoesByPylong i j=false:=by
  refine PyProof.noPylong_of_log2 ?_
  have h0:j.natAbs≠0:=by have:=h.1;omega
  have:=(Nat.log2_lt h0).mpr h.2.abs
  omega
theorem JO:OpR X (binaryOp .FloorDiv) (rI (fun _ j=>ji j) fun i j=>.int (i.fdiv j)):=opI fun _ _ _ _ _ _ _ hc q=>floordiv_int hc.1 q (.inl hc.np)
theorem jB (ha:LE X a Ta)(hb:LE X b Tb):LE X (.BinOp a .FloorDiv b pos) (aj mL Ta Tb):=pT JO (tT (fun i j=>.int (i.fdiv j)) (fun _ _ _=>.int _) (fun _ _ _ _ h=>⟨h.1,h.2⟩) (fun dx dy μ Q h=>by cases dx<;>cases dy<;>first | exact ⟨⟨_,rfl⟩,_,rfl⟩ | exact False.elim h)) ha hb
theorem le_mul (ha:LE X a Ta)(hb:LE X b Tb):LE X (.BinOp a .Mult b pos) (aj eQ Ta Tb):=pT JD (tT (fun i j=>.int (i*j)) (fun _ _ _=>.int _) (fun _ _ _ _ h=>⟨h.1,h.2⟩) (fun dx dy μ Q h=>by cases dx<;>cases dy<;>first | exact ⟨⟨_,rfl⟩,_,rfl⟩ | exact False.elim h)) ha hb
theorem iG (ha:LE X a Ta)(hb:LE X b Tb):LE X (.BinOp a .Mod b pos) (aj lJ Ta Tb):=pT IF (tT (fun i j=>.int (i.fmod j)) (fun _ _ _=>.int _) (fun _ _ _ _ h=>⟨h.1,h.2⟩) (fun dx dy μ Q h=>by cases dx<;>cases dy<;>first | exact ⟨⟨_,rfl⟩,_,rfl⟩ | exact False.elim h)) ha hb
theorem le_pow (ha:LE X a Ta)(hb:LE X b Tb):LE X (.BinOp a .Pow b pos) (aj Hb Ta Tb):=pT Oj (tT (fun i j=>.int (i ^ j.toNat)) (fun _ _ _=>.int _) (fun _ _ _ _ h=>⟨h.1,h.2⟩) (fun dx dy μ Q h=>by cases dx<;>cases dy<;>first | exact ⟨⟨_,rfl⟩,_,rfl⟩ | exact False.elim h)) ha hb
theorem lj {K:PySem.W.Frag}(p:Int→Int→Bool):gZ K (rI0 fun i j=>.bl (p i j)) (Fo p):=A4 (fun i j=>.bl (p i j)) (fun _ _ _=>.bl _) (fun _ _ _ _ h=>h) (fun dx dy μ Q h=>by cases dx<;>cases dy<;>first | exact ⟨⟨_,rfl⟩,_,rfl⟩ | exact False.elim h)
theorem Qh (ha:LE X a Ta)(hb:LE X b Tb):LE X (.Compare a [.Lt] [b] pos) (aj rLt Ta Tb):=oE MJ (lj _) ha hb (gA _)
theorem QF (ha:LE X a Ta)(hb:LE X b Tb):LE X (.Compare a [.GtE] [b] pos) (aj rGe Ta Tb):=oE ME (lj _) ha hb (gA _)
theorem lU (ha:LE X a Ta)(hb:LE X b Tb):LT X (.Compare a [.Lt] [b] pos) (TB (aj rLt Ta Tb)):=gJ MJ (lj _) ha hb (gA _)
theorem ni (ha:LE X a Ta)(hb:LE X b Tb):LT X (.Compare a [.Gt] [b] pos) (TB (aj rGt Ta Tb)):=gJ QZ (lj _) ha hb (gA _)
theorem RP (ha:LE X a Ta)(hb:LE X b Tb):LT X (.Compare a [.GtE] [b] pos) (TB (aj rGe Ta Tb)):=gJ ME (lj _) ha hb (gA _)
theorem R7 {op:UnaryOp}{r:V→Hp→VK→Prop}{R:DR}(ho:UnR X (unaryOp op) r)(hr:Qu X.K r R)(ha:LE X a Ta):LE X (.UnaryOp op a pos) (TUn R Ta):=by
  obtain ⟨ta,pa,sa⟩:=ha.ex
  exact ⟨_,RC ho pa,fun σ H ρ μ Q Q' rl h k=>sa σ H ρ μ _ _ rl h fun x H1 dx μ1 t1 m1 p1 h1=>hr H1 μ1 x dx Q Q' m1 p1 h1 (k.go t1)⟩
theorem km (ha:LE X a Ta)(he:∀ whole,isTrue a X.env whole=(do let v ← whole;standAt a.pos;holding [v] (truthy v)):=by intro _;rfl):LT X a (TB Ta):=by
  obtain ⟨ta,pa,sa⟩:=ha.ex
  exact ⟨_,OG pa he,N8 sa⟩
variable {tA tB' tC':TTr} {rest:List Expr}
theorem DX (ha:LT X a tA):LT X (.UnaryOp .Not a pos) (Ax tA):=by
  obtain ⟨ta,pa,sa⟩:=ha.ex
  exact ⟨_,MR pa,fun σ H ρ μ Q Q' rl h k=>sa σ H ρ μ _ _ rl h fun c H1 μ1 t1 m1 h1=>k (!c) H1 μ1 t1 m1 h1⟩
theorem LW.lt (h:LW X a tA):LT X a tA:=by
  obtain ⟨ta,pa,sa⟩:=h.ex
  exact ⟨_,pa.pt,sa⟩
theorem tU (ha:LT X a tA):LW X (.BoolOp .And [a] pos) tA:=by
  obtain ⟨ta,pa,sa⟩:=ha.ex
  exact ⟨_,pw_and1 pa,sa⟩
theorem qd (ha:LT X a tA):LW X (.BoolOp .Or [a] pos) tA:=by
  obtain ⟨ta,pa,sa⟩:=ha.ex
  exact ⟨_,pw_or1 pa,sa⟩
theorem zL (ha:LT X a tA)(hb:LW X (.BoolOp .And (b::rest) pos) tB'):LW X (.BoolOp .And (a::b::rest) pos) (rY tA tB'):=by
  obtain ⟨ta,pa,sa⟩:=ha.ex
  obtain ⟨tb,pb,sb⟩:=hb.ex
  refine ⟨_,pw_and pa pb,fun σ H ρ μ Q Q' rl h k=>sa σ H ρ μ _ _ rl h fun c H1 μ1 t1 m1 h1=>?_⟩
  cases c with
  | true=>exact pG (sb σ H1 ρ μ1 Q Q' (rl.go t1 m1) h1 fun b H2 μ2 t2=>k b H2 μ2 (t1.trans t2))
  | false=>exact pW (k false H1 μ1 t1 m1 h1)
theorem wD (ha:LT X a tA)(hb:LW X (.BoolOp .Or (b::rest) pos) tB'):LW X (.BoolOp .Or (a::b::rest) pos) (TOr tA tB'):=by
  obtain ⟨ta,pa,sa⟩:=ha.ex
  obtain ⟨tb,pb,sb⟩:=hb.ex
  refine ⟨_,pw_or pa pb,fun σ H ρ μ Q Q' rl h k=>sa σ H ρ μ _ _ rl h fun c H1 μ1 t1 m1 h1=>?_⟩
  cases c with
  | true=>exact pG (k true H1 μ1 t1 m1 h1)
  | false=>exact pW (sb σ H1 ρ μ1 Q Q' (rl.go t1 m1) h1 fun b H2 μ2 t2=>k b H2 μ2 (t1.trans t2))
theorem uP {op}(h:LE X a Ta):LE X (.BoolOp op [a] pos) Ta:=by
  obtain ⟨ta,pa,sa⟩:=h.ex
  exact ⟨_,O6 pa,sa⟩
theorem uD (ha:LE X a Ta)(hb:LE X (.BoolOp .And (b::rest) pos) Tb):LE X (.BoolOp .And (a::b::rest) pos) (ig Ta Tb):=by
  obtain ⟨ta,pa,sa⟩:=ha.ex
  obtain ⟨tb,pb,sb⟩:=hb.ex
  refine ⟨_,Nw pa pb,fun σ H ρ μ Q Q' rl h k=>sa σ H ρ μ _ _ rl h fun x H1 dx μ1 t1 m1 p1 h1=>?_⟩
  cases p1 with
  | bl c=>
    refine ⟨c,rfl,?_⟩
    cases c with
    | true=>exact pG (sb σ H1 ρ μ1 Q Q' (rl.go t1 m1) h1 (k.go t1))
    | false=>exact pW (k _ H1 _ μ1 t1 m1 (.bl _) h1)
  | _=>exact False.elim h1
theorem RS (ha:LE X a Ta)(hb:LE X (.BoolOp .Or (b::rest) pos) Tb):LE X (.BoolOp .Or (a::b::rest) pos) (EC Ta Tb):=by
  obtain ⟨ta,pa,sa⟩:=ha.ex
  obtain ⟨tb,pb,sb⟩:=hb.ex
  refine ⟨_,R0 pa pb,fun σ H ρ μ Q Q' rl h k=>sa σ H ρ μ _ _ rl h fun x H1 dx μ1 t1 m1 p1 h1=>?_⟩
  cases p1 with
  | bl c=>
    refine ⟨c,rfl,?_⟩
    cases c with
    | true=>exact pG (k _ H1 _ μ1 t1 m1 (.bl _) h1)
    | false=>exact pW (sb σ H1 ρ μ1 Q Q' (rl.go t1 m1) h1 (k.go t1))
  | _=>exact False.elim h1
theorem MM (ha:LE X a Ta):LE X (.UnaryOp .Not a pos) (qC Ta):=by
  obtain ⟨ta,pa,sa⟩:=ha.ex
  refine ⟨_,Ph pa,fun σ H ρ μ Q Q' rl h k=>sa σ H ρ μ _ _ rl h fun x H1 dx μ1 t1 m1 p1 h1=>?_⟩
  cases p1 with
  | bl c=>exact ⟨c,rfl,k _ H1 _ μ1 t1 m1 (.bl _) h1⟩
  | _=>exact False.elim h1
theorem iX (hc:LT X c tC')(ha:LE X a Ta)(hb:LE X b Tb):LE X (.IfExp c a b pos) (l6 tC' Ta Tb):=by
  obtain ⟨tc,pc,sc⟩:=hc.ex
  obtain ⟨ta,pa,sa⟩:=ha.ex
  obtain ⟨tb,pb,sb⟩:=hb.ex
  refine ⟨_,Iu pc pa pb,fun σ H ρ μ Q Q' rl h k=>sc σ H ρ μ _ _ rl h fun q H1 μ1 t1 m1 h1=>?_⟩
  cases q with
  | true=>exact pG (sa σ H1 ρ μ1 Q Q' (rl.go t1 m1) h1 (k.go t1))
  | false=>exact pW (sb σ H1 ρ μ1 Q Q' (rl.go t1 m1) h1 (k.go t1))
variable {es:List Expr} {At:ATr}
theorem ai:LA X [] ar:=⟨_,iM,fun σ H ρ μ Q Q' rl h k=>k [] H [] μ (.refl H) rl.mu .nil h⟩
theorem aa (ha:LE X e Ta)(hr:LA X es At)(hs:starEach (e::es) X.env=(false,eval e X.env)::starEach es X.env:=by rfl):LA X (e::es) (af Ta At):=by
  obtain ⟨ta,pa,sa⟩:=ha.ex
  obtain ⟨tr,pr,sr⟩:=hr.ex
  exact ⟨_,eV pa pr hs,fun σ H ρ μ Q Q' rl h k=>sa σ H ρ μ _ _ rl h fun x H1 dx μ1 t1 m1 p1 h1=>sr σ H1 ρ μ1 _ _ (rl.go t1 m1) h1 fun xs H2 ds μ2 t2 m2 p2 h2=>k _ H2 _ μ2 (t1.trans t2) m2 (.cons (p1.mono t2) p2) h2⟩
theorem c5 {K:PySem.W.Frag}{H:Hp}{μ:Mu}{p:Addr}{o:HO}(m:bJ K H μ)(hp:H p=none):bJ K (L2.upd H p o) μ:=m.keep (.new hp) fun a' xs' _ e=>by rw[aL (bf e hp)];exact e
theorem big {n:Nat}(h:n≤1000000):n≤sizeLine:=Nat.le_trans h (by decide)
theorem aO {x1}(h:LA X es At):LE X (.Tuple es x1 pos) (bc At):=by
  obtain ⟨ta,pa,sa⟩:=h.ex
  refine ⟨_,MQ pa,fun σ H ρ μ Q Q' rl h k=>sa σ H ρ μ _ _ rl h fun xs H1 ds μ1 t1 m1 p1 h1=>⟨by rw[p1.length];exact big h1.1,fun p hp=>?_⟩⟩
  exact k _ _ _ μ1 (t1.trans (.new hp)) (c5 m1 hp) (.tup (SqT.of aM) (p1.mono (.new hp))) h1.2
theorem iV (h:LA X es At):LE X (.List es pos) (lY At):=by
  obtain ⟨ta,pa,sa⟩:=h.ex
  refine ⟨_,EA pa,fun σ H ρ μ Q Q' rl h k=>sa σ H ρ μ _ _ rl h fun xs H1 ds μ1 t1 m1 p1 h1=>⟨by rw[p1.length];exact big h1.1,fun p hp=>?_⟩⟩
  refine k _ _ _ (up μ1 p (.lst ds)) (t1.trans (.new hp)) (fun a o e=>?_) (.obj p) (h1.2 p (m1.free hp))
  by_cases ha:a=p
  · subst ha
    rw[aG] at e;cases e
    exact ⟨xs,aM,p1.mono (.new hp)⟩
  · rw[aU ha] at e
    exact c5 m1 hp a o e
def Hm (t:TE):TE:=fun σ H Q=>t σ H fun v H1=>∃ a xs,v=.ref a∧H1 a=some (.lst xs)∧∀ o,Q v (L2.upd H1 a (.frz o (.lst xs)))
theorem jl {t:TE}(h:PE X e t):PE X e (Hm t):=by
  intro pins s σ H Q I hh
  refine thn (h pins s σ H _ I hh) fun u s1 ⟨v,H1,I1,r,a,xs,ev,ea,q⟩=>?_
  obtain ⟨z,its,n,rv,hg⟩:=(show dM X.prog X.w H1 s1.heap a (.lst xs) from I1.hok a _ ea)
  have nl:∀ b o,H1 b=some o→(∀ ys,o≠.lst ys)→b≠a:=fun b o e1 e2 z=>by subst z;rw[ea] at e1;cases e1;exact e2 _ rfl
  refine ⟨v,_,I1.un (h':=s1.heap) (t':=s1.toks) (H':=L2.upd H1 a (.frz { cls:=.type "list", data:=.seq its.toArray n } (.lst xs))) ⟨fun b o e _ _ _=>e,fun b o e _ _ _=>⟨o.slots,e⟩,fun b o e n _=>?_,fun b o e _=>⟨o,e⟩,fun b ys e=>?_,fun b o u e=>?_,fun b ps e=>⟨#[],?_⟩⟩ (fun b u e=>?_),r,q _⟩
  · rw[aL (fun z=>by subst z;rw[ea] at n;cases n)];exact n
  · rw[aL (nl b _ e (fun _=>nofun))];exact e
  · rw[aL (nl b _ e (fun _=>nofun))];exact e
  · rw[aL (nl b _ e (fun _=>nofun)),e];simp
  · by_cases hb:b=a
    · subst hb
      rw[aM] at e;cases e
      exact ⟨hg,z,its,n,rv,hg⟩
    · rw[aL hb] at e
      refine (I1.hok b u e).lI (fun c w _ q=>q) (fun c q=>?_) fun c ys q=>?_
      · rw[aL (nl c _ q (fun _=>nofun))];exact q
      · rw[aL (nl c _ q (fun _=>nofun))];exact q
theorem eA (h:LA X es At):LE X (.List es pos) (fT At):=by
  obtain ⟨ta,pa,sa⟩:=h.ex
  refine ⟨_,jl (EA pa),fun σ H ρ μ Q Q' rl h k=>sa σ H ρ μ _ _ rl h fun xs H1 ds μ1 t1 m1 p1 h1=>⟨by rw[p1.length];exact big h1.1,fun p hp=>⟨p,xs,rfl,aM,fun o=>?_⟩⟩⟩
  have e:L2.upd (L2.upd H1 p (.lst xs)) p (.frz o (.lst xs))=L2.upd H1 p (.frz o (.lst xs)):=tQ
  rw[e]
  exact k _ _ _ μ1 (t1.trans (.new hp)) (c5 m1 hp) (.ls (.inl ⟨o,aM⟩) (p1.mono (.new hp))) h1.2
end
end
section
open PySem PySem.Spec PyProof.Rows L2
mutual
def toP:D→PyData
  | .non=>.none
  | .bl b=>.bool b
  | .int i=>.int i
  | .str x=>.str x
  | .tup ds=>.tuple (kR ds)
  | .ls ds=>.list (kR ds)
  | .ty _=>.none
  | .obj _=>.none
def kR:List D→List PyData
  | []=>[]
  | d::r=>toP d::kR r
end
mutual
theorem iB:∀ (n:Nat) (d:D),okD n d=true→(toP d).canLay0=true∧(toP d).depth≤n
  | n,.non,_=>⟨rfl,Nat.zero_le _⟩
  | n,.bl b,_=>⟨rfl,Nat.zero_le _⟩
  | n,.int i,_=>⟨rfl,Nat.zero_le _⟩
  | n,.str x,h=>⟨by cases n<;>exact h,Nat.zero_le _⟩
  | n+1,.tup ds,h=>by
    obtain ⟨h1,h2⟩:=pA n ds h
    exact ⟨h1,Nat.succ_le_succ h2⟩
  | n+1,.ls ds,h=>by
    obtain ⟨h1,h2⟩:=pA n ds h
    exact ⟨h1,Nat.succ_le_succ h2⟩
  | 0,.tup ds,h=>by cases h
  | 0,.ls ds,h=>by cases h
  | n,.ty _,h=>by cases n<;>cases h
  | n,.obj _,h=>by cases n<;>cases h
theorem pA:∀ (n:Nat) (ds:List D),cX n ds=true→PyData.canLayAll0 (kR ds)=true∧PyData.depthAll (kR ds)≤n
  | n,[],_=>⟨rfl,Nat.zero_le _⟩
  | n,d::r,h=>by
    have h':okD n d=true∧cX n r=true:=by simpa[cX] using h
    obtain ⟨a1,a2⟩:=iB n d h'.1
    obtain ⟨b1,b2⟩:=pA n r h'.2
    refine ⟨?_,?_⟩
    · show (PyData.canLay0 (toP d)&&PyData.canLayAll0 (kR r))=true
      rw[a1,b1];rfl
    · show max (PyData.depth (toP d)) (PyData.depthAll (kR r))≤n
      exact Nat.max_le.mpr ⟨a2,b2⟩
end
theorem str_beq (a b:Str):(a == b)=decide (a=b):=by
  by_cases h:a=b
  · subst h;simp
  · rw[decide_eq_false h];exact beq_eq_false_iff_ne.mpr h
mutual
theorem oN:∀ (n m:Nat) (a b:D),okD n a=true→okD m b=true→PyData.eqv (toP a) (toP b)=eqD a b
  | n,m,.non,b,_,hb=>by cases b<;>first | rfl | (cases m<;>cases hb)
  | n,m,.bl x,b,_,hb=>by
    cases b with
    | int y=>simp only[toP,PyData.eqv,eqD];rw[Bool.beq_eq_decide_eq]
    | ty _=>cases m<;>cases hb
    | obj _=>cases m<;>cases hb
    | _=>rfl
  | n,m,.int x,b,_,hb=>by
    cases b with
    | int y=>simp only[toP,PyData.eqv,eqD];rw[Bool.beq_eq_decide_eq]
    | bl y=>simp only[toP,PyData.eqv,eqD];rw[Bool.beq_eq_decide_eq]
    | ty _=>cases m<;>cases hb
    | obj _=>cases m<;>cases hb
    | _=>rfl
  | n,m,.str x,b,_,hb=>by
    cases b with
    | str y=>simp only[toP,PyData.eqv,eqD];exact str_beq x y
    | ty _=>cases m<;>cases hb
    | obj _=>cases m<;>cases hb
    | _=>rfl
  | n+1,m,.tup xs,b,ha,hb=>by
    cases b with
    | tup ys=>
      cases m with
      | zero=>cases hb
      | succ m=>simp only[toP,PyData.eqv,eqD];exact qt n m xs ys ha hb
    | ty _=>cases m<;>cases hb
    | obj _=>cases m<;>cases hb
    | _=>rfl
  | n+1,m,.ls xs,b,ha,hb=>by
    cases b with
    | ls ys=>
      cases m with
      | zero=>cases hb
      | succ m=>simp only[toP,PyData.eqv,eqD];exact qt n m xs ys ha hb
    | ty _=>cases m<;>cases hb
    | obj _=>cases m<;>cases hb
    | _=>rfl
  | 0,_,.tup ds,_,h,_=>by cases h
  | 0,_,.ls ds,_,h,_=>by cases h
  | n,_,.ty _,_,h,_=>by cases n<;>cases h
  | n,_,.obj _,_,h,_=>by cases n<;>cases h
theorem qt:∀ (n m:Nat) (a b:List D),cX n a=true→cX m b=true→PyData.eqvAll (kR a) (kR b)=kn a b
  | _,_,[],[],_,_=>rfl
  | _,_,[],_::_,_,_=>by simp[kR,PyData.eqvAll,kn]
  | _,_,_::_,[],_,_=>by simp[kR,PyData.eqvAll,kn]
  | n,m,a::r,b::s,ha,hb=>by
    have ha':okD n a=true∧cX n r=true:=by simpa[cX] using ha
    have hb':okD m b=true∧cX m s=true:=by simpa[cX] using hb
    show (PyData.eqv (toP a) (toP b)&&PyData.eqvAll (kR r) (kR s))=(eqD a b&&kn r s)
    rw[oN n m a b ha'.1 hb'.1,qt n m r s ha'.2 hb'.2]
end
section
variable {X:Cx} {pins:List (Addr×Obj)} {σ:L2.St} {H:Hp} {s:Shared}
mutual
theorem fI (I:Inv X pins σ H s):∀ {n:Nat} {v:V} {d:D} {u:Value},Dp X.K H v d→okD n d=true→RelV v u→∃ as,Reads s.heap u (toP d) as
  | n,_,_,u,.non,_,r=>by cases (show u=Value.none from r);exact ⟨_,.none⟩
  | n,_,_,u,.bl b,_,r=>by cases (show u=Value.bool b from r);exact ⟨_,.bool b⟩
  | n,_,_,u,.int i,_,r=>by obtain ⟨t,e⟩:=(show ∃ t,u=Value.int i t from r);subst e;exact ⟨_,.int i t⟩
  | n,_,_,u,.str x,_,r=>by obtain ⟨t,e⟩:=(show ∃ t,u=Value.str x t from r);subst e;exact ⟨_,.str x t⟩
  | n,_,_,u,.ty _,h,_=>by cases n<;>cases h
  | n+1,_,_,u,@Dp.tup _ _ a xs ds q l,h,r=>by
    cases (show u=Value.ref a from r)
    obtain ⟨its,rv,⟨o,e1,e2,k,e3⟩,_⟩:=I.tuple q
    obtain ⟨as,ra⟩:=jh I (n:=n) l h rv
    exact ⟨_,.tuple e1 e2 e3 (by simpa using ra)⟩
  | n+1,_,_,u,@Dp.ls _ _ a xs ds q l,h,r=>by
    cases (show u=Value.ref a from r)
    obtain ⟨its,rv,⟨o,k,e1,e2,_,e3⟩,_⟩:=I.list q.sq
    obtain ⟨as,ra⟩:=jh I (n:=n) l h rv
    exact ⟨_,.list e1 e2 e3 (by simpa using ra)⟩
  | 0,_,_,u,@Dp.tup _ _ a xs ds q l,h,r=>by cases h
  | 0,_,_,u,@Dp.ls _ _ a xs ds q l,h,r=>by cases h
  | n,_,_,u,.obj _,h,_=>by cases n<;>cases h
theorem jh (I:Inv X pins σ H s):∀ {n:Nat} {vs:List V} {ds:List D} {us:List Value},DpL X.K H vs ds→cX n ds=true→Vals vs us→∃ as,ReadsAll s.heap us (kR ds) as
  | n,_,_,_,.nil,_,.nil=>⟨_,.nil⟩
  | n,_,_,_,@DpL.cons _ _ v d vs ds h l,ho,.cons r rs=>by
    have ho':okD n d=true∧cX n ds=true:=by simpa[cX] using ho
    obtain ⟨as,ra⟩:=fI I h ho'.1 r
    obtain ⟨bs,rb⟩:=jh I l ho'.2 rs
    exact ⟨_,.cons ra rb⟩
end
end
def JA (K:PySem.W.Frag)(f:Bool→Bool):R2:=fun x y H Q=>∃ dx dy,Dp K H x dx∧Dp K H y dy∧okD 40 dx=true∧okD 40 dy=true∧Q (.bl (f (eqD dx dy))) H
section
variable {X:Cx} {a b c e:Expr} {Ta Tb Tc:ETr} {pos:Pos}
theorem GO (hu:X.A.units+64 < cLine):OpR X (compareOp .Eq) (JA X.K id):=fun pins s σ H x y v u Q I rx ry ⟨dx,dy,px,py,ox,oy,q⟩=>by
  obtain ⟨as,ra⟩:=fI I px ox rx
  obtain ⟨bs,rb⟩:=fI I py oy ry
  obtain ⟨l1,d1⟩:=iB 40 dx ox
  obtain ⟨l2,d2⟩:=iB 40 dy oy
  exact SeqAt.compareEq_reads ra rb l1 l2 (by have:=Nat.min_le_left (toP dx).depth (toP dy).depth;omega) ⟨.bl _,H,I,rfl,by rw[oN 40 40 dx dy ox oy];exact q⟩
theorem Od (hu:X.A.units+64 < cLine):OpR X (compareOp .NotEq) (JA X.K not):=fun pins s σ H x y v u Q I rx ry ⟨dx,dy,px,py,ox,oy,q⟩=>by
  obtain ⟨as,ra⟩:=fI I px ox rx
  obtain ⟨bs,rb⟩:=fI I py oy ry
  obtain ⟨l1,d1⟩:=iB 40 dx ox
  obtain ⟨l2,d2⟩:=iB 40 dy oy
  exact SeqAt.compareNe_reads ra rb l1 l2 (by have:=Nat.min_le_left (toP dx).depth (toP dy).depth;omega) ⟨.bl _,H,I,rfl,by rw[oN 40 40 dx dy ox oy];exact q⟩
theorem Er {K:PySem.W.Frag}:gZ K (JA K id) rEq:=fun H μ x y dx dy Q Q' m px py h k=>⟨dx,dy,px,py,h.1.1,h.1.2,k _ H _ μ (.refl H) m (.bl _) h.2⟩
theorem Nu {K:PySem.W.Frag}:gZ K (JA K not) rNe:=fun H μ x y dx dy Q Q' m px py h k=>⟨dx,dy,px,py,h.1.1,h.1.2,k _ H _ μ (.refl H) m (.bl _) h.2⟩
theorem le_eq (hu:X.A.units+64 < cLine)(ha:LE X a Ta)(hb:LE X b Tb):LE X (.Compare a [.Eq] [b] pos) (aj rEq Ta Tb):=oE (GO hu) Er ha hb (gA _)
theorem lt_eq (hu:X.A.units+64 < cLine)(ha:LE X a Ta)(hb:LE X b Tb):LT X (.Compare a [.Eq] [b] pos) (TB (aj rEq Ta Tb)):=gJ (GO hu) Er ha hb (gA _)
theorem sF (hu:X.A.units+64 < cLine)(ha:LE X a Ta)(hb:LE X b Tb):LT X (.Compare a [.NotEq] [b] pos) (TB (aj rNe Ta Tb)):=gJ (Od hu) Nu ha hb (gA _)
theorem Gz {K:PySem.W.Frag}:gZ K (fun x y H Q=>y=.non∧Q (.bl (decide (x=.non))) H) rIs:=fun H μ x y dx dy Q Q' m px py h k=>by
  cases py with
  | non=>
    refine ⟨rfl,?_⟩
    cases px with
    | non=>exact k _ H _ μ (.refl H) m (.bl _) h
    | _=>exact k _ H _ μ (.refl H) m (.bl _) h
  | _=>exact False.elim h
theorem Qp (ha:LE X a Ta)(hb:LE X b Tb):LE X (.Compare a [.Is] [b] pos) (aj rIs Ta Tb):=oE HY Gz ha hb (gA _)
theorem nH (ha:LE X a Ta)(hb:LE X b Tb):LT X (.Compare a [.Is] [b] pos) (TB (aj rIs Ta Tb)):=gJ HY Gz ha hb (gA _)
theorem Km {K:PySem.W.Frag}:Qu K (rU fun i=>.int (-i)) Kv:=fun H μ x dx Q Q' m px h k=>by
  cases px with
  | int i=>exact ⟨i,rfl,k _ H _ μ (.refl H) m (.int _) h⟩
  | _=>exact False.elim h
theorem le_neg (ha:LE X a Ta):LE X (.UnaryOp .USub a pos) (TUn Kv Ta):=R7 Nj Km ha
theorem kJ {o:Option D}{f:D→Prop}(h:kO o f):∃ d,o=some d∧f d:=by
  cases o with
  | none=>exact False.elim h
  | some d=>exact ⟨d,rfl,h⟩
theorem bK {μ:Mu}{a:Addr}{f:List D→Prop}(h:kL μ a f):∃ ds,μ a=some (.lst ds)∧f ds:=by
  unfold kL at h
  cases e:μ a with
  | none=>rw[e] at h;exact False.elim h
  | some o=>cases o with
    | lst ds=>rw[e] at h;exact ⟨ds,rfl,h⟩
    | dct ds=>rw[e] at h;exact False.elim h
theorem qj {μ:Mu}{a:Addr}{f:List (Key×D)→Prop}(h:kD μ a f):∃ ds,μ a=some (.dct ds)∧f ds:=by
  unfold kD at h
  cases e:μ a with
  | none=>rw[e] at h;exact False.elim h
  | some o=>cases o with
    | lst ds=>rw[e] at h;exact False.elim h
    | dct ds=>rw[e] at h;exact ⟨ds,rfl,h⟩
theorem Ft {o:Option Nat}{f:Nat→Prop}(h:kN o f):∃ d,o=some d∧f d:=by
  cases o with
  | none=>exact False.elim h
  | some d=>exact ⟨d,rfl,h⟩
theorem Oz {K:PySem.W.Frag}:gZ K (L2.rIx K) L3.rIx:=fun H μ x y dx dy Q Q' m px py h k=>by
  cases px with
  | @tup a xs ds q l=>
    cases py with
    | int i=>
      obtain ⟨d,e,h'⟩:=kJ h
      obtain ⟨v,e1,p⟩:=l.at e
      exact .inr (.inl ⟨a,xs,i,v,rfl,rfl,q,e1,k _ H _ μ (.refl H) m p h'⟩)
    | _=>exact False.elim h
  | @ls a xs ds q l=>
    cases py with
    | int i=>
      obtain ⟨d,e,h'⟩:=kJ h
      obtain ⟨v,e1,p⟩:=l.at e
      exact .inl ⟨a,xs,i,v,rfl,rfl,q.sq,e1,k _ H _ μ (.refl H) m p h'⟩
    | _=>exact False.elim h
  | obj a=>
    cases py with
    | int i=>
      obtain ⟨ds,e0,h1⟩:=bK h
      obtain ⟨d,e,h'⟩:=kJ h1
      obtain ⟨xs,ex,l⟩:=m a _ e0
      obtain ⟨v,e1,p⟩:=l.at e
      exact .inl ⟨a,xs,i,v,rfl,rfl,SqL.of ex,e1,k _ H _ μ (.refl H) m p h'⟩
    | _=>exact False.elim h
  | _=>cases py<;>exact False.elim h
theorem au (ha:LE X a Ta)(hb:LE X b Tb)(hs:Ck b:=by intro _ _;rfl):LE X (.Subscript a b pos) (aj L3.rIx Ta Tb):=by
  obtain ⟨ta,pa,sa⟩:=ha.ex
  obtain ⟨tb,pb,sb⟩:=hb.ex
  exact ⟨_,R6 OU pa pb hs,oH Oz sa sb⟩
variable {es:List Expr} {At:ATr} {x:Str} {p:Pos} {id T:String}
def kM (K:PySem.W.Frag)(r:List V→Hp→VK→Prop)(R:FSp):Prop:=∀ H μ xs ds (Q:DK) (Q':VK),bJ K H μ→DpL K H xs ds→R ds μ Q→jH K H Q Q'→r xs H Q'
theorem sG {K:PySem.W.Frag}{r:List V→Hp→VK→Prop}{R:FSp}{ta:TA}(hr:kM K r R)(ha:Ql K ta At):Sim K (tCB r ta) (aq R At):=fun σ H ρ μ Q Q' rl h k=>
  ha σ H ρ μ _ _ rl h fun xs H1 ds μ1 t1 m1 p1 h1=>hr H1 μ1 xs ds Q Q' m1 p1 h1 (k.go t1)
theorem aX {r:List V→Hp→VK→Prop}{R:FSp}(hc:bV X (.builtin id) r)(hr:kM X.K r R)(hg:Gl X x)(hm:X.mg x=none)(hv:bootBuiltins x=some (.builtin id))(ha:LA X (e::es) At)(hn:x ≠ "__name__" := by decide)(hdb:(x == ("__debug__" : Str))=false:=by decide)
    (h1:starEach (e::es) X.env=(false,eval e X.env)::starEach es X.env:=by rfl) (h2:(backTo pos (starEach es X.env)).any (·.1)=false:=by rfl):LE X (.Call (.Name x p) (e::es) [] pos) (aq R At):=by
  obtain ⟨ta,pa,sa⟩:=ha.ex
  exact ⟨_,lr hc hg hm hv pa hn hdb h1 h2,sG hr sa⟩
theorem aR {r:List V→Hp→VK→Prop}{R:FSp}(hc:bV X (.type T) r)(hr:kM X.K r R)(hg:Gl X x)(hm:X.mg x=none)(hv:bootBuiltins x=some (.type T))(ha:LA X (e::es) At)(hn:x ≠ "__name__" := by decide)(hdb:(x == ("__debug__" : Str))=false:=by decide)
    (h1:starEach (e::es) X.env=(false,eval e X.env)::starEach es X.env:=by rfl) (h2:(backTo pos (starEach es X.env)).any (·.1)=false:=by rfl):LE X (.Call (.Name x p) (e::es) [] pos) (aq R At):=by
  obtain ⟨ta,pa,sa⟩:=ha.ex
  exact ⟨_,sY hc hg hm hv pa hn hdb h1 h2,sG hr sa⟩
theorem My {n:String}(hg:Gl X x)(hm:X.mg x=none)(hv:bootBuiltins x=some (.type n))(hn:x ≠ "__name__" := by decide)(hd:(x == ("__debug__" : Str))=false:=by decide):LE X (.Name x pos) (TC (.ty n)):=
  ⟨_,BB hg hm hv (v:=.ty n) rfl hn hd,fun σ H ρ μ Q Q' r h k=>k _ H _ μ (.refl H) r.mu (.ty n) h⟩
theorem uQ {K:PySem.W.Frag}:kM K (fun xs H Q=>∃ i,xs=[.int i]∧Q (.int (if i < 0 then -i else i)) H) wV:=fun H μ xs ds Q Q' m p h k=>by
  unfold wV at h
  split at h
  · cases p with | cons p1 p2=>cases p2;cases p1;exact ⟨_,rfl,k _ H _ μ (.refl H) m (.int _) h⟩
  · exact False.elim h
theorem xM {K:PySem.W.Frag}:kM K (fun xs H Q=>∃ i j,xs=[.int i,.int j]∧Q (.int (if j > i then j else i)) H) sM:=fun H μ xs ds Q Q' m p h k=>by
  unfold sM at h
  split at h
  · cases p with | cons p1 p2=>cases p2 with | cons p2 p3=>cases p3;cases p1;cases p2;exact ⟨_,_,rfl,k _ H _ μ (.refl H) m (.int _) h⟩
  · exact False.elim h
theorem GL {K:PySem.W.Frag}:kM K (fun xs H Q=>∃ i j,xs=[.int i,.int j]∧Q (.int (if j < i then j else i)) H) tq:=fun H μ xs ds Q Q' m p h k=>by
  unfold tq at h
  split at h
  · cases p with | cons p1 p2=>cases p2 with | cons p2 p3=>cases p3;cases p1;cases p2;exact ⟨_,_,rfl,k _ H _ μ (.refl H) m (.int _) h⟩
  · exact False.elim h
theorem J4 {K:PySem.W.Frag}:kM K (fun xs H Q=>(∃ i,xs=[.int i]∧Q (.int i) H)∨∃ k,xs=[.bl k]∧Q (.int (if k then 1 else 0)) H) y1:=fun H μ xs ds Q Q' m p h k=>by
  unfold y1 at h
  split at h
  · cases p with | cons p1 p2=>cases p2;cases p1;exact .inl ⟨_,rfl,k _ H _ μ (.refl H) m (.int _) h⟩
  · cases p with | cons p1 p2=>cases p2;cases p1;exact .inr ⟨_,rfl,k _ H _ μ (.refl H) m (.int _) h⟩
  · exact False.elim h
theorem bV.or {f:Value}{r r':List V→Hp→VK→Prop}(h:bV X f r)(h':bV X f r'):bV X f (fun xs H Q=>r xs H Q∨r' xs H Q):=fun pins s σ H xs us Q I rx q=>by
  rcases q with q | q
  · exact h pins s σ H xs us Q I rx q
  · exact h' pins s σ H xs us Q I rx q
theorem bF {K:PySem.W.Frag}:kM K (fun xs H Q=>(∃ p ys,xs=[.ref p]∧(SqL K H p ys∨SqT K H p ys)∧Q (.int ys.length) H)∨∃ z,xs=[.str z]∧z.length≤sizeLine∧Q (.int z.length) H) c7:=fun H μ xs ds Q Q' m p h k=>by
  unfold c7 at h
  split at h
  · cases p with | cons p1 p2=>cases p2;cases p1 with | tup q l=>exact .inl ⟨_,_,rfl,.inr q,k _ H _ μ (.refl H) m (by rw[l.length];exact .int _) h⟩
  · cases p with | cons p1 p2=>cases p2;cases p1 with | ls q l=>exact .inl ⟨_,_,rfl,.inl q.sq,k _ H _ μ (.refl H) m (by rw[l.length];exact .int _) h⟩
  · cases p with | cons p1 p2=>cases p2;cases p1;exact .inr ⟨_,rfl,big h.1,k _ H _ μ (.refl H) m (.int _) h.2⟩
  · rename_i a
    cases p with | cons p1 p2=>
    cases p2;cases p1
    obtain ⟨ys,e0,h⟩:=bK h
    obtain ⟨xs,ex,l⟩:=m a _ e0
    exact .inl ⟨_,_,rfl,.inl (SqL.of ex),k _ H _ μ (.refl H) m (by rw[l.length];exact .int _) h⟩
  · exact False.elim h
theorem a6:bV X (.builtin "len") (fun xs H Q=>(∃ p ys,xs=[.ref p]∧(SqL X.K H p ys∨SqT X.K H p ys)∧Q (.int ys.length) H)∨∃ z,xs=[.str z]∧z.length≤sizeLine∧Q (.int z.length) H):=bV.or tO uL
end
end
section
open PySem PySem.Spec PyProof.Rows L2
def tys:List String:=["NoneType", "bool", "int", "str", "tuple", "list"]
def xC:List String:=["bool", "int", "str", "tuple", "list", "dict"]
theorem Bm (K:PySem.W.Frag):∀ t∈tys,∀ c∈xC,PySem.W.kitOne K (.type t) (.type c)=some (eW t c):=by
  intro t ht c hc
  simp only[tys,List.mem_cons,List.not_mem_nil,or_false] at ht
  simp only[xC,List.mem_cons,List.not_mem_nil,or_false] at hc
  rcases ht with rfl | rfl | rfl | rfl | rfl | rfl<;>rcases hc with rfl | rfl | rfl | rfl | rfl | rfl<;>with_unfolding_all rfl
theorem Iq {d:D}{t:String}(h:tyD d=some t):t∈tys:=by
  cases d<;>simp[tyD] at h<;>subst h<;>decide
def RJ (K:PySem.W.Frag):List V→Hp→VK→Prop:=fun xs H Q=>∃ x d t c,xs=[x,.ty c]∧Dp K H x d∧tyD d=some t∧c∈xC∧Q (.bl (eW t c)) H
theorem GJ {X:Cx}:bV X (.builtin "isinstance") (RJ X.K):=fun pins s σ H xs us Q I rx ⟨x,d,t,c,ex,px,et,hc,q⟩=>by
  subst ex
  cases rx with | @cons _ u _ _ r1 r2=>cases r2 with | cons r2 r3=>
  cases r3
  cases (show _=Value.type c from r2)
  have e:=Bm X.K t (Iq et) c hc
  have fin:∀ tk,EP X pins σ Q (.bool (eW t c)) { s with toks:=tk }:=fun tk=>⟨.bl _,H,I.tok tk,rfl,q⟩
  cases px with
  | non=>cases et;cases (show u=Value.none from r1);exact PySem.W.kia_one PySem.W.kitx_none I.kIn True.intro e (fun z=>nomatch z) fin
  | bl y=>cases et;cases (show u=Value.bool y from r1);exact PySem.W.kia_one PySem.W.kitx_bool I.kIn True.intro e (fun z=>nomatch z) fin
  | int i=>cases et;obtain ⟨t,z⟩:=(show ∃ t,u=Value.int i t from r1);cases z;exact PySem.W.kia_one PySem.W.kitx_int I.kIn True.intro e (fun z=>nomatch z) fin
  | str y=>cases et;obtain ⟨t,z⟩:=(show ∃ t,u=Value.str y t from r1);cases z;exact PySem.W.kia_one PySem.W.kitx_str I.kIn True.intro e (fun z=>nomatch z) fin
  | ty _=>cases et
  | obj _=>cases et
  | @tup a xs ds sq l=>
    cases et
    cases (show u=Value.ref a from r1)
    obtain ⟨its,_,⟨o,h1,h2,_⟩,_⟩:=I.tuple sq
    exact PySem.W.kia_one PySem.W.kitx_tuple I.kIn ⟨o,h1,h2⟩ e (fun z=>nomatch z) fin
  | @ls a xs ds sq l=>
    cases et
    cases (show u=Value.ref a from r1)
    obtain ⟨its,_,⟨o,n,h1,h2,_⟩,_⟩:=I.list sq.sq
    exact PySem.W.kia_one PySem.W.kitx_list I.kIn ⟨o,h1,h2⟩ e (fun z=>nomatch z) fin
theorem jg {X:Cx}{x y:Str}{p p2 pos:Pos}{c:String}{e:Expr}{Ta:ETr}(hg:Gl X x)(hm:X.mg x=none)(hv:bootBuiltins x=some (.builtin "isinstance"))(ha:LE X e Ta)(hg2:Gl X y)(hm2:X.mg y=none)(hv2:bootBuiltins y=some (.type c))(hc:c∈xC:=by decide)
    (hn:x ≠ "__name__" := by decide) (hdb:(x == ("__debug__" : Str))=false:=by decide) (hn2:y ≠ "__name__" := by decide) (hdb2:(y == ("__debug__" : Str))=false:=by decide)
    (h0:starEach [.Name y p2] X.env=[(false,eval (.Name y p2) X.env)]:=by rfl) (h1:starEach (e::[.Name y p2]) X.env=(false,eval e X.env)::starEach [.Name y p2] X.env:=by rfl) (h2:(backTo pos (starEach [.Name y p2] X.env)).any (·.1)=false:=by rfl) :
    LE X (.Call (.Name x p) [e,.Name y p2] [] pos) (TUn (fe c) Ta):=by
  obtain ⟨ta,pa,sa⟩:=ha.ex
  refine ⟨_,lr GJ hg hm hv (eV pa (eV (BB hg2 hm2 hv2 (v:=.ty c) rfl hn2 hdb2) iM h0) h1) hn hdb h1 h2,fun σ H ρ μ Q Q' rl h k=>sa σ H ρ μ _ _ rl h fun v H1 d μ1 t1 m1 p1 h1=>?_⟩
  have h1':(match tyD d with | some t=>Q (.bl (eW t c)) μ1 | none=>False):=h1
  cases et:tyD d with
  | none=>rw[et] at h1';exact False.elim h1'
  | some t=>rw[et] at h1';exact ⟨v,d,t,c,rfl,p1,et,hc,k _ H1 _ μ1 t1 m1 (.bl _) h1'⟩
section
variable {X:Cx} {a b c e tg o:Expr} {Ta Tb Tc:ETr} {pos:Pos} {es:List Expr} {At:ATr} {x:Str} {p:Pos} {id T:String} {st:Stmt} {rest:List Stmt} {T1 T2:STr} {tA:TTr}
theorem a5:LSs X [] ba:=⟨_,Jk,fun σ H ρ μ E E' rl h k=>k.nx _ _ _ _ (.refl H) rl h⟩
theorem ak (h1:LS X st T1)(h2:LSs X rest T2):LSs X (st::rest) (aA T1 T2):=by
  obtain ⟨t1,p1,s1⟩:=h1.ex
  obtain ⟨t2,p2,s2⟩:=h2.ex
  exact ⟨_,GC p1 p2,fun σ H ρ μ E E' rl h k=>s1 σ H ρ μ _ _ rl h ⟨fun σ' H' ρ' μ' t' r' q=>s2 σ' H' ρ' μ' E E' r' q (k.go t'),k.rt,k.bk,k.ct⟩⟩
theorem ax (h1:LS X st T1):LSs X [st] T1:=by
  obtain ⟨t1,p1,s1⟩:=h1.ex
  exact ⟨_,K1 p1,s1⟩
theorem eu (he:LE X e Ta)(hs:swapsWith e none pos.line X.env=pure false:=by rfl):LS X (.Expr e pos) (fG Ta):=by
  obtain ⟨ta,pa,sa⟩:=he.ex
  exact ⟨_,IV pa hs,fun σ H ρ μ E E' rl h k=>sa σ H ρ μ _ _ rl h fun v H' d μ' t' m' p' h'=>k.nx _ _ _ _ t' (rl.go t' m') h'⟩
theorem aE (he:LE X e Ta):LS X (.Return (some e) pos) (aW Ta):=by
  obtain ⟨ta,pa,sa⟩:=he.ex
  exact ⟨_,Nz pa,fun σ H ρ μ E E' rl h k=>sa σ H ρ μ _ _ rl h k.rt⟩
theorem bS {sa sb:List Stmt}(hc:LT X c tA)(ha:LSs X sa T1)(hb:LSs X sb T2):LS X (.If c sa sb pos) (bR tA T1 T2):=by
  obtain ⟨tc,pc,sc⟩:=hc.ex
  obtain ⟨t1,p1,s1⟩:=ha.ex
  obtain ⟨t2,p2,s2⟩:=hb.ex
  refine ⟨_,Qm pc p1 p2,fun σ H ρ μ E E' rl h k=>sc σ H ρ μ _ _ rl h fun q H1 μ1 t1' m1 h1=>?_⟩
  cases q with
  | true=>exact pG (s1 σ H1 ρ μ1 E E' (rl.go t1' m1) h1 (k.go t1'))
  | false=>exact pW (s2 σ H1 ρ μ1 E E' (rl.go t1' m1) h1 (k.go t1'))
theorem g9 {K:PySem.W.Frag}(i:Nat):NZ K (lK i) (aw i):=fun σ H ρ μ v d k k' rl p h q=>q _ _ _ _ (.refl H) (rl.set p i) h
theorem gM (i:Nat)(hN:X.N.Nodup)(hi:X.N[i]? = some x:=by rfl)(hx:Loc X.env.scope x:=by first | exact Or.inl rfl | exact Or.inr rfl)(hf:X.fn x=true∨X.env.scope.names.lookup x=some .local:=by first | exact .inl rfl | exact .inr rfl | assumption):LG X (.Name x pos) (aw i):=
  ⟨_,iz hN hi hx hf,g9 i⟩
theorem aC (i:Nat){pos':Pos}(hN:X.N.Nodup)(he:LE X e Ta)(hi:X.N[i]? = some x:=by rfl)(hx:Loc X.env.scope x:=by first | exact Or.inl rfl | exact Or.inr rfl)(hs:swapsWith e (some (.Name x pos')) pos.line X.env=pure false:=by rfl)
    (hf:X.fn x=true∨X.env.scope.names.lookup x=some .local:=by first | exact .inl rfl | exact .inr rfl | assumption):LS X (.Assign [.Name x pos'] e pos) (aN Ta (aw i)):=by
  obtain ⟨ta,pa,sa⟩:=he.ex
  exact ⟨_,ON hN hi hx pa hs hf,fun σ H ρ μ E E' rl h k=>sa σ H ρ μ _ _ rl h fun v H' d μ' t' m' p' h'=>g9 i σ H' ρ μ' v d _ _ (rl.go t' m') p' h' (k.go t').nx⟩
theorem qN (i j:Nat){y:Str}{px py pt:Pos}{kt k2 pt2}(hc:X.calm=true)(hN:X.N.Nodup)(ha:LA X [a,b] At)(hi:X.N[i]? = some x:=by rfl)(hj:X.N[j]? = some y:=by rfl)(hij:i≠j:=by decide)
    (hx:X.env.scope.names.lookup x=some .local:=by rfl) (hy:X.env.scope.names.lookup y=some .local:=by rfl)
    (hw:swappedStores [.Tuple [.Name x px,.Name y py] kt pt] (.Tuple [a,b] k2 pt2) X.env=pure (some [x,y]):=by rfl)
    (hs:swapsWithSole [.Tuple [.Name x px,.Name y py] kt pt] (.Tuple [a,b] k2 pt2) pos.line X.env=pure false:=by rfl) :
    LS X (.Assign [.Tuple [.Name x px,.Name y py] kt pt] (.Tuple [a,b] k2 pt2) pos) (oA i j At):=by
  obtain ⟨ta,pa,sa⟩:=ha.ex
  refine ⟨_,Nh hc hN hi hj hij hx hy pa hw hs,fun σ H ρ μ E E' rl h k=>sa σ H ρ μ _ _ rl h fun vs H' ds μ' t' m' p' h'=>?_⟩
  unfold L3.k2 at h'
  split at h'
  · rename_i dv dw
    cases p' with | cons p1 p2=>cases p2 with | cons p2 p3=>
    cases p3
    exact ⟨_,_,rfl,k.nx _ _ _ _ t' (((rl.go t' m').set p1 i).set p2 j) h'⟩
  · exact False.elim h'
theorem rC {body:List Stmt}(hp:PassesOwn (model X.prog X.w) X.A X.env X.xe)(hc:LT X c tA)(hb:LSs X body T1):LS X (.While c body [] pos) (uO tA T1):=by
  obtain ⟨tc,pc,sc⟩:=hc.ex
  obtain ⟨t1,p1,s1⟩:=hb.ex
  refine ⟨_,EF hp pc p1,fun σ H ρ μ E E' rl h k=>?_⟩
  obtain ⟨P,m,h0,hs⟩:=h
  refine ⟨fun n σ' H'=>∃ ρ' μ',Tk H H'∧Rl X.K σ' H' ρ' μ'∧P ρ' μ'∧n=m ρ' μ',⟨_,ρ,μ,.refl H,rl,h0,rfl⟩,?_⟩
  rintro n σ1 H1 ⟨ρ1,μ1,t1',rl1,hP,rfl⟩
  refine sc σ1 H1 ρ1 μ1 _ _ rl1 (hs ρ1 μ1 hP) fun q H2 μ2 t2 m2 h2=>?_
  have t12:=t1'.trans t2
  cases q with
  | true=>
    refine pG ⟨fun σ' H'=>∃ ρ' μ',Tk H H'∧Rl X.K σ' H' ρ' μ'∧P ρ' μ'∧m ρ' μ' < m ρ1 μ1,fun σ' H' ⟨ρ',μ',a1,a2,a3,a4⟩=>⟨_,a4,ρ',μ',a1,a2,a3,rfl⟩,?_⟩
    have h2':=h2
    refine s1 σ1 H2 ρ1 μ2 _ _ (rl1.go t2 m2) h2' ⟨fun σ' H' ρ' μ' t' r' q=>⟨ρ',μ',t12.trans t',r',q.1,q.2⟩,(k.go t12).rt,(k.go t12).nx,fun σ' H' ρ' μ' t' r' q=>⟨ρ',μ',t12.trans t',r',q.1,q.2⟩⟩
  | false=>exact pW (k.nx _ _ _ _ t12 (rl1.go t2 m2) h2)
theorem nq (lo:Int)(n:Nat):cx lo (n+1)=.int lo::cx (lo+1) n:=by
  unfold cx
  rw[List.range_succ_eq_map]
  rw[List.map_cons,List.map_map]
  congr 1
  · simp
  · refine List.map_congr_left fun i _=>?_
    show D.int _=D.int _
    congr 1
    show lo+((i+1:Nat):Int)=lo+1+(i:Int)
    omega
end
def lift (K:PySem.W.Frag)(sp:FSp):Sp:=fun vs H Q _=>∃ ds μ QQ,DpL K H vs ds∧bJ K H μ∧sp ds μ QQ∧jH K H QQ Q
def RT (Q:DK):DK:=fun d μ'=>∃ μ,Sub μ μ'∧Q d μ
def ini (n:Nat)(ds:List D):ST:=ds.map some++List.replicate (n - ds.length) none
theorem Pd:∀ (ds:List D) (n i:Nat) (d:D),lk (ini n ds) i=some d→ds[i]? = some d:=by
  intro ds
  have rep:∀ m i (d:D),lk (List.replicate m none) i=some d→False:=by
    intro m
    induction m with
    | zero=>intro i d h;cases i<;>cases h
    | succ m ih=>intro i d h;cases i with
      | zero=>cases h
      | succ i=>exact ih i d h
  have gen:∀ (ds:List D) m i d,lk (ds.map some++List.replicate m none) i=some d→ds[i]? = some d:=by
    intro ds
    induction ds with
    | nil=>intro m i d h;exact (rep m i d h).elim
    | cons x r ih=>intro m i d h;cases i with
      | zero=>simpa[lk] using h
      | succ i=>simpa using ih m i d h
  exact fun n i d h=>gen ds _ i d h
section
variable {P:Program} {w:World} {K:PySem.W.Frag} {mg:Str→Option Value} {base:Heap}
theorem Gv {x qual:Str}{st:Stmt}{f:Addr}{fd:FuncData}{N ps:List Str}{k:Nat}{sp:FSp}{T:STr}(F:Fun K x qual st f fd)(S:aI N ps (av st))(len:∀ ds μ Q,sp ds μ Q→ds.length=ps.length)
    (hb:∀ (cdv:Value) (A:Around) (outer:List Env) (s:Shared) (H:Hp) (E:XK),fM k (A.deeper (envOfC qual (av st) s.heap.objs.size f cdv))→
      LSs (xc CX0 P w K mg base N qual (av st) f cdv A outer s H E).nox (gK st) T)
    (hr:∀ ds μ Q,sp ds μ Q→T { nx:=fun _ μ'=>RT Q .non μ',rt:=RT Q } (ini N.length ds) μ):gR P w K mg base CX0 (k+1) f fd ps (lift K sp):=by
  refine F.ok S (fun vs H Q E h=>?_) (fun cdv A outer s H vs Q E hroom h=>?_)
  · obtain ⟨ds,μ,QQ,l,m,h1,k⟩:=h
    rw[l.length];exact len ds μ QQ h1
  · obtain ⟨ds,μ,QQ,l,m,h1,k⟩:=h
    obtain ⟨t,pt,stt⟩:=(hb cdv A outer s H E hroom).ex
    have hl:vs.length=ds.length:=l.length
    refine ⟨t,pt,stt (L2.start N vs) H (ini N.length ds) μ _ _ ⟨?_,fun i d e=>?_,m⟩ (hr ds μ QQ h1) ⟨fun σ' H' ρ' μ' t' r' q=>?_,fun v H' d μ' t' m' p' q=>?_,fun _ _ _ _ _ _ q=>q,fun _ _ _ _ _ _ q=>q⟩⟩
    · unfold ini L2.start;simp[hl]
    · have e':=Pd ds _ i d e
      obtain ⟨v,e1,p⟩:=l.get e'
      refine ⟨v,?_,p⟩
      unfold L2.start
      have hi:i < vs.length:=(List.getElem?_eq_some_iff.mp e1).1
      rw[List.getElem?_append_left (by simpa using hi),List.getElem?_map,e1]
      rfl
    · obtain ⟨μ2,s2,q2⟩:=q
      exact k _ _ _ μ2 t' (r'.mu.sub s2) .non q2
    · obtain ⟨μ2,s2,q2⟩:=q
      exact k _ _ _ μ2 t' (m'.sub s2) p' q2
end
section
variable {X:Cx} {k:Nat} {f:Addr} {fd:FuncData} {ps:List Str} {sp:FSp} {x:Str} {p pos:Pos} {e:Expr} {es:List Expr} {At:ATr}
theorem B7 (F:gR X.prog X.w X.K X.mg X.base CX0 k f fd ps (lift X.K sp))(hr:fM k X.A)(hg:Gl X x)(hm:X.mg x=some (.ref f))(hk:PySem.W.keepIn X.K (.ref f)=true)(hb:Binds X.K fd ps [])
    (ha:LA X (e::es) At) (hdb:(x == ("__debug__" : Str))=false:=by decide) (he:starEach (e::es) X.env=(false,eval e X.env)::starEach es X.env:=by rfl) (hpl:(backTo pos (starEach es X.env)).any (·.1)=false:=by rfl) :
    LE X (.Call (.Name x p) (e::es) [] pos) (aq sp At):=by
  obtain ⟨ta,pa,sa⟩:=ha.ex
  refine ⟨_,LK F hr hg hm hk hb .nil Qy pa hdb he hpl,fun σ H ρ μ Q Q' rl h k=>sa σ H ρ μ _ _ rl h fun xs H1 ds μ1 t1 m1 p1 h1=>?_⟩
  rw[List.append_nil]
  exact ⟨ds,μ1,Q,p1,m1,h1,k.go t1⟩
end
end
section
open PySem PySem.Spec PyProof.Rows L2
theorem DpL.ints {K:PySem.W.Frag}{H:Hp}:∀ ns:List Int,DpL K H (ns.map V.int) (ns.map D.int)
  | []=>.nil
  | n::r=>.cons (.int n) (DpL.ints r)
theorem SqF.only {K:PySem.W.Frag}{H:Hp}{a:Addr}{xs:List V}(hO:Kq H)(h:SqL K H a xs):SqF K H a xs:=by
  rcases h with (h | h) | h
  · rcases hO a with z | ⟨o,ys,z⟩
    · rw[h] at z;cases z
    · rw[h] at z;cases z
  · exact .inl h
  · exact .inr h
theorem Qk {l:PySem.W.OpenLaw}{k:Nat}{q:Program}{loose:List Str}{XP:(Str→Option Value)→Heap→Prop}{YP:World→Heap→Prop}{d:DefRec}{K:Params→PySem.W.Frag}{sp:FSp}{x:Str}
    (hn:l.most=some 63) (hdf:d.params.defaults=[]) (hr:fM k callerA) (hY:∀ (w:World) (h:Heap),YP w h→(K w.params).In h)
    (hl:∀ ns:List Int,ns.length≤63→∀ μ,sp [.ls (ns.map .int)] μ (fun d _=>d=.bl true))
    (F:∀ (w:World) (mg:Str→Option Value) (fa:Addr) (h:Heap),(K w.params).In h→h.Ns mainGlobals mg→mg d.name=some (.ref fa)→
      ∃ fd:FuncData,(∀ (s:Shared) (u:Value),BindsTo s fd ⟨[u],[]⟩ [(x,u)])∧∀ base:Heap,(K w.params).In base→base.Ns mainGlobals mg→gR l.prog w (K w.params) mg base CX0 k fa fd [x] (lift (K w.params) sp)) :
    PySem.W.WalkO q loose XP YP l.row.toRowW d [] (fun f vs=>PySem.call f vs):=
  L2.JM (n:=63) (k:=k) (x:=x) (CX:=fun _=>CX0) (sp:=fun w=>lift (K w.params) sp) hn (by decide) hdf hr hY F
    (fun w H a ns hl' hO hS=>⟨[.ls (ns.map .int)],fun _=>none,_,.cons (.ls (.only hO hS) (.ints ns)) .nil,(fun a o e=>by cases e),hl ns hl' _,fun v H' d μ' _ _ p e=>by
      have e':d=.bl true:=e
      subst e'
      cases p;rfl⟩) fun _ _ _ _ _ z=>z
end
section
open PySem PySem.Spec PyProof.Rows L2
structure aQ (P:Program) (w:World) (K:PySem.W.Frag) (mg:Str→Option Value) (base:Heap) (k:Nat) (x:Str) (ps:List Str) (sp:FSp):Prop where
  ex:∃ f fd,gR P w K mg base CX0 k f fd ps (lift K sp)∧mg x=some (.ref f)∧PySem.W.keepIn K (.ref f)=true∧Binds K fd ps []
section
variable {P:Program} {w:World} {K:PySem.W.Frag} {mg:Str→Option Value} {base:Heap}
theorem aK {x qual:Str}{st:Stmt}{f:Addr}{fd:FuncData}{N ps:List Str}{k:Nat}{sp:FSp}{T:STr}(m:mg x=some (.ref f))(F:Fun K x qual st f fd)(S:aI N ps (av st))(len:∀ ds μ Q,sp ds μ Q→ds.length=ps.length)
    (hr:∀ ds μ Q,sp ds μ Q→T { nx:=fun _ μ'=>RT Q .non μ',rt:=RT Q } (ini N.length ds) μ)
    (b:∀ (kV doc pm:Value) (an:Option Addr) (cdv ct:Value) (us:List Value),us.length=ps.length→bindArgs (PySem.W.fnOf x qual (lZ st) (gK st) (av st) .none kV doc pm an cdv ct) ⟨us,[]⟩=pure (ps.zip us))
    (hb:∀ (cdv:Value) (A:Around) (outer:List Env) (s:Shared) (H:Hp) (E:XK),fM k (A.deeper (envOfC qual (av st) s.heap.objs.size f cdv))→(A.deeper (envOfC qual (av st) s.heap.objs.size f cdv)).units+64 < cLine→
      LSs (xc CX0 P w K mg base N qual (av st) f cdv A outer s H E).nox (gK st) T):aQ P w K mg base (k+1) x ps sp:=
  ⟨f,fd,Gv F S len (fun cdv A outer s H E h=>hb cdv A outer s H E h h.units) hr,m,F.kp,F.binds b⟩
end
theorem ao {X:Cx}{k n:Nat}{x:Str}{ps:List Str}{sp:FSp}{e:Expr}{es:List Expr}{At:ATr}{p pos:Pos}(C:aQ X.prog X.w X.K X.mg X.base k x ps sp)(hr:fM n X.A)(hg:Gl X x)
    (ha:LA X (e::es) At) (hle:k≤n:=by decide) (hdb:(x == ("__debug__" : Str))=false:=by decide) (he:starEach (e::es) X.env=(false,eval e X.env)::starEach es X.env:=by rfl) (hpl:(backTo pos (starEach es X.env)).any (·.1)=false:=by rfl) :
    LE X (.Call (.Name x p) (e::es) [] pos) (aq sp At):=by
  obtain ⟨f,fd,F,m,kp,b⟩:=C.ex
  exact B7 F (hr.mono hle) hg m kp b ha hdb he hpl
end
section
open PySem PySem.Spec PyProof.Rows L2
def a8 (X:Cx)(scope:Scope)(Nc:List Str)(cl:List (Str×Addr))(C:Addr)(s₀:Shared)(H₀:Hp)(ex:List Addr):Cx:=
  { X with env:=compEnvC scope cl C X.env,N:=Nc,s₀:=s₀,H₀:=H₀,outer:=X.stack,ex:=ex,fn:=fun _=>false,pn:=[] }
theorem kF {scope:Scope}{env:Env}(h:∀ y∈scope.names,y.2=.free→∃ c,env.cells.lookup y.1=some c) :
    ∃ cl,closureFor scope env=pure cl∧(∀ x c,cl.lookup x=some c→env.cells.lookup x=some c)∧∀ y∈scope.names,y.2=.free→∃ c,cl.lookup y.1=some c:=by
  have gen:∀ (ns:List (Str×NameKind)) (cs:List (Str×Addr)),(∀ y∈ns,y.2=.free→∃ c,env.cells.lookup y.1=some c)→(∀ x c,cs.lookup x=some c→env.cells.lookup x=some c)→
      ∃ cl,(forIn ns cs fun x r=>if (x.2 == NameKind.free)=true then do let c ← cellOf env x.1;pure (ForInStep.yield ((x.1,c)::r)) else pure (ForInStep.yield r):Sem _)=pure cl∧(∀ x c,cl.lookup x=some c→env.cells.lookup x=some c)∧
        (∀ x,(cs.lookup x).isSome=true→(cl.lookup x).isSome=true)∧∀ y∈ns,y.2=.free→∃ c,cl.lookup y.1=some c:=by
    intro ns
    induction ns with
    | nil=>intro cs _ h2;exact ⟨cs,rfl,h2,fun _ z=>z,fun _ z=>nomatch z⟩
    | cons y r ih=>
      intro cs h1 h2
      obtain ⟨n,k⟩:=y
      by_cases hk:k=.free
      · subst hk
        obtain ⟨c,hc⟩:=h1 (n,.free) List.mem_cons_self rfl
        have h2':∀ x c',((n,c)::cs).lookup x=some c'→env.cells.lookup x=some c':=fun x c' e=>by
          rw[List.lookup_cons] at e
          split at e
          · rename_i hx
            cases e
            have:x=n:=by simpa using hx
            subst this;exact hc
          · exact h2 x c' e
        obtain ⟨cl,e1,e2,e3,e4⟩:=ih ((n,c)::cs) (fun y hy=>h1 y (List.mem_cons_of_mem _ hy)) h2'
        refine ⟨cl,?_,e2,fun x hx=>e3 x ?_,fun y hy hf=>?_⟩
        · rw[List.forIn_cons]
          have:cellOf env n=pure c:=by unfold cellOf;rw[hc]
          simp only[beq_self_eq_true,if_true,this,pure_bind]
          exact e1
        · rw[List.lookup_cons];split
          · rfl
          · exact hx
        · obtain rfl | hy:=List.mem_cons.mp hy
          · have:(cl.lookup n).isSome=true:=e3 n (by simp[List.lookup_cons])
            exact Option.isSome_iff_exists.mp this
          · exact e4 y hy hf
      · obtain ⟨cl,e1,e2,e3,e4⟩:=ih cs (fun y hy=>h1 y (List.mem_cons_of_mem _ hy)) h2
        refine ⟨cl,?_,e2,e3,fun y hy hf=>?_⟩
        · rw[List.forIn_cons]
          have:(k == NameKind.free)=false:=by simpa using hk
          simp only[this,Bool.false_eq_true,if_false,pure_bind]
          exact e1
        · obtain rfl | hy:=List.mem_cons.mp hy
          · exact absurd hf hk
          · exact e4 y hy hf
  obtain ⟨cl,e1,e2,_,e4⟩:=gen scope.names [] h fun x c e=>by cases e
  refine ⟨cl,?_,e2,e4⟩
  show ((forIn scope.names ([]:List (Str×Addr)) fun x r=>if (x.2 == NameKind.free)=true then do let c ← cellOf env x.1;pure (ForInStep.yield ((x.1,c)::r)) else pure (ForInStep.yield r):Sem _) >>= fun s=>pure s)=pure cl
  rw[e1]
  rfl
def Dn (Y:Cx)(ifs:List Expr)(t:TT):Prop:=
  ∀ (pins:List (Addr×Obj)) (s:Shared) (σ:L2.St) (H:Hp) (Q:Bool→Hp→Prop),Inv Y pins σ H s→t σ H Q→
    wpAny (model Y.prog Y.w) Y.A (forIn ifs true fun c r=>if r=true then do let ok ← isTrue c Y.env (eval c Y.env);pure (ForInStep.yield ok) else pure (ForInStep.yield r)) (TP Y pins σ Q) Y.xe s
def SW:TT:=fun _ H Q=>Q true H
theorem Jr {Y:Cx}:Dn Y [] SW:=fun pins s σ H Q I h=>wpAny_tests_nil ⟨H,I,h⟩
theorem KN {Y:Cx}{c:Expr}{t:TT}(h:PT Y c t):Dn Y [c] t:=fun pins s σ H Q I hh=>wpAny_tests_one (h pins s σ H Q I hh)
def fB (σ:L2.St)(n:Nat)(caps:List Nat):L2.St:=List.replicate n none++caps.map fun i=>(σ[i]?).join
def Wk (σ' σ:L2.St):Prop:=σ'.length=σ.length∧∀ (i:Nat) v,σ'[i]? = some (some v)→σ[i]? = some (some v)
def sV (wi:TI)(g:TG)(tt:TT)(te:TE)(n:Nat)(caps:List Nat):TE:=fun σ H Q=>wi σ H fun J H1=>∀ D,H1 D=none→
  ∃ W:Nat→Nat→List V→Hp→Prop,(∃ m,W 0 m [] (L2.upd H1 D (.lst [])))∧∀ i m ys H2,W i m ys H2→
    (J.stop i H2∧Q (.ref D) H2)∨(J.go i H2∧∃ N:List V→Hp→Prop,(∀ ys' H',N ys' H'→∃ m',m' < m∧W (i+1) m' ys' H')∧
      ∀ x H3,J.yld i H2 x H3→g x (fB σ n caps) H3 fun σ4 H4=>Wk (fB σ n caps) σ4∧tt σ4 H4 fun b H5=>if b=true then te σ4 H5 fun y H6=>∃ zs,H6 D=some (.lst zs)∧zs.length < sizeLine∧N (zs++[y]) (L2.upd H6 D (.lst (zs++[y]))) else N ys H5)
theorem mG {prog:Program}{w:World}{A:Around}{R:Result→Shared→Prop}{s:Shared}{elt target iter:Expr}{ifs:List Expr}{scope:Scope}{pos:Pos}{it acc:Value}{env:Env}(J:Nat→Shared→Prop)
    (turn:∀ n s,J n s→wpAny (model prog w) A (pyNext it) (fun o t₁=>match o with
      | none=>R (.ok .next) t₁
      | some v=>wpAny (model prog w) A (letOwnedTupleGo target it v) (fun _ t₁=>wpAny (model prog w) A (assign target env v) (fun _ t₂=>
          wpAny (model prog w) A (forIn ifs true fun c r=>
            if r=true then do let ok ← isTrue c env (eval c env);pure (ForInStep.yield ok) else pure (ForInStep.yield r)) (fun ok t₃=>
            if ok=true then wpAny (model prog w) A (eval elt env) (fun x t₄=>
              wpAny (model prog w) A (call (.builtin "list.append") [acc,x]) (fun _ t₅=>∃ m,m < n∧J m t₅) (fun _ _=>False) t₄) (fun _ _=>False) t₃
            else ∃ m,m < n∧J m t₃) (fun _ _=>False) t₂) (fun _ _=>False) t₁) (fun _ _=>False) t₁) (fun _ _=>False) s)
    (n:Nat) (h:J n s):codeAny (model prog w) A (.compLoop (.ListComp elt [⟨target,iter,ifs,0⟩] scope pos) 0 it acc env) R s:=by
  refine codeAny_loop rfl J (fun n s hJ=>?_) n h
  show wpAny _ A ((compTurn (.ListComp elt [⟨target,iter,ifs,0⟩] scope pos) 0 it acc env).onRaise
    (fun x=>do noteFrame x env;theTreesLotGoes x)) _ _ s
  refine wpAny_noted ?_
  rw[compTurn_list]
  refine wpAny_bind (wpAny_standAt (wpAny_bind (wpAny_mono (turn n s hJ) (fun r t₁ g₁=>?_) fun _ _ h'=>h'.elim)))
  cases r with
  | none=>exact wpAny_pure g₁
  | some v=>
    refine wpAny_bind (wpAny_mono g₁ (fun _ t₁' g₁'=>?_) fun _ _ h'=>h'.elim)
    refine wpAny_bind (wpAny_mono g₁' (fun _ t₂ g₂=>wpAny_bind (wpAny_mono g₂ (fun ok t₃ g₃=>?_) fun _ _ h'=>h'.elim)) fun _ _ h'=>h'.elim)
    cases ok with
    | false=>exact wpAny_pure ⟨rfl,g₃⟩
    | true=>
      exact wpAny_bind (wpAny_bind (wpAny_mono g₃ (fun x t₄ g₄=>wpAny_bind (wpAny_mono g₄ (fun _ t₅ g₅=>wpAny_pure (wpAny_pure ⟨rfl,g₅⟩)) fun _ _ h'=>h'.elim)) fun _ _ h'=>h'.elim))
theorem gu {σ:L2.St}{n:Nat}{caps:List Nat}{i:Nat}{v:V}(h:(fB σ n caps)[i]? = some (some v)):∃ j k,i=n+j∧caps[j]? = some k∧σ[k]? = some (some v):=by
  unfold fB at h
  by_cases hi:i < n
  · rw[List.getElem?_append_left (by simpa using hi),List.getElem?_replicate,if_pos hi] at h
    cases h
  · rw[List.getElem?_append_right (by simpa using hi)] at h
    rw[List.length_replicate,List.getElem?_map] at h
    cases e:caps[i - n]? with
    | none=>rw[e] at h;cases h
    | some k=>
      rw[e] at h
      have h':(σ[k]?).join=some v:=Option.some.inj h
      cases e2:σ[k]? with
      | none=>rw[e2] at h';cases h'
      | some o=>
        rw[e2] at h'
        have h'':o=some v:=h'
        subst h''
        exact ⟨i - n,k,by omega,e,e2⟩
theorem cH {env:Env}(hk:env.scope.kind=.function):∀ {names:List (Str×NameKind)} {x:Str},env.kindOf x=some .cell→names.lookup x=some .free→
    (names.map fun (n,k)=>if (k == NameKind.free&&env.scope.kind == .function&&env.kindOf n == some .cell) then (n,NameKind.cell) else (n,k)).lookup x=some .cell
  | [],_,_,h=>by simp at h
  | (n,k)::r,x,hc,h=>by
    have ih:=@cH env hk r x hc
    show List.lookup x ((if (k == NameKind.free&&env.scope.kind == .function&&env.kindOf n == some .cell)=true
      then (n,NameKind.cell) else (n,k))::_)=_
    cases hx:x == n with
    | true=>
      simp only[hx,List.lookup_cons] at h
      cases h
      have e:x=n:=by simpa using hx
      subst e
      simp[List.lookup_cons,hk,hc]
    | false=>
      simp only[hx,List.lookup_cons] at h
      by_cases hcc:(k == NameKind.free&&env.scope.kind == .function&&env.kindOf n == some .cell)=true
      · rw[if_pos hcc];simp only[List.lookup_cons,hx];exact ih h
      · rw[if_neg hcc];simp only[List.lookup_cons,hx];exact ih h
theorem eF {env:Env}:∀ {names:List (Str×NameKind)} {x:Str} {k':NameKind},(∀ y∈names,y.2≠.cell)→(k'=.cell∨k'=.free)→
    (x,k')∈(names.map fun (n,k)=>if (k == NameKind.free&&env.scope.kind == .function&&env.kindOf n == some .cell) then (n,NameKind.cell) else (n,k))→(x,NameKind.free)∈names:=by
  intro names x k' hn hk h
  obtain ⟨⟨n,k⟩,hm,e⟩:=List.mem_map.mp h
  dsimp only at e
  split at e
  · rename_i hc
    cases e
    have:k=.free:=by simp at hc;exact hc.1.1
    subst this;exact hm
  · cases e
    rcases hk with rfl | rfl
    · exact absurd rfl (hn _ hm)
    · exact hm
theorem BI {X:Cx}{tg iter elt:Expr}{ifs:List Expr}{scope:Scope}{pos:Pos}{wi:TI}{g:TG}{tt:TT}{te:TE}{Nc:List Str}{n:Nat}{caps:List Nat}
    (hxe:X.xe=fun _ _=>False) (hcalm:X.calm=true) (hi:PI X tg iter wi)
    (hbody:∀ (cl:List (Str×Addr)) (C:Addr) (s₀:Shared) (H₀:Hp) (ex:List Addr),PG (a8 X scope Nc cl C s₀ H₀ ex) tg g∧Dn (a8 X scope Nc cl C s₀ H₀ ex) ifs tt∧PE (a8 X scope Nc cl C s₀ H₀ ex) elt te)
    (hfree:∀ y∈scope.names,y.2=.free→X.env.kindOf y.1=some .cell) (hcell:∀ y∈scope.names,y.2≠.cell) (gv:scope.kind=.function)
    (hnames:∀ y∈scope.names,y.2=.local→scope.names.lookup y.1=some .local) (hlen:Nc.length=n+caps.length)
    (hcap:∀ (j k:Nat),caps[j]? = some k→∃ x,Nc[n+j]? = some x∧X.N[k]? = some x∧scope.names.lookup x=some .free)
    (hs:∀ x,foldedSetIterable iter X.env x=pure x:=by intro _;rfl) :
    PE X (.ListComp elt [⟨tg,iter,ifs,0⟩] scope pos) (sV wi g tt te n caps):=by
  intro pins s σ H Q I h
  rw[hxe]
  obtain ⟨cl,hclos,clin,clfree⟩:=kF (scope:=scope) (env:=X.env) fun y hy hf=>I.ok.has y.1 (.inl (hfree y hy hf))
  rw[eval_ListComp]
  refine wpAny_comprehension_free (use:=none) rfl hs hclos gv hnames ?_
  have hi':=hi pins s σ H _ I h
  rw[hxe] at hi'
  refine wpAny_mono hi' (fun xv s1 h1=>wpAny_mono h1 (fun itv s2 h2=>?_) fun _ _ z=>z) fun _ _ z=>z
  obtain ⟨it,fp,tn,J,H1,rfl,I2,T,st2,f2,hh⟩:=h2
  -- the new list
  refine wpAny_newObj_type ?_
  have hD:H1 s2.heap.objs.size=none:=I2.hok.fresh (Nat.le_refl _)
  obtain ⟨W,⟨m0,w0⟩,turn⟩:=hh _ hD
  have I3:Inv X pins σ (L2.upd H1 s2.heap.objs.size (.lst [])) { s2 with heap:=s2.heap.push { cls:=.type "list", dict:=none,data:=.seq ([]:List Value).toArray } }:=
    I2.laid (t':=s2.toks) (fun b u e=>Heap.get?_push_of_some _ e) (Nat.le_refl _) ⟨Nat.zero_le _,[],0,.nil,Heap.get?_push_size _ rfl⟩
  have k3:∀ b u,s2.heap.get? b=some u→(s2.heap.push { cls:=.type "list", dict:=none,data:=.seq ([]:List Value).toArray }).get? b=some u:=fun b u e=>Heap.get?_push_of_some _ e
  have fne:∀ b∈fp,b≠s2.heap.objs.size:=fun b hb=>by
    obtain ⟨o,ho,_⟩:=T.obj 0 _ st2 b hb
    exact Nat.ne_of_lt (Heap.lt_size ho)
  generalize eD:s2.heap.objs.size=D at *
  generalize eh3:s2.heap.push { cls:=.type "list", dict:=none,data:=.seq ([]:List Value).toArray }=h3 at *
  generalize eH3:L2.upd H1 D (.lst [])=H3 at *
  have st3:tn 0 h3:=T.keep 0 _ _ st2 fun b hb o e=>k3 b o e
  have f3:∀ b∈fp,lE X pins H3 b:=fun b hb=>⟨by rw[← eH3,aL (fne b hb)];exact (f2 b hb).1,(f2 b hb).2⟩
  have lt3:∀ b∈fp,b < h3.objs.size:=fun b hb=>by
    obtain ⟨o,ho,_⟩:=T.obj 0 _ st3 b hb
    exact Heap.lt_size ho
  generalize es3:({ s2 with heap:=h3 }:Shared)=s3 at *
  have hs3:s3.heap=h3:=by rw[← es3]
  refine wpAny_newFunctionEnv hcell (fun y hy=>(by cases hy)) (fun h4 hns hsb=>?_) gv
  show codeAny _ _ (.compStart _ 0 (.ref it) (.ref D) (compEnvC scope cl s3.heap.objs.size X.env)) (compPost _ _ _ none _ (.ref D) s3.heap.objs.size) _
  have k4:∀ b u,s3.heap.get? b=some u→h4.get? b=some u:=fun b u e=>hsb.extBut b u (Nat.ne_of_lt (Heap.lt_size e)) (Heap.get?_push_of_some _ e)
  have okY:(a8 X scope Nc cl s3.heap.objs.size s3 H3 fp).Ok:=by
    refine ⟨I3.ok.mod,gv,I3.ok.glob,I3.ok.blt,Nat.le_refl _,fun x y c e1 e2=>I3.ok.inj x y c (clin _ _ e1) (clin _ _ e2),fun x hx=>?_,fun x c hf=>(by cases hf),I3.ok.hd,I3.ok.frames,.inl rfl,fun b hb=>⟨?_,fun x c e z=>?_⟩,I3.bs,Nat.le_trans I3.ok.bsz I3.sz,fun b o e hb=>?_,fun b hb hz=>?_,I3.stack,I3.oJ⟩
    · have hx':(relabel scope X.env).names.lookup x=some .cell∨(relabel scope X.env).names.lookup x=some .free:=hx
      have hm:(x,NameKind.free)∈scope.names:=by
        rcases hx' with q | q
        · exact eF hcell (.inl rfl) (PySem.mem_of_lookup q)
        · exact eF hcell (.inr rfl) (PySem.mem_of_lookup q)
      exact clfree _ hm rfl
    · show b≠s3.heap.objs.size
      rw[hs3];exact Nat.ne_of_lt (lt3 b hb)
    · exact (f3 b hb).2.2.2.2.1 x c (clin _ _ e) z
    · rcases (f3 b hb).2.2.2.1 with z | z
      · exact I3.ok.zl b o e z
      · exact absurd (Nat.lt_of_lt_of_le (Heap.lt_size e) (Nat.le_trans I3.ok.bsz z)) (Nat.lt_irrefl _)
    · rcases List.mem_cons.mp (I3.p7 b hz) with z | z
      · exact (f3 b hb).2.1 z
      · exact (f3 b hb).2.2.1 z
  have vS:∀ c v,s3.heap.IsCell c v→h4.IsCell c v:=fun c v ⟨o,ho,hd⟩=>⟨o,k4 c o ho,hd⟩
  have J0:Inv (a8 X scope Nc cl s3.heap.objs.size s3 H3 fp) [] (fB σ n caps) H3 { s3 with heap:=h4,toks:=s3.toks+([]:List (Str×Value)).length }:=by
    refine ⟨okY,rfl,I3.bare,Un.kept k4,⟨_,hns,fun i x v e1 e2 e3=>?_⟩,fun x c e=>?_,I3.hok.fresh (Nat.le_refl _),fun x c e=>I3.ir x c (clin _ _ e),(fun p hp=>(by cases hp)),I3.hok.kept k4,?_⟩
    · obtain ⟨j,k,rfl,ej,ek⟩:=gu e2
      obtain ⟨x',n1,n2,n3⟩:=hcap j k ej
      have e1':Nc[n+j]? = some x:=e1
      rw[n1] at e1';cases e1'
      have hmem:(x,NameKind.free)∈scope.names:=PySem.mem_of_lookup n3
      have hcellx:X.env.kindOf x=some .cell:=hfree _ hmem rfl
      obtain ⟨m,hn,hl⟩:=I3.loc
      obtain ⟨u,ru,lk⟩:=hl k x v n2 ek (.inr (.inl hcellx))
      refine ⟨u,ru,.inr ⟨.inl (cH I3.ok.kind hcellx n3),?_⟩⟩
      rcases lk with ⟨q,_⟩ | ⟨_,c,ec,ic⟩
      · rw[hcellx] at q;cases q
      · obtain ⟨c',ec'⟩:=clfree _ hmem rfl
        have:=clin _ _ ec'
        rw[ec] at this;cases this
        exact ⟨c,ec',vS _ _ ic⟩
    · obtain ⟨v,q⟩:=I3.cell x c (clin _ _ e)
      exact ⟨v,vS _ _ q⟩
    · unfold fB
      show _=Nc.length
      rw[List.length_append,List.length_replicate,List.length_map,hlen]
  obtain ⟨pg,pifs,pelt⟩:=hbody cl s3.heap.objs.size s3 H3 fp
  generalize eY:a8 X scope Nc cl s3.heap.objs.size s3 H3 fp=Y at *
  have yP:Y.prog=X.prog:=by rw[← eY];rfl
  have yw:Y.w=X.w:=by rw[← eY];rfl
  have yK:Y.K=X.K:=by rw[← eY];rfl
  have yA:Y.A=X.A:=by rw[← eY];rfl
  have yx:Y.xe=fun _ _=>False:=by rw[← eY];exact hxe
  have yc:Y.calm=true:=by rw[← eY];exact hcalm
  have ye:Y.env=compEnvC scope cl s3.heap.objs.size X.env:=by rw[← eY];rfl
  have yfs:Y.fs=frs X.stack:=by rw[← eY];rfl
  have yex:Y.ex=fp:=by rw[← eY];rfl
  have ys0:Y.s₀=s3:=by rw[← eY];rfl
  have yH0:Y.H₀=H3:=by rw[← eY];rfl
  have ypn:Y.pn=[]:=by rw[← eY];rfl
  have kC:∀ {H':Hp},(∀ b∈fp,H' b=none)→∀ b∈fp,lE Y [] H' b:=fun hn b hb=>⟨hn b hb,by rw[ye];show b≠s3.heap.objs.size;rw[hs3];exact Nat.ne_of_lt (lt3 b hb),okY.zI b (by rw[yex];exact hb),.inl (by rw[yex];exact hb),
    fun x c e=>by rw[ye] at e;exact (f3 b hb).2.2.2.2.1 x c (clin _ _ e),fun p hp=>by rw[ypn] at hp;exact nomatch hp⟩
  have tn4:∀ t,tn 0 ({ s3 with heap:=h4,toks:=t }:Shared).heap:=fun t=>T.keep 0 _ _ st3 fun b hb o e=>k4 b o (by rw[hs3];exact e)
  -- the end
  have fin:∀ (s5:Shared) (H5:Hp),Inv Y [] (fB σ n caps) H5 s5→Q (.ref D) H5→compPost (model X.prog X.w) X.A (fun _ _=>False) none (EP X pins σ Q) (.ref D) s3.heap.objs.size (.ok .next) s5:=fun s5 H5 I5 q5=>by
    obtain ⟨m,hn,_⟩:=I5.loc
    rw[ye] at hn
    refine ⟨m,hn,fun h6 hs6=>⟨.ref D,H5,?_,rfl,q5⟩⟩
    have nC:∀ b o,s3.heap.get? b=some o→b≠s3.heap.objs.size:=fun b o e=>Nat.ne_of_lt (Heap.lt_size e)
    have un:=I5.base
    rw[yfs,yex,yH0,ys0] at un
    have hfreeC0:=I5.free
    rw[ye] at hfreeC0
    have hfreeC:H5 s3.heap.objs.size=none:=hfreeC0
    refine I3.xh (ch:=fp) (s':={ s5 with heap:=h6 }) (by have:=I5.os;rw[ys0] at this;exact this) ⟨fun b o e n1 n2 n3=>(hs6.2 b (nC b o e)).trans (un.keep b o e n1 n2 n3),fun b o e n1 n2 n3=>?_,un.free,fun b o e n1=>?_,un.mi,un.lL,un.me⟩ (fun b u e=>?_) I5.bare fun b hb=>?_
    · obtain ⟨sl,q⟩:=un.slot b o e n1 n2 n3
      exact ⟨sl,(hs6.2 b (nC b o e)).trans q⟩
    · obtain ⟨o',q⟩:=un.there b o e n1
      exact ⟨o',(hs6.2 b (nC b o e)).trans q⟩
    · have hok5:=I5.hok
      rw[yP,yw] at hok5
      refine (hok5 b u e).lI (fun c w' hc q=>(hs6.2 c ?_).trans q) (fun _ q=>q) fun _ _ q=>q
      rintro rfl
      rcases hc with z | z
      · rw[← z,hfreeC] at e;cases e
      · rw[hfreeC] at z;cases z
    · exact ⟨(f3 b hb).2.2.2.1,(f3 b hb).2.1,(f3 b hb).2.2.2.2.1,(f3 b hb).2.2.2.2.2⟩
  have loop:codeAny (model X.prog X.w) X.A (.compLoop (.ListComp elt [⟨tg,iter,ifs,0⟩] scope pos) 0 (.ref it) (.ref D) (compEnvC scope cl s3.heap.objs.size X.env)) (compPost (model X.prog X.w) X.A (fun _ _=>False) none (EP X pins σ Q) (.ref D) s3.heap.objs.size)
      { s3 with heap:=h4,toks:=s3.toks+([]:List (Str×Value)).length }:=by
    refine mG (fun k s'=>∃ i ys H',Inv Y [] (fB σ n caps) H' s'∧tn i s'.heap∧(∀ b∈fp,H' b=none)∧W i k ys H') ?_ m0 ⟨0,[],H3,J0,tn4 _,fun b hb=>(f3 b hb).1,w0⟩
    rintro k s5 ⟨i,ys,H5,I5,st5,fr5,w5⟩
    rcases turn i k ys H5 w5 with ⟨stop,q⟩ | ⟨go,N,hN,step⟩
    · have d:=T.done Y yP yw yK yc i [] s5 _ H5 (fun _ _=>False) I5 (kC fr5) st5 stop
      rw[yA] at d
      refine thn d fun r s6 ⟨hr,I6⟩=>?_
      subst hr
      exact fin s6 H5 I6 q
    · have d:=T.item Y yP yw yK yc i [] s5 _ H5 (fun _ _=>False) I5 (kC fr5) st5 go
      rw[yA] at d
      refine thn d fun r s6 ⟨u,hr,h6⟩=>?_
      subst hr
      refine thn h6 fun _ s7 ⟨x,H7,I7,r7,y7,st7,fr7⟩=>?_
      have I7':=I7.pinned (kC fr7) (T.obj _ _ st7)
      have a:=pg _ s7 _ H7 x u _ I7' r7 (step x H7 y7)
      rw[yP,yw,yA,yx,ye] at a
      refine thn a fun _ s8 ⟨σ8,H8,I8,wk,q8⟩=>?_
      have b:=pifs _ s8 σ8 H8 _ I8 q8
      rw[yP,yw,yA,yx,ye] at b
      have again:∀ {s9:Shared} {ys9:List V} {H9:Hp},Inv Y ([]++ky fp s7.heap) σ8 H9 s9→N ys9 H9→∃ m,m < k∧∃ i ys H',Inv Y [] (fB σ n caps) H' s9∧tn i s9.heap∧(∀ b∈fp,H' b=none)∧W i m ys H':=fun {s9 ys9 H9} I9 n9=>by
        obtain ⟨m',hm,w9⟩:=hN ys9 H9 n9
        have hp:∀ b∈fp,∀ o,s7.heap.get? b=some o→s9.heap.get? b=some o∧H9 b=none:=fun b hb o e=>
          ⟨(I9.pin (b,o) (List.mem_append_right _ (List.mem_append_right _ (cp hb e)))).1,(I9.pin (b,o) (List.mem_append_right _ (List.mem_append_right _ (cp hb e)))).2.1⟩
        refine ⟨m',hm,i+1,ys9,H9,I9.fE.weak wk.1 wk.2,T.keep _ _ _ st7 fun b hb o e=>(hp b hb o e).1,fun b hb=>?_,w9⟩
        obtain ⟨o,e,_⟩:=T.obj _ _ st7 b hb
        exact (hp b hb o e).2
      refine thn b fun ok s9 ⟨H9,I9,q9⟩=>?_
      cases ok with
      | false=>
        rw[if_neg Bool.false_ne_true] at q9 ⊢
        exact again I9 q9
      | true=>
        rw[if_pos rfl] at q9 ⊢
        have c:=pelt _ s9 σ8 H9 _ I9 q9
        rw[yP,yw,yA,yx,ye] at c
        refine thn c fun v s10 ⟨y,H10,I10,r10,zs,ez,lz,n10⟩=>?_
        have d:=jZ (X:=Y) _ s10 σ8 H10 (.ref D) [y] (.ref D) [v] (fun _ H'=>N (zs++[y]) H') I10 rfl (.cons r10 .nil) ⟨D,zs,y,rfl,rfl,ez,lz,n10⟩
        rw[yP,yw,yA,yx] at d
        exact thn d fun _ s11 ⟨_,H11,I11,_,q11⟩=>again I11 q11
  refine codeAny_compStart_list loop ?_
  exact T.self X.A 0 _ _ _ (tn4 _) loop
end
section
open PySem PySem.Spec PyProof.Rows L2
structure Fm (K:PySem.W.Frag) (J:It) (H1:Hp) (ds:List D):Prop where
  go:∀ i H',Tk H1 H'→i < ds.length→J.go i H'
  yld:∀ i H' x H'',Tk H1 H'→i < ds.length→J.yld i H' x H''→Tk H' H''∧(∃ d,ds[i]? = some d∧Dp K H'' x d)∧∀ μ,bJ K H' μ→bJ K H'' μ
  stop:∀ i H',Tk H1 H'→ds.length≤i→J.stop i H'
def Om (K:PySem.W.Frag)(wi:TI)(It':ATr):Prop:=∀ σ H ρ μ (Q:List D→Mu→Prop) (R:It→Hp→Prop),Rl K σ H ρ μ→It' ρ μ Q→(∀ J H1 ds μ1,Tk H H1→bJ K H1 μ1→Fm K J H1 ds→Q ds μ1→R J H1)→wi σ H R
structure LI (X:Cx) (tg iter:Expr) (It':ATr):Prop where
  ex:∃ wi,PI X tg iter wi∧Om X.K wi It'
section
variable {X:Cx} {tg a b c e elt iter:Expr} {Ta Tb Te:ETr} {Tt:TTr} {pos:Pos} {It':ATr} {G:GTr}
theorem D4 {K:PySem.W.Frag}{H:Hp}{p:Addr}{xs:List V}{ds:List D}(q:SqT K H p xs)(l:DpL K H xs ds):Fm K (Itt K p) H ds where
  go:=fun i H' t hi=>by
    have hl:=l.length
    exact ⟨xs,xs[i],t.sqT q,by simp[show i < xs.length by omega]⟩
  yld:=fun i H' x H'' t hi ⟨e,y⟩=>by
    subst e
    have ex:=y xs (t.sqT q)
    obtain ⟨d,ed,p⟩:=l.get' ex
    exact ⟨.refl _,⟨d,ed,p.mono t⟩,fun _ m=>m⟩
  stop:=fun i H' t hi=>⟨xs,t.sqT q,by rw[l.length];exact hi⟩
theorem LR {K:PySem.W.Frag}{H:Hp}{p:Addr}{xs:List V}{ds:List D}(q:SqF K H p xs)(l:DpL K H xs ds):Fm K (Itl K p) H ds where
  go:=fun i H' t hi=>by
    have hl:=l.length
    exact ⟨xs,xs[i],(t.sqF q).sq,by simp[show i < xs.length by omega]⟩
  yld:=fun i H' x H'' t hi ⟨e,y⟩=>by
    subst e
    have ex:=y xs (t.sqF q).sq
    obtain ⟨d,ed,p⟩:=l.get' ex
    exact ⟨.refl _,⟨d,ed,p.mono t⟩,fun _ m=>m⟩
  stop:=fun i H' t hi=>⟨xs,(t.sqF q).sq,by rw[l.length];exact hi⟩
theorem c9 (lo:Int)(n:Nat):(cx lo n).length=n:=by unfold cx;simp
theorem HD {K:PySem.W.Frag}{H:Hp}(lo:Int)(n:Nat):Fm K (Itr lo n) H (cx lo n) where
  go:=fun i H' t hi=>by rw[c9] at hi;exact hi
  yld:=fun i H' x H'' t hi ⟨e,y⟩=>by
    rw[c9] at hi
    subst e y
    exact ⟨.refl _,⟨.int (lo+i),by unfold cx;simp[hi],.int _⟩,fun _ m=>m⟩
  stop:=fun i H' t hi=>by rw[c9] at hi;exact hi
def Qq (a:ETr):ATr:=fun ρ μ Q=>a ρ μ fun x μ1=>match x with
  | .tup ds=>Q ds μ1
  | _=>False
def ILs (a:ETr):ATr:=fun ρ μ Q=>a ρ μ fun x μ1=>match x with
  | .ls ds=>Q ds μ1
  | _=>False
theorem jV {rp rpos:Pos}(hg:Gl X "range")(hm:X.mg "range" = none)(ha:LE X a Ta)(hs:starEach [a] X.env=[(false,eval a X.env)]:=by rfl):LI X tg (.Call (.Name "range" rp) [a] [] rpos) (fV Ta):=by
  obtain ⟨ta,pa,sa⟩:=ha.ex
  refine ⟨_,DN hg hm (eV pa iM hs) hs,fun σ H ρ μ Q R rl h k=>sa σ H ρ μ _ _ rl h fun x H1 d μ1 t1 m1 p1 h1=>?_⟩
  cases p1 with
  | int j=>
    obtain ⟨⟨h2,h3⟩,h4⟩:=h1
    exact ⟨j,rfl,by simpa using h2,by simpa using h3,k _ H1 _ μ1 t1 m1 (HD 0 _) h4⟩
  | _=>exact False.elim h1
theorem Rx {t1:TS}{T1:STr}{g:TG}{E:En}{E':Ends}{K:PySem.W.Frag}{H0 H1:Hp}{J:It}{ds:List D}(sg:NZ K g G)(s1:EX K t1 T1)(k:FT K H0 E E')(Y:Fm K J H1 ds){σ:L2.St}{ρ:ST}{μ:Mu}(t0:Tk H0 H1)(rl:Rl K σ H1 ρ μ)(h:forR G T1 E ds ρ μ) :
    ∃ W:Nat→Nat→L2.St→Hp→Prop,(∃ m,W 0 m σ H1)∧∀ i m σ H,W i m σ H→
      (J.stop i H∧E'.nx σ H)∨(J.go i H∧∃ N:L2.St→Hp→Prop,(∀ σ' H',N σ' H'→∃ m',m' < m∧W (i+1) m' σ' H')∧∀ x H',J.yld i H x H'→g x σ H' fun σ2 H2=>t1 { E' with nx:=N,ct:=N,bk:=E'.nx } σ2 H2):=by
  refine ⟨fun i m σ' H'=>m=ds.length - i∧i≤ds.length∧Tk H1 H'∧∃ ρ' μ',Rl K σ' H' ρ' μ'∧forR G T1 E (ds.drop i) ρ' μ',⟨ds.length,by simp,Nat.zero_le _,.refl _,ρ,μ,rl,by simpa using h⟩,?_⟩
  rintro i m σ1 H2 ⟨rfl,hi,t12,ρ1,μ1,r1,h1⟩
  by_cases hlt:i < ds.length
  · refine .inr ⟨Y.go i H2 t12 hlt,fun σ' H'=>Tk H1 H'∧∃ ρ' μ',Rl K σ' H' ρ' μ'∧forR G T1 E (ds.drop (i+1)) ρ' μ',fun σ' H' ⟨t',ρ',μ',r',h'⟩=>⟨ds.length - (i+1),by omega,rfl,hlt,t',ρ',μ',r',h'⟩,fun x H3 y=>?_⟩
    obtain ⟨t23,⟨d,ed,pd⟩,mk⟩:=Y.yld i H2 x H3 t12 hlt y
    have e:ds.drop i=d::ds.drop (i+1):=by
      refine (List.drop_eq_getElem_cons hlt).trans ?_
      congr 1
      rw[List.getElem?_eq_getElem hlt] at ed
      exact Option.some.inj ed
    rw[e] at h1
    have t13:=t12.trans t23
    refine sg σ1 H3 ρ1 μ1 _ _ _ _ (r1.go t23 (mk _ r1.mu)) pd h1 fun σ4 H4 ρ4 μ4 t4 r4 h4=>?_
    have t14:=t13.trans t4
    have t04:=t0.trans t14
    exact s1 σ4 H4 ρ4 μ4 _ _ r4 h4 ⟨fun σ' H' ρ' μ' t' r' q=>⟨t14.trans t',ρ',μ',r',q⟩,(k.go t04).rt,(k.go t04).nx,fun σ' H' ρ' μ' t' r' q=>⟨t14.trans t',ρ',μ',r',q⟩⟩
  · have e:i=ds.length:=by omega
    subst e
    rw[List.drop_length] at h1
    exact .inl ⟨Y.stop _ H2 t12 (Nat.le_refl _),k.nx _ _ _ _ (t0.trans t12) r1 h1⟩
theorem gw {body:List Stmt}{T1:STr}(hp:PassesOwn (model X.prog X.w) X.A X.env X.xe)(hc:X.calm=true)(hi:LI X tg iter It')(hG:LG X tg G)(hb:LSs X body T1)(hf:∀ x,foldedSetIterable iter X.env x=pure x:=by intro _;rfl) :
    LS X (.For tg iter body [] pos) (j7 It' G T1):=by
  obtain ⟨wi,pi,si⟩:=hi.ex
  obtain ⟨g,pg,sg⟩:=hG.ex
  obtain ⟨t1,p1,s1⟩:=hb.ex
  exact ⟨_,PD hp hc pi pg p1 hf,fun σ H ρ μ E E' rl h k=>si σ H ρ μ _ _ rl h fun J H1 ds μ1 t1' m1 Y h1=>Rx sg s1 k Y t1' (rl.go t1' m1) h1⟩
def lD (K:PySem.W.Frag)(T:ETr):TE:=fun σ H Q'=>∃ ρ μ Q,Rl K σ H ρ μ∧T ρ μ Q∧jH K H Q Q'
def liftT (K:PySem.W.Frag)(T:TTr):TT:=fun σ H Q'=>∃ ρ μ Q,Rl K σ H ρ μ∧T ρ μ Q∧∀ b H' μ',Tk H H'→bJ K H' μ'→Q b μ'→Q' b H'
abbrev MC (K:PySem.W.Frag)(n:Nat)(σ:L2.St)(H:Hp)(k:ST→Mu→Prop)(k':L2.St→Hp→Prop):Prop:=∀ σ' H' ρ' μ',Tk H H'→Rl K σ' H' ρ' μ'→(σ'.length=σ.length∧∀ j,n≤j→σ'[j]? = σ[j]?)→k ρ' μ'→k' σ' H'
def lB (K:PySem.W.Frag)(n:Nat)(G:GTr):TG:=fun v σ H k'=>∃ ρ μ d k,Rl K σ H ρ μ∧Dp K H v d∧G d ρ μ k∧MC K n σ H k k'
theorem LE.pe (h:LE X e Te):PE X e (lD X.K Te):=by
  obtain ⟨t,p,s⟩:=h.ex
  exact fun pins st σ H Q I ⟨ρ,μ,Q0,rl,hT,k⟩=>p pins st σ H Q I (s σ H ρ μ Q0 Q rl hT k)
structure xH (X:Cx) (ifs:List Expr) (Tt:TTr):Prop where
  pe:Dn X ifs (liftT X.K Tt)
theorem bx:xH X [] dm:=⟨fun pins s σ H Q I ⟨ρ,μ,Q0,rl,hT,k⟩=>Jr pins s σ H Q I (k true H μ (.refl H) rl.mu hT)⟩
theorem fU (h:LT X c Tt):xH X [c] Tt:=by
  obtain ⟨t,p,s⟩:=h.ex
  exact ⟨fun pins st σ H Q I ⟨ρ,μ,Q0,rl,hT,k⟩=>KN p pins st σ H Q I (s σ H ρ μ Q0 Q rl hT k)⟩
structure LGc (X:Cx) (n:Nat) (tg:Expr) (G:GTr):Prop where
  pe:PG X tg (lB X.K n G)
theorem aZ {x:Str}{n:Nat}(i:Nat)(hN:X.N.Nodup)(hin:i < n:=by decide)(hi:X.N[i]? = some x:=by rfl)(hx:Loc X.env.scope x:=by first | exact Or.inl rfl | exact Or.inr rfl)(hf:X.fn x=true∨X.env.scope.names.lookup x=some .local:=by first | exact .inr rfl | exact .inl rfl | assumption):LGc X n (.Name x pos) (aw i):=
  ⟨fun pins s σ H v u k' I r ⟨ρ,μ,d,k,rl,p,h,post⟩=>iz hN hi hx hf pins s σ H v u k' I r (post _ H _ μ (.refl H) (rl.set p i) ⟨by simp,fun j hj=>by rw[List.getElem?_set_ne (by omega)]⟩ h)⟩
theorem oP {K:PySem.W.Frag}{σ:L2.St}{H:Hp}{ρ:ST}{μ:Mu}(rl:Rl K σ H ρ μ)(n:Nat)(caps:List Nat):Rl K (fB σ n caps) H (fo ρ n caps) μ:=by
  refine ⟨by unfold fB fo;simp,fun i d e=>?_,rl.mu⟩
  have gen:∀ (n i:Nat),lk (List.replicate n none++caps.map (lk ρ)) i=some d→∃ j,i=n+j∧∃ k,caps[j]? = some k∧lk ρ k=some d:=by
    intro n
    induction n with
    | zero=>
      intro i h
      have h':lk (caps.map (lk ρ)) i=some d:=by simpa using h
      have g2:∀ (cs:List Nat) (i:Nat),lk (cs.map (lk ρ)) i=some d→∃ k,cs[i]? = some k∧lk ρ k=some d:=by
        intro cs
        induction cs with
        | nil=>intro i h;cases i<;>cases h
        | cons c r ih=>intro i h;cases i with
          | zero=>exact ⟨c,rfl,h⟩
          | succ i=>simpa using ih i h
      exact ⟨i,by omega,g2 caps i h'⟩
    | succ n ih=>
      intro i h
      cases i with
      | zero=>cases h
      | succ i=>
        obtain ⟨j,rfl,k,h1,h2⟩:=ih i h
        exact ⟨j,by omega,k,h1,h2⟩
  obtain ⟨j,rfl,k,h1,h2⟩:=gen n i e
  obtain ⟨v,h3,h4⟩:=rl.loc k d h2
  refine ⟨v,?_,h4⟩
  unfold fB
  rw[List.getElem?_append_right (by simp)]
  simp[h1,h3]
theorem J6 {ifs:List Expr}{scope:Scope}{Nc:List Str}{n:Nat}{caps:List Nat}(hxe:X.xe=fun _ _=>False)(hcalm:X.calm=true)(hi:LI X tg iter It')
    (hbody:∀ (cl:List (Str×Addr)) (C:Addr) (s₀:Shared) (H₀:Hp) (ex:List Addr),LGc (a8 X scope Nc cl C s₀ H₀ ex) n tg G∧xH (a8 X scope Nc cl C s₀ H₀ ex) ifs Tt∧LE (a8 X scope Nc cl C s₀ H₀ ex) elt Te)
    (hfree:∀ y∈scope.names,y.2=.free→X.env.kindOf y.1=some .cell) (hcell:∀ y∈scope.names,y.2≠.cell) (gv:scope.kind=.function)
    (hnames:∀ y∈scope.names,y.2=.local→scope.names.lookup y.1=some .local) (hlen:Nc.length=n+caps.length)
    (hcap:∀ (j k:Nat),caps[j]? = some k→∃ x,Nc[n+j]? = some x∧X.N[k]? = some x∧scope.names.lookup x=some .free)
    (hs:∀ x,foldedSetIterable iter X.env x=pure x:=by intro _;rfl) :
    LE X (.ListComp elt [⟨tg,iter,ifs,0⟩] scope pos) (bE It' G Tt Te n caps):=by
  obtain ⟨wi,pi,si⟩:=hi.ex
  refine ⟨_,jl (BI (g:=lB X.K n G) (tt:=liftT X.K Tt) (te:=lD X.K Te) hxe hcalm pi (fun cl C s₀ H₀ ex=>let ⟨h1,h2,h3⟩:=hbody cl C s₀ H₀ ex;⟨h1.pe,h2.pe,h3.pe⟩) hfree hcell gv hnames hlen hcap hs),?_⟩
  intro σ H ρ μ Q Q' rl h k
  refine si σ H ρ μ _ _ rl h fun J H1 ds μ1 t1 m1 Y h1 D hD=>?_
  have hp:=h1 D (m1.free hD)
  have tD:Tk H1 (L2.upd H1 D (.lst [])):=.new hD
  have mD:bJ X.K (L2.upd H1 D (.lst [])) (up μ1 D (.lst [])):=fun a o e=>by
    by_cases ha:a=D
    · subst ha
      rw[aG] at e;cases e
      exact ⟨[],aM,.nil⟩
    · rw[aU ha] at e
      exact c5 m1 hD a o e
  refine ⟨fun i m ys H2=>m=ds.length - i∧i≤ds.length∧Tk H1 H2∧∃ μ2,bJ X.K H2 μ2∧fR D G Tt Te (fo ρ n caps) (fun μ'=>kL μ' D fun zs=>Q (.ls zs) (dn μ' D)) (ds.drop i) μ2,
    ⟨ds.length,by simp,Nat.zero_le _,tD,_,mD,by simpa using hp⟩,?_⟩
  rintro i m ys H2 ⟨rfl,hi,t12,μ2,m2,h2⟩
  by_cases hlt:i < ds.length
  · refine .inr ⟨Y.go i H2 t12 hlt,fun ys' H'=>Tk H1 H'∧∃ μ',bJ X.K H' μ'∧fR D G Tt Te (fo ρ n caps) (fun μ'=>kL μ' D fun zs=>Q (.ls zs) (dn μ' D)) (ds.drop (i+1)) μ',fun ys' H' ⟨t',μ',m',h'⟩=>⟨ds.length - (i+1),by omega,rfl,hlt,t',μ',m',h'⟩,fun x H3 y=>?_⟩
    obtain ⟨t23,⟨d,ed,pd⟩,mk⟩:=Y.yld i H2 x H3 t12 hlt y
    have e:ds.drop i=d::ds.drop (i+1):=by
      refine (List.drop_eq_getElem_cons hlt).trans ?_
      congr 1
      rw[List.getElem?_eq_getElem hlt] at ed
      exact Option.some.inj ed
    rw[e] at h2
    have t13:=t12.trans t23
    have r3:Rl X.K (fB σ n caps) H3 (fo ρ n caps) μ2:=oP (rl.go (t1.trans t13) (mk _ m2)) n caps
    refine ⟨_,_,d,_,r3,pd,h2,fun σ4 H4 ρ4 μ4 t4 r4 kp h4=>⟨⟨kp.1.symm,fun j v ej=>?_⟩,_,_,_,r4,h4,fun b H5 μ5 t5 m5 h5=>?_⟩⟩
    · by_cases hj:n≤j
      · rw[kp.2 j hj];exact ej
      · obtain ⟨j',k',e1,_⟩:=gu ej
        omega
    · have t15:=t13.trans (t4.trans t5)
      cases b with
      | false=>exact pW ⟨t15,μ5,m5,h5⟩
      | true=>
        refine pG ⟨_,_,_,r4.go t5 m5,h5,fun v H6 d6 μ6 t6 m6 p6 h6=>?_⟩
        obtain ⟨zs,ez,lz,h7⟩:=bK h6
        obtain ⟨xs,ex,lx⟩:=m6 D _ ez
        have t67:Tk H6 (L2.upd H6 D (.lst (xs++[v]))):=.upd (fun ys z=>by rw[ex] at z;cases z) fun o' u z=>by rw[ex] at z;cases z
        refine ⟨xs,ex,by rw[lx.length];exact Nat.lt_of_lt_of_le lz (by decide),(t15.trans t6).trans t67,up μ6 D (.lst (zs++[d6])),fun a o ea=>?_,h7⟩
        by_cases ha:a=D
        · subst ha
          rw[aG] at ea;cases ea
          exact ⟨_,aM,(lx.append (.cons p6 .nil)).mono t67⟩
        · rw[aU ha] at ea
          exact (m6 a _ ea).ne t67 ha
  · have e:i=ds.length:=by omega
    subst e
    rw[List.drop_length] at h2
    obtain ⟨zs,ez,hq⟩:=bK (show kL μ2 D fun zs=>Q (.ls zs) (dn μ2 D) from h2)
    obtain ⟨xs,ex,lx⟩:=m2 D _ ez
    refine .inl ⟨Y.stop _ H2 t12 (Nat.le_refl _),D,xs,rfl,ex,fun o=>?_⟩
    have t2f:Tk H2 (L2.upd H2 D (.frz o (.lst xs))):=.upd (fun ys z=>by rw[ex] at z;cases z) fun o' u z=>by rw[ex] at z;cases z
    refine k _ _ _ (dn μ2 D) ((t1.trans t12).trans t2f) (fun a o' ea=>?_) (.ls (.inl ⟨o,aM⟩) (lx.mono t2f)) hq
    have ha:a≠D:=fun z=>by subst z;unfold dn at ea;rw[if_pos rfl] at ea;cases ea
    have ea':μ2 a=some o':=by unfold dn at ea;rw[if_neg ha] at ea;exact ea
    exact (m2 a _ ea').ne t2f ha
end
end
section
open PySem PySem.Spec PyProof.Rows L2
def gO (fn:List (Str×NameKind))(XN:List Str)(sc:Scope)(Nc:List Str)(n:Nat)(caps:List Nat):Bool:=
  sc.names.all (fun y=>(y.2 != .free || fn.lookup y.1 == some .cell)&&y.2 != .cell&&(y.2 != .local || sc.names.lookup y.1 == some .local))&&sc.kind == .function&&Nc.length == n+caps.length &&
  (List.range caps.length).all fun j=>match caps[j]? with
    | some k=>(match XN[k]? with
      | some x=>Nc[n+j]? == some x&&sc.names.lookup x == some .free
      | none=>false)
    | none=>false
section
variable {X:Cx} {tg a b c e elt iter:Expr} {Ta Tb Te:ETr} {Tt:TTr} {pos:Pos} {It':ATr} {G:GTr}
theorem bz {ifs:List Expr}{scope fsc:Scope}(XN Nc:List Str)(n:Nat)(caps:List Nat)(hxe:X.xe=fun _ _=>False)(hcalm:X.calm=true)(hi:LI X tg iter It')
    (hbody:∀ (cl:List (Str×Addr)) (C:Addr) (s₀:Shared) (H₀:Hp) (ex:List Addr),LGc (a8 X scope Nc cl C s₀ H₀ ex) n tg G∧xH (a8 X scope Nc cl C s₀ H₀ ex) ifs Tt∧LE (a8 X scope Nc cl C s₀ H₀ ex) elt Te)
    (hsc:X.env.scope=fsc) (hXN:X.N=XN) (hok:gO fsc.names XN scope Nc n caps=true)
    (hs:∀ x,foldedSetIterable iter X.env x=pure x:=by intro _;rfl) :
    LE X (.ListComp elt [⟨tg,iter,ifs,0⟩] scope pos) (bE It' G Tt Te n caps):=by
  unfold gO at hok
  simp only[Bool.and_eq_true,List.all_eq_true] at hok
  obtain ⟨⟨⟨h1,h2⟩,h3⟩,h4⟩:=hok
  refine J6 hxe hcalm hi hbody (fun y hy hf=>?_) (fun y hy hf=>?_) (by simpa using h2) (fun y hy hf=>?_) (by simpa using h3) (fun j k hj=>?_) hs
  · have:=(h1 y hy).1.1
    show X.env.scope.names.lookup y.1=_
    rw[hsc]
    simpa[hf] using this
  · have:=(h1 y hy).1.2
    simp[hf] at this
  · have:=(h1 y hy).2
    simpa[hf] using this
  · have hl:j < caps.length:=(List.getElem?_eq_some_iff.mp hj).1
    have:=h4 j (List.mem_range.mpr hl)
    rw[hj] at this
    dsimp only at this
    rw[hXN]
    cases e:XN[k]? with
    | none=>rw[e] at this;cases this
    | some x=>
      rw[e] at this
      dsimp only at this
      rw[Bool.and_eq_true] at this
      exact ⟨x,by simpa using this.1,rfl,by simpa using this.2⟩
end
theorem m4:∀ {bs:List Bool} {us:List Value},Vals (bs.map V.bl) us→LSm.BoolsAre us bs
  | [],_,.nil=>.nil
  | b::r,_,.cons h t=>by
    cases (show _=Value.bool b from h)
    exact .cons b (m4 t)
theorem DM {X:Cx}(hc:X.calm=true):bV X (.builtin "all") (fun xs H Q=>∃ (p:Addr) (ys:List V) (bs:List Bool),xs=[.ref p]∧SqL X.K H p ys∧ys=bs.map V.bl∧Q (.bl (bs.all id)) H):=fun pins s σ H xs us Q I rx ⟨p,ys,bs,e1,sq,e2,q⟩=>by
  subst e1 e2
  cases rx with | cons r1 r2=>
  cases r2
  cases (show _=Value.ref p from r1)
  obtain ⟨its,rv,pl,_⟩:=I.list sq
  have ils:s.heap.IsList p its.toArray:=by
    obtain ⟨o,n,h1,h2,_,h3⟩:=pl
    exact ⟨o,h1,h2,n,h3⟩
  have bls:=m4 rv
  have hlt:p < s.heap.objs.size:=by obtain ⟨_,e,_⟩:=ils;exact Heap.lt_size e
  refine call_all_walk (wpAny_pyIter_list ils ?_)
  refine ⟨s.heap.objs.size,[s.heap.objs.size,p],[s.heap.objs.size],its.toArray.size,_,_,fun i=>(bs[i]?).getD true,rfl,Walks.list (A:=X.A.in1) (I.ok.hd hc) _ p (Nat.ne_of_lt hlt) its.toArray,
    ⟨⟨_,Heap.get?_push_size _ rfl,rfl,rfl⟩,ils.push _⟩,fun i v s' Q' E' gP gQ=>?_,fun h' tk hk=>?_⟩
  · obtain ⟨b,e,rfl⟩:=bls.get i v (by simpa using gP)
    simp only[e,Option.getD_some] at gQ
    exact wpAny_truthy_bool gQ
  · have e:((List.range its.toArray.size).all fun i=>(bs[i]?).getD true)=bs.all id:=by
      rw[List.size_toArray,bls.length];exact LSm.range_all bs
    rw[e]
    exact ⟨.bl _,H,I.kept (LSm.kept_iter hk),rfl,q⟩
theorem DpL.bools {K:PySem.W.Frag}{H:Hp}:∀ {xs:List V} {bs:List Bool},DpL K H xs (bs.map .bl)→xs=bs.map V.bl
  | _,[],.nil=>rfl
  | _,b::r,.cons h l=>by cases h;rw[DpL.bools l];rfl
theorem Ll {K:PySem.W.Frag}:kM K (fun xs H Q=>∃ (p:Addr) (ys:List V) (bs:List Bool),xs=[.ref p]∧SqL K H p ys∧ys=bs.map V.bl∧Q (.bl (bs.all id)) H) HF:=fun H μ xs ds Q Q' m p h k=>by
  unfold HF at h
  split at h
  · obtain ⟨bs,rfl,h⟩:=h
    cases p with | cons p1 p2=>cases p2;cases p1 with | ls q l=>exact ⟨_,_,bs,rfl,q.sq,l.bools,k _ H _ μ (.refl H) m (.bl _) h⟩
  · exact h.elim
end
section
open PySem PySem.Spec PyProof.Rows L2
def GV (K:PySem.W.Frag)(mg:Str→Option Value)(x:Str)(d:D):Prop:=∃ u v,mg x=some u∧RelV v u∧∀ H,Dp K H v d
theorem aF {X:Cx}{x:Str}{pos:Pos}{d:D}(hg:Gl X x)(h:GV X.K X.mg x d)(hd:(x == ("__debug__" : Str))=false:=by decide):LE X (.Name x pos) (TC d):=by
  obtain ⟨u,v,hm,r,p⟩:=h
  exact ⟨_,L0 hg hm r hd,fun σ H ρ μ Q Q' rl h k=>k v H d μ (.refl H) rl.mu (p H) h⟩
section
variable {K:PySem.W.Frag} {h:Heap} {mg:Str→Option Value} {x:Str}
theorem bj {i:Int}{t:Tok}(X:K.In h)(G:h.Ns mainGlobals mg)(a:PySem.W.nsIn K mainGlobals x=some (some (.int i t))):GV K mg x (.int i):=⟨_,.int i,PySem.W.mg_of X G a,⟨t,rfl⟩,fun _=>.int i⟩
theorem AW {p:Addr}{o:Obj}{its:Array Value}{n:Nat}{xs:List V}{ds:List D}(X:K.In h)(G:h.Ns mainGlobals mg)(a:PySem.W.nsIn K mainGlobals x=some (some (.ref p)))(l:K.lookup p=some o)(c:o.cls=.type "tuple")(dn:o.dict=none)(d:o.data=.seq its n)
    (z:its.size≤sizeLine) (r:Vals xs its.toList) (q:∀ H,DpL K H xs ds):GV K mg x (.tup ds):=⟨_,.ref p,PySem.W.mg_of X G a,rfl,fun H=>.tup (.inr ⟨o,its,n,l,c,dn,d,z,r⟩) (q H)⟩
end
def kE:ST→List Nat→List D→ST
  | ρ,i::is,d::ds=>kE (ρ.set i (some d)) is ds
  | ρ,_,_=>ρ
def fL (is:List Nat):GTr:=fun d ρ μ k=>match d with
  | .tup ds=>ds.length=is.length∧k (kE ρ is ds) μ
  | _=>False
def Ru (K:PySem.W.Frag)(t:TGs)(is:List Nat):Prop:=∀ σ H ρ μ vs ds (k:ST→Mu→Prop) (k':L2.St→Hp→Prop),Rl K σ H ρ μ→DpL K H vs ds→ds.length=is.length→k (kE ρ is ds) μ→vE K H k k'→t vs σ H k'
structure LGs (X:Cx) (es:List Expr) (is:List Nat):Prop where
  ex:∃ t,PGs X es t∧Ru X.K t is
section
variable {X:Cx} {e tg:Expr} {es:List Expr} {is:List Nat} {pos:Pos} {x:Str} {Ta:ETr} {G:GTr}
theorem iO:LGs X [] []:=⟨_,Ca,fun σ H ρ μ vs ds k k' rl l hl h q=>by
  cases ds with
  | nil=>cases l;exact ⟨rfl,q _ _ _ _ (.refl H) rl h⟩
  | cons=>cases hl⟩
theorem ck (i:Nat)(hN:X.N.Nodup)(h2:LGs X es is)(hi:X.N[i]? = some x:=by rfl)(hx:Loc X.env.scope x:=by first | exact Or.inl rfl | exact Or.inr rfl)(hf:X.fn x=true∨X.env.scope.names.lookup x=some .local:=by first | exact .inl rfl | exact .inr rfl | assumption)
    (hs:(assignEach (.Name x pos::es) X.env).map (·.2)=assign (.Name x pos) X.env::(assignEach es X.env).map (·.2):=by rfl):LGs X (.Name x pos::es) (i::is):=by
  obtain ⟨t,pt,st⟩:=h2.ex
  refine ⟨_,vK (iz hN hi hx hf) pt hs,fun σ H ρ μ vs ds k k' rl l hl h q=>?_⟩
  cases l with
  | nil=>cases hl
  | @cons v d vs ds p l=>exact ⟨v,vs,rfl,st _ H _ μ vs ds k k' (rl.set p i) l (by simpa using hl) h q⟩
theorem mH {k:Nat}(hc:X.calm=true)(h:LGs X es is)(hn:(assignEach es X.env).length=is.length:=by rfl)(hst:(assignEach es X.env).findIdx? (·.1)=none:=by rfl):LG X (.Tuple es k pos) (fL is):=by
  obtain ⟨t,pt,st⟩:=h.ex
  refine ⟨_,HE hc pt hn hst,fun σ H ρ μ v d k k' rl p h q=>?_⟩
  cases p with
  | @tup a xs ds sq l=>exact ⟨a,xs,rfl,sq,by rw[l.length];exact h.1,st σ H ρ μ xs ds k k' rl l h.1 h.2 q⟩
  | _=>exact False.elim h
theorem u7 (he:LE X e Ta)(hG:LG X tg G)(hs:swapsWithSole [tg] e pos.line X.env=pure false:=by rfl)(hw:swappedStores [tg] e X.env=pure none:=by rfl)
    (h1:(assignEach [tg] X.env).map (·.2)=[assign tg X.env]:=by rfl):LS X (.Assign [tg] e pos) (aN Ta G):=by
  obtain ⟨ta,pa,sa⟩:=he.ex
  obtain ⟨g,pg,sg⟩:=hG.ex
  exact ⟨_,Ny pa pg hs hw h1,fun σ H ρ μ E E' rl h k=>sa σ H ρ μ _ _ rl h fun v H' d μ' t' m' p' h'=>sg σ H' ρ μ' v d _ _ (rl.go t' m') p' h' (k.go t').nx⟩
end
end
section
open PySem PySem.Spec PyProof.Rows L2
def iu (tp:Bool)(h:Heap)(it a:Addr)(i:Nat):Prop:=match tp with
  | true=>h.IsTupleIter it a i
  | false=>h.IsListIter it a i
def fX (tp:Bool)(h:Heap)(a:Addr)(xs:Array Value):Prop:=match tp with
  | true=>h.IsTuple a xs
  | false=>h.IsList a xs
theorem iu.at {tp:Bool}{h g:Heap}{it a:Addr}{i:Nat}(x:iu tp h it a i)(k:∀ o,h.get? it=some o→g.get? it=some o):iu tp g it a i:=by
  cases tp with
  | true=>obtain ⟨o,e,r⟩:=x;exact ⟨o,k o e,r⟩
  | false=>obtain ⟨o,e,r⟩:=x;exact ⟨o,k o e,r⟩
theorem fX.at {tp:Bool}{h g:Heap}{a:Addr}{xs:Array Value}(x:fX tp h a xs)(k:∀ o,h.get? a=some o→g.get? a=some o):fX tp g a xs:=by
  cases tp with
  | true=>obtain ⟨o,e,r⟩:=x;exact ⟨o,k o e,r⟩
  | false=>obtain ⟨o,e,r⟩:=x;exact ⟨o,k o e,r⟩
theorem iu.ex {tp:Bool}{h:Heap}{it a:Addr}{i:Nat}(x:iu tp h it a i):∃ o,h.get? it=some o∧∃ vs,o.data=.fields vs:=by
  cases tp with
  | true=>obtain ⟨o,e,_,d⟩:=x;exact ⟨o,e,_,d⟩
  | false=>obtain ⟨o,e,_,d⟩:=x;exact ⟨o,e,_,d⟩
section
variable {prog:Program} {w:World} {A:Around} {E:Value→Shared→Prop} {s:Shared}
theorem Ik {it t:Addr}{i:Nat}{xs:Array Value}{x:Value}{Q:Value→Shared→Prop}(hi:s.heap.IsTupleIter it t i)(ht:s.heap.IsTuple t xs)(hx:xs[i]? = some x)
    (k:∀ g,g.IsTupleIter it t (i+1)→Heap.SameBut it s.heap g→Q x { s with heap:=g }):wpAny (model prog w) A (Builtin.SmallTypes.nextOf (.ref it)) Q E s:=by
  obtain ⟨ob,gb,cb,db⟩:=id hi
  obtain ⟨ot,gt,_,nt,dt⟩:=ht
  delta Builtin.SmallTypes.nextOf
  refine wpAny_bind (wpAny_callSpecial?_slot (name:=Str.ofString "__next__") hi.typeIs F.slot_tuple_iterator_next (wpAny_call_entry F.slot_tuple_iterator_next hi.typeIs F.entry_tuple_iterator_next ?_ (F.args_tuple_iterator_next_1 _)))
  refine wpAny_bind (m:=field (.ref it) 0) (wpAny_field gb db (x:=.ref t) rfl ?_)
  refine (show wpAny _ _ (if (Value.ref t == Value.none)=true then _ else _) _ _ s from ?_)
  rw[if_neg (show ¬ ((Value.ref t == Value.none)=true) by intro z;cases z)]
  refine wpAny_bind (m:=field (.ref it) 1) (wpAny_field gb db (x:=.int i 0) rfl ?_)
  refine wpAny_bind (m:=seqItems? (.ref t)) (wpAny_seqItems gt dt ?_)
  simp only[hx,Int.toNat_natCast]
  refine wpAny_bind (wpAny_setField gb db (by simp) (wpAny_pure ⟨x,rfl,wpAny_pure (k _ ⟨_,Heap.get?_update_self _ gb (Obj.isFreed_of_fields (Obj.data_mapFields db _)),(Obj.cls_mapFields ..).trans cb,?_⟩ (Heap.SameBut.update ..))⟩))
  rw[Obj.data_mapFields db];simp[rawInt]
theorem oM {tp:Bool}{it a:Addr}{i:Nat}{xs:Array Value}{x:Value}{Q:Value→Shared→Prop}(hi:iu tp s.heap it a i)(hs:fX tp s.heap a xs)(hx:xs[i]? = some x)
    (k:∀ g,iu tp g it a (i+1)→Heap.SameBut it s.heap g→Q x { s with heap:=g }):wpAny (model prog w) A (Builtin.SmallTypes.nextOf (.ref it)) Q E s:=by
  cases tp with
  | true=>exact Ik hi hs hx k
  | false=>exact wpAny_nextOf_list_item hi hs hx k
theorem Jp {it t:Addr}{i:Nat}{xs:Array Value}{Q:Value→Shared→Prop}(hh:A.handled=none)(hi:s.heap.IsTupleIter it t i)(ht:s.heap.IsTuple t xs)(hx:xs[i]? = none)
    (k:∀ g e,Heap.ExtBut it s.heap g→(∃ o,g.get? e=some o∧o.cls=.type "StopIteration")→E (.ref e) { s with heap:=g }):wpAny (model prog w) A (Builtin.SmallTypes.nextOf (.ref it)) Q E s:=by
  obtain ⟨ob,gb,cb,db⟩:=id hi
  obtain ⟨ot,gt,_,nt,dt⟩:=ht
  delta Builtin.SmallTypes.nextOf
  refine wpAny_bind (wpAny_callSpecial?_slot (name:=Str.ofString "__next__") hi.typeIs F.slot_tuple_iterator_next (wpAny_call_entry F.slot_tuple_iterator_next hi.typeIs F.entry_tuple_iterator_next ?_ (F.args_tuple_iterator_next_1 _)))
  refine wpAny_bind (m:=field (.ref it) 0) (wpAny_field gb db (x:=.ref t) rfl ?_)
  refine (show wpAny _ _ (if (Value.ref t == Value.none)=true then _ else _) _ _ s from ?_)
  rw[if_neg (show ¬ ((Value.ref t == Value.none)=true) by intro z;cases z)]
  refine wpAny_bind (m:=field (.ref it) 1) (wpAny_field gb db (x:=.int i 0) rfl ?_)
  refine wpAny_bind (m:=seqItems? (.ref t)) (wpAny_seqItems gt dt ?_)
  simp only[hx,Int.toNat_natCast]
  refine wpAny_bind (wpAny_rule (wpAny_bind (wpAny_setField gb db (by simp) (wpAny_bind (m:=newExc (.type "StopIteration") []) ?_))))
  simp only[newExc,newTuple]
  refine wpAny_bind (wpAny_newObj_type (wpAny_bind (m:=firstArgMember _ _) (wpAny_of_eq (a:=Value.none) (by first | rfl | (simp only[firstArgMember];rfl)) (wpAny_newObj_type ?_ (by size_fits)))) (by size_fits))
  simp only[raiseNew]
  refine wpAny_bind <| wpAny_handled ?_
  rw[(show A.in1.handled=none from hh)]
  exact wpAny_bind (wpAny_pure (wpAny_throw (k _ _ (((Heap.SameBut.update ..).extBut.push _).push _) ⟨_,Heap.get?_push_size _ rfl,rfl⟩)))
theorem Ai {tp:Bool}{it a:Addr}{i:Nat}{xs:Array Value}{Q:Value→Shared→Prop}(hh:A.handled=none)(hi:iu tp s.heap it a i)(hs:fX tp s.heap a xs)(hx:xs[i]? = none)
    (k:∀ g e,Heap.ExtBut it s.heap g→(∃ o,g.get? e=some o∧o.cls=.type "StopIteration")→E (.ref e) { s with heap:=g }):wpAny (model prog w) A (Builtin.SmallTypes.nextOf (.ref it)) Q E s:=by
  cases tp with
  | true=>exact Jp hh hi hs hx k
  | false=>exact wpAny_nextOf_list_end hh hi hs hx k
structure Zp (z ti to i j a b:Addr):Prop where
  nd:[z,ti,to,i,j].Nodup
  na:a ∉ [z,to,i,j]
  nb:b ∉ [z,to,i,j]
structure ZAt (ta tb:Bool) (h:Heap) (z ti to i j a b:Addr) (k:Nat):Prop where
  zz:PySem.IsZip h z ti to .none
  zt:PySem.IsPair h ti (.ref i) (.ref j)
  zo:∃ u v,PySem.IsPair h to u v
  zi:iu ta h i a k
  zj:iu tb h j b k
theorem DU {ta tb:Bool}{z ti to i j a b:Addr}{k:Nat}{xs ys:Array Value}{x y:Value}{Q:Option Value→Shared→Prop}(Z:Zp z ti to i j a b)(S:ZAt ta tb s.heap z ti to i j a b k)(ha:fX ta s.heap a xs)(hb:fX tb s.heap b ys)(hx:xs[k]? = some x)(hy:ys[k]? = some y)
    (q:∀ g,PySem.IsZip g z ti to (rawInt s.heap.objs.size)→PySem.IsPair g ti (.ref i) (.ref j)→PySem.IsPair g to x y→iu ta g i a (k+1)→iu tb g j b (k+1)→PySem.IsPair g s.heap.objs.size x y→
      (∀ c o,c≠z→c≠to→c≠i→c≠j→s.heap.get? c=some o→g.get? c=some o)→Q (some (.ref s.heap.objs.size)) { s with heap:=g }):wpAny (model prog w) A (pyNext (.ref z)) Q E s:=by
  obtain ⟨zz,zt,⟨u,v,zo⟩,zi,zj⟩:=S
  obtain ⟨nd,na,nb⟩:=Z
  simp only[List.nodup_cons,List.mem_cons,List.not_mem_nil,or_false,not_or] at nd na nb
  obtain ⟨⟨n1,n2,n3,n4⟩,⟨n5,n6,n7⟩,⟨n8,n9⟩,n10,_⟩:=nd
  obtain ⟨a1,a2,a3,a4⟩:=na
  obtain ⟨b1,b2,b3,b4⟩:=nb
  have hT:s.TypeIs (.ref z) "zip" := ⟨_,zz,rfl⟩
  unfold pyNext
  refine wpAny_bind (wpAny_attempt (wpAny_callSpecial?_slot (name:=Str.ofString "__next__") hT F.slot_zip_next (wpAny_call_entry F.slot_zip_next hT F.entry_zip_next ?_ (F.args_zip_next_1 _))))
  refine wpAny_bind (m:=field (.ref z) 2) (wpAny_field zz rfl (x:=.bool false) rfl ?_)
  refine wpAny_bind (m:=field (.ref z) 3) (wpAny_field zz rfl (x:=.ref ti) rfl (wpAny_bind (wpAny_seqItems zt rfl (wpAny_bind (m:=Builtin.SmallTypes.ownedTupleIsFree (.ref z)) ?_))))
  delta Builtin.SmallTypes.ownedTupleIsFree
  refine wpAny_bind (wpAny_field zz rfl (x:=.none) rfl (wpAny_pure ?_))
  simp only[if_true]
  refine wpAny_bind (wpAny_rule (wpAny_bind (wpAny_field zz rfl (x:=.ref to) rfl (wpAny_bind (wpAny_setField_rec zz (by simp) fun g1 zz1 k1=>wpAny_bind ?_)))))
  have zz1:PySem.IsZip g1 z ti to .ellipsis:=zz1
  simp only[List.zipIdx_nil,List.zipIdx_cons,List.forIn_nil,List.forIn_cons]
  refine wpAny_bind (wpAny_bind (wpAny_onRaise (wpAny_bind (m:=Builtin.SmallTypes.nextOf (.ref i)) (oM (s:={ s with heap:=g1 }) (zi.at fun o e=>(k1.2 i (Ne.symm n3)).trans e) (ha.at fun o e=>(k1.2 a a1).trans e) hx fun g2 zi2 k2=>wpAny_pure ?_))))
  have zo2:PySem.IsPair g2 to u v:=(k2.2 to n8).trans ((k1.2 to (Ne.symm n2)).trans zo)
  refine wpAny_bind (wpAny_seqItems zo2 rfl (wpAny_bind (PySem.wpAny_updateSeq_pair zo2 fun g3 zo3 k3=>wpAny_bind (wpAny_letGo (wpAny_pure ?_)))))
  have zo3:PySem.IsPair g3 to x v:=zo3
  refine wpAny_bind (wpAny_bind (wpAny_onRaise (wpAny_bind (m:=Builtin.SmallTypes.nextOf (.ref j)) (oM (s:={ s with heap:=g3 }) (zj.at fun o e=>(k3.2 j (Ne.symm n9)).trans ((k2.2 j (Ne.symm n10)).trans ((k1.2 j (Ne.symm n4)).trans e)))
    (hb.at fun o e=>(k3.2 b b2).trans ((k2.2 b b3).trans ((k1.2 b b1).trans e))) hy fun g4 zj4 k4=>wpAny_pure ?_))))
  have zo4:PySem.IsPair g4 to x v:=(k4.2 to n9).trans zo3
  refine wpAny_bind (wpAny_seqItems zo4 rfl (wpAny_bind (PySem.wpAny_updateSeq_pair zo4 fun g5 zo5 k5=>wpAny_bind (wpAny_letGo (wpAny_pure (wpAny_pure ?_))))))
  have zo5:PySem.IsPair g5 to x y:=zo5
  refine wpAny_bind (wpAny_seqItems zo5 rfl (wpAny_bind (wpAny_newTuple (wpAny_bind (m:=Builtin.SmallTypes.ownedTupleHandOut (.ref z) (.ref g5.objs.size)) ?_))))
  have sz:g5.objs.size=s.heap.objs.size:=by rw[k5.1,k4.1,k3.1,k2.1,k1.1]
  have zz5:PySem.IsZip g5 z ti to .ellipsis:=(k5.2 z n2).trans ((k4.2 z n4).trans ((k3.2 z n2).trans ((k2.2 z n3).trans zz1)))
  have zlt:z < g5.objs.size:=Heap.lt_size zz5
  delta Builtin.SmallTypes.ownedTupleHandOut
  have zz6:PySem.IsZip (g5.push { cls:=.type "tuple", data:=.seq #[x,y] }) z ti to .ellipsis:=Heap.get?_push_of_some _ zz5
  refine wpAny_bind (wpAny_setField_rec zz6 (by simp) fun g7 zz7 k7=>?_)
  have zz7:PySem.IsZip g7 z ti to (rawInt g5.objs.size):=zz7
  refine wpAny_setField_rec zz7 (by simp) fun g8 zz8 k8=>wpAny_pure ⟨_,rfl,wpAny_pure ?_⟩
  have up5:∀ c o,c≠z→g5.get? c=some o→g8.get? c=some o:=fun c o c1 e=>(k8.2 c c1).trans ((k7.2 c c1).trans (Heap.get?_push_of_some _ e))
  have QI:PySem.IsPair g8 g5.objs.size x y:=(k8.2 _ (Nat.ne_of_gt zlt)).trans ((k7.2 _ (Nat.ne_of_gt zlt)).trans (Heap.get?_push_size _ rfl))
  have zz8:PySem.IsZip g8 z ti to (rawInt g5.objs.size):=zz8
  rw[sz] at zz8 QI
  have all:∀ c o,c≠z→c≠to→c≠i→c≠j→s.heap.get? c=some o→g8.get? c=some o:=fun c o c1 c2 c3 c4 e=>up5 c o c1 ((k5.2 c c2).trans ((k4.2 c c4).trans ((k3.2 c c2).trans ((k2.2 c c3).trans ((k1.2 c c1).trans e)))))
  have fin:=q g8 zz8 (all ti _ (Ne.symm n1) n5 n6 n7 zt) (up5 to _ (Ne.symm n2) zo5) (zi2.at fun o e=>up5 i o (Ne.symm n3) ((k5.2 i (Ne.symm n8)).trans ((k4.2 i n10).trans ((k3.2 i (Ne.symm n8)).trans e)))) (zj4.at fun o e=>up5 j o (Ne.symm n4) ((k5.2 j (Ne.symm n9)).trans e)) QI all
  rw[← sz] at fin
  exact fin
theorem Gp {ta tb:Bool}{z ti to i j a b:Addr}{k:Nat}{xs ys:Array Value}{Q:Option Value→Shared→Prop}(hh:A.handled=none)(Z:Zp z ti to i j a b)(S:ZAt ta tb s.heap z ti to i j a b k)(ha:fX ta s.heap a xs)(hb:fX tb s.heap b ys)(he:xs[k]? = none∨ys[k]? = none)
    (q:∀ g,(∀ c o,c≠z→c≠to→c≠i→c≠j→s.heap.get? c=some o→g.get? c=some o)→Q none { s with heap:=g }):wpAny (model prog w) A (pyNext (.ref z)) Q E s:=by
  obtain ⟨zz,zt,⟨u,v,zo⟩,zi,zj⟩:=S
  obtain ⟨nd,na,nb⟩:=Z
  simp only[List.nodup_cons,List.mem_cons,List.not_mem_nil,or_false,not_or] at nd na nb
  obtain ⟨⟨n1,n2,n3,n4⟩,⟨n5,n6,n7⟩,⟨n8,n9⟩,n10,_⟩:=nd
  obtain ⟨a1,a2,a3,a4⟩:=na
  obtain ⟨b1,b2,b3,b4⟩:=nb
  have hT:s.TypeIs (.ref z) "zip" := ⟨_,zz,rfl⟩
  have stop:∀ g e,(∃ o,g.get? e=some o∧o.cls=.type "StopIteration")→(∀ c o,c≠z→c≠to→c≠i→c≠j→s.heap.get? c=some o→g.get? c=some o)→
      wpAny (model prog w) A (isInstance (.ref e) (.type "StopIteration") >>= fun y=>if y=true then pure none else throw (.ref e)) Q E { s with heap:=g }:=fun g e ⟨o,ho,hc⟩ al=>by
    refine wpAny_bind <| wpAny_isInstance (T := "StopIteration") (b:=true) ⟨o,ho,hc⟩ isSubtype_stop ?_
    exact wpAny_pure (q g al)
  unfold pyNext
  refine wpAny_bind (wpAny_attempt (wpAny_callSpecial?_slot (name:=Str.ofString "__next__") hT F.slot_zip_next (wpAny_call_entry F.slot_zip_next hT F.entry_zip_next ?_ (F.args_zip_next_1 _))))
  refine wpAny_bind (m:=field (.ref z) 2) (wpAny_field zz rfl (x:=.bool false) rfl ?_)
  refine wpAny_bind (m:=field (.ref z) 3) (wpAny_field zz rfl (x:=.ref ti) rfl (wpAny_bind (wpAny_seqItems zt rfl (wpAny_bind (m:=Builtin.SmallTypes.ownedTupleIsFree (.ref z)) ?_))))
  delta Builtin.SmallTypes.ownedTupleIsFree
  refine wpAny_bind (wpAny_field zz rfl (x:=.none) rfl (wpAny_pure ?_))
  simp only[if_true]
  refine wpAny_bind (wpAny_rule (wpAny_bind (wpAny_field zz rfl (x:=.ref to) rfl (wpAny_bind (wpAny_setField_rec zz (by simp) fun g1 zz1 k1=>wpAny_bind ?_)))))
  have zz1:PySem.IsZip g1 z ti to .ellipsis:=zz1
  simp only[List.zipIdx_nil,List.zipIdx_cons,List.forIn_nil,List.forIn_cons]
  have zi1:iu ta g1 i a k:=zi.at fun o e=>(k1.2 i (Ne.symm n3)).trans e
  have ha1:fX ta g1 a xs:=ha.at fun o e=>(k1.2 a a1).trans e
  refine wpAny_bind (wpAny_bind (wpAny_onRaise (wpAny_bind (m:=Builtin.SmallTypes.nextOf (.ref i)) ?_)))
  cases hx:xs[k]? with
  | none=>
    refine Ai (s:={ s with heap:=g1 }) hh zi1 ha1 hx fun g2 e k2 he2=>?_
    obtain ⟨oe,ge,ce⟩:=he2
    have zz2:PySem.IsZip g2 z ti to .ellipsis:=k2 z _ n3 zz1
    have ez:e≠z:=fun y=>by subst y;rw[zz2] at ge;cases ge;simp at ce
    refine wpAny_setField_rec zz2 (by simp) fun g3 _ k3=>stop g3 e ⟨oe,(k3.2 e ez).trans ge,ce⟩ fun c o c1 _ c3 _ y=>(k3.2 c c1).trans (k2 c o c3 ((k1.2 c c1).trans y))
  | some x=>
    have hy:ys[k]? = none:=by rcases he with h | h;rw[hx] at h;cases h;exact h
    refine oM (s:={ s with heap:=g1 }) zi1 ha1 hx fun g2 zi2 k2=>wpAny_pure ?_
    have zo2:PySem.IsPair g2 to u v:=(k2.2 to n8).trans ((k1.2 to (Ne.symm n2)).trans zo)
    refine wpAny_bind (wpAny_seqItems zo2 rfl (wpAny_bind (PySem.wpAny_updateSeq_pair zo2 fun g3 zo3 k3=>wpAny_bind (wpAny_letGo (wpAny_pure ?_)))))
    refine wpAny_bind (wpAny_bind (wpAny_onRaise (wpAny_bind (m:=Builtin.SmallTypes.nextOf (.ref j)) (Ai (s:={ s with heap:=g3 }) hh (zj.at fun o e=>(k3.2 j (Ne.symm n9)).trans ((k2.2 j (Ne.symm n10)).trans ((k1.2 j (Ne.symm n4)).trans e)))
      (hb.at fun o e=>(k3.2 b b2).trans ((k2.2 b b3).trans ((k1.2 b b1).trans e))) hy fun g4 e k4 he4=>?_))))
    obtain ⟨oe,ge,ce⟩:=he4
    have zz4:PySem.IsZip g4 z ti to .ellipsis:=k4 z _ n4 ((k3.2 z n2).trans ((k2.2 z n3).trans zz1))
    have ez:e≠z:=fun y=>by subst y;rw[zz4] at ge;cases ge;simp at ce
    refine wpAny_setField_rec zz4 (by simp) fun g5 _ k5=>stop g5 e ⟨oe,(k5.2 e ez).trans ge,ce⟩ fun c o c1 c2 c3 c4 y=>(k5.2 c c1).trans (k4 c o c4 ((k3.2 c c2).trans ((k2.2 c c3).trans ((k1.2 c c1).trans y))))
abbrev itO (tp:Bool)(a:Addr):Obj:={ cls:=.type (match tp with | true => "tuple_iterator" | false => "list_iterator"),data:=.fields #[.ref a,.int 0 0] }
theorem JF {tp:Bool}{a:Addr}{xs:Array Value}{Q:Value→Shared→Prop}(h:fX tp s.heap a xs)(q:Q (.ref s.heap.objs.size) { s with heap:=s.heap.push (itO tp a) }):wpAny (model prog w) A (pyIter (.ref a)) Q E s:=by
  cases tp with
  | true=>exact wpAny_pyIter_tuple h q
  | false=>exact wpAny_pyIter_list h q
abbrev zg1 (ta:Bool)(h:Heap)(a:Addr):Heap:=h.push (itO ta a)
abbrev zg2 (ta tb:Bool)(h:Heap)(a b:Addr):Heap:=(zg1 ta h a).push (itO tb b)
abbrev zg3 (ta tb:Bool)(h:Heap)(a b:Addr):Heap:=(zg2 ta tb h a b).push { cls:=.type "tuple", data:=.seq #[.ref h.objs.size,.ref (zg1 ta h a).objs.size] }
abbrev zg4 (ta tb:Bool)(h:Heap)(a b:Addr):Heap:=(zg3 ta tb h a b).push { cls:=.type "tuple", data:=.seq #[.none,.none] }
abbrev zg5 (ta tb:Bool)(h:Heap)(a b:Addr):Heap:=(zg4 ta tb h a b).push { cls:=.type "zip", data:=.fields #[.none,.bool false,.bool false,.ref (zg2 ta tb h a b).objs.size,.ref (zg3 ta tb h a b).objs.size] }
theorem GU (ta tb:Bool)(a b:Addr)(xs ys:Array Value):Meets (Builtin.«zip.__new__» ⟨[.type "zip", .ref a,.ref b],[]⟩) (fun _ R s=>fX ta s.heap a xs∧fX tb s.heap b ys∧R (.ok (.ret (.ref (zg4 ta tb s.heap a b).objs.size))) { s with heap:=zg5 ta tb s.heap a b }):=
  .of_wp fun prog w A R s h=>by
    rcases s with ⟨hp,g,d,tk,os⟩
    obtain ⟨h1,h2,h⟩:=h
    have hs0:=PySem.sub_zip
    have H1:fX ta (Shared.heap ⟨hp,g,d,tk,os⟩) a xs:=h1
    have H2:fX tb (Shared.heap ⟨hp.push (itO ta a),g,d,tk,os⟩) b ys:=fX.at h2 fun o e=>Heap.get?_push_of_some _ e
    wp_walk using JF H1,JF H2
    exact ⟨_,rfl,h⟩
theorem CU {ta tb:Bool}{a b:Addr}{xs ys:Array Value}{Q:Value→Shared→Prop}(h1:fX ta s.heap a xs)(h2:fX tb s.heap b ys)
    (q:∀ g,ZAt ta tb g (s.heap.objs.size+4) (s.heap.objs.size+2) (s.heap.objs.size+3) s.heap.objs.size (s.heap.objs.size+1) a b 0→(∀ c o,s.heap.get? c=some o→g.get? c=some o)→Q (.ref (s.heap.objs.size+4)) { s with heap:=g }) :
    wpAny (model prog w) A (call (.type "zip") [.ref a,.ref b]) Q E s:=by
  refine callType_new F.called_zip (by decide) (F.typeCall_zip_2 _ _) (F.newCall_zip_2 _ _) (fun obj=>F.args_object_init_3 obj _ _) F.entry_zip_new (GU ta tb a b xs ys) ⟨h1,h2,?_⟩
  have s1:(zg1 ta s.heap a).objs.size=s.heap.objs.size+1:=Heap.size_push ..
  have s2:(zg2 ta tb s.heap a b).objs.size=s.heap.objs.size+2:=by rw[Heap.size_push,s1]
  have s3:(zg3 ta tb s.heap a b).objs.size=s.heap.objs.size+3:=by rw[Heap.size_push,s2]
  have s4:(zg4 ta tb s.heap a b).objs.size=s.heap.objs.size+4:=by rw[Heap.size_push,s3]
  have p5:(zg5 ta tb s.heap a b).get? (zg4 ta tb s.heap a b).objs.size=some _:=Heap.get?_push_size _ rfl
  have p4:(zg5 ta tb s.heap a b).get? (zg3 ta tb s.heap a b).objs.size=some _:=Heap.get?_push_of_some _ (Heap.get?_push_size _ rfl)
  have p3:(zg5 ta tb s.heap a b).get? (zg2 ta tb s.heap a b).objs.size=some _:=Heap.get?_push_of_some _ (Heap.get?_push_of_some _ (Heap.get?_push_size _ rfl))
  have p2:(zg5 ta tb s.heap a b).get? (zg1 ta s.heap a).objs.size=some (itO tb b):=Heap.get?_push_of_some _ (Heap.get?_push_of_some _ (Heap.get?_push_of_some _ (Heap.get?_push_size _ rfl)))
  have p1:(zg5 ta tb s.heap a b).get? s.heap.objs.size=some (itO ta a):=Heap.get?_push_of_some _ (Heap.get?_push_of_some _ (Heap.get?_push_of_some _ (Heap.get?_push_of_some _ (Heap.get?_push_size _ rfl))))
  have i1:iu ta (zg5 ta tb s.heap a b) s.heap.objs.size a 0:=by cases ta<;>exact ⟨_,p1,rfl,rfl⟩
  have i2:iu tb (zg5 ta tb s.heap a b) (zg1 ta s.heap a).objs.size b 0:=by cases tb<;>exact ⟨_,p2,rfl,rfl⟩
  show _∧_
  rw[s2,s3,s4] at p5
  rw[s1,s2] at p3
  rw[s3] at p4
  rw[s1] at i2
  rw[s4]
  exact ⟨⟨_,p5,rfl⟩,q _ ⟨p5,p3,⟨_,_,p4⟩,i1,i2⟩ fun c o x=>Heap.get?_push_of_some _ (Heap.get?_push_of_some _ (Heap.get?_push_of_some _ (Heap.get?_push_of_some _ (Heap.get?_push_of_some _ x))))⟩
end
def Sq (tp:Bool)(K:PySem.W.Frag)(H:Hp)(a:Addr)(xs:List V):Prop:=match tp with
  | true=>SqT K H a xs
  | false=>SqF K H a xs
theorem Inv.sq {X:Cx}{pins:List (Addr×Obj)}{σ:L2.St}{H:Hp}{s:Shared}{tp:Bool}{a:Addr}{xs:List V}(I:Inv X pins σ H s)(h:Sq tp X.K H a xs):∃ its:List Value,Vals xs its∧fX tp s.heap a its.toArray:=by
  cases tp with
  | true=>obtain ⟨its,r,p,_⟩:=I.tuple h;exact ⟨its,r,p⟩
  | false=>
    obtain ⟨its,r,⟨o,n,e1,e2,_,e3⟩,_⟩:=I.list (SqF.sq h)
    exact ⟨its,r,o,e1,e2,n,e3⟩
theorem Inv.zS {X:Cx}{pins:List (Addr×Obj)}{σ:L2.St}{H:Hp}{s:Shared}{tp:Bool}{a:Addr}{xs ys:List V}(I:Inv X pins σ H s)(h:Sq tp X.K H a xs)(h':Sq tp X.K H a ys):xs=ys:=by
  cases tp with
  | true=>exact I.sI h h'
  | false=>exact I.xN (SqF.sq h) (SqF.sq h')
def Itz (ta tb:Bool)(K:PySem.W.Frag)(a b:Addr):It:=
  ⟨fun i H=>∃ xs ys x y,Sq ta K H a xs∧Sq tb K H b ys∧xs[i]? = some x∧ys[i]? = some y,
   fun i H v H'=>∃ x y p,(∀ xs,Sq ta K H a xs→xs[i]? = some x)∧(∀ ys,Sq tb K H b ys→ys[i]? = some y)∧v=.ref p∧H p=none∧H'=L2.upd H p (.tup [x,y]),
   fun i H=>∃ xs ys,Sq ta K H a xs∧Sq tb K H b ys∧(xs.length≤i∨ys.length≤i)⟩
theorem E3 {P:Program}{w:World}{K:PySem.W.Frag}{es:List Expr}{ek:Nat}{ep:Pos}{ta tb:Bool}{z ti to i j a b:Addr}(Z:Zp z ti to i j a b) :
    Turn P w K (.Tuple es ek ep) (Itz ta tb K a b) [z,ti,to,i,j] z (fun k h=>ZAt ta tb h z ti to i j a b k) where
  mem:=by simp
  obj:=fun k h S c hc=>by
    obtain ⟨zz,zt,⟨u,v,zo⟩,zi,zj⟩:=S
    simp only[List.mem_cons,List.not_mem_nil,or_false] at hc
    rcases hc with rfl | rfl | rfl | rfl | rfl
    · exact ⟨_,zz,fun v y=>by cases y⟩
    · exact ⟨_,zt,fun v y=>by cases y⟩
    · exact ⟨_,zo,fun v y=>by cases y⟩
    · obtain ⟨o,e,vs,d⟩:=zi.ex;exact ⟨o,e,fun v y=>by rw[d] at y;cases y⟩
    · obtain ⟨o,e,vs,d⟩:=zj.ex;exact ⟨o,e,fun v y=>by rw[d] at y;cases y⟩
  keep:=fun k h g S kp=>by
    obtain ⟨zz,zt,⟨u,v,zo⟩,zi,zj⟩:=S
    exact ⟨kp z (by simp) _ zz,kp ti (by simp) _ zt,⟨u,v,kp to (by simp) _ zo⟩,zi.at fun o e=>kp i (by simp) o e,zj.at fun o e=>kp j (by simp) o e⟩
  item:=by
    intro X hP hw hK hc k pins s σ H E I hf S hg
    subst hP hw hK
    obtain ⟨xs,ys,x,y,qa,qb,ex,ey⟩:=hg
    obtain ⟨ia,ra,sa⟩:=Inv.sq I qa
    obtain ⟨ib,rb,sb⟩:=Inv.sq I qb
    obtain ⟨ux,hux,rx⟩:=ra.get ex
    obtain ⟨uy,huy,ry⟩:=rb.get ey
    refine DU Z S sa sb (x:=ux) (y:=uy) (by simpa using hux) (by simpa using huy) fun g zz zt zo zi zj new al=>⟨_,rfl,wpAny_letOwnedTupleGo_zip zz fun g2 zz2 k2=>?_⟩
    have nd:=Z.nd
    simp only[List.nodup_cons,List.mem_cons,List.not_mem_nil,or_false,not_or] at nd
    obtain ⟨⟨n1,n2,n3,n4⟩,_⟩:=nd
    have zlt:z < s.heap.objs.size:=Heap.lt_size S.zz
    have fr:H s.heap.objs.size=none:=I.hok.fresh (Nat.le_refl _)
    have new2:PySem.IsPair g2 s.heap.objs.size ux uy:=(k2.2 _ (Nat.ne_of_gt zlt)).trans new
    have all:∀ c o,c ∉ [z,ti,to,i,j]→s.heap.get? c=some o→g2.get? c=some o:=fun c o hc e=>by
      simp only[List.mem_cons,List.not_mem_nil,or_false,not_or] at hc
      exact (k2.2 c hc.1).trans (al c o hc.1 hc.2.2.1 hc.2.2.2.1 hc.2.2.2.2 e)
    have nfp:∀ c u,H c=some u→c ∉ [z,ti,to,i,j]:=fun c u e hc=>by rw[(hf c hc).1] at e;cases e
    refine ⟨.ref s.heap.objs.size,L2.upd H s.heap.objs.size (.tup [x,y]),?_,rfl,⟨x,y,_,fun xs' q=>by rw[Inv.zS I q qa];exact ex,fun ys' q=>by rw[Inv.zS I q qb];exact ey,rfl,fr,rfl⟩,⟨zz2,(k2.2 ti (Ne.symm n1)).trans zt,⟨_,_,(k2.2 to (Ne.symm n2)).trans zo⟩,zi.at fun o e=>(k2.2 i (Ne.symm n3)).trans e,zj.at fun o e=>(k2.2 j (Ne.symm n4)).trans e⟩,fun c hc=>?_⟩
    · refine L2.Inv.step (s:=s) (H:=H) (H':=L2.upd H s.heap.objs.size (.tup [x,y])) (g':=s.gens) (d':=s.drawn) (t':=s.toks) (h':=g2) (ch:=[z,ti,to,i,j]) I (fun c hc=>⟨(hf c hc).2.2.2.1,(hf c hc).2.1,(hf c hc).2.2.2.2.1,(hf c hc).2.2.2.2.2⟩) (fun c o _ _ hc e _=>all c o hc e) (fun c o _ _ hc e _=>⟨o.slots,all c o hc e⟩) (fun c o hc e n=>?_) (fun c o hc e=>⟨o,all c o hc e⟩)
        (fun c xs e=>?_) (fun c o u e=>?_) (fun c ps e=>⟨#[],?_⟩) (fun m hm=>?_) (fun c u e=>?_) I.bare
      · rw[aL (Nat.ne_of_lt (Heap.lt_size e))];exact n
      · rw[aL (bf e fr)];exact e
      · rw[aL (bf e fr)];exact e
      · rw[aL (bf e fr),e];simp
      · obtain ⟨o,es',ep',ho,r⟩:=hm
        exact ⟨o,es',ep',all _ o (fun hc=>(hf _ hc).2.1 rfl) ho,r⟩
      · by_cases hcT:c=s.heap.objs.size
        · subst hcT
          rw[aM] at e;cases e
          exact ⟨by show 2≤sizeLine;decide,[ux,uy],.cons rx (.cons ry .nil),⟨_,new2⟩⟩
        · rw[aL hcT] at e
          refine (I.hok c u e).lI (fun c' v hc' q=>all c' v ?_ q) (fun c' q=>by rw[aL (bf q fr)];exact q) fun c' xs q=>by rw[aL (bf q fr)];exact q
          rcases hc' with rfl | hc'
          · exact nfp _ _ e
          · exact nfp _ _ hc'
    · have hcl:c≠s.heap.objs.size:=by
        obtain ⟨zz,zt,⟨u,v,zo⟩,zi,zj⟩:=S
        simp only[List.mem_cons,List.not_mem_nil,or_false] at hc
        rcases hc with rfl | rfl | rfl | rfl | rfl
        · exact Nat.ne_of_lt (Heap.lt_size zz)
        · exact Nat.ne_of_lt (Heap.lt_size zt)
        · exact Nat.ne_of_lt (Heap.lt_size zo)
        · obtain ⟨o,e,_⟩:=zi.ex;exact Nat.ne_of_lt (Heap.lt_size e)
        · obtain ⟨o,e,_⟩:=zj.ex;exact Nat.ne_of_lt (Heap.lt_size e)
      rw[aL hcl];exact (hf c hc).1
  done:=by
    intro X hP hw hK hc k pins s σ H E I hf S hg
    subst hP hw hK
    obtain ⟨xs,ys,qa,qb,he⟩:=hg
    obtain ⟨ia,ra,sa⟩:=Inv.sq I qa
    obtain ⟨ib,rb,sb⟩:=Inv.sq I qb
    have la:=ra.length
    have lb:=rb.length
    refine Gp (I.ok.hd hc) Z S sa sb (he.imp (fun h=>by simp;omega) fun h=>by simp;omega) fun g al=>⟨rfl,?_⟩
    have all:∀ c o,c ∉ [z,ti,to,i,j]→s.heap.get? c=some o→g.get? c=some o:=fun c o hc e=>by
      simp only[List.mem_cons,List.not_mem_nil,or_false,not_or] at hc
      exact al c o hc.1 hc.2.2.1 hc.2.2.2.1 hc.2.2.2.2 e
    have nfp:∀ c u,H c=some u→c ∉ [z,ti,to,i,j]:=fun c u e hc=>by rw[(hf c hc).1] at e;cases e
    refine L2.Inv.step (s:=s) (H:=H) (H':=H) (g':=s.gens) (d':=s.drawn) (t':=s.toks) (h':=g) (ch:=[z,ti,to,i,j]) I (fun c hc=>⟨(hf c hc).2.2.2.1,(hf c hc).2.1,(hf c hc).2.2.2.2.1,(hf c hc).2.2.2.2.2⟩) (fun c o _ _ hc e _=>all c o hc e) (fun c o _ _ hc e _=>⟨o.slots,all c o hc e⟩) (fun c o hc e n=>n) (fun c o hc e=>⟨o,all c o hc e⟩)
      (fun c xs e=>e) (fun c o u e=>e) (fun c ps e=>⟨#[],by rw[e];simp⟩) (fun m hm=>?_) (fun c u e=>?_) I.bare
    · obtain ⟨o,es',ep',ho,r⟩:=hm
      exact ⟨o,es',ep',all _ o (fun hc=>(hf _ hc).2.1 rfl) ho,r⟩
    · refine (I.hok c u e).lI (fun c' v hc' q=>all c' v ?_ q) (fun c' q=>q) fun c' xs q=>q
      rcases hc' with rfl | hc'
      · exact nfp _ _ e
      · exact nfp _ _ hc'
  self:=fun _ _ _ _ _ S h=>wpAny_pyIter_zip S.zz h
theorem RK (n a b:Nat)(ha:a < n)(hb:b < n):Zp (n+4) (n+2) (n+3) n (n+1) a b:=by
  refine ⟨?_,?_,?_⟩
  · show ([n+4,n+2,n+3,n,n+1]:List Nat).Nodup
    simp only[List.nodup_cons,List.mem_cons,List.not_mem_nil,or_false,not_or,List.nodup_nil,and_true,not_false_eq_true]
    and_intros<;>omega
  · show a ∉ ([n+4,n+3,n,n+1]:List Nat)
    simp only[List.mem_cons,List.not_mem_nil,or_false,not_or]
    omega
  · show b ∉ ([n+4,n+3,n,n+1]:List Nat)
    simp only[List.mem_cons,List.not_mem_nil,or_false,not_or]
    omega
theorem Mw (n c:Nat)(h:c∈([n+4,n+2,n+3,n,n+1]:List Nat)):n≤c:=by
  simp only[List.mem_cons,List.not_mem_nil,or_false] at h
  omega
section
variable {X:Cx} {ea eb:Expr} {es:List Expr} {ek:Nat} {ep p pos:Pos}
def kQ (tp:Bool)(x:D)(f:List D→Prop):Prop:=match tp,x with
  | true,.tup ds=>f ds
  | false,.ls ds=>f ds
  | _,_=>False
theorem yL {K:PySem.W.Frag}{H:Hp}{tp:Bool}{v:V}{x:D}{f:List D→Prop}(p:Dp K H v x)(h:kQ tp x f):∃ a xs ds,v=.ref a∧Sq tp K H a xs∧DpL K H xs ds∧f ds:=by
  cases tp with
  | true=>cases p with
    | @tup a xs ds q l=>exact ⟨a,xs,ds,rfl,q,l,h⟩
    | _=>exact False.elim h
  | false=>cases p with
    | @ls a xs ds q l=>exact ⟨a,xs,ds,rfl,q,l,h⟩
    | _=>exact False.elim h
theorem Tk.sq {K:PySem.W.Frag}{H H':Hp}{tp:Bool}{a:Addr}{xs:List V}(t:Tk H H')(h:Sq tp K H a xs):Sq tp K H' a xs:=by
  cases tp with
  | true=>exact t.sqT h
  | false=>exact t.sqF h
end
end
section
open PySem PySem.Spec PyProof.Rows L2
def kObj (x:D)(f:Addr→Prop):Prop:=match x with
  | .obj a=>f a
  | _=>False
theorem iA (a:Addr)(f):kObj (.obj a) f=f a:=rfl
section
variable {X:Cx} {o a b c e:Expr} {To Ta Tb Tc Te T T':ETr} {pos:Pos}
theorem LE.imp (h:LE X e T)(k:∀ ρ μ Q,T' ρ μ Q→T ρ μ Q):LE X e T':=by
  obtain ⟨t,p,s⟩:=h.ex
  exact ⟨t,p,fun σ H ρ μ Q Q' rl hh post=>s σ H ρ μ Q Q' rl (k _ _ _ hh) post⟩
theorem Ro {K:PySem.W.Frag}{H:Hp}{μ:Mu}{q:Addr}{u:HO}(m:bJ K H μ)(t:Tk H (L2.upd H q u)):bJ K (L2.upd H q u) (dn μ q):=fun z y ez=>by
  have zq:z≠q:=fun w=>by subst w;unfold dn at ez;rw[if_pos rfl] at ez;cases ez
  have ez':μ z=some y:=by unfold dn at ez;rw[if_neg zq] at ez;exact ez
  exact (m z _ ez').ne t zq
theorem kz {H:Hp}{q:Addr}{u:HO}{xs:List V}(ex:H q=some (.lst xs)):Tk H (L2.upd H q u):=
  .upd (fun ys z=>by rw[ex] at z;cases z) fun o' w z=>by rw[ex] at z;cases z
theorem Hr {K:PySem.W.Frag}{H:Hp}{μ:Mu}{q:Addr}{xs ys:List V}{ds:List D}(m:bJ K H μ)(ex:H q=some (.lst xs))(l:DpL K H ys ds):bJ K (L2.upd H q (.lst ys)) (up μ q (.lst ds)):=fun z y ez=>by
  by_cases zq:z=q
  · subst zq
    rw[aG] at ez;cases ez
    exact ⟨ys,aM,l.mono (kz ex)⟩
  · rw[aU zq] at ez
    exact (m z _ ez).ne (kz ex) zq
theorem y6 {K:PySem.W.Frag}{H:Hp}{μ:Mu}{q:Addr}{ys:List V}{ds:List D}(m:bJ K H μ)(hq:H q=none)(l:DpL K H ys ds):bJ K (L2.upd H q (.lst ys)) (up μ q (.lst ds)):=fun z y ez=>by
  by_cases zq:z=q
  · subst zq
    rw[aG] at ez;cases ez
    exact ⟨ys,aM,l.mono (.new hq)⟩
  · rw[aU zq] at ez
    exact c5 m hq z y ez
def uK (T:ETr):ETr:=fun ρ μ Q=>T ρ μ fun x μ1=>kObj x fun a=>kL μ1 a fun ds=>Q (.ls ds) (dn μ1 a)
theorem uF (h:LE X e T):LE X e (uK T):=by
  obtain ⟨t,p,s⟩:=h.ex
  refine ⟨_,jl p,fun σ H ρ μ Q Q' rl h k=>s σ H ρ μ _ _ rl h fun v H1 d μ1 t1 m1 p1 h1=>?_⟩
  cases p1 with
  | obj q=>
    obtain ⟨ds,e0,h2⟩:=bK h1
    obtain ⟨xs,ex,l⟩:=m1 q _ e0
    refine ⟨q,xs,rfl,ex,fun u=>?_⟩
    have t2:Tk H1 (L2.upd H1 q (.frz u (.lst xs))):=kz ex
    exact k _ _ _ (dn μ1 q) (t1.trans t2) (Ro m1 t2) (.ls (.inl ⟨u,aM⟩) (l.mono t2)) h2
  | _=>exact False.elim h1
def lR (To Te:ETr):ETr:=fun ρ μ Q=>To ρ μ fun x μ1=>kObj x fun a=>kL μ1 a fun _=>Te ρ μ1 fun y μ2=>kL μ2 a fun ds=>ds.length < 1000000∧Q .non (up μ2 a (.lst (ds++[y])))
theorem le_app {apos cpos:Pos}(ho:LE X o To)(he:LE X e Te)
    (hbase:attributeBase o (Str.ofString "append") X.env (eval o X.env)=eval o X.env:=by rfl)
    (hfew:((backTo cpos (starEach [e] X.env)).all (fun x=>!x.1)&&(backToKw cpos (keywordEach [] X.env)).all (fun x=>x.1.isSome)
      && decide ([e].length+([]:List Keyword).length+(if ([]:List Keyword).isEmpty then 0 else 1) < 30))=true:=by rfl)
    (hline:(apos.endLine == cpos.line)=true:=by rfl) (hs:starEach [e] X.env=(false,eval e X.env)::starEach [] X.env:=by rfl) (hplain:(backTo cpos (starEach [] X.env)).any (·.1)=false:=by rfl) :
    LE X (.Call (.Attribute o (Str.ofString "append") apos) [e] [] cpos) (lR To Te):=by
  obtain ⟨to,po,so⟩:=ho.ex
  obtain ⟨te,pe,se⟩:=he.ex
  refine ⟨_,Cn PySem.F.plainAttrs_list PySem.F.slot_list_append PySem.F.type_list_append jZ po (eV pe iM hs) hbase hfew hline hs hplain,fun σ H ρ μ Q Q' rl h k=>so σ H ρ μ _ _ rl h fun x H1 dx μ1 t1 m1 p1 h1=>?_⟩
  cases p1 with
  | obj q=>
    obtain ⟨ds0,e0,h2⟩:=bK h1
    obtain ⟨xs0,ex0,_⟩:=m1 q _ e0
    refine ⟨.inl ⟨rfl,_,SqL.of ex0⟩,se σ H1 ρ μ1 _ _ (rl.go t1 m1) h2 fun y H2 dy μ2 t2 m2 p2 h3=>?_⟩
    obtain ⟨ds,e1,lz,h4⟩:=bK h3
    obtain ⟨xs,ex,l⟩:=m2 q _ e1
    exact ⟨q,xs,y,rfl,rfl,ex,by rw[l.length];exact Nat.lt_of_lt_of_le lz (by decide),k _ _ _ _ ((t1.trans t2).trans (kz ex)) (Hr m2 ex (l.append (.cons p2 .nil))) .non h4⟩
  | _=>exact False.elim h1
def bh:FSp:=fun ds μ Q=>match ds with
  | [.tup xs]=>Q (.tup xs) μ
  | [.ls xs]=>Q (.tup xs) μ
  | [.obj a]=>kL μ a fun xs=>Q (.tup xs) μ
  | _=>False
theorem aY {K:PySem.W.Frag}:kM K (fun xs H Q=>∃ p ys,xs=[.ref p]∧((SqL K H p ys∧∀ l,H l=none→Q (.ref l) (L2.upd H l (.tup ys)))∨(SqT K H p ys∧Q (.ref p) H))) bh:=fun H μ xs ds Q Q' m p h k=>by
  unfold bh at h
  split at h
  · cases p with | cons p1 p2=>cases p2;cases p1 with | tup q l=>exact ⟨_,_,rfl,.inr ⟨q,k _ H _ μ (.refl H) m (.tup q l) h⟩⟩
  · cases p with | cons p1 p2=>cases p2;cases p1 with | ls q l=>exact ⟨_,_,rfl,.inl ⟨q.sq,fun z hz=>k _ _ _ μ (.new hz) (c5 m hz) (.tup (SqT.of aM) (l.mono (.new hz))) h⟩⟩
  · rename_i q
    cases p with | cons p1 p2=>
    cases p2;cases p1
    obtain ⟨ys,e0,h⟩:=bK h
    obtain ⟨xs,ex,l⟩:=m q _ e0
    exact ⟨_,_,rfl,.inl ⟨SqL.of ex,fun z hz=>k _ _ _ μ (.new hz) (c5 m hz) (.tup (SqT.of aM) (l.mono (.new hz))) h⟩⟩
  · exact False.elim h
def jM:FSp:=fun ds μ Q=>match ds with
  | [.tup xs]=>∀ p,μ p=none→Q (.obj p) (up μ p (.lst xs))
  | [.ls xs]=>∀ p,μ p=none→Q (.obj p) (up μ p (.lst xs))
  | [.obj a]=>kL μ a fun xs=>∀ p,μ p=none→Q (.obj p) (up μ p (.lst xs))
  | _=>False
theorem sx {K:PySem.W.Frag}:kM K (fun xs H Q=>∃ p ys,xs=[.ref p]∧(SqL K H p ys∨SqT K H p ys)∧∀ l,H l=none→Q (.ref l) (L2.upd H l (.lst ys))) jM:=fun H μ xs ds Q Q' m p h k=>by
  unfold jM at h
  split at h
  · cases p with | cons p1 p2=>cases p2;cases p1 with | tup q l=>exact ⟨_,_,rfl,.inr q,fun z hz=>k _ _ _ _ (.new hz) (y6 m hz l) (.obj _) (h z (m.free hz))⟩
  · cases p with | cons p1 p2=>cases p2;cases p1 with | ls q l=>exact ⟨_,_,rfl,.inl q.sq,fun z hz=>k _ _ _ _ (.new hz) (y6 m hz l) (.obj _) (h z (m.free hz))⟩
  · rename_i q
    cases p with | cons p1 p2=>
    cases p2;cases p1
    obtain ⟨ys,e0,h⟩:=bK h
    obtain ⟨xs,ex,l⟩:=m q _ e0
    exact ⟨_,_,rfl,.inl (SqL.of ex),fun z hz=>k _ _ _ _ (.new hz) (y6 m hz l) (.obj _) (h z (m.free hz))⟩
  · exact False.elim h
def jF:FSp:=fun ds μ Q=>match ds with
  | [.tup xs]=>Q (.ls xs) μ
  | [.ls xs]=>Q (.ls xs) μ
  | [.obj a]=>kL μ a fun xs=>Q (.ls xs) μ
  | _=>False
def Nl (Q:VK):VK:=fun v H1=>∃ a xs,v=.ref a∧H1 a=some (.lst xs)∧∀ o,Q v (L2.upd H1 a (.frz o (.lst xs)))
theorem gI {K:PySem.W.Frag}{H:Hp}{μ:Mu}{ys:List V}{ds:List D}{Q:DK}{Q':VK}{z:Addr}(m:bJ K H μ)(l:DpL K H ys ds)(h:Q (.ls ds) μ)(k:jH K H Q Q')(hz:H z=none):Nl Q' (.ref z) (L2.upd H z (.lst ys)):=
  ⟨z,ys,rfl,aM,fun o=>by
    have e:L2.upd (L2.upd H z (.lst ys)) z (.frz o (.lst ys))=L2.upd H z (.frz o (.lst ys)):=tQ
    rw[e]
    exact k _ _ _ μ (.new hz) (c5 m hz) (.ls (.inl ⟨o,aM⟩) (l.mono (.new hz))) h⟩
theorem DH {K:PySem.W.Frag}:kM K (fun xs H Q=>∃ p ys,xs=[.ref p]∧(SqL K H p ys∨SqT K H p ys)∧∀ l,H l=none→Nl Q (.ref l) (L2.upd H l (.lst ys))) jF:=fun H μ xs ds Q Q' m p h k=>by
  unfold jF at h
  split at h
  · cases p with | cons p1 p2=>cases p2;cases p1 with | tup q l=>exact ⟨_,_,rfl,.inr q,fun z hz=>gI m l h k hz⟩
  · cases p with | cons p1 p2=>cases p2;cases p1 with | ls q l=>exact ⟨_,_,rfl,.inl q.sq,fun z hz=>gI m l h k hz⟩
  · rename_i q
    cases p with | cons p1 p2=>
    cases p2;cases p1
    obtain ⟨ys,e0,h⟩:=bK h
    obtain ⟨xs,ex,l⟩:=m q _ e0
    exact ⟨_,_,rfl,.inl (SqL.of ex),fun z hz=>gI m l h k hz⟩
  · exact False.elim h
theorem IB {x:Str}{p:Pos}{At:ATr}(hx:x = "list")(hg:Gl X x)(hm:X.mg x=none)(hv:bootBuiltins x=some (.type "list"))(ha:LA X [e] At)(hn:x ≠ "__name__" := by decide)(hdb:(x == ("__debug__" : Str))=false:=by decide)
    (h1:starEach [e] X.env=(false,eval e X.env)::starEach [] X.env:=by rfl) (h2:(backTo pos (starEach [] X.env)).any (·.1)=false:=by rfl):LE X (.Call (.Name x p) [e] [] pos) (aq jF At):=by
  obtain ⟨ta,pa,sa⟩:=ha.ex
  exact ⟨_,jl (sY iW hg hm hv pa hn hdb h1 h2),fun σ H ρ μ Q Q' rl h k=>sa σ H ρ μ _ _ rl h fun xs H1 ds μ1 t1 m1 p1 h1=>DH H1 μ1 xs ds Q Q' m1 p1 h1 (k.go t1)⟩
def ja:D→Bool
  | .non=>true
  | .bl _=>true
  | .int _=>true
  | .str _=>true
  | _=>false
def inD (x:D)(xs:List D):Bool:=xs.any fun y=>eqD y x
def rIn (neg:Bool):DR2:=fun x y μ Q=>match y with
  | .tup xs=>(ja x=true∧xs.all ja=true)∧Q (.bl (if neg then !inD x xs else inD x xs)) μ
  | .ls xs=>(ja x=true∧xs.all ja=true)∧Q (.bl (if neg then !inD x xs else inD x xs)) μ
  | .obj a=>kL μ a fun xs=>(ja x=true∧xs.all ja=true)∧Q (.bl (if neg then !inD x xs else inD x xs)) μ
  | _=>False
end
end
section
open PySem PySem.Spec PyProof.Rows L2
section
variable {X:Cx} {a b e:Expr} {Ta Tb T:ETr} {pos:Pos}
def Qt (t:TE):TE:=fun σ H Q=>t σ H fun v H1=>Q v H1∨Nl Q v H1
theorem B6 {t:TE}(h:PE X e t):PE X e (Qt t):=by
  have g:PE X e (fun σ H Q=>∃ P:VK,Hm t σ H P∧∀ v H',P v H'→Q v H'):=fun pins s σ H Q I ⟨P,hP,k⟩=>
    thn (jl h pins s σ H P I hP) fun u s1 ⟨v,H1,I1,r,q⟩=>⟨v,H1,I1,r,k _ _ q⟩
  intro pins s σ H Q I hh
  refine thn (h pins s σ H _ I hh) fun u s1 ⟨v,H1,I1,r,q⟩=>?_
  rcases q with q | ⟨c,xs,rfl,ec,q⟩
  · exact ⟨v,H1,I1,r,q⟩
  · have hz:=I1.hok c _ ec
    obtain ⟨z,its,n,rv,hg⟩:=hz
    have nl:∀ d o,H1 d=some o→(∀ ys,o≠.lst ys)→d≠c:=fun d o e1 e2 w=>by subst w;rw[ec] at e1;cases e1;exact e2 _ rfl
    refine ⟨.ref c,_,I1.un (h':=s1.heap) (t':=s1.toks) (H':=L2.upd H1 c (.frz { cls:=.type "list", data:=.seq its.toArray n } (.lst xs))) ⟨fun d o e _ _ _=>e,fun d o e _ _ _=>⟨o.slots,e⟩,fun d o e w _=>?_,fun d o e _=>⟨o,e⟩,fun d ys e=>?_,fun d o u e=>?_,fun d ps e=>⟨#[],?_⟩⟩ (fun d u e=>?_),r,q _⟩
    · rw[aL (fun z=>by subst z;rw[ec] at w;cases w)];exact w
    · rw[aL (nl d _ e (fun _=>nofun))];exact e
    · rw[aL (nl d _ e (fun _=>nofun))];exact e
    · rw[aL (nl d _ e (fun _=>nofun)),e];simp
    · by_cases hd:d=c
      · subst hd
        rw[aM] at e;cases e
        exact ⟨hg,z,its,n,rv,hg⟩
      · rw[aL hd] at e
        refine (I1.hok d u e).lI (fun k w _ q=>q) (fun k q=>?_) fun k ys q=>?_
        · rw[aL (nl k _ q (fun _=>nofun))];exact q
        · rw[aL (nl k _ q (fun _=>nofun))];exact q
def L6 (K:PySem.W.Frag):R2:=fun x y H Q=>∃ p q ys,x=.ref p∧y=.ref q∧SqT K H p []∧SqT K H q ys∧Q (.ref q) H
theorem Lz:OpR X (binaryOp .Add) (L6 X.K):=fun pins s σ H x y v u Q I rx ry ⟨p,q,ys,e1,e2,hp,hq,h⟩=>by
  subst e1 e2
  cases rx
  cases ry
  obtain ⟨its,r1,p1,_⟩:=I.tuple hp
  obtain ⟨its2,r2,p2,_⟩:=I.tuple hq
  cases r1
  obtain ⟨⟨c1,d1,t1,l1⟩,ho,hc,n,hd⟩:=id p1
  obtain ⟨⟨c2,d2,t2,l2⟩,ho2,hc2,n2,hd2⟩:=id p2
  simp only at hc hd hc2 hd2
  subst hc hd hc2 hd2
  exact concat_meets ⟨_,ho,rfl⟩ ⟨_,ho2,rfl⟩ noFill_tuple_add seq_tuple_add PySem.F.slot_tuple_add PySem.F.entry_tuple_add (PySem.F.args_tuple_add_2 _ _)
    (tuple_addW0 p q #[] its2.toArray n n2 d1 d2 l1 l2 rfl) ⟨ho,ho2,⟨.ref q,H,I,rfl,h⟩⟩
def Mf (K:PySem.W.Frag):R2:=fun x y H Q=>∃ p q xs ys,x=.ref p∧y=.ref q∧SqL K H p xs∧SqL K H q ys∧xs.length+ys.length≤sizeLine∧∀ z,H z=none→Q (.ref z) (L2.upd H z (.lst (xs++ys)))
theorem LB:OpR X (binaryOp .Add) (Mf X.K):=fun pins s σ H x y v u Q I rx ry ⟨p,q,xs,ys,e1,e2,hp,hq,hz,h⟩=>by
  subst e1 e2
  cases rx
  cases ry
  obtain ⟨its,r1,p1,_⟩:=I.list hp
  obtain ⟨its2,r2,p2,_⟩:=I.list hq
  obtain ⟨⟨c1,d1,t1,l1⟩,n,ho,hc,hx,hd⟩:=id p1
  obtain ⟨⟨c2,d2,t2,l2⟩,n2,ho2,hc2,hx2,hd2⟩:=id p2
  simp only at hc hd hc2 hd2
  subst hc hd hc2 hd2
  have z1:=r1.length
  have z2:=r2.length
  refine concat_meets ⟨_,ho,rfl⟩ ⟨_,ho2,rfl⟩ PySem.noFill_list_add PySem.seq_list_add PySem.F.slot_list_add PySem.F.entry_list_add (PySem.F.args_list_add_2 _ _)
    (list_addW p q its.toArray its2.toArray n n2 d1 d2 l1 l2 (by rw[List.size_toArray,List.size_toArray];omega)) ⟨ho,ho2,?_⟩
  have ea:its.toArray++its2.toArray=(its++its2).toArray:=by simp
  rw[ea]
  exact ⟨.ref _,_,I.Tj (t':=s.toks) (r1.append r2) (by rw[List.length_append];omega),rfl,h _ I.fresh⟩
def aP:DR2:=fun x y μ Q=>match x,y with
  | .int i,.int j=>Q (.int (i+j)) μ
  | .str i,.str j=>i.length+j.length≤1000000∧Q (.str (i++j)) μ
  | .tup a,.tup b=>a.length+b.length≤1000000∧Q (.tup (a++b)) μ
  | .ls a,.ls b=>a.length+b.length≤1000000∧Q (.ls (a++b)) μ
  | _,_=>False
def rPl (K:PySem.W.Frag):R2:=fun x y H Q=>(rI0 fun i j=>.int (i+j)) x y H Q∨(∃ i j,x=.str i∧y=.str j∧i.length+j.length≤sizeLine∧Q (.str (i++j)) H)∨MD K x y H Q∨L6 K x y H Q∨Mf K x y H Q
theorem Jq:OpR X (binaryOp .Add) (rPl X.K):=fun pins s σ H x y v u Q I rx ry h=>by
  rcases h with h | h | h | h | h
  · exact M5 pins s σ H x y v u Q I rx ry h
  · exact yG pins s σ H x y v u Q I rx ry h
  · exact Jo pins s σ H x y v u Q I rx ry h
  · exact Lz pins s σ H x y v u Q I rx ry h
  · exact LB pins s σ H x y v u Q I rx ry h
theorem aH (ha:LE X a Ta)(hb:LE X b Tb):LE X (.BinOp a .Add b pos) (aj aP Ta Tb):=by
  obtain ⟨ta,pa,sa⟩:=ha.ex
  obtain ⟨tb,pb,sb⟩:=hb.ex
  refine ⟨_,B6 (MF Jq pa pb),fun σ H ρ μ Q Q' rl h k=>sa σ H ρ μ _ _ rl h fun x H1 dx μ1 t1 m1 p1 h1=>sb σ H1 ρ μ1 _ _ (rl.go t1 m1) h1 fun y H2 dy μ2 t2 m2 p2 h2=>?_⟩
  have p1:=p1.mono t2
  have k:=k.go (t1.trans t2)
  cases p1 with
  | int i=>
    cases p2 with
    | int j=>exact .inl ⟨i,j,rfl,rfl,.inl (k _ H2 _ μ2 (.refl H2) m2 (.int _) h2)⟩
    | _=>exact False.elim h2
  | str i=>
    cases p2 with
    | str j=>exact .inr (.inl ⟨i,j,rfl,rfl,big h2.1,.inl (k _ H2 _ μ2 (.refl H2) m2 (.str _) h2.2)⟩)
    | _=>exact False.elim h2
  | @tup q xs ds sq l=>
    cases p2 with
    | @tup q' ys es sq' l'=>
      obtain ⟨hz,h3⟩:=h2
      by_cases hx:xs=[]
      · subst hx
        cases l
        exact .inr (.inr (.inr (.inl ⟨q,q',ys,rfl,rfl,sq,sq',.inl (k _ H2 _ μ2 (.refl H2) m2 (.tup sq' l') h3)⟩)))
      · refine .inr (.inr (.inl ⟨q,q',xs,ys,rfl,rfl,sq,sq',hx,by rw[l.length,l'.length];exact big hz,fun hy=>?_,fun _ z hzn=>.inl ?_⟩))
        · subst hy
          cases l'
          rw[List.append_nil] at h3
          exact .inl (k _ H2 _ μ2 (.refl H2) m2 (.tup sq l) h3)
        · exact k _ _ _ μ2 (.new hzn) (c5 m2 hzn) (.tup (SqT.of aM) ((l.append l').mono (.new hzn))) h3
    | _=>exact False.elim h2
  | @ls q xs ds sq l=>
    cases p2 with
    | @ls q' ys es sq' l'=>exact .inr (.inr (.inr (.inr ⟨q,q',xs,ys,rfl,rfl,sq.sq,sq'.sq,by rw[l.length,l'.length];exact big h2.1,fun z hz=>.inr (gI m2 (l.append l') h2.2 k hz)⟩)))
    | _=>exact False.elim h2
  | _=>cases p2<;>exact False.elim h2
abbrev OTr:=ST→Mu→(Option Int→Mu→Prop)→Prop
def ONo:OTr:=fun _ μ Q=>Q none μ
def i3 (T:ETr):OTr:=fun ρ μ Q=>T ρ μ fun x μ1=>kI x fun i=>Q (some i) μ1
def SD (K:PySem.W.Frag)(t:TO)(T:OTr):Prop:=∀ σ H ρ μ (Q:Option Int→Mu→Prop) (Q':Option Int→Hp→Prop),Rl K σ H ρ μ→T ρ μ Q→(∀ i H' μ',Tk H H'→bJ K H' μ'→Q i μ'→Q' i H')→t σ H Q'
structure LO (X:Cx) (o:Option Expr) (T:OTr):Prop where
  ex:∃ t,PO X o t∧SD X.K t T
theorem kb:LO X none ONo:=⟨_,LQ,fun σ H ρ μ Q Q' rl h k=>k none H μ (.refl H) rl.mu h⟩
theorem eS (h:LE X e T):LO X (some e) (i3 T):=by
  obtain ⟨t,p,s⟩:=h.ex
  refine ⟨_,LL p,fun σ H ρ μ Q Q' rl h k=>s σ H ρ μ _ _ rl h fun v H1 d μ1 t1 m1 p1 h1=>?_⟩
  cases p1 with
  | int i=>exact ⟨i,rfl,k _ H1 μ1 t1 m1 h1⟩
  | _=>exact False.elim h1
def cutD {α:Type}(xs:List α)(lo hi:Option Int):List α:=(xs.drop (HT.sIx xs.length 0 lo)).take (HT.sIx xs.length xs.length hi - HT.sIx xs.length 0 lo)
theorem Ay {α:Type}{xs:List α}{lo hi:Option Int}(h:HT.sIx xs.length 0 lo=0∧HT.sIx xs.length xs.length hi=xs.length):cutD xs lo hi=xs:=by
  unfold cutD;rw[h.1,h.2];simp
theorem DpL.take {K:PySem.W.Frag}{H:Hp}:∀ {vs:List V} {ds:List D} (n:Nat),DpL K H vs ds→DpL K H (vs.take n) (ds.take n)
  | _,_,0,_=>.nil
  | _,_,_+1,.nil=>.nil
  | _,_,n+1,.cons h l=>.cons h (DpL.take n l)
theorem DpL.drop {K:PySem.W.Frag}{H:Hp}:∀ {vs:List V} {ds:List D} (n:Nat),DpL K H vs ds→DpL K H (vs.drop n) (ds.drop n)
  | _,_,0,l=>l
  | _,_,_+1,.nil=>.nil
  | _,_,n+1,.cons _ l=>DpL.drop n l
theorem DpL.cut {K:PySem.W.Frag}{H:Hp}{vs:List V}{ds:List D}(lo hi:Option Int)(l:DpL K H vs ds):DpL K H (vv vs lo hi) (cutD ds lo hi):=by
  unfold vv cutD;rw[l.length];exact (l.drop _).take _
theorem vW {prog:Program}{w:World}{A:Around}{E:Value→Shared→Prop}{s:Shared}{t sl:Addr}{items:Array Value}{vl vu:Value}{lo hi:Option Int}{Q:Value→Shared→Prop}(ht:IsTup s.heap t items)(hs:s.heap.IsSliceOf sl vl vu .none)(pl:IsPart vl lo)(pu:IsPart vu hi)
    (hw:HT.sIx items.size 0 lo=0∧HT.sIx items.size items.size hi=items.size) (h:Q (.ref t) s):wpAny (model prog w) A (getItem (.ref t) (.ref sl)) Q E s:=by
  obtain ⟨os,hos,hcs,hds⟩:=id hs
  have hTs:s.TypeIs (.ref sl) "slice" := ⟨os,hos,hcs⟩
  unfold getItem
  try with_reducible refine wpAny_holding ?_
  first | refine wpAny_bind (wpAny_pure ?_) | skip
  refine wpAny_bind (wpAny_sequenceKey ht.typeIs (by decide) ?_)
  refine wpAny_bind (wpAny_callSpecial?_slot (name:=Str.ofString "__getitem__") ht.typeIs PyProof.Rows.slot_tuple_getitem (wpAny_call_entry PyProof.Rows.slot_tuple_getitem ht.typeIs entry_tuple_getitem ?_ (args_tuple_getitem _ _)))
  show wpAny _ _ (Builtin.Tuple.tupleItemsOf (.ref t) >>= _) _ _ s
  refine wpAny_bind (tupleItemsOf_ ht ?_)
  refine wpAny_bind <| wpAny_typeOf hTs ?_
  rw[if_pos (by decide)]
  refine wpAny_bind (HT.ij hs pl pu ?_)
  rw[hw.1,hw.2]
  refine (show wpAny _ _ (if (((0:Nat):Int) == 0&&(1:Int) == 1&&(items.size - 0) == items.size)=true then _ else _) _ _ s from ?_)
  rw[if_pos (by simp)]
  unfold Builtin.Tuple.tupleIsExact
  refine wpAny_bind (wpAny_bind (wpAny_typeOf ht.typeIs (wpAny_pure ?_)))
  rw[if_pos (by decide)]
  first
    | exact wpAny_bind (wpAny_rule (wpAny_bind (wpAny_pure (wpAny_pure ⟨_,rfl,wpAny_pure h⟩))))
    | exact wpAny_bind (wpAny_rule (wpAny_pure ⟨_,rfl,wpAny_pure h⟩))
    | exact wpAny_bind (wpAny_bind (wpAny_rule (wpAny_pure (wpAny_pure ⟨_,rfl,wpAny_pure h⟩))))
def Si (K:PySem.W.Frag):V→Option Int→Option Int→Hp→VK→Prop:=fun x lo hi H Q=>∃ a xs,x=.ref a∧SqT K H a xs∧(HT.sIx xs.length 0 lo=0∧HT.sIx xs.length xs.length hi=xs.length)∧Q (.ref a) H
theorem Fv:SlR X (Si X.K):=fun pins s σ H x v vl vu lo hi sl Q I rx hs pl pu ⟨q,xs,e,hx,hw,h⟩=>by
  subst e
  cases rx
  obtain ⟨its,r,ht,_⟩:=I.tuple hx
  have hlen:its.toArray.size=xs.length:=by rw[List.size_toArray];exact r.length.symm
  exact ⟨"tuple", _,PyProof.Rows.slot_tuple_getitem.lookup,ht.typeIs,vW ht hs pl pu (by rw[hlen];exact hw) ⟨.ref q,H,I,rfl,h⟩⟩
def rSl:D→Option Int→Option Int→Mu→DK→Prop:=fun x lo hi μ Q=>match x with
  | .tup xs=>Q (.tup (cutD xs lo hi)) μ
  | .ls xs=>Q (.ls (cutD xs lo hi)) μ
  | .obj a=>kL μ a fun xs=>Q (.ls (cutD xs lo hi)) μ
  | _=>False
def TSl (a:ETr)(lo hi:OTr):ETr:=fun ρ μ Q=>a ρ μ fun x μ1=>lo ρ μ1 fun l μ2=>hi ρ μ2 fun h μ3=>rSl x l h μ3 Q
theorem i7 {lo hi:Option Expr}{Tl Th:OTr}{p2:Pos}(ha:LE X a Ta)(hl:LO X lo Tl)(hh:LO X hi Th):LE X (.Subscript a (.Slice lo hi none p2) pos) (TSl Ta Tl Th):=by
  obtain ⟨ta,pa,sa⟩:=ha.ex
  obtain ⟨tl,pl,sl⟩:=hl.ex
  obtain ⟨th,ph,sh⟩:=hh.ex
  refine ⟨_,B6 (Ho (SlR.or Fv (SlR.or O7 K6)) pa pl ph),fun σ H ρ μ Q Q' rl h k=>sa σ H ρ μ _ _ rl h fun x H1 dx μ1 t1 m1 p1 h1=>sl σ H1 ρ μ1 _ _ (rl.go t1 m1) h1 fun i H2 μ2 t2 m2 h2=>sh σ H2 ρ μ2 _ _ (rl.go (t1.trans t2) m2) h2 fun j H3 μ3 t3 m3 h3=>?_⟩
  have p1:=p1.mono (t2.trans t3)
  have k:=k.go (t1.trans (t2.trans t3))
  cases p1 with
  | @tup q xs ds sq l=>
    by_cases hw:HT.sIx xs.length 0 i=0∧HT.sIx xs.length xs.length j=xs.length
    · refine .inl ⟨q,xs,rfl,sq,hw,.inl (k _ H3 _ μ3 (.refl H3) m3 (.tup sq l) ?_)⟩
      rw[l.length] at hw
      have h3:Q (.tup (cutD ds i j)) μ3:=h3
      rw[Ay hw] at h3;exact h3
    · exact .inr (.inl ⟨q,xs,rfl,sq,hw,fun z hz=>.inl (k _ _ _ μ3 (.new hz) (c5 m3 hz) (.tup (SqT.of aM) ((l.cut i j).mono (.new hz))) h3)⟩)
  | @ls q xs ds sq l=>exact .inr (.inr ⟨q,xs,rfl,sq.sq,fun z hz=>.inr (gI m3 (l.cut i j) h3 k hz)⟩)
  | obj q=>
    obtain ⟨ds,e0,h4⟩:=bK h3
    obtain ⟨xs,ex,l⟩:=m3 q _ e0
    exact .inr (.inr ⟨q,xs,rfl,SqL.of ex,fun z hz=>.inr (gI m3 (l.cut i j) h4 k hz)⟩)
  | _=>exact False.elim h3
theorem Bo {α:Type}(xs:List α)(k:Nat):cutD xs none (some (k:Int))=xs.take k:=by
  unfold cutD
  rw[HT.xr,HT.Bj,List.drop_zero,Nat.sub_zero]
  rcases Nat.le_total k xs.length with h | h
  · rw[Nat.min_eq_left h]
  · rw[Nat.min_eq_right h,List.take_length,List.take_of_length_le h]
theorem sA {α:Type}(xs:List α)(k:Nat):cutD xs (some (k:Int)) none=xs.drop k:=by
  unfold cutD
  rw[HT.xr,HT.Bj]
  rcases Nat.le_total k xs.length with h | h
  · rw[Nat.min_eq_left h,List.take_of_length_le (by rw[List.length_drop];omega)]
  · rw[Nat.min_eq_right h,List.drop_length,List.drop_of_length_le h];simp
end
end
section
open PySem PySem.Spec PyProof.Rows L2
theorem iD:∀ {us:List Value} {ns:List Int},IntsAre us ns→Vals (ns.map V.int) us
  | _,_,.nil=>.nil
  | _,_,.cons n t h=>.cons ⟨t,rfl⟩ (iD h)
def PU (K:PySem.W.Frag):List V→Hp→VK→Prop:=fun xs H Q=>∃ (p:Addr) (ns:List Int),xs=[.ref p]∧SqL K H p (ns.map V.int)∧ns.length < 64∧∀ ns':List Int,ns'.Perm ns→ns'.Pairwise (·≤·)→∀ z,H z=none→Q (.ref z) (L2.upd H z (.lst (ns'.map V.int)))
theorem zF {X:Cx}:bV X (.builtin "sorted") (PU X.K):=fun pins s σ H xs us Q I rx ⟨p,ns,e1,sq,hl,q⟩=>by
  subst e1
  obtain ⟨u,rfl,ru⟩:=vals1 rx
  cases ru
  obtain ⟨its,rv,pl,hz⟩:=I.list sq
  have hi:IntsAre its ns:=intsAre_of rv
  have hlen:its.length < 64:=by rw[hi.length];exact hl
  refine sorted_ints pl.isList hi hlen fun out ns' a1 a2 a3=>?_
  obtain ⟨n,en⟩:=sortedAll_at s.heap its out
  refine ⟨.ref _,_,I.laid (t':=s.toks) (o:=.lst (ns'.map V.int)) (fun b o e=>sortedAll_old e) (Nat.le_succ _) ?_,rfl,q ns' a2 a3 _ (I.hok.fresh (Nat.le_succ _))⟩
  have z1:ns'.length=ns.length:=a2.length_eq
  exact ⟨by rw[List.length_map,z1];exact Nat.le_of_lt (Nat.lt_of_lt_of_le hl (by decide)),out.toList,n,iD a1,by simpa[seqObj] using en⟩
theorem DpL.ints_of {K:PySem.W.Frag}{H:Hp}:∀ {xs:List V} {ns:List Int},DpL K H xs (ns.map .int)→xs=ns.map V.int
  | _,[],.nil=>rfl
  | _,n::r,.cons h l=>by cases h;rw[DpL.ints_of l];rfl
end
section
open PySem PySem.Spec PyProof.Rows L2
theorem _root_.L2.Inv.frz {X:Cx}{pins:List (Addr×Obj)}{σ:L2.St}{H:Hp}{s:Shared}{c:Addr}{xs:List V}(I1:Inv X pins σ H s)(ec:H c=some (.lst xs)):∃ o,Inv X pins σ (L2.upd H c (.frz o (.lst xs))) s:=by
  obtain ⟨z,its,n,rv,hg⟩:=I1.hok c _ ec
  have nl:∀ d o,H d=some o→(∀ ys,o≠.lst ys)→d≠c:=fun d o e1 e2 w=>by subst w;rw[ec] at e1;cases e1;exact e2 _ rfl
  refine ⟨_,I1.un (h':=s.heap) (t':=s.toks) (H':=L2.upd H c (.frz { cls:=.type "list", data:=.seq its.toArray n } (.lst xs))) ⟨fun d o e _ _ _=>e,fun d o e _ _ _=>⟨o.slots,e⟩,fun d o e w _=>?_,fun d o e _=>⟨o,e⟩,fun d ys e=>?_,fun d o u e=>?_,fun d ps e=>⟨#[],?_⟩⟩ (fun d u e=>?_)⟩
  · rw[aL (fun z=>by subst z;rw[ec] at w;cases w)];exact w
  · rw[aL (nl d _ e (fun _=>nofun))];exact e
  · rw[aL (nl d _ e (fun _=>nofun))];exact e
  · rw[aL (nl d _ e (fun _=>nofun)),e];simp
  · by_cases hd:d=c
    · subst hd
      rw[aM] at e;cases e
      exact ⟨hg,z,its,n,rv,hg⟩
    · rw[aL hd] at e
      refine (I1.hok d u e).lI (fun k w _ q=>q) (fun k q=>?_) fun k ys q=>?_
      · rw[aL (nl k _ q (fun _=>nofun))];exact q
      · rw[aL (nl k _ q (fun _=>nofun))];exact q
theorem A3 {X:Cx}{tg iter elt:Expr}{ifs:List Expr}{scope:Scope}{pos spos py:Pos}{y:Str}{iy:Nat}{wi:TI}{g:TG}{tt:TT}{te:TE}{Nc:List Str}{n:Nat}{caps:List Nat}
    (hxe:X.xe=fun _ _=>False) (hcalm:X.calm=true) (hi:PI X tg iter wi)
    (hbody:∀ (cl:List (Str×Addr)) (C:Addr) (s₀:Shared) (H₀:Hp) (ex:List Addr),PG (a8 X scope Nc cl C s₀ H₀ ex) tg g∧Dn (a8 X scope Nc cl C s₀ H₀ ex) ifs tt∧PE (a8 X scope Nc cl C s₀ H₀ ex) elt te)
    (hfree:∀ y∈scope.names,y.2=.free→X.env.kindOf y.1=some .cell) (hcell:∀ y∈scope.names,y.2≠.cell) (gv:scope.kind=.function)
    (hnames:∀ y∈scope.names,y.2=.local→scope.names.lookup y.1=some .local) (hlen:Nc.length=n+caps.length)
    (hcap:∀ (j k:Nat),caps[j]? = some k→∃ x,Nc[n+j]? = some x∧X.N[k]? = some x∧scope.names.lookup x=some .free)
    (pgy:PG X (.Name y py) (lK iy))
    (hsw:swapsWith (.ListComp elt [⟨tg,iter,ifs,0⟩] scope pos) (some (.Name y py)) spos.line X.env=pure true)
    (hs:∀ x,foldedSetIterable iter X.env x=pure x:=by intro _;rfl) :
    PS X (.Assign [.Name y py] (.ListComp elt [⟨tg,iter,ifs,0⟩] scope pos) spos) (Ls (Hm (sV wi g tt te n caps)) (lK iy)):=by
  intro pins s σ H E' I h
  rw[hxe]
  obtain ⟨cl,hclos,clin,clfree⟩:=kF (scope:=scope) (env:=X.env) fun y hy hf=>I.ok.has y.1 (.inl (hfree y hy hf))
  rewrite [exec_Assign_Name_used _ _ _ _ hsw]
  refine wpAny_bind (wpAny_standAt ?_)
  refine wpAny_bind ?_
  refine (show wpAny _ X.A (do let _ ← comprehension (.ListComp elt [⟨tg,iter,ifs,0⟩] scope pos) scope X.env _ (newList []) false (eval iter X.env) (some (assign (.Name y py) X.env))) _ _ s from ?_)
  refine wpAny_bind (wpAny_mono (wpAny_comprehension_free (use:=some (assign (.Name y py) X.env)) (Q:=fun _ s'=>SP X pins E' .next s') rfl hs hclos gv hnames ?_) (fun _ s' hq=>wpAny_pure (wpAny_pure hq)) fun _ _ e=>e)
  have hi':=hi pins s σ H _ I h
  rw[hxe] at hi'
  refine wpAny_mono hi' (fun xv s1 h1=>wpAny_mono h1 (fun itv s2 h2=>?_) fun _ _ z=>z) fun _ _ z=>z
  obtain ⟨it,fp,tn,J,H1,rfl,I2,T,st2,f2,hh⟩:=h2
  -- the new list
  refine wpAny_newObj_type ?_
  have hD:H1 s2.heap.objs.size=none:=I2.hok.fresh (Nat.le_refl _)
  obtain ⟨W,⟨m0,w0⟩,turn⟩:=hh _ hD
  have I3:Inv X pins σ (L2.upd H1 s2.heap.objs.size (.lst [])) { s2 with heap:=s2.heap.push { cls:=.type "list", dict:=none,data:=.seq ([]:List Value).toArray } }:=
    I2.laid (t':=s2.toks) (fun b u e=>Heap.get?_push_of_some _ e) (Nat.le_refl _) ⟨Nat.zero_le _,[],0,.nil,Heap.get?_push_size _ rfl⟩
  have k3:∀ b u,s2.heap.get? b=some u→(s2.heap.push { cls:=.type "list", dict:=none,data:=.seq ([]:List Value).toArray }).get? b=some u:=fun b u e=>Heap.get?_push_of_some _ e
  have fne:∀ b∈fp,b≠s2.heap.objs.size:=fun b hb=>by
    obtain ⟨o,ho,_⟩:=T.obj 0 _ st2 b hb
    exact Nat.ne_of_lt (Heap.lt_size ho)
  generalize eD:s2.heap.objs.size=D at *
  generalize eh3:s2.heap.push { cls:=.type "list", dict:=none,data:=.seq ([]:List Value).toArray }=h3 at *
  generalize eH3:L2.upd H1 D (.lst [])=H3 at *
  have st3:tn 0 h3:=T.keep 0 _ _ st2 fun b hb o e=>k3 b o e
  have f3:∀ b∈fp,lE X pins H3 b:=fun b hb=>⟨by rw[← eH3,aL (fne b hb)];exact (f2 b hb).1,(f2 b hb).2⟩
  have lt3:∀ b∈fp,b < h3.objs.size:=fun b hb=>by
    obtain ⟨o,ho,_⟩:=T.obj 0 _ st3 b hb
    exact Heap.lt_size ho
  generalize es3:({ s2 with heap:=h3 }:Shared)=s3 at *
  have hs3:s3.heap=h3:=by rw[← es3]
  refine wpAny_newFunctionEnv hcell (fun y hy=>(by cases hy)) (fun h4 hns hsb=>?_) gv
  show codeAny _ _ (.compStart _ 0 (.ref it) (.ref D) (compEnvC scope cl s3.heap.objs.size X.env)) (compPost _ _ _ _ _ (.ref D) s3.heap.objs.size) _
  have k4:∀ b u,s3.heap.get? b=some u→h4.get? b=some u:=fun b u e=>hsb.extBut b u (Nat.ne_of_lt (Heap.lt_size e)) (Heap.get?_push_of_some _ e)
  have okY:(a8 X scope Nc cl s3.heap.objs.size s3 H3 fp).Ok:=by
    refine ⟨I3.ok.mod,gv,I3.ok.glob,I3.ok.blt,Nat.le_refl _,fun x y c e1 e2=>I3.ok.inj x y c (clin _ _ e1) (clin _ _ e2),fun x hx=>?_,fun x c hf=>(by cases hf),I3.ok.hd,I3.ok.frames,.inl rfl,fun b hb=>⟨?_,fun x c e z=>?_⟩,I3.bs,Nat.le_trans I3.ok.bsz I3.sz,fun b o e hb=>?_,fun b hb hz=>?_,I3.stack,I3.oJ⟩
    · have hx':(relabel scope X.env).names.lookup x=some .cell∨(relabel scope X.env).names.lookup x=some .free:=hx
      have hm:(x,NameKind.free)∈scope.names:=by
        rcases hx' with q | q
        · exact eF hcell (.inl rfl) (PySem.mem_of_lookup q)
        · exact eF hcell (.inr rfl) (PySem.mem_of_lookup q)
      exact clfree _ hm rfl
    · show b≠s3.heap.objs.size
      rw[hs3];exact Nat.ne_of_lt (lt3 b hb)
    · exact (f3 b hb).2.2.2.2.1 x c (clin _ _ e) z
    · rcases (f3 b hb).2.2.2.1 with z | z
      · exact I3.ok.zl b o e z
      · exact absurd (Nat.lt_of_lt_of_le (Heap.lt_size e) (Nat.le_trans I3.ok.bsz z)) (Nat.lt_irrefl _)
    · rcases List.mem_cons.mp (I3.p7 b hz) with z | z
      · exact (f3 b hb).2.1 z
      · exact (f3 b hb).2.2.1 z
  have vS:∀ c v,s3.heap.IsCell c v→h4.IsCell c v:=fun c v ⟨o,ho,hd⟩=>⟨o,k4 c o ho,hd⟩
  have J0:Inv (a8 X scope Nc cl s3.heap.objs.size s3 H3 fp) [] (fB σ n caps) H3 { s3 with heap:=h4,toks:=s3.toks+([]:List (Str×Value)).length }:=by
    refine ⟨okY,rfl,I3.bare,Un.kept k4,⟨_,hns,fun i x v e1 e2 e3=>?_⟩,fun x c e=>?_,I3.hok.fresh (Nat.le_refl _),fun x c e=>I3.ir x c (clin _ _ e),(fun p hp=>(by cases hp)),I3.hok.kept k4,?_⟩
    · obtain ⟨j,k,rfl,ej,ek⟩:=gu e2
      obtain ⟨x',n1,n2,n3⟩:=hcap j k ej
      have e1':Nc[n+j]? = some x:=e1
      rw[n1] at e1';cases e1'
      have hmem:(x,NameKind.free)∈scope.names:=PySem.mem_of_lookup n3
      have hcellx:X.env.kindOf x=some .cell:=hfree _ hmem rfl
      obtain ⟨m,hn,hl⟩:=I3.loc
      obtain ⟨u,ru,lk⟩:=hl k x v n2 ek (.inr (.inl hcellx))
      refine ⟨u,ru,.inr ⟨.inl (cH I3.ok.kind hcellx n3),?_⟩⟩
      rcases lk with ⟨q,_⟩ | ⟨_,c,ec,ic⟩
      · rw[hcellx] at q;cases q
      · obtain ⟨c',ec'⟩:=clfree _ hmem rfl
        have:=clin _ _ ec'
        rw[ec] at this;cases this
        exact ⟨c,ec',vS _ _ ic⟩
    · obtain ⟨v,q⟩:=I3.cell x c (clin _ _ e)
      exact ⟨v,vS _ _ q⟩
    · unfold fB
      show _=Nc.length
      rw[List.length_append,List.length_replicate,List.length_map,hlen]
  obtain ⟨pg,pifs,pelt⟩:=hbody cl s3.heap.objs.size s3 H3 fp
  generalize eY:a8 X scope Nc cl s3.heap.objs.size s3 H3 fp=Y at *
  have yP:Y.prog=X.prog:=by rw[← eY];rfl
  have yw:Y.w=X.w:=by rw[← eY];rfl
  have yK:Y.K=X.K:=by rw[← eY];rfl
  have yA:Y.A=X.A:=by rw[← eY];rfl
  have yx:Y.xe=fun _ _=>False:=by rw[← eY];exact hxe
  have yc:Y.calm=true:=by rw[← eY];exact hcalm
  have ye:Y.env=compEnvC scope cl s3.heap.objs.size X.env:=by rw[← eY];rfl
  have yfs:Y.fs=frs X.stack:=by rw[← eY];rfl
  have yex:Y.ex=fp:=by rw[← eY];rfl
  have ys0:Y.s₀=s3:=by rw[← eY];rfl
  have yH0:Y.H₀=H3:=by rw[← eY];rfl
  have ypn:Y.pn=[]:=by rw[← eY];rfl
  have kC:∀ {H':Hp},(∀ b∈fp,H' b=none)→∀ b∈fp,lE Y [] H' b:=fun hn b hb=>⟨hn b hb,by rw[ye];show b≠s3.heap.objs.size;rw[hs3];exact Nat.ne_of_lt (lt3 b hb),okY.zI b (by rw[yex];exact hb),.inl (by rw[yex];exact hb),
    fun x c e=>by rw[ye] at e;exact (f3 b hb).2.2.2.2.1 x c (clin _ _ e),fun p hp=>by rw[ypn] at hp;exact nomatch hp⟩
  have tn4:∀ t,tn 0 ({ s3 with heap:=h4,toks:=t }:Shared).heap:=fun t=>T.keep 0 _ _ st3 fun b hb o e=>k4 b o (by rw[hs3];exact e)
  -- the end
  have fin:∀ (s5:Shared) (H5:Hp),Inv Y [] (fB σ n caps) H5 s5→(∃ a xs,V.ref D=V.ref a∧H5 a=some (.lst xs)∧∀ o,lK iy (.ref D) σ (L2.upd H5 a (.frz o (.lst xs))) E'.nx)→
      compPost (model X.prog X.w) X.A (fun _ _=>False) (some (assign (.Name y py) X.env)) (fun _ s'=>SP X pins E' .next s') (.ref D) s3.heap.objs.size (.ok .next) s5:=fun s5 H5 I5 q5=>by
    obtain ⟨m,hn,_⟩:=I5.loc
    rw[ye] at hn
    have nC:∀ b o,s3.heap.get? b=some o→b≠s3.heap.objs.size:=fun b o e=>Nat.ne_of_lt (Heap.lt_size e)
    have un:=I5.base
    rw[yfs,yex,yH0,ys0] at un
    have hfreeC0:=I5.free
    rw[ye] at hfreeC0
    have hfreeC:H5 s3.heap.objs.size=none:=hfreeC0
    have hok5:=I5.hok
    rw[yP,yw] at hok5
    have I5X:Inv X pins σ H5 s5:=I3.xh (ch:=fp) (s':=s5) (by have:=I5.os;rw[ys0] at this;exact this) un hok5 I5.bare fun b hb=>⟨(f3 b hb).2.2.2.1,(f3 b hb).2.1,(f3 b hb).2.2.2.2.1,(f3 b hb).2.2.2.2.2⟩
    obtain ⟨a,xs,ea,eH,q⟩:=q5
    cases ea
    obtain ⟨o,I5F⟩:=I5X.frz eH
    have neD:s3.heap.objs.size≠D:=fun z=>by rw[z] at hfreeC;rw[hfreeC] at eH;cases eH
    have fC:lE X pins (L2.upd H5 D (.frz o (.lst xs))) s3.heap.objs.size:=I3.zH (Nat.le_refl _) (by rw[aL neD];exact hfreeC)
    obtain ⟨oC,gC,dC⟩:∃ oC,s5.heap.get? s3.heap.objs.size=some oC∧∀ v,oC.data≠.cell v:=by
      obtain ⟨oC,es,ep,ho,hd,_⟩:=hn
      exact ⟨oC,ho,fun v z=>by rw[hd] at z;cases z⟩
    have I5P:=I5F.pinned (fp:=[s3.heap.objs.size]) (fun b hb=>by cases List.mem_singleton.mp hb;exact fC) (fun b hb=>by cases List.mem_singleton.mp hb;exact ⟨oC,gC,dC⟩)
    have as:=pgy _ s5 σ _ (.ref D) (.ref D) E'.nx I5P rfl (q o)
    rw[hxe] at as
    refine thn as fun _ s6 ⟨σ6,H6,I6,n6⟩=>?_
    obtain ⟨g6,f6,_⟩:=I6.pin (s3.heap.objs.size,oC) (List.mem_append_right _ (List.mem_append_right _ (cp List.mem_cons_self gC)))
    refine ⟨m,hn.at' (fun o' e'=>by have e'':s5.heap.get? s3.heap.objs.size=some o':=e';rw[gC] at e'';cases e'';exact g6),fun h7 hs7=>⟨σ6,H6,?_,n6⟩⟩
    have I6U:=I6.fE
    have keep:∀ b o',b≠s3.heap.objs.size→s6.heap.get? b=some o'→h7.get? b=some o':=fun b o' hb e'=>(hs7.2 b hb).trans e'
    refine I6U.xh (ch:=[s3.heap.objs.size]) (s':={ s6 with heap:=h7 }) rfl ⟨fun b o' e' _ _ nx=>keep b o' (fun z=>nx (by rw[z];exact List.mem_cons_self)) e',fun b o' e' _ _ nx=>⟨o'.slots,keep b o' (fun z=>nx (by rw[z];exact List.mem_cons_self)) e'⟩,fun b o' _ w _=>w,fun b o' e' nx=>⟨o',keep b o' (fun z=>nx (by rw[z];exact List.mem_cons_self)) e'⟩,fun b ys e'=>e',fun b o' u e'=>e',fun b ps e'=>⟨#[],by simpa using e'⟩⟩ (fun b u e'=>?_) I6U.bare fun b hb=>?_
    · refine (I6U.hok b u e').lI (fun c w' hc q=>keep c w' ?_ q) (fun _ q=>q) fun _ _ q=>q
      rintro rfl
      rcases hc with z | z
      · rw[← z,f6] at e';cases e'
      · rw[f6] at z;cases z
    · cases List.mem_singleton.mp hb
      exact ⟨fC.2.2.2.1,fC.2.1,fC.2.2.2.2.1,fC.2.2.2.2.2⟩
  have loop:codeAny (model X.prog X.w) X.A (.compLoop (.ListComp elt [⟨tg,iter,ifs,0⟩] scope pos) 0 (.ref it) (.ref D) (compEnvC scope cl s3.heap.objs.size X.env)) (compPost (model X.prog X.w) X.A (fun _ _=>False) (some (assign (.Name y py) X.env)) (fun _ s'=>SP X pins E' .next s') (.ref D) s3.heap.objs.size)
      { s3 with heap:=h4,toks:=s3.toks+([]:List (Str×Value)).length }:=by
    refine mG (fun k s'=>∃ i ys H',Inv Y [] (fB σ n caps) H' s'∧tn i s'.heap∧(∀ b∈fp,H' b=none)∧W i k ys H') ?_ m0 ⟨0,[],H3,J0,tn4 _,fun b hb=>(f3 b hb).1,w0⟩
    rintro k s5 ⟨i,ys,H5,I5,st5,fr5,w5⟩
    rcases turn i k ys H5 w5 with ⟨stop,q⟩ | ⟨go,N,hN,step⟩
    · have d:=T.done Y yP yw yK yc i [] s5 _ H5 (fun _ _=>False) I5 (kC fr5) st5 stop
      rw[yA] at d
      refine thn d fun r s6 ⟨hr,I6⟩=>?_
      subst hr
      exact fin s6 H5 I6 q
    · have d:=T.item Y yP yw yK yc i [] s5 _ H5 (fun _ _=>False) I5 (kC fr5) st5 go
      rw[yA] at d
      refine thn d fun r s6 ⟨u,hr,h6⟩=>?_
      subst hr
      refine thn h6 fun _ s7 ⟨x,H7,I7,r7,y7,st7,fr7⟩=>?_
      have I7':=I7.pinned (kC fr7) (T.obj _ _ st7)
      have a:=pg _ s7 _ H7 x u _ I7' r7 (step x H7 y7)
      rw[yP,yw,yA,yx,ye] at a
      refine thn a fun _ s8 ⟨σ8,H8,I8,wk,q8⟩=>?_
      have b:=pifs _ s8 σ8 H8 _ I8 q8
      rw[yP,yw,yA,yx,ye] at b
      have again:∀ {s9:Shared} {ys9:List V} {H9:Hp},Inv Y ([]++ky fp s7.heap) σ8 H9 s9→N ys9 H9→∃ m,m < k∧∃ i ys H',Inv Y [] (fB σ n caps) H' s9∧tn i s9.heap∧(∀ b∈fp,H' b=none)∧W i m ys H':=fun {s9 ys9 H9} I9 n9=>by
        obtain ⟨m',hm,w9⟩:=hN ys9 H9 n9
        have hp:∀ b∈fp,∀ o,s7.heap.get? b=some o→s9.heap.get? b=some o∧H9 b=none:=fun b hb o e=>
          ⟨(I9.pin (b,o) (List.mem_append_right _ (List.mem_append_right _ (cp hb e)))).1,(I9.pin (b,o) (List.mem_append_right _ (List.mem_append_right _ (cp hb e)))).2.1⟩
        refine ⟨m',hm,i+1,ys9,H9,I9.fE.weak wk.1 wk.2,T.keep _ _ _ st7 fun b hb o e=>(hp b hb o e).1,fun b hb=>?_,w9⟩
        obtain ⟨o,e,_⟩:=T.obj _ _ st7 b hb
        exact (hp b hb o e).2
      refine thn b fun ok s9 ⟨H9,I9,q9⟩=>?_
      cases ok with
      | false=>
        rw[if_neg Bool.false_ne_true] at q9 ⊢
        exact again I9 q9
      | true=>
        rw[if_pos rfl] at q9 ⊢
        have c:=pelt _ s9 σ8 H9 _ I9 q9
        rw[yP,yw,yA,yx,ye] at c
        refine thn c fun v s10 ⟨y,H10,I10,r10,zs,ez,lz,n10⟩=>?_
        have d:=jZ (X:=Y) _ s10 σ8 H10 (.ref D) [y] (.ref D) [v] (fun _ H'=>N (zs++[y]) H') I10 rfl (.cons r10 .nil) ⟨D,zs,y,rfl,rfl,ez,lz,n10⟩
        rw[yP,yw,yA,yx] at d
        exact thn d fun _ s11 ⟨_,H11,I11,_,q11⟩=>again I11 q11
  refine codeAny_compStart_list loop ?_
  exact T.self X.A 0 _ _ _ (tn4 _) loop
theorem GD {K:PySem.W.Frag}{wi:TI}{It':ATr}{G:GTr}{Tt:TTr}{Te:ETr}{n:Nat}{caps:List Nat}(si:Om K wi It'):Sim K (Hm (sV wi (lB K n G) (liftT K Tt) (lD K Te) n caps)) (bE It' G Tt Te n caps):=by
  intro σ H ρ μ Q Q' rl h k
  refine si σ H ρ μ _ _ rl h fun J H1 ds μ1 t1 m1 Y h1 D hD=>?_
  have hp:=h1 D (m1.free hD)
  have tD:Tk H1 (L2.upd H1 D (.lst [])):=.new hD
  have mD:bJ K (L2.upd H1 D (.lst [])) (up μ1 D (.lst [])):=fun a o e=>by
    by_cases ha:a=D
    · subst ha
      rw[aG] at e;cases e
      exact ⟨[],aM,.nil⟩
    · rw[aU ha] at e
      exact c5 m1 hD a o e
  refine ⟨fun i m ys H2=>m=ds.length - i∧i≤ds.length∧Tk H1 H2∧∃ μ2,bJ K H2 μ2∧fR D G Tt Te (fo ρ n caps) (fun μ'=>kL μ' D fun zs=>Q (.ls zs) (dn μ' D)) (ds.drop i) μ2,
    ⟨ds.length,by simp,Nat.zero_le _,tD,_,mD,by simpa using hp⟩,?_⟩
  rintro i m ys H2 ⟨rfl,hi,t12,μ2,m2,h2⟩
  by_cases hlt:i < ds.length
  · refine .inr ⟨Y.go i H2 t12 hlt,fun ys' H'=>Tk H1 H'∧∃ μ',bJ K H' μ'∧fR D G Tt Te (fo ρ n caps) (fun μ'=>kL μ' D fun zs=>Q (.ls zs) (dn μ' D)) (ds.drop (i+1)) μ',fun ys' H' ⟨t',μ',m',h'⟩=>⟨ds.length - (i+1),by omega,rfl,hlt,t',μ',m',h'⟩,fun x H3 y=>?_⟩
    obtain ⟨t23,⟨d,ed,pd⟩,mk⟩:=Y.yld i H2 x H3 t12 hlt y
    have e:ds.drop i=d::ds.drop (i+1):=by
      refine (List.drop_eq_getElem_cons hlt).trans ?_
      congr 1
      rw[List.getElem?_eq_getElem hlt] at ed
      exact Option.some.inj ed
    rw[e] at h2
    have t13:=t12.trans t23
    have r3:Rl K (fB σ n caps) H3 (fo ρ n caps) μ2:=oP (rl.go (t1.trans t13) (mk _ m2)) n caps
    refine ⟨_,_,d,_,r3,pd,h2,fun σ4 H4 ρ4 μ4 t4 r4 kp h4=>⟨⟨kp.1.symm,fun j v ej=>?_⟩,_,_,_,r4,h4,fun b H5 μ5 t5 m5 h5=>?_⟩⟩
    · by_cases hj:n≤j
      · rw[kp.2 j hj];exact ej
      · obtain ⟨j',k',e1,_⟩:=gu ej
        omega
    · have t15:=t13.trans (t4.trans t5)
      cases b with
      | false=>exact pW ⟨t15,μ5,m5,h5⟩
      | true=>
        refine pG ⟨_,_,_,r4.go t5 m5,h5,fun v H6 d6 μ6 t6 m6 p6 h6=>?_⟩
        obtain ⟨zs,ez,lz,h7⟩:=bK h6
        obtain ⟨xs,ex,lx⟩:=m6 D _ ez
        have t67:Tk H6 (L2.upd H6 D (.lst (xs++[v]))):=.upd (fun ys z=>by rw[ex] at z;cases z) fun o' u z=>by rw[ex] at z;cases z
        refine ⟨xs,ex,by rw[lx.length];exact Nat.lt_of_lt_of_le lz (by decide),(t15.trans t6).trans t67,up μ6 D (.lst (zs++[d6])),fun a o ea=>?_,h7⟩
        by_cases ha:a=D
        · subst ha
          rw[aG] at ea;cases ea
          exact ⟨_,aM,(lx.append (.cons p6 .nil)).mono t67⟩
        · rw[aU ha] at ea
          exact (m6 a _ ea).ne t67 ha
  · have e:i=ds.length:=by omega
    subst e
    rw[List.drop_length] at h2
    obtain ⟨zs,ez,hq⟩:=bK (show kL μ2 D fun zs=>Q (.ls zs) (dn μ2 D) from h2)
    obtain ⟨xs,ex,lx⟩:=m2 D _ ez
    refine .inl ⟨Y.stop _ H2 t12 (Nat.le_refl _),D,xs,rfl,ex,fun o=>?_⟩
    have t2f:Tk H2 (L2.upd H2 D (.frz o (.lst xs))):=.upd (fun ys z=>by rw[ex] at z;cases z) fun o' u z=>by rw[ex] at z;cases z
    refine k _ _ _ (dn μ2 D) ((t1.trans t12).trans t2f) (fun a o' ea=>?_) (.ls (.inl ⟨o,aM⟩) (lx.mono t2f)) hq
    have ha:a≠D:=fun z=>by subst z;unfold dn at ea;rw[if_pos rfl] at ea;cases ea
    have ea':μ2 a=some o':=by unfold dn at ea;rw[if_neg ha] at ea;exact ea
    exact (m2 a _ ea').ne t2f ha
theorem eP {X:Cx}{tg elt iter:Expr}{Te:ETr}{Tt:TTr}{pos spos py:Pos}{y:Str}{It':ATr}{G:GTr}{ifs:List Expr}{scope fsc:Scope}(iy:Nat)(hN:X.N.Nodup)(XN Nc:List Str)(n:Nat)(caps:List Nat)(hxe:X.xe=fun _ _=>False)(hcalm:X.calm=true)(hi:LI X tg iter It')
    (hbody:∀ (cl:List (Str×Addr)) (C:Addr) (s₀:Shared) (H₀:Hp) (ex:List Addr),LGc (a8 X scope Nc cl C s₀ H₀ ex) n tg G∧xH (a8 X scope Nc cl C s₀ H₀ ex) ifs Tt∧LE (a8 X scope Nc cl C s₀ H₀ ex) elt Te)
    (hsc:X.env.scope=fsc) (hXN:X.N=XN) (hok:gO fsc.names XN scope Nc n caps=true)
    (hiy:X.N[iy]? = some y:=by rfl) (hx:Loc X.env.scope y:=by first | exact Or.inl rfl | exact Or.inr rfl) (hf:X.fn y=true∨X.env.scope.names.lookup y=some .local:=by first | exact .inl rfl | exact .inr rfl | assumption)
    (hsw:swapsWith (.ListComp elt [⟨tg,iter,ifs,0⟩] scope pos) (some (.Name y py)) spos.line X.env=pure true:=by rfl)
    (hs:∀ x,foldedSetIterable iter X.env x=pure x:=by intro _;rfl) :
    LS X (.Assign [.Name y py] (.ListComp elt [⟨tg,iter,ifs,0⟩] scope pos) spos) (aN (bE It' G Tt Te n caps) (aw iy)):=by
  unfold gO at hok
  simp only[Bool.and_eq_true,List.all_eq_true] at hok
  obtain ⟨⟨⟨h1,h2⟩,h3⟩,h4⟩:=hok
  obtain ⟨wi,pi,si⟩:=hi.ex
  refine ⟨_,A3 (g:=lB X.K n G) (tt:=liftT X.K Tt) (te:=lD X.K Te) hxe hcalm pi (fun cl C s₀ H₀ ex=>let ⟨h1,h2,h3⟩:=hbody cl C s₀ H₀ ex;⟨h1.pe,h2.pe,h3.pe⟩) (fun y hy hf=>?_) (fun y hy hf=>?_) (by simpa using h2) (fun y hy hf=>?_) (by simpa using h3) (fun j k hj=>?_) (iz hN hiy hx hf) hsw hs,fun σ H ρ μ E E' rl h k=>GD si σ H ρ μ _ _ rl h fun v H' d μ' t' m' p' h'=>g9 iy σ H' ρ μ' v d _ _ (rl.go t' m') p' h' (k.go t').nx⟩
  · have:=(h1 y hy).1.1
    show X.env.scope.names.lookup y.1=_
    rw[hsc]
    simpa[hf] using this
  · have:=(h1 y hy).1.2
    simp[hf] at this
  · have:=(h1 y hy).2
    simpa[hf] using this
  · have hl:j < caps.length:=(List.getElem?_eq_some_iff.mp hj).1
    have:=h4 j (List.mem_range.mpr hl)
    rw[hj] at this
    dsimp only at this
    rw[hXN]
    cases e:XN[k]? with
    | none=>rw[e] at this;cases this
    | some x=>
      rw[e] at this
      dsimp only at this
      rw[Bool.and_eq_true] at this
      exact ⟨x,by simpa using this.1,rfl,by simpa using this.2⟩
end
section
open PySem PySem.Spec PyProof.Rows L2
section
variable {X:Cx} {ea:Expr} {es:List Expr} {ek:Nat} {ep p pos:Pos}
def ki (ds:List D):List D:=(List.range ds.length).zipWith (fun i d=>.tup [.int (i:Nat),d]) ds
def Qw (t:ATr):ATr:=fun ρ μ Q=>t ρ μ fun vs μ1=>match vs with
  | [.ls ds]=>Q (ki ds) μ1
  | _=>False
theorem tF (ds:List D)(i:Nat):(ki ds)[i]? = (ds[i]?).map fun d=>.tup [.int (i:Nat),d]:=by
  unfold ki
  rw[List.getElem?_zipWith]
  by_cases h:i < ds.length
  · rw[List.getElem?_range h,List.getElem?_eq_getElem h];rfl
  · rw[List.getElem?_eq_none_iff.mpr (by simpa using h),List.getElem?_eq_none_iff.mpr (by simpa using h)];rfl
theorem sL (ds:List D):(ki ds).length=ds.length:=by unfold ki;simp
variable {eb:Expr} {tg:Expr} {Ta Tb:ETr}
end
end
section
open PySem PySem.Spec PyProof PyProof.Rows L2
theorem gW:∀ {us:List Value} {ns:List Int},IntsAre us ns→∃ ps:List (Int×Tok),us=ps.map (fun p=>Value.int p.1 p.2)∧ps.map Prod.fst=ns
  | _,_,.nil=>⟨[],⟨rfl,rfl⟩⟩
  | _,_,.cons n t h=>by
    obtain ⟨ps,e1,e2⟩:=gW h
    exact ⟨(n,t)::ps,by rw[e1];rfl,by rw[← e2];rfl⟩
theorem qf (ps:List (Int×Tok))(i:Nat):numAt ps.toArray i=((ps.map Prod.fst)[i]?).getD 0:=by
  unfold numAt
  simp only[List.getElem?_toArray,List.getElem?_map]
section
variable {X:Cx} {a b:Expr} {Ta Tb:ETr} {pos:Pos}
end
end
theorem vg (i j:Int)(μ Q):aP (.int i) (.int j) μ Q=Q (.int (i+j)) μ:=rfl
theorem vf (i j:Str)(μ Q):aP (.str i) (.str j) μ Q=(i.length+j.length≤1000000∧Q (.str (i++j)) μ):=rfl
theorem ud (a b:List D)(μ Q):aP (.tup a) (.tup b) μ Q=(a.length+b.length≤1000000∧Q (.tup (a++b)) μ):=rfl
theorem ug (a b:List D)(μ Q):aP (.ls a) (.ls b) μ Q=(a.length+b.length≤1000000∧Q (.ls (a++b)) μ):=rfl
theorem o9 (a:List D)(μ Q):bh [.tup a] μ Q=Q (.tup a) μ:=rfl
theorem pV (a:List D)(μ Q):bh [.ls a] μ Q=Q (.tup a) μ:=rfl
theorem p8 (a:Addr)(μ Q):bh [.obj a] μ Q=kL μ a fun xs=>Q (.tup xs) μ:=rfl
theorem pK (a:List D)(μ Q):jF [.tup a] μ Q=Q (.ls a) μ:=rfl
theorem rh (a:List D)(μ Q):jF [.ls a] μ Q=Q (.ls a) μ:=rfl
theorem qv (a:Addr)(μ Q):jF [.obj a] μ Q=kL μ a fun xs=>Q (.ls xs) μ:=rfl
theorem oT (a:List D)(μ Q):jM [.tup a] μ Q = ∀ p,μ p=none→Q (.obj p) (up μ p (.lst a)):=rfl
theorem rB (a:List D)(μ Q):jM [.ls a] μ Q = ∀ p,μ p=none→Q (.obj p) (up μ p (.lst a)):=rfl
theorem qZ (a:Addr)(μ Q):jM [.obj a] μ Q=kL μ a fun xs=>∀ p,μ p=none→Q (.obj p) (up μ p (.lst xs)):=rfl
theorem Il (a:List D)(lo hi)(μ Q):rSl (.tup a) lo hi μ Q=Q (.tup (cutD a lo hi)) μ:=rfl
theorem Hu (a:List D)(lo hi)(μ Q):rSl (.ls a) lo hi μ Q=Q (.ls (cutD a lo hi)) μ:=rfl
theorem Ge (a:Addr)(lo hi)(μ Q):rSl (.obj a) lo hi μ Q=kL μ a fun xs=>Q (.ls (cutD xs lo hi)) μ:=rfl
theorem GF (n:Bool)(x:D)(a:List D)(μ Q):L3.rIn n x (.tup a) μ Q=((ja x=true∧a.all ja=true)∧Q (.bl (if n then !inD x a else inD x a)) μ):=rfl
theorem ID (n:Bool)(x:D)(a:List D)(μ Q):L3.rIn n x (.ls a) μ Q=((ja x=true∧a.all ja=true)∧Q (.bl (if n then !inD x a else inD x a)) μ):=rfl
theorem GA (n:Bool)(x:D)(a:Addr)(μ Q):L3.rIn n x (.obj a) μ Q=kL μ a fun xs=>(ja x=true∧xs.all ja=true)∧Q (.bl (if n then !inD x xs else inD x xs)) μ:=rfl
theorem zk (a:Addr)(μ Q):c7 [.obj a] μ Q=kL μ a fun xs=>Q (.int xs.length) μ:=rfl
theorem zc (x:Str)(μ Q):c7 [.str x] μ Q=(x.length≤1000000∧Q (.int x.length) μ):=rfl
theorem Hj (μ Q):rIs .non .non μ Q=Q (.bl true) μ:=rfl
theorem Ic (i:Int)(μ Q):rIs (.int i) .non μ Q=Q (.bl false) μ:=rfl
theorem GW (i:List D)(μ Q):rIs (.tup i) .non μ Q=Q (.bl false) μ:=rfl
theorem pF (μ Q):AS .non .non μ Q=Q (.bl false) μ:=rfl
theorem pZ (i:Int)(μ Q):AS (.int i) .non μ Q=Q (.bl true) μ:=rfl
theorem pN (i:List D)(μ Q):AS (.tup i) .non μ Q=Q (.bl true) μ:=rfl
theorem AQ (c:String)(i:List D)(μ Q):fe c (.ls i) μ Q=Q (.bl (eW "list" c)) μ:=rfl
theorem Aw (c:String)(i:Str)(μ Q):fe c (.str i) μ Q=Q (.bl (eW "str" c)) μ:=rfl
theorem yS (c:String)(μ Q):fe c .non μ Q=Q (.bl (eW "NoneType" c)) μ:=rfl
theorem cf (k:Nat)(ds:List D):atD ds (k:Int)=ds[k]?:=by
  unfold atD L2.atI L2.ixN
  rw[if_pos (Int.natCast_nonneg k)]
  by_cases h:k < ds.length
  · rw[if_pos (by omega)];simp
  · rw[if_neg (by omega)];simp;omega
theorem yg (ds:List D):atD ds 0=ds[0]?:=cf 0 ds
theorem vF (ds:List D):atD ds 1=ds[1]?:=cf 1 ds
theorem BO (ds:List D):atD ds 2=ds[2]?:=cf 2 ds
theorem Cg (ds:List D):atD ds 3=ds[3]?:=cf 3 ds
theorem Cf (ds:List D):atD ds 4=ds[4]?:=cf 4 ds
theorem Bh (ds:List D):atD ds 5=ds[5]?:=cf 5 ds
theorem JL (n k:Nat):L2.ixN n (k:Int)=if k < n then some k else none:=by
  unfold L2.ixN
  rw[if_pos (Int.natCast_nonneg k)]
  by_cases h:k < n
  · rw[if_pos (by omega),if_pos h];simp
  · rw[if_neg (by omega),if_neg h]
theorem fZ:eW "int" "int" = true:=by decide
theorem fS:eW "int" "bool" = false:=by decide
theorem fW:eW "bool" "bool" = true:=by decide
theorem f9:eW "bool" "int" = true:=by decide
theorem gj:eW "tuple" "tuple" = true:=by decide
theorem fY:eW "int" "tuple" = false:=by decide
theorem gi:eW "bool" "tuple" = false:=by decide
theorem fm0 {a n:Int}(h:0 < n):0≤a.fmod n:=Int.fmod_nonneg_of_pos a h
theorem fm1 {a n:Int}(h:0 < n):a.fmod n < n:=Int.fmod_lt_of_pos a h
theorem Ff (A B:Prop):kIf true A B=A:=rfl
theorem Eo (A B:Prop):kIf false A B=B:=rfl
theorem G7 (p:Prop) [Decidable p] (A B:Prop):kIf (decide p) A B=if p then A else B:=by by_cases h:p<;>simp[h,kIf]
theorem Iw (c:Bool)(A B:Prop):kIf (!c) A B=kIf c B A:=by cases c<;>rfl
theorem FA (c:Bool)(f):kB (.bl c) f=f c:=rfl
theorem zP (c:Int)(f):kI (.int c) f=f c:=rfl
theorem oR (c:D)(f):kO (some c) f=f c:=rfl
theorem yW (c:List D)(f):kS (.tup c) f=f c:=rfl
theorem Fg (c:List D)(f):kS (.ls c) f=f c:=rfl
theorem zf (a b:D)(f):k2 [a,b] f=f a b:=rfl
theorem uW (c:Nat)(f):kN (some c) f=f c:=rfl
theorem B5 (μ:Mu)(a:Addr)(ds:List D)(f):kL (up μ a (.lst ds)) a f=f ds:=by unfold kL;rw[aG]
theorem Qb {μ:Mu}{a:Addr}{ds:List D}(h:μ a=some (.lst ds))(f):kL μ a f=f ds:=by unfold kL;rw[h]
theorem rj (a:Addr)(n:Int)(y:D)(μ:Mu)(f):QR (.obj a) (.int n) y μ f=kL μ a fun ds=>kN (L2.ixN ds.length n) fun j=>f (up μ a (.lst (ds.set j y))):=rfl
theorem Ak (i j:Int)(μ Q):j8 (.int i) (.int j) μ Q=Q (.int (i - j)) μ:=rfl
theorem Ap (i j:Int)(μ Q):eQ (.int i) (.int j) μ Q=(MulOk i j∧Q (.int (i*j)) μ):=rfl
theorem Az (i j:Int)(μ Q):mL (.int i) (.int j) μ Q=(ji j∧Q (.int (i.fdiv j)) μ):=rfl
theorem ze (i j:Int)(μ Q):lJ (.int i) (.int j) μ Q=(j≠0∧Q (.int (i.fmod j)) μ):=rfl
theorem AX (i j:Int)(μ Q):Hb (.int i) (.int j) μ Q=(pC i j∧Q (.int (i ^ j.toNat)) μ):=rfl
theorem zY (i:Int)(μ Q):Kv (.int i) μ Q=Q (.int (-i)) μ:=rfl
theorem Hc (i j:Int)(μ Q):rLt (.int i) (.int j) μ Q=Q (.bl (decide (i < j))) μ:=rfl
theorem FQ (i j:Int)(μ Q):rLe (.int i) (.int j) μ Q=Q (.bl (decide (i≤j))) μ:=rfl
theorem EY (i j:Int)(μ Q):rGt (.int i) (.int j) μ Q=Q (.bl (decide (j < i))) μ:=rfl
theorem GR (i j:Int)(μ Q):rGe (.int i) (.int j) μ Q=Q (.bl (decide (j≤i))) μ:=rfl
theorem FI (x y:D)(μ Q):L3.rEq x y μ Q=((okD 40 x=true∧okD 40 y=true)∧Q (.bl (eqD x y)) μ):=rfl
theorem HL (x y:D)(μ Q):L3.rNe x y μ Q=((okD 40 x=true∧okD 40 y=true)∧Q (.bl (!eqD x y)) μ):=rfl
theorem pw (ds:List D)(i:Int)(μ Q):L3.rIx (.tup ds) (.int i) μ Q=kO (atD ds i) fun d=>Q d μ:=rfl
theorem Ea (ds:List D)(i:Int)(μ Q):L3.rIx (.ls ds) (.int i) μ Q=kO (atD ds i) fun d=>Q d μ:=rfl
theorem Ee (a:Addr)(i:Int)(μ Q):L3.rIx (.obj a) (.int i) μ Q=kL μ a fun ds=>kO (atD ds i) fun d=>Q d μ:=rfl
theorem Ag (c:String)(i:Int)(μ Q):fe c (.int i) μ Q=Q (.bl (eW "int" c)) μ:=rfl
theorem AG (c:String)(i:Bool)(μ Q):fe c (.bl i) μ Q=Q (.bl (eW "bool" c)) μ:=rfl
theorem yH (c:String)(i:List D)(μ Q):fe c (.tup i) μ Q=Q (.bl (eW "tuple" c)) μ:=rfl
theorem Am (i:Int)(μ Q):wV [.int i] μ Q=Q (.int (if i < 0 then -i else i)) μ:=rfl
theorem AB (i j:Int)(μ Q):sM [.int i,.int j] μ Q=Q (.int (if j > i then j else i)) μ:=rfl
theorem AN (i j:Int)(μ Q):tq [.int i,.int j] μ Q=Q (.int (if j < i then j else i)) μ:=rfl
theorem y8 (i:Int)(μ Q):y1 [.int i] μ Q=Q (.int i) μ:=rfl
theorem As (i:Bool)(μ Q):y1 [.bl i] μ Q=Q (.int (if i then 1 else 0)) μ:=rfl
theorem AY (i:List D)(μ Q):c7 [.tup i] μ Q=Q (.int i.length) μ:=rfl
theorem yY (i:List D)(μ Q):c7 [.ls i] μ Q=Q (.int i.length) μ:=rfl
local macro_rules | `(tactic| walk_at "rd")=>`(tactic| try simp only[ah,TC,aj,TUn,ig,EC,qC,TB,rY,TOr,Ax,l6,zO,ar,af,bc,fT,lY,aq,ba,aA,AO,Ex,fG,aW,HZ,bR,aw,aN,oA,zX,j7,fV,dH, 
  Ff,Eo,G7,Iw,FA,zP,oR,yW,Fg,zf,uW,B5,rj,vg,vf,ud,ug,lR,iA,uK,o9,pV,p8,pK,rh,qv,oT,rB,qZ,TSl,ONo,i3,Il,Hu,Ge,GF,ID,GA,zk,zc,Hj,Ic,GW,pF,pZ,pN,AQ,Aw,yS,Ak,Ap,Az,ze,AX,zY,Hc,FQ,EY,GR,FI,HL,pw,Ea,Ee,Ag,AG,yH,Am,AB,AN,y8,As,AY,yY,
  lk,ini,List.map,List.length,List.replicate,List.append,List.set,List.cons_append,List.nil_append,Nat.sub_self,Nat.reduceSub,Nat.reduceAdd,
  yg,vF,BO,Cg,Cf,Bh,List.getElem?_cons_zero,List.getElem?_cons_succ,aG,Nat.reduceLT,Nat.reduceLeDiff,if_true,if_false,true_and,and_true,Bool.not_true,Bool.not_false,Nat.lt_add_one,Nat.zero_lt_succ,Nat.succ_lt_succ_iff,Nat.zero_lt_one,
  decide_eq_true_eq,Bool.false_eq_true,ite_false,ite_true,ne_eq,not_false_eq_true,Int.reduceToNat,Int.reducePow,Int.reduceNeg,Int.reduceSub,Int.reduceAdd,Int.reduceMul,Int.reduceEq,okD,cX,eqD,kn,Bool.and_self,Bool.and_true,Bool.true_and,fZ,fS,fW,f9,gj,fY,gi])
local macro_rules | `(tactic| walk_at "ok")=>`(tactic| (simp only[L3.ji,L3.MulOk,L3.S64,L3.gx,L3.pC] at *;omega))
def Box (μ:Mu)(b:Addr):Prop:=∃ g s c:Int,μ b=some (.lst [.int g,.int s,.int c])∧0≤s∧s < 2147483647
structure qK (b:Addr) (μ μ':Mu):Prop where
  box:Box μ' b
  oth:∀ a,a≠b→μ' a=μ a
theorem qK.trans {b:Addr}{μ μ1 μ2:Mu}(x:qK b μ μ1)(y:qK b μ1 μ2):qK b μ μ2:=⟨y.box,fun a h=>(y.oth a h).trans (x.oth a h)⟩
theorem wb (x y:Int):Int.gcd y (x.fmod y)=Int.gcd x y:=by
  rw[Int.fmod_def,Int.gcd_sub_mul_left_right,Int.gcd_comm]
theorem Ek (a:Int):(if a < 0 then -a else a)=(a.natAbs:Int):=by
  split<;>omega
def mz (i:Nat):ST→Mu→Nat:=fun ρ _=>match lk ρ i with
  | some (.int z)=>z.toNat
  | _=>0
structure Fr (p q:Int):Prop where
  q0:0 < q
  q1:q < 100000000000
  p0:-100000000000 < p
  p1:p < 100000000000
  g:Int.gcd p q=1
theorem jn {a b:Int}(h:0 < b):a.fdiv b=a / b:=Int.fdiv_eq_ediv_of_nonneg a (Int.le_of_lt h)
theorem FL {ns:List Int}{k:Int}(h0:0≤k)(h1:k < (ns.length:Int)):∃ z,atD (ns.map D.int) k=some (.int z):=by
  rcases Int.eq_ofNat_of_zero_le h0 with ⟨j,rfl⟩
  rw[cf]
  have hj:j < ns.length:=by omega
  exact ⟨ns[j],by simp[hj]⟩
theorem zW {lo:Int}{n:Nat}{d:D}(h:d∈cx lo n):∃ k:Int,d=.int k∧lo≤k∧k < lo+n:=by
  unfold cx at h
  rcases List.mem_map.mp h with ⟨i,hi,rfl⟩
  have:=List.mem_range.mp hi
  exact ⟨_,rfl,by omega,by omega⟩
def fk:FSp:=fun ds μ Q=>match ds with
  | [.ls xs]=>(∃ ns:List Int,xs=ns.map .int∧ns.length≤63)∧∀ μ',Q (.bl true) μ'
  | _=>False
theorem uB:∀ ds μ Q,fk ds μ Q→ds.length=1:=by
  unfold fk
  walk_at "ln"
theorem mO (ns:List Int)(h:ns.length≤63)(μ:Mu):fk [.ls (ns.map .int)] μ (fun d _=>d=.bl true):=⟨⟨ns,rfl,h⟩,fun _=>rfl⟩
local macro_rules | `(tactic| walk_at "rd")=>`(tactic| try simp only[ah,TC,aj,TUn,ig,EC,qC,TB,rY,TOr,Ax,l6,zO,ar,af,bc,fT,lY,aq,ba,aA,AO,Ex,fG,aW,HZ,bR,aw,aN,oA,zX,j7,fV,dH,bE,fR,fo,dm,Qq,ILs,
  Ff,Eo,G7,Iw,FA,zP,oR,yW,Fg,zf,uW,B5,rj,vg,vf,ud,ug,lR,iA,uK,o9,pV,p8,pK,rh,qv,oT,rB,qZ,TSl,ONo,i3,Il,Hu,Ge,GF,ID,GA,zk,zc,Hj,Ic,GW,pF,pZ,pN,AQ,Aw,yS,Ak,Ap,Az,ze,AX,zY,Hc,FQ,EY,GR,FI,HL,pw,Ea,Ee,Ag,AG,yH,Am,AB,AN,y8,As,AY,yY,
  lk,ini,List.map,List.length,List.replicate,List.append,List.set,List.cons_append,List.nil_append,Nat.sub_self,Nat.reduceSub,Nat.reduceAdd,
  yg,vF,BO,Cg,Cf,Bh,List.getElem?_cons_zero,List.getElem?_cons_succ,aG,hX,Nat.reduceLT,Nat.reduceLeDiff,if_true,if_false,true_and,and_true,Bool.not_true,Bool.not_false,Nat.lt_add_one,Nat.zero_lt_succ,Nat.succ_lt_succ_iff,Nat.zero_lt_one,
  decide_eq_true_eq,Bool.false_eq_true,ite_false,ite_true,ne_eq,not_false_eq_true,Int.reduceToNat,Int.reducePow,Int.reduceNeg,Int.reduceSub,Int.reduceAdd,Int.reduceMul,Int.reduceEq,okD,cX,eqD,kn,Bool.and_self,Bool.and_true,Bool.true_and,fZ,fS,fW,f9,gj,fY,gi])
structure IsPart (a b p q:Int):Prop where
  q0:0 < q
  g:Int.gcd p q=1
  e:p*b=a*q
  pa:p.natAbs≤a.natAbs
  qb:q.natAbs≤b.natAbs
theorem rn {g c:Int}(hg:0 < g):c.natAbs≤(g*c).natAbs:=by
  rw[Int.natAbs_mul]
  exact Nat.le_mul_of_pos_left _ (by omega)
theorem A9 {a b:Int}(hb:b≠0):IsPart a b (a.fdiv (if b < 0 then -(Int.gcd a b:Int) else Int.gcd a b)) (b.fdiv (if b < 0 then -(Int.gcd a b:Int) else Int.gcd a b)):=by
  have gp:0 < Int.gcd a b:=Int.gcd_pos_of_ne_zero_right a hb
  have gz:0 < (Int.gcd a b:Int):=by omega
  obtain ⟨c,hc⟩:=Int.gcd_dvd_left a b
  obtain ⟨d,hd⟩:=Int.gcd_dvd_right a b
  have g1:=Int.gcd_ediv_gcd_ediv_gcd gp
  have e1:a / (Int.gcd a b:Int)=c:=Int.ediv_eq_of_eq_mul_right (by omega) hc
  have e2:b / (Int.gcd a b:Int)=d:=Int.ediv_eq_of_eq_mul_right (by omega) hd
  rw[e1,e2] at g1
  generalize (Int.gcd a b:Int)=g at *
  clear e1 e2 gp
  subst hc hd
  have p1:=rn (c:=c) gz
  have p2:=rn (c:=d) gz
  split
  · rename_i hneg
    have d0:d < 0:=by
      rcases Int.lt_trichotomy d 0 with h | h | h
      · exact h
      · subst h;omega
      · have:=Int.mul_pos gz h;omega
    have x1:(g*c).fdiv (-g) = -c:=by rw[show g*c = -g * -c by rw[Int.neg_mul_neg]];exact Int.mul_fdiv_cancel_left _ (by omega)
    have x2:(g*d).fdiv (-g) = -d:=by rw[show g*d = -g * -d by rw[Int.neg_mul_neg]];exact Int.mul_fdiv_cancel_left _ (by omega)
    rw[x1,x2]
    refine ⟨by omega,by rw[Int.neg_gcd,Int.gcd_neg];exact g1,?_,by omega,by omega⟩
    rw[Int.neg_mul,Int.mul_neg,Int.mul_left_comm,Int.mul_assoc]
  · rename_i hneg
    have d0:0 < d:=by
      rcases Int.lt_trichotomy d 0 with h | h | h
      · have:=Int.mul_neg_of_pos_of_neg gz h;omega
      · subst h;omega
      · exact h
    have x1:(g*c).fdiv g=c:=Int.mul_fdiv_cancel_left _ (by omega)
    have x2:(g*d).fdiv g=d:=Int.mul_fdiv_cancel_left _ (by omega)
    rw[x1,x2]
    refine ⟨d0,g1,?_,by omega,by omega⟩
    rw[Int.mul_left_comm,Int.mul_assoc]
theorem Jl {p q p' q':Int}(q0:0 < q)(q0':0 < q')(g:Int.gcd p q=1)(g':Int.gcd p' q'=1)(e:p*q'=p'*q):p=p'∧q=q':=by
  have h1:q ∣ q':=by
    have:q ∣ p*q':=⟨p',by rw[e,Int.mul_comm]⟩
    have h:=Int.dvd_gcd_mul_iff_dvd_mul.mpr this
    rw[Int.gcd_comm,g] at h
    simpa using h
  have h2:q' ∣ q:=by
    have:q' ∣ p'*q:=⟨p,by rw[← e,Int.mul_comm]⟩
    have h:=Int.dvd_gcd_mul_iff_dvd_mul.mpr this
    rw[Int.gcd_comm,g'] at h
    simpa using h
  have e3:q=q':=Int.dvd_antisymm (by omega) (by omega) h1 h2
  subst e3
  exact ⟨Int.eq_of_mul_eq_mul_right (by omega) e,rfl⟩
theorem IsPart.same {a b p q a' b' p' q':Int}(h:IsPart a b p q)(h':IsPart a' b' p' q')(hb:b≠0)(hb':b'≠0)(e:a*b'=a'*b):p=p'∧q=q':=by
  refine Jl h.q0 h'.q0 h.g h'.g ?_
  have e1:=h.e
  have e2:=h'.e
  have x:(p*q')*(b*b')=(p'*q)*(b*b'):=by
    calc (p*q')*(b*b')=(p*b)*(q'*b'):=by ac_rfl
      _=(a*q)*(q'*b'):=by rw[e1]
      _=(a*b')*(q*q'):=by ac_rfl
      _=(a'*b)*(q*q'):=by rw[e]
      _=(a'*q')*(q*b):=by ac_rfl
      _=(p'*b')*(q*b):=by rw[e2]
      _=(p'*q)*(b*b'):=by ac_rfl
  exact Int.eq_of_mul_eq_mul_right (Int.mul_ne_zero hb hb') x
def dG:FSp:=fun ds μ Q=>match ds with
  | [.int a,.int b]=>Q (.int (Int.gcd a b)) μ
  | _=>False
theorem rO:∀ ds μ Q,dG ds μ Q→ds.length=2:=by
  unfold dG
  walk_at "ln"
def m8:STr:=aA (aN (aq wV (af (ah 0) (ar))) (aw 2)) (aA (aN (aq wV (af (ah 1) (ar))) (aw 3)) (aA (uO (TB (aj rGt (ah 3) (TC (.int 0)))) (aA (aN (aj lJ (ah 2) (ah 3)) (aw 4)) (aA (aN (ah 3) (aw 2)) (aN (ah 4) (aw 3))))) (aW (ah 2))))
theorem uG:∀ ds μ Q,dG ds μ Q→m8 { nx:=fun _ μ'=>RT Q .non μ',rt:=RT Q } (ini 5 ds) μ:=by
  intro ds μ Q k
  unfold dG at k
  split at k
  case h_2=>exact k.elim
  rename_i a b
  unfold m8
  walk_at "rd"
  refine ⟨fun ρ μ'=>μ'=μ∧∃ (x y:Int) (z:Option D),ρ=[some (.int a),some (.int b),some (.int x),some (.int y),z]∧0≤x∧0≤y∧Int.gcd x y=Int.gcd a b,mz 3,⟨rfl,_,_,_,rfl,?_,?_,?_⟩,?_⟩
  · split<;>omega
  · split<;>omega
  · rw[Ek,Ek];unfold Int.gcd;rw[Int.natAbs_natCast,Int.natAbs_natCast]
  · rintro ρ _ ⟨rfl,x,y,z,rfl,x0,y0,e⟩
    walk_at "rd"
    split
    · rename_i hy
      refine ⟨by omega,⟨_,_,_,rfl,y0,fm0 hy,?_⟩,?_⟩
      · rw[wb];exact e
      · have:=fm1 (a:=x) hy
        have:=fm0 (a:=x) hy
        simp only[mz,lk]
        omega
    · rename_i hy
      have hy0:y=0:=by omega
      subst hy0
      rw[Int.gcd_zero_right] at e
      have hx:x=(Int.gcd a b:Int):=by omega
      subst hx
      exact ⟨_,.refl _,k⟩
def fv:FSp:=fun ds μ Q=>match ds with
  | [.int a,.int b]=>(b≠0∧gx b)∧∀ p q,IsPart a b p q→Q (.tup [.int p,.int q]) μ
  | _=>False
theorem ER:∀ ds μ Q,fv ds μ Q→ds.length=2:=by
  unfold fv
  walk_at "ln"
def G9:STr:=aA (aN (aq dG (af (ah 0) (af (ah 1) (ar)))) (aw 2)) (aA (bR (TB (aj rLt (ah 1) (TC (.int 0)))) (aN (TUn Kv (ah 2)) (aw 2)) (ba)) (aW (bc (af (aj mL (ah 0) (ah 2)) (af (aj mL (ah 1) (ah 2)) (ar))))))
theorem K5:∀ ds μ Q,fv ds μ Q→G9 { nx:=fun _ μ'=>RT Q .non μ',rt:=RT Q } (ini 3 ds) μ:=by
  intro ds μ Q h
  unfold fv at h
  split at h
  case h_2=>exact h.elim
  rename_i a b
  obtain ⟨⟨hb,hm⟩,k⟩:=h
  have P:=k _ _ (A9 (a:=a) hb)
  have gp:0 < Int.gcd a b:=Int.gcd_pos_of_ne_zero_right a hb
  have gl:Int.gcd a b≤b.natAbs:=Int.gcd_le_natAbs_right a hb
  unfold G9
  walk_at "rd"
  show (if b < 0 then _ else _)
  split
  · rename_i hn
    rw[if_pos hn] at P
    have dv:ji (-(Int.gcd a b:Int)):=by walk_at "ok"
    exact ⟨dv,dv,_,.refl _,P⟩
  · rename_i hn
    rw[if_neg hn] at P
    have dv:ji (Int.gcd a b:Int):=by walk_at "ok"
    exact ⟨dv,dv,_,.refl _,P⟩
structure FrB (lo hi p q:Int):Prop where
  q0:0 < q
  q1:q≤10000002
  g:Int.gcd p q=1
  ge:lo*q≤p
  le:p≤hi*q
structure FrA (lo hi p q:Int):Prop extends FrB lo hi p q where
  ab:lo*q < p
structure FrL (hi p q:Int):Prop extends FrB 0 hi p q where
  ab:0 < p
  be:p < hi*q
theorem jR {a b:Int}(b0:0 < b):∃ g p q:Int,0 < g∧a=g*p∧b=g*q∧a.fdiv (Int.gcd a b)=p∧b.fdiv (Int.gcd a b)=q∧0 < q∧q≤b∧Int.gcd p q=1:=by
  have gp:0 < Int.gcd a b:=Int.gcd_pos_of_ne_zero_right a (by omega)
  have gz:0 < (Int.gcd a b:Int):=by omega
  obtain ⟨c,hc⟩:=Int.gcd_dvd_left a b
  obtain ⟨d,hd⟩:=Int.gcd_dvd_right a b
  have g1:=Int.gcd_ediv_gcd_ediv_gcd gp
  have e1:a / (Int.gcd a b:Int)=c:=Int.ediv_eq_of_eq_mul_right (by omega) hc
  have e2:b / (Int.gcd a b:Int)=d:=Int.ediv_eq_of_eq_mul_right (by omega) hd
  rw[e1,e2] at g1
  refine ⟨_,c,d,gz,hc,hd,by rw[jn gz];exact e1,by rw[jn gz];exact e2,?_,?_,g1⟩
  all_goals generalize (Int.gcd a b:Int)=g at *
  · rcases Int.lt_trichotomy d 0 with h | h | h
    · have:=Int.mul_neg_of_pos_of_neg gz h;omega
    · subst h;omega
    · exact h
  · have d0:0 < d:=by
      rcases Int.lt_trichotomy d 0 with h | h | h
      · have:=Int.mul_neg_of_pos_of_neg gz h;omega
      · subst h;omega
      · exact h
    have h:=Int.mul_le_mul_of_nonneg_right (show (1:Int)≤g by omega) (show (0:Int)≤d by omega)
    omega
theorem Gn {lo hi a b:Int}(b0:0 < b)(b1:b≤10000002)(h1:lo*b≤a)(h2:a≤hi*b):FrB lo hi (a.fdiv (Int.gcd a b)) (b.fdiv (Int.gcd a b)):=by
  obtain ⟨g,p,q,g0,ea,eb,ep,eq,q0,qb,gg⟩:=jR (a:=a) b0
  rw[ep,eq]
  subst ea
  have e1:lo*b=g*(lo*q):=by rw[eb];ac_rfl
  have e2:hi*b=g*(hi*q):=by rw[eb];ac_rfl
  exact ⟨q0,by omega,gg,Int.le_of_mul_le_mul_left (by rw[← e1];exact h1) g0,Int.le_of_mul_le_mul_left (by rw[← e2];exact h2) g0⟩
theorem EM {lo hi a b:Int}(b0:0 < b)(b1:b≤10000002)(h1:lo*b < a)(h2:a≤hi*b):FrA lo hi (a.fdiv (Int.gcd a b)) (b.fdiv (Int.gcd a b)):=by
  refine ⟨Gn b0 b1 (by omega) h2,?_⟩
  obtain ⟨g,p,q,g0,ea,eb,ep,eq,q0,qb,gg⟩:=jR (a:=a) b0
  rw[ep,eq]
  have e1:lo*b=g*(lo*q):=by rw[eb];ac_rfl
  exact Int.lt_of_mul_lt_mul_left (by rw[← e1,← ea];exact h1) (by omega)
theorem Qj {hi a b:Int}(b0:0 < b)(b1:b≤10000002)(h1:0 < a)(h2:a < hi*b):FrL hi (a.fdiv (Int.gcd a b)) (b.fdiv (Int.gcd a b)):=by
  refine ⟨Gn b0 b1 (by omega) (by omega),?_,?_⟩
  all_goals
    obtain ⟨g,p,q,g0,ea,eb,ep,eq,q0,qb,gg⟩:=jR (a:=a) b0
  · rw[ep]
    exact Int.lt_of_mul_lt_mul_left (a:=g) (by rw[← ea];simpa using h1) (by omega)
  · rw[ep,eq]
    have e1:hi*b=g*(hi*q):=by rw[eb];ac_rfl
    exact Int.lt_of_mul_lt_mul_left (by rw[← e1,← ea];exact h2) (by omega)
theorem dW:(Str.ofString "still" = Str.ofString "step")=False:=eq_false (by decide +kernel)
theorem dj:(Str.ofString "still" = Str.ofString "swell")=False:=eq_false (by decide +kernel)
theorem dY:(Str.ofString "still" = Str.ofString "heed")=False:=eq_false (by decide +kernel)
theorem d7:(Str.ofString "still" = Str.ofString "calm")=False:=eq_false (by decide +kernel)
theorem eg:(Str.ofString "step" = Str.ofString "still")=False:=eq_false (by decide +kernel)
theorem dU:(Str.ofString "step" = Str.ofString "swell")=False:=eq_false (by decide +kernel)
theorem eX:(Str.ofString "step" = Str.ofString "heed")=False:=eq_false (by decide +kernel)
theorem eR:(Str.ofString "step" = Str.ofString "calm")=False:=eq_false (by decide +kernel)
theorem dk:(Str.ofString "swell" = Str.ofString "still")=False:=eq_false (by decide +kernel)
theorem dN:(Str.ofString "swell" = Str.ofString "step")=False:=eq_false (by decide +kernel)
theorem ef:(Str.ofString "swell" = Str.ofString "heed")=False:=eq_false (by decide +kernel)
theorem dO:(Str.ofString "swell" = Str.ofString "calm")=False:=eq_false (by decide +kernel)
theorem dZ:(Str.ofString "heed" = Str.ofString "still")=False:=eq_false (by decide +kernel)
theorem eZ:(Str.ofString "heed" = Str.ofString "step")=False:=eq_false (by decide +kernel)
theorem dX:(Str.ofString "heed" = Str.ofString "swell")=False:=eq_false (by decide +kernel)
theorem eO:(Str.ofString "heed" = Str.ofString "calm")=False:=eq_false (by decide +kernel)
theorem dP:(Str.ofString "calm" = Str.ofString "still")=False:=eq_false (by decide +kernel)
theorem fc:(Str.ofString "calm" = Str.ofString "step")=False:=eq_false (by decide +kernel)
theorem d9:(Str.ofString "calm" = Str.ofString "swell")=False:=eq_false (by decide +kernel)
theorem fb:(Str.ofString "calm" = Str.ofString "heed")=False:=eq_false (by decide +kernel)
theorem mF:PyData.strOk (Str.ofString "still")=true:=by decide +kernel
theorem pI:PyData.strOk (Str.ofString "step")=true:=by decide +kernel
theorem mq:PyData.strOk (Str.ofString "swell")=true:=by decide +kernel
theorem qB:PyData.strOk (Str.ofString "heed")=true:=by decide +kernel
theorem ro:PyData.strOk (Str.ofString "calm")=true:=by decide +kernel
abbrev fr (p q:Int):D:=.tup [.int p,.int q]
theorem cu (i:Decidable (Str.ofString "still" = Str.ofString "step")):@decide (Str.ofString "still" = Str.ofString "step") i=false:=by cases i with | isTrue h=>exact absurd h (by rw[dW];exact not_false) | isFalse _=>rfl
theorem bU (i:Decidable (Str.ofString "still" = Str.ofString "swell")):@decide (Str.ofString "still" = Str.ofString "swell") i=false:=by cases i with | isTrue h=>exact absurd h (by rw[dj];exact not_false) | isFalse _=>rfl
theorem cv (i:Decidable (Str.ofString "still" = Str.ofString "heed")):@decide (Str.ofString "still" = Str.ofString "heed") i=false:=by cases i with | isTrue h=>exact absurd h (by rw[dY];exact not_false) | isFalse _=>rfl
theorem cq (i:Decidable (Str.ofString "still" = Str.ofString "calm")):@decide (Str.ofString "still" = Str.ofString "calm") i=false:=by cases i with | isTrue h=>exact absurd h (by rw[d7];exact not_false) | isFalse _=>rfl
theorem cD (i:Decidable (Str.ofString "step" = Str.ofString "still")):@decide (Str.ofString "step" = Str.ofString "still") i=false:=by cases i with | isTrue h=>exact absurd h (by rw[eg];exact not_false) | isFalse _=>rfl
theorem cB (i:Decidable (Str.ofString "step" = Str.ofString "swell")):@decide (Str.ofString "step" = Str.ofString "swell") i=false:=by cases i with | isTrue h=>exact absurd h (by rw[dU];exact not_false) | isFalse _=>rfl
theorem cQ (i:Decidable (Str.ofString "step" = Str.ofString "heed")):@decide (Str.ofString "step" = Str.ofString "heed") i=false:=by cases i with | isTrue h=>exact absurd h (by rw[eX];exact not_false) | isFalse _=>rfl
theorem cO (i:Decidable (Str.ofString "step" = Str.ofString "calm")):@decide (Str.ofString "step" = Str.ofString "calm") i=false:=by cases i with | isTrue h=>exact absurd h (by rw[eR];exact not_false) | isFalse _=>rfl
theorem bT (i:Decidable (Str.ofString "swell" = Str.ofString "still")):@decide (Str.ofString "swell" = Str.ofString "still") i=false:=by cases i with | isTrue h=>exact absurd h (by rw[dk];exact not_false) | isFalse _=>rfl
theorem cE (i:Decidable (Str.ofString "swell" = Str.ofString "step")):@decide (Str.ofString "swell" = Str.ofString "step") i=false:=by cases i with | isTrue h=>exact absurd h (by rw[dN];exact not_false) | isFalse _=>rfl
theorem cw (i:Decidable (Str.ofString "swell" = Str.ofString "heed")):@decide (Str.ofString "swell" = Str.ofString "heed") i=false:=by cases i with | isTrue h=>exact absurd h (by rw[ef];exact not_false) | isFalse _=>rfl
theorem cz (i:Decidable (Str.ofString "swell" = Str.ofString "calm")):@decide (Str.ofString "swell" = Str.ofString "calm") i=false:=by cases i with | isTrue h=>exact absurd h (by rw[dO];exact not_false) | isFalse _=>rfl
theorem cF (i:Decidable (Str.ofString "heed" = Str.ofString "still")):@decide (Str.ofString "heed" = Str.ofString "still") i=false:=by cases i with | isTrue h=>exact absurd h (by rw[dZ];exact not_false) | isFalse _=>rfl
theorem cN (i:Decidable (Str.ofString "heed" = Str.ofString "step")):@decide (Str.ofString "heed" = Str.ofString "step") i=false:=by cases i with | isTrue h=>exact absurd h (by rw[eZ];exact not_false) | isFalse _=>rfl
theorem cy (i:Decidable (Str.ofString "heed" = Str.ofString "swell")):@decide (Str.ofString "heed" = Str.ofString "swell") i=false:=by cases i with | isTrue h=>exact absurd h (by rw[dX];exact not_false) | isFalse _=>rfl
theorem cT (i:Decidable (Str.ofString "heed" = Str.ofString "calm")):@decide (Str.ofString "heed" = Str.ofString "calm") i=false:=by cases i with | isTrue h=>exact absurd h (by rw[eO];exact not_false) | isFalse _=>rfl
theorem cC (i:Decidable (Str.ofString "calm" = Str.ofString "still")):@decide (Str.ofString "calm" = Str.ofString "still") i=false:=by cases i with | isTrue h=>exact absurd h (by rw[dP];exact not_false) | isFalse _=>rfl
theorem cR (i:Decidable (Str.ofString "calm" = Str.ofString "step")):@decide (Str.ofString "calm" = Str.ofString "step") i=false:=by cases i with | isTrue h=>exact absurd h (by rw[fc];exact not_false) | isFalse _=>rfl
theorem cA (i:Decidable (Str.ofString "calm" = Str.ofString "swell")):@decide (Str.ofString "calm" = Str.ofString "swell") i=false:=by cases i with | isTrue h=>exact absurd h (by rw[d9];exact not_false) | isFalse _=>rfl
theorem cS (i:Decidable (Str.ofString "calm" = Str.ofString "heed")):@decide (Str.ofString "calm" = Str.ofString "heed") i=false:=by cases i with | isTrue h=>exact absurd h (by rw[fb];exact not_false) | isFalse _=>rfl
theorem iP (a:Str)(i:Decidable (a=a)):@decide (a=a) i=true:=by cases i with | isTrue _=>rfl | isFalse h=>exact absurd rfl h
def kLs (x:D)(f:List D→Prop):Prop:=match x with
  | .ls ds=>f ds
  | _=>False
def gS (sp:FSp)(ds:List D)(μ:Mu)(Q:DK):Prop:=sp ds μ Q
def LEN (ds:List D)(P:Prop):Prop:=ds.length≤1000000∧P
theorem MS (d:D)(r:ST)(μ:Mu)(Q:DK):ah 0 (some d::r) μ Q=Q d μ:=propext Iff.rfl
theorem LH (x0:Option D)(r:ST)(d:D)(μ:Mu)(k:ST→Mu→Prop):aw 0 d (x0::r) μ k=k (some d::r) μ:=propext Iff.rfl
theorem Nk (x0:Option D)(d:D)(r:ST)(μ:Mu)(Q:DK):ah 1 (x0::some d::r) μ Q=Q d μ:=propext Iff.rfl
theorem IP (x0 x1:Option D)(r:ST)(d:D)(μ:Mu)(k:ST→Mu→Prop):aw 1 d (x0::x1::r) μ k=k (x0::some d::r) μ:=propext Iff.rfl
theorem Oy (x0 x1:Option D)(d:D)(r:ST)(μ:Mu)(Q:DK):ah 2 (x0::x1::some d::r) μ Q=Q d μ:=propext Iff.rfl
theorem Lo (x0 x1 x2:Option D)(r:ST)(d:D)(μ:Mu)(k:ST→Mu→Prop):aw 2 d (x0::x1::x2::r) μ k=k (x0::x1::some d::r) μ:=propext Iff.rfl
theorem N7 (x0 x1 x2:Option D)(d:D)(r:ST)(μ:Mu)(Q:DK):ah 3 (x0::x1::x2::some d::r) μ Q=Q d μ:=propext Iff.rfl
theorem JR (x0 x1 x2 x3:Option D)(r:ST)(d:D)(μ:Mu)(k:ST→Mu→Prop):aw 3 d (x0::x1::x2::x3::r) μ k=k (x0::x1::x2::some d::r) μ:=propext Iff.rfl
theorem Pe (x0 x1 x2 x3:Option D)(d:D)(r:ST)(μ:Mu)(Q:DK):ah 4 (x0::x1::x2::x3::some d::r) μ Q=Q d μ:=propext Iff.rfl
theorem K8 (x0 x1 x2 x3 x4:Option D)(r:ST)(d:D)(μ:Mu)(k:ST→Mu→Prop):aw 4 d (x0::x1::x2::x3::x4::r) μ k=k (x0::x1::x2::x3::some d::r) μ:=propext Iff.rfl
theorem MT (x0 x1 x2 x3 x4:Option D)(d:D)(r:ST)(μ:Mu)(Q:DK):ah 5 (x0::x1::x2::x3::x4::some d::r) μ Q=Q d μ:=propext Iff.rfl
theorem Ko (x0 x1 x2 x3 x4 x5:Option D)(r:ST)(d:D)(μ:Mu)(k:ST→Mu→Prop):aw 5 d (x0::x1::x2::x3::x4::x5::r) μ k=k (x0::x1::x2::x3::x4::some d::r) μ:=propext Iff.rfl
theorem NK (x0 x1 x2 x3 x4 x5:Option D)(d:D)(r:ST)(μ:Mu)(Q:DK):ah 6 (x0::x1::x2::x3::x4::x5::some d::r) μ Q=Q d μ:=propext Iff.rfl
theorem Jx (x0 x1 x2 x3 x4 x5 x6:Option D)(r:ST)(d:D)(μ:Mu)(k:ST→Mu→Prop):aw 6 d (x0::x1::x2::x3::x4::x5::x6::r) μ k=k (x0::x1::x2::x3::x4::x5::some d::r) μ:=propext Iff.rfl
theorem Np (x0 x1 x2 x3 x4 x5 x6:Option D)(d:D)(r:ST)(μ:Mu)(Q:DK):ah 7 (x0::x1::x2::x3::x4::x5::x6::some d::r) μ Q=Q d μ:=propext Iff.rfl
theorem IU (x0 x1 x2 x3 x4 x5 x6 x7:Option D)(r:ST)(d:D)(μ:Mu)(k:ST→Mu→Prop):aw 7 d (x0::x1::x2::x3::x4::x5::x6::x7::r) μ k=k (x0::x1::x2::x3::x4::x5::x6::some d::r) μ:=propext Iff.rfl
theorem Po (x0 x1 x2 x3 x4 x5 x6 x7:Option D)(d:D)(r:ST)(μ:Mu)(Q:DK):ah 8 (x0::x1::x2::x3::x4::x5::x6::x7::some d::r) μ Q=Q d μ:=propext Iff.rfl
theorem JB (x0 x1 x2 x3 x4 x5 x6 x7 x8:Option D)(r:ST)(d:D)(μ:Mu)(k:ST→Mu→Prop):aw 8 d (x0::x1::x2::x3::x4::x5::x6::x7::x8::r) μ k=k (x0::x1::x2::x3::x4::x5::x6::x7::some d::r) μ:=propext Iff.rfl
theorem M9 (x0 x1 x2 x3 x4 x5 x6 x7 x8:Option D)(d:D)(r:ST)(μ:Mu)(Q:DK):ah 9 (x0::x1::x2::x3::x4::x5::x6::x7::x8::some d::r) μ Q=Q d μ:=propext Iff.rfl
theorem JG (x0 x1 x2 x3 x4 x5 x6 x7 x8 x9:Option D)(r:ST)(d:D)(μ:Mu)(k:ST→Mu→Prop):aw 9 d (x0::x1::x2::x3::x4::x5::x6::x7::x8::x9::r) μ k=k (x0::x1::x2::x3::x4::x5::x6::x7::x8::some d::r) μ:=propext Iff.rfl
theorem JE (x0 x1 x2 x3 x4 x5 x6 x7 x8 x9:Option D)(d:D)(r:ST)(μ:Mu)(Q:DK):ah 10 (x0::x1::x2::x3::x4::x5::x6::x7::x8::x9::some d::r) μ Q=Q d μ:=propext Iff.rfl
theorem Ef (x0 x1 x2 x3 x4 x5 x6 x7 x8 x9 x10:Option D)(r:ST)(d:D)(μ:Mu)(k:ST→Mu→Prop):aw 10 d (x0::x1::x2::x3::x4::x5::x6::x7::x8::x9::x10::r) μ k=k (x0::x1::x2::x3::x4::x5::x6::x7::x8::x9::some d::r) μ:=propext Iff.rfl
theorem IL (x0 x1 x2 x3 x4 x5 x6 x7 x8 x9 x10:Option D)(d:D)(r:ST)(μ:Mu)(Q:DK):ah 11 (x0::x1::x2::x3::x4::x5::x6::x7::x8::x9::x10::some d::r) μ Q=Q d μ:=propext Iff.rfl
theorem Ir (x0 x1 x2 x3 x4 x5 x6 x7 x8 x9 x10 x11:Option D)(r:ST)(d:D)(μ:Mu)(k:ST→Mu→Prop):aw 11 d (x0::x1::x2::x3::x4::x5::x6::x7::x8::x9::x10::x11::r) μ k=k (x0::x1::x2::x3::x4::x5::x6::x7::x8::x9::x10::some d::r) μ:=propext Iff.rfl
theorem J7 (x0 x1 x2 x3 x4 x5 x6 x7 x8 x9 x10 x11:Option D)(d:D)(r:ST)(μ:Mu)(Q:DK):ah 12 (x0::x1::x2::x3::x4::x5::x6::x7::x8::x9::x10::x11::some d::r) μ Q=Q d μ:=propext Iff.rfl
theorem FY (x0 x1 x2 x3 x4 x5 x6 x7 x8 x9 x10 x11 x12:Option D)(r:ST)(d:D)(μ:Mu)(k:ST→Mu→Prop):aw 12 d (x0::x1::x2::x3::x4::x5::x6::x7::x8::x9::x10::x11::x12::r) μ k=k (x0::x1::x2::x3::x4::x5::x6::x7::x8::x9::x10::x11::some d::r) μ:=propext Iff.rfl
theorem F3 (x0 x1 x2 x3 x4 x5 x6 x7 x8 x9 x10 x11 x12 x13:Option D)(r:ST)(d:D)(μ:Mu)(k:ST→Mu→Prop):aw 13 d (x0::x1::x2::x3::x4::x5::x6::x7::x8::x9::x10::x11::x12::x13::r) μ k=k (x0::x1::x2::x3::x4::x5::x6::x7::x8::x9::x10::x11::x12::some d::r) μ:=propext Iff.rfl
theorem Kf (x0 x1 x2 x3 x4 x5 x6 x7 x8 x9 x10 x11 x12 x13:Option D)(d:D)(r:ST)(μ:Mu)(Q:DK):ah 14 (x0::x1::x2::x3::x4::x5::x6::x7::x8::x9::x10::x11::x12::x13::some d::r) μ Q=Q d μ:=propext Iff.rfl
theorem Fz (x0 x1 x2 x3 x4 x5 x6 x7 x8 x9 x10 x11 x12 x13 x14:Option D)(r:ST)(d:D)(μ:Mu)(k:ST→Mu→Prop):aw 14 d (x0::x1::x2::x3::x4::x5::x6::x7::x8::x9::x10::x11::x12::x13::x14::r) μ k=k (x0::x1::x2::x3::x4::x5::x6::x7::x8::x9::x10::x11::x12::x13::some d::r) μ:=propext Iff.rfl
theorem K9 (x0 x1 x2 x3 x4 x5 x6 x7 x8 x9 x10 x11 x12 x13 x14:Option D)(d:D)(r:ST)(μ:Mu)(Q:DK):ah 15 (x0::x1::x2::x3::x4::x5::x6::x7::x8::x9::x10::x11::x12::x13::x14::some d::r) μ Q=Q d μ:=propext Iff.rfl
theorem HM (x0 x1 x2 x3 x4 x5 x6 x7 x8 x9 x10 x11 x12 x13 x14 x15:Option D)(r:ST)(d:D)(μ:Mu)(k:ST→Mu→Prop):aw 15 d (x0::x1::x2::x3::x4::x5::x6::x7::x8::x9::x10::x11::x12::x13::x14::x15::r) μ k=k (x0::x1::x2::x3::x4::x5::x6::x7::x8::x9::x10::x11::x12::x13::x14::some d::r) μ:=propext Iff.rfl
theorem Sh (d:D)(ρ:ST)(μ:Mu)(Q:DK):TC d ρ μ Q=Q d μ:=propext Iff.rfl
theorem OP (r:DR2)(a b:ETr)(ρ:ST)(μ:Mu)(Q:DK):aj r a b ρ μ Q=a ρ μ fun x μ1=>b ρ μ1 fun y μ2=>r x y μ2 Q:=propext Iff.rfl
theorem Rc (r:DR)(a:ETr)(ρ:ST)(μ:Mu)(Q:DK):TUn r a ρ μ Q=a ρ μ fun x μ1=>r x μ1 Q:=propext Iff.rfl
theorem Ku (a b:ETr)(ρ:ST)(μ:Mu)(Q:DK):ig a b ρ μ Q=a ρ μ fun x μ1=>kB x fun c=>kIf c (b ρ μ1 Q) (Q (.bl false) μ1):=propext Iff.rfl
theorem IZ (a:ETr)(ρ:ST)(μ:Mu)(Q:DK):qC a ρ μ Q=a ρ μ fun x μ1=>kB x fun c=>Q (.bl (!c)) μ1:=propext Iff.rfl
theorem Tu (t:ETr)(ρ:ST)(μ:Mu)(Q:Bool→Mu→Prop):TB t ρ μ Q=t ρ μ fun x μ1=>kB x fun c=>Q c μ1:=propext Iff.rfl
theorem PJ (t u:TTr)(ρ:ST)(μ:Mu)(Q:Bool→Mu→Prop):rY t u ρ μ Q=t ρ μ fun c μ1=>kIf c (u ρ μ1 Q) (Q false μ1):=propext Iff.rfl
theorem Ri (t u:TTr)(ρ:ST)(μ:Mu)(Q:Bool→Mu→Prop):TOr t u ρ μ Q=t ρ μ fun c μ1=>kIf c (Q true μ1) (u ρ μ1 Q):=propext Iff.rfl
theorem OH (t:TTr)(ρ:ST)(μ:Mu)(Q:Bool→Mu→Prop):Ax t ρ μ Q=t ρ μ fun c μ1=>Q (!c) μ1:=propext Iff.rfl
theorem O3 (c:TTr)(a b:ETr)(ρ:ST)(μ:Mu)(Q:DK):l6 c a b ρ μ Q=c ρ μ fun k μ1=>kIf k (a ρ μ1 Q) (b ρ μ1 Q):=propext Iff.rfl
theorem PV (ρ:ST)(μ:Mu)(Q:List D→Mu→Prop):ar ρ μ Q=Q [] μ:=propext Iff.rfl
theorem Jm (a:ETr)(r:ATr)(ρ:ST)(μ:Mu)(Q:List D→Mu→Prop):af a r ρ μ Q=a ρ μ fun x μ1=>r ρ μ1 fun xs μ2=>Q (x::xs) μ2:=propext Iff.rfl
theorem N3 (t:ATr)(ρ:ST)(μ:Mu)(Q:DK):bc t ρ μ Q=t ρ μ fun ds μ1=>LEN ds (Q (.tup ds) μ1):=propext Iff.rfl
theorem Na (t:ATr)(ρ:ST)(μ:Mu)(Q:DK):fT t ρ μ Q=t ρ μ fun ds μ1=>LEN ds (Q (.ls ds) μ1):=propext Iff.rfl
theorem M3 (t:ATr)(ρ:ST)(μ:Mu)(Q:DK):lY t ρ μ Q=t ρ μ fun ds μ1=>LEN ds (∀ p,μ1 p=none→Q (.obj p) (up μ1 p (.lst ds))):=propext Iff.rfl
theorem Ke (sp:FSp)(t:ATr)(ρ:ST)(μ:Mu)(Q:DK):aq sp t ρ μ Q=t ρ μ fun ds μ1=>gS sp ds μ1 Q:=propext Iff.rfl
theorem LJ (nx:ST→Mu→Prop)(rt:DK)(bk ct:ST→Mu→Prop)(ρ:ST)(μ:Mu):ba ⟨nx,rt,bk,ct⟩ ρ μ=nx ρ μ:=propext Iff.rfl
theorem OO (t u:STr)(nx:ST→Mu→Prop)(rt:DK)(bk ct:ST→Mu→Prop)(ρ:ST)(μ:Mu):aA t u ⟨nx,rt,bk,ct⟩ ρ μ=t ⟨u ⟨nx,rt,bk,ct⟩,rt,bk,ct⟩ ρ μ:=propext Iff.rfl
theorem Lq (e:ETr)(nx:ST→Mu→Prop)(rt:DK)(bk ct:ST→Mu→Prop)(ρ:ST)(μ:Mu):fG e ⟨nx,rt,bk,ct⟩ ρ μ=e ρ μ fun _ μ1=>nx ρ μ1:=propext Iff.rfl
theorem PQ (e:ETr)(nx:ST→Mu→Prop)(rt:DK)(bk ct:ST→Mu→Prop)(ρ:ST)(μ:Mu):aW e ⟨nx,rt,bk,ct⟩ ρ μ=e ρ μ rt:=propext Iff.rfl
theorem Nr (c:TTr)(t u:STr)(nx:ST→Mu→Prop)(rt:DK)(bk ct:ST→Mu→Prop)(ρ:ST)(μ:Mu):bR c t u ⟨nx,rt,bk,ct⟩ ρ μ=c ρ μ fun b μ1=>kIf b (t ⟨nx,rt,bk,ct⟩ ρ μ1) (u ⟨nx,rt,bk,ct⟩ ρ μ1):=propext Iff.rfl
theorem Pu (e:ETr)(g:GTr)(nx:ST→Mu→Prop)(rt:DK)(bk ct:ST→Mu→Prop)(ρ:ST)(μ:Mu):aN e g ⟨nx,rt,bk,ct⟩ ρ μ=e ρ μ fun d μ1=>g d ρ μ1 nx:=propext Iff.rfl
theorem Og (i j:Nat)(a:ATr)(nx:ST→Mu→Prop)(rt:DK)(bk ct:ST→Mu→Prop)(ρ:ST)(μ:Mu):oA i j a ⟨nx,rt,bk,ct⟩ ρ μ=a ρ μ fun ds μ1=>k2 ds fun v w=>aw i v ρ μ1 fun ρ2 μ2=>aw j w ρ2 μ2 nx:=propext Iff.rfl
theorem Oo (it:ATr)(g:GTr)(b:STr)(nx:ST→Mu→Prop)(rt:DK)(bk ct:ST→Mu→Prop)(ρ:ST)(μ:Mu):j7 it g b ⟨nx,rt,bk,ct⟩ ρ μ=it ρ μ fun ds μ1=>forR g b ⟨nx,rt,bk,ct⟩ ds ρ μ1:=propext Iff.rfl
theorem De (a:ETr)(ρ:ST)(μ:Mu)(Q:List D→Mu→Prop):fV a ρ μ Q=a ρ μ fun x μ1=>kI x fun j=>(-4611686018427387904≤j∧j < 4611686018427387904)∧Q (cx 0 j.toNat) μ1:=propext Iff.rfl
theorem jW (a:ETr)(ρ:ST)(μ:Mu)(Q:List D→Mu→Prop):Qw (af a ar) ρ μ Q=a ρ μ fun x μ1=>kLs x fun ds=>Q (ki ds) μ1:=propext (Iff.of_eq (congrArg (a ρ μ) (funext fun x=>funext fun μ1=>by cases x<;>rfl)))
theorem Nb (a:ETr)(ρ:ST)(μ:Mu)(Q:DK):uK a ρ μ Q=a ρ μ fun x μ1=>kObj x fun b=>kL μ1 b fun ds=>Q (.ls ds) (dn μ1 b):=propext Iff.rfl
theorem PF (To Te:ETr)(ρ:ST)(μ:Mu)(Q:DK):lR To Te ρ μ Q=To ρ μ fun x μ1=>kObj x fun a=>kL μ1 a fun _=>Te ρ μ1 fun y μ2=>kL μ2 a fun ds=>ds.length < 1000000∧Q .non (up μ2 a (.lst (ds++[y]))):=propext Iff.rfl
theorem RB (a:ETr)(lo hi:OTr)(ρ:ST)(μ:Mu)(Q:DK):TSl a lo hi ρ μ Q=a ρ μ fun x μ1=>lo ρ μ1 fun l μ2=>hi ρ μ2 fun h μ3=>rSl x l h μ3 Q:=propext Iff.rfl
theorem Q4 (ρ:ST)(μ:Mu)(Q:Option Int→Mu→Prop):ONo ρ μ Q=Q none μ:=propext Iff.rfl
theorem ML (T:ETr)(ρ:ST)(μ:Mu)(Q:Option Int→Mu→Prop):i3 T ρ μ Q=T ρ μ fun x μ1=>kI x fun i=>Q (some i) μ1:=propext Iff.rfl
theorem N0 (i0 i1:Nat)(d0 d1:D)(ρ:ST)(μ:Mu)(k:ST→Mu→Prop):fL [i0,i1] (.tup [d0,d1]) ρ μ k=aw i0 d0 ρ μ fun ρ1 _=>aw i1 d1 ρ1 μ fun ρ2 _=>k ρ2 μ:=by simp[fL,kE,aw]
theorem QX (P:Prop):LEN [] P=P:=by simp[LEN]
theorem Qd (x0:D)(P:Prop):LEN [x0] P=P:=by simp[LEN]
theorem RF (x0 x1:D)(P:Prop):LEN [x0,x1] P=P:=by simp[LEN]
theorem QD (x0 x1 x2:D)(P:Prop):LEN [x0,x1,x2] P=P:=by simp[LEN]
theorem Rr (x0 x1 x2 x3:D)(P:Prop):LEN [x0,x1,x2,x3] P=P:=by simp[LEN]
theorem QG (x0 x1 x2 x3 x4:D)(P:Prop):LEN [x0,x1,x2,x3,x4] P=P:=by simp[LEN]
theorem QA (x0 x1 x2 x3 x4 x5:D)(P:Prop):LEN [x0,x1,x2,x3,x4,x5] P=P:=by simp[LEN]
theorem QE (x0 x1 x2 x3 x4 x5 x6 x7:D)(P:Prop):LEN [x0,x1,x2,x3,x4,x5,x6,x7] P=P:=by simp[LEN]
theorem PC (x0 x1 x2 x3 x4 x5 x6 x7 x8 x9 x10:D)(P:Prop):LEN [x0,x1,x2,x3,x4,x5,x6,x7,x8,x9,x10] P=P:=by simp[LEN]
theorem OA (x0:D)(r:List D)(μ:Mu)(Q:DK):L3.rIx (.tup (x0::r)) (.int 0) μ Q=Q x0 μ:=by rw[pw];exact congrArg (fun o=>kO o fun d=>Q d μ) (cf 0 _)
theorem NN (x0 x1:D)(r:List D)(μ:Mu)(Q:DK):L3.rIx (.tup (x0::x1::r)) (.int 1) μ Q=Q x1 μ:=by rw[pw];exact congrArg (fun o=>kO o fun d=>Q d μ) (cf 1 _)
theorem Ni (x0 x1 x2:D)(r:List D)(μ:Mu)(Q:DK):L3.rIx (.tup (x0::x1::x2::r)) (.int 2) μ Q=Q x2 μ:=by rw[pw];exact congrArg (fun o=>kO o fun d=>Q d μ) (cf 2 _)
theorem OW (x0 x1 x2 x3:D)(r:List D)(μ:Mu)(Q:DK):L3.rIx (.tup (x0::x1::x2::x3::r)) (.int 3) μ Q=Q x3 μ:=by rw[pw];exact congrArg (fun o=>kO o fun d=>Q d μ) (cf 3 _)
theorem OR (i j:Int)(μ:Mu)(Q:DK):L3.rEq (.int i) (.int j) μ Q=Q (.bl (decide (i=j))) μ:=by simp[L3.rEq,okD,eqD]
theorem O2 (i j:Str)(μ:Mu)(Q:DK):L3.rEq (.str i) (.str j) μ Q=((PyData.strOk i=true∧PyData.strOk j=true)∧Q (.bl (decide (i=j))) μ):=by simp[L3.rEq,okD,eqD]
theorem OX (i j:Bool)(μ:Mu)(Q:DK):L3.rNe (.bl i) (.bl j) μ Q=Q (.bl (!(i == j))) μ:=by simp[L3.rNe,okD,eqD]
theorem MU (i:Int)(μ:Mu)(Q:DK):gS wV [.int i] μ Q=Q (.int (if i < 0 then -i else i)) μ:=propext Iff.rfl
theorem OV (i j:Int)(μ:Mu)(Q:DK):gS sM [.int i,.int j] μ Q=Q (.int (max i j)) μ:=by show Q (.int (if j > i then j else i)) μ=_;congr 2;omega
theorem MX (i j:Int)(μ:Mu)(Q:DK):gS tq [.int i,.int j] μ Q=Q (.int (min i j)) μ:=by show Q (.int (if j < i then j else i)) μ=_;congr 2;omega
theorem Nt (i:Bool)(μ:Mu)(Q:DK):gS y1 [.bl i] μ Q=Q (.int (if i then 1 else 0)) μ:=propext Iff.rfl
theorem D8 (a:List D)(μ:Mu)(Q:DK):gS bh [.tup a] μ Q=Q (.tup a) μ:=propext Iff.rfl
theorem HG (a:List D)(μ:Mu)(Q:DK):gS bh [.ls a] μ Q=Q (.tup a) μ:=propext Iff.rfl
theorem FV (a:Addr)(μ:Mu)(Q:DK):gS bh [.obj a] μ Q=kL μ a fun xs=>Q (.tup xs) μ:=propext Iff.rfl
theorem GK (a:List D)(μ:Mu)(Q:DK):gS jF [.ls a] μ Q=Q (.ls a) μ:=propext Iff.rfl
theorem Fb (a:List D)(μ:Mu)(Q:DK):gS jM [.tup a] μ Q = ∀ p,μ p=none→Q (.obj p) (up μ p (.lst a)):=propext Iff.rfl
theorem Nq (a:Addr)(μ:Mu)(Q:DK):gS c7 [.obj a] μ Q=kL μ a fun xs=>Q (.int xs.length) μ:=propext Iff.rfl
theorem OB (x:Str)(μ:Mu)(Q:DK):gS c7 [.str x] μ Q=(x.length≤1000000∧Q (.int x.length) μ):=propext Iff.rfl
theorem mh (a:List D)(μ:Mu)(Q:DK):gS c7 [.tup a] μ Q=Q (.int a.length) μ:=propext Iff.rfl
theorem l8 (a:List D)(μ:Mu)(Q:DK):gS c7 [.ls a] μ Q=Q (.int a.length) μ:=propext Iff.rfl
theorem DP (n:Nat)(i:Int):okD n (.int i)=true:=by cases n<;>simp[okD]
theorem Ao (n:Nat)(x:Str):okD n (.str x)=PyData.strOk x:=by cases n<;>simp[okD]
theorem DW (n:Nat)(ds:List D):okD (n+1) (.tup ds)=cX n ds:=by simp[okD]
theorem DC (n:Nat)(ds:List D):okD (n+1) (.ls ds)=cX n ds:=by simp[okD]
theorem gq (n:Nat)(d:D)(r:List D):cX n (d::r)=(okD n d&&cX n r):=by simp[cX]
theorem sR (i j:Int):eqD (.int i) (.int j)=decide (i=j):=by simp[eqD]
theorem nD (i j:Str):eqD (.str i) (.str j)=decide (i=j):=by simp[eqD]
theorem tH (a b:List D):eqD (.tup a) (.tup b)=kn a b:=by simp[eqD]
theorem sS (a b:List D):eqD (.ls a) (.ls b)=kn a b:=by simp[eqD]
theorem LF (A B:Prop):kIf true A B=A:=propext Iff.rfl
theorem KW (A B:Prop):kIf false A B=B:=propext Iff.rfl
theorem L4 (c:Bool)(f):kB (.bl c) f=f c:=propext Iff.rfl
theorem FD (c:Int)(f):kI (.int c) f=f c:=propext Iff.rfl
theorem CI (c:D)(f):kO (some c) f=f c:=propext Iff.rfl
theorem Gw (c:List D)(f):kS (.tup c) f=f c:=propext Iff.rfl
theorem IT (c:List D)(f):kS (.ls c) f=f c:=propext Iff.rfl
theorem Hs (a b:D)(f):k2 [a,b] f=f a b:=propext Iff.rfl
theorem CW (c:Nat)(f):kN (some c) f=f c:=propext Iff.rfl
theorem Dz (i j:Int)(μ Q):aP (.int i) (.int j) μ Q=Q (.int (i+j)) μ:=propext Iff.rfl
theorem CG (a b:List D)(μ Q):aP (.tup a) (.tup b) μ Q=(a.length+b.length≤1000000∧Q (.tup (a++b)) μ):=propext Iff.rfl
theorem Dj (a b:List D)(μ Q):aP (.ls a) (.ls b) μ Q=(a.length+b.length≤1000000∧Q (.ls (a++b)) μ):=propext Iff.rfl
theorem Fj (i j:Int)(μ Q):j8 (.int i) (.int j) μ Q=Q (.int (i - j)) μ:=propext Iff.rfl
theorem Ew (i j:Int)(μ Q):eQ (.int i) (.int j) μ Q=(MulOk i j∧Q (.int (i*j)) μ):=propext Iff.rfl
theorem EB (i j:Int)(μ Q):mL (.int i) (.int j) μ Q=(ji j∧Q (.int (i.fdiv j)) μ):=propext Iff.rfl
theorem Hw (i j:Int)(μ Q):lJ (.int i) (.int j) μ Q=(j≠0∧Q (.int (i.fmod j)) μ):=propext Iff.rfl
theorem He (i j:Int)(μ Q):Hb (.int i) (.int j) μ Q=(pC i j∧Q (.int (i ^ j.toNat)) μ):=propext Iff.rfl
theorem Jg (i j:Int)(μ Q):rLt (.int i) (.int j) μ Q=Q (.bl (decide (i < j))) μ:=propext Iff.rfl
theorem Lc (i j:Int)(μ Q):rGt (.int i) (.int j) μ Q=Q (.bl (decide (j < i))) μ:=propext Iff.rfl
theorem KJ (i j:Int)(μ Q):rGe (.int i) (.int j) μ Q=Q (.bl (decide (j≤i))) μ:=propext Iff.rfl
theorem Eb (c:String)(i:Int)(μ Q):fe c (.int i) μ Q=Q (.bl (eW "int" c)) μ:=propext Iff.rfl
theorem F5 (c:String)(i:List D)(μ Q):fe c (.tup i) μ Q=Q (.bl (eW "tuple" c)) μ:=propext Iff.rfl
theorem Gb (c:String)(i:List D)(μ Q):fe c (.ls i) μ Q=Q (.bl (eW "list" c)) μ:=propext Iff.rfl
theorem E8 (c:String)(i:Str)(μ Q):fe c (.str i) μ Q=Q (.bl (eW "str" c)) μ:=propext Iff.rfl
theorem Fq (c:String)(μ Q):fe c .non μ Q=Q (.bl (eW "NoneType" c)) μ:=propext Iff.rfl
theorem Jf (μ Q):rIs .non .non μ Q=Q (.bl true) μ:=propext Iff.rfl
theorem Jj (i:Int)(μ Q):rIs (.int i) .non μ Q=Q (.bl false) μ:=propext Iff.rfl
theorem J5 (i:List D)(μ Q):rIs (.tup i) .non μ Q=Q (.bl false) μ:=propext Iff.rfl
theorem Kz (a:List D)(lo hi)(μ Q):rSl (.tup a) lo hi μ Q=Q (.tup (cutD a lo hi)) μ:=propext Iff.rfl
theorem jX (ds:List D)(i:Int)(μ Q):L3.rIx (.tup ds) (.int i) μ Q=kO (atD ds i) fun d=>Q d μ:=propext Iff.rfl
theorem jS (ds:List D)(i:Int)(μ Q):L3.rIx (.ls ds) (.int i) μ Q=kO (atD ds i) fun d=>Q d μ:=propext Iff.rfl
theorem j5 (x y:D)(μ Q):L3.rEq x y μ Q=((okD 40 x=true∧okD 40 y=true)∧Q (.bl (eqD x y)) μ):=propext Iff.rfl
theorem jY (x y:D)(μ Q):L3.rNe x y μ Q=((okD 40 x=true∧okD 40 y=true)∧Q (.bl (!eqD x y)) μ):=propext Iff.rfl
theorem kif {p:Prop} [Decidable p] {A B:Prop}(h1:p→A)(h2:¬ p→B):kIf (decide p) A B:=by
  by_cases h:p
  · rw[decide_eq_true h];exact h1 h
  · rw[decide_eq_false h];exact h2 h
theorem TR {p:Prop} [Decidable p] {A B:Prop}(h1:¬ p→A)(h2:p→B):kIf (!decide p) A B:=by
  by_cases h:p
  · rw[decide_eq_true h];exact h2 h
  · rw[decide_eq_false h];exact h1 h
theorem Bl {p:Prop} [Decidable p] {A B:Prop}(h:p)(hA:A):kIf (decide p) A B:=by rw[decide_eq_true h];exact hA
theorem Hk {p:Prop} [Decidable p] {A B:Prop}(h:¬ p)(hB:B):kIf (decide p) A B:=by rw[decide_eq_false h];exact hB
theorem RD {c:Bool}{A B:Prop}(h1:c=true→A)(h2:c=false→B):kIf c A B:=by
  cases c
  · exact h2 rfl
  · exact h1 rfl
theorem Mg {o:Option D}{d:D}{f:D→Prop}(e:o=some d)(h:f d):kO o f:=by rw[e];exact h
theorem bo {μ:Mu}{a:Addr}{ds:List D}{f:List D→Prop}(e:μ a=some (.lst ds))(h:f ds):kL μ a f:=by rw[Qb e];exact h
section
open PySem PySem.Spec PyProof.Rows L2
def MH (kvs:List (Str×D))(s:Str):Option D:=(kvs.find? fun kv=>decide (kv.1=s)).map (·.2)
def BL (K:PySem.W.Frag):List DictEntry→List (Str×D)→Prop
  | [],[]=>True
  | e::es,(x,d)::r=>(∃ t,e.key=.str x t)∧(∃ v,RelV v e.val∧∀ H,Dp K H v d)∧BL K es r
  | _,_=>False
theorem wg (s x:Str)(t:Tok):Value.isStrOf s (.str x t)=decide (x=s):=by
  by_cases h:x=s
  · subst h;simp[Value.isStrOf]
  · rw[decide_eq_false h];simp[Value.isStrOf];first | exact h | exact fun z=>h z.symm
theorem BL.find {K:PySem.W.Frag}(s:Str):∀ {es:List DictEntry} {kvs:List (Str×D)},BL K es kvs→
    match MH kvs s with
    | none=>(es.find? fun e=>Value.isStrOf s e.key)=none
    | some d=>∃ e v,(es.find? fun e=>Value.isStrOf s e.key)=some e∧RelV v e.val∧∀ H,Dp K H v d
  | [],[],_=>rfl
  | e::es,(x,d)::r,h=>by
    obtain ⟨⟨t,ht⟩,⟨v,rv,pv⟩,hr⟩:=h
    have ih:=BL.find s hr
    unfold MH at ih ⊢
    rw[List.find?_cons,List.find?_cons,ht,wg]
    by_cases hx:x=s
    · simp only[decide_eq_true hx,Option.map_some]
      exact ⟨e,v,rfl,rv,pv⟩
    · simp only[decide_eq_false hx]
      exact ih
  | [],_::_,h=>False.elim h
  | _::_,[],h=>False.elim h
section
variable {X:Cx} {a b c e:Expr} {Ta Tb Te:ETr} {pos gpos:Pos} {x:Str} {kvs:List (Str×D)}
end
section
variable {X:Cx} {a b:Expr} {Ta Tb:ETr} {pos:Pos}
end
end
section
open PySem PySem.Spec PyProof.Rows L2
def bN (kvs:List (Key×D))(k:Key):Option D:=(kvs.find? fun kv=>decide (kv.1=k)).map (·.2)
def putD (kvs:List (Key×D))(k:Key)(v:D):List (Key×D):=
  if (kvs.any fun kv=>decide (kv.1=k))=true then kvs.map (fun kv=>if kv.1=k then (kv.1,v) else kv) else kvs++[(k,v)]
def xA (x:D)(f:Key→Prop):Prop:=match x with
  | .int i=>f (.inl i)
  | .str s=>f (.inr s)
  | _=>False
theorem DpK.nil {K:PySem.W.Frag}{H:Hp}:DpK K H [] []:=⟨rfl,.nil⟩
theorem DpK.cons {K:PySem.W.Frag}{H:Hp}{k:Key}{v:V}{d:D}{xs:List (Key×V)}{kvs:List (Key×D)}(h:Dp K H v d)(r:DpK K H xs kvs):DpK K H ((k,v)::xs) ((k,d)::kvs):=
  ⟨by simp[r.1],.cons h r.2⟩
theorem DpK.ind {K:PySem.W.Frag}{H:Hp}{P:List (Key×V)→List (Key×D)→Prop}(h0:P [] [])(h1:∀ k v d xs kvs,Dp K H v d→DpK K H xs kvs→P xs kvs→P ((k,v)::xs) ((k,d)::kvs)) :
    ∀ {xs:List (Key×V)} {kvs:List (Key×D)},DpK K H xs kvs→P xs kvs
  | [],[],_=>h0
  | [],_::_,h=>by cases h.1
  | _::_,[],h=>by cases h.1
  | (k,v)::xs,(k',d)::kvs,h=>by
    obtain ⟨h2,h3⟩:=h
    simp only[List.map_cons,List.cons.injEq] at h2
    obtain ⟨rfl,h2⟩:=h2
    cases h3 with
    | cons p l=>exact h1 k v d xs kvs p ⟨h2,l⟩ (DpK.ind h0 h1 ⟨h2,l⟩)
theorem DpK.look {K:PySem.W.Frag}{H:Hp}{xs:List (Key×V)}{kvs:List (Key×D)}(h:DpK K H xs kvs)(k:Key) :
    (bN kvs k=none∧gX xs k=none)∨∃ v d,bN kvs k=some d∧gX xs k=some v∧Dp K H v d:=by
  refine DpK.ind (P:=fun xs kvs=>(bN kvs k=none∧gX xs k=none)∨∃ v d,bN kvs k=some d∧gX xs k=some v∧Dp K H v d) (.inl ⟨rfl,rfl⟩) (fun j v d xs kvs p _ ih=>?_) h
  by_cases e:j=k
  · refine .inr ⟨v,d,?_,kX (p:=(j,v)) e,p⟩
    unfold bN;rw[List.find?_cons];simp[e]
  · have e1:bN ((j,d)::kvs) k=bN kvs k:=by unfold bN;rw[List.find?_cons];simp[e]
    rw[e1,lQ (p:=(j,v)) e]
    exact ih
theorem DpK.any {K:PySem.W.Frag}{H:Hp}{xs:List (Key×V)}{kvs:List (Key×D)}(h:DpK K H xs kvs)(k:Key):(xs.any fun kv=>decide (kv.1=k))=kvs.any fun kv=>decide (kv.1=k):=by
  refine DpK.ind (P:=fun xs kvs=>(xs.any fun kv=>decide (kv.1=k))=kvs.any fun kv=>decide (kv.1=k)) rfl (fun j v d xs kvs p _ ih=>?_) h
  rw[List.any_cons,List.any_cons,ih]
theorem DpK.put {K:PySem.W.Frag}{H:Hp}{xs:List (Key×V)}{kvs:List (Key×D)}(h:DpK K H xs kvs)(k:Key){v:V}{d:D}(p:Dp K H v d):DpK K H (putK xs k v) (putD kvs k d):=by
  unfold putK putD
  rw[h.any k]
  split
  · refine DpK.ind (P:=fun xs kvs=>DpK K H (xs.map fun kv=>if kv.1=k then (kv.1,v) else kv) (kvs.map fun kv=>if kv.1=k then (kv.1,d) else kv)) .nil (fun j v' d' xs kvs p' _ ih=>?_) h
    rw[List.map_cons,List.map_cons]
    by_cases e:j=k
    · rw[if_pos e,if_pos e];exact .cons p ih
    · rw[if_neg e,if_neg e];exact .cons p' ih
  · refine DpK.ind (P:=fun xs kvs=>DpK K H (xs++[(k,v)]) (kvs++[(k,d)])) (.cons p .nil) (fun j v' d' xs kvs p' _ ih=>?_) h
    exact .cons p' ih
theorem DpK.length {K:PySem.W.Frag}{H:Hp}{xs:List (Key×V)}{kvs:List (Key×D)}(h:DpK K H xs kvs):xs.length=kvs.length:=by
  have:=h.2.length
  simpa using this
theorem rq {K:PySem.W.Frag}{H:Hp}{y:V}{dy:D}{f:Key→Prop}(p:Dp K H y dy)(h:xA dy f):∃ k,y=kV k∧f k:=by
  cases p with
  | int i=>exact ⟨.inl i,rfl,h⟩
  | str s=>exact ⟨.inr s,rfl,h⟩
  | _=>exact False.elim h
theorem iw {K:PySem.W.Frag}{H:Hp}{x:V}{dx:D}{f:Addr→Prop}(p:Dp K H x dx)(h:kObj dx f):∃ a,x=.ref a∧f a:=by
  cases p with
  | obj a=>exact ⟨a,rfl,h⟩
  | _=>exact False.elim h
theorem qR {H:Hp}{q:Addr}{u:HO}{xs:List (Key×V)}(ex:H q=some (.dK xs)):Tk H (L2.upd H q u):=
  .upd (fun ys z=>by rw[ex] at z;cases z) fun o' w z=>by rw[ex] at z;cases z
theorem y4 {K:PySem.W.Frag}{H:Hp}{μ:Mu}{q:Addr}{xs ys:List (Key×V)}{ds:List (Key×D)}(m:bJ K H μ)(ex:H q=some (.dK xs))(l:DpK K H ys ds):bJ K (L2.upd H q (.dK ys)) (up μ q (.dct ds)):=fun z y ez=>by
  by_cases zq:z=q
  · subst zq
    rw[aG] at ez;cases ez
    exact ⟨ys,aM,l.mono (qR ex)⟩
  · rw[aU zq] at ez
    exact (m z _ ez).ne (qR ex) zq
theorem Bu {K:PySem.W.Frag}{H:Hp}{μ:Mu}{q:Addr}{ys:List (Key×V)}{ds:List (Key×D)}(m:bJ K H μ)(hq:H q=none)(l:DpK K H ys ds):bJ K (L2.upd H q (.dK ys)) (up μ q (.dct ds)):=fun z y ez=>by
  by_cases zq:z=q
  · subst zq
    rw[aG] at ez;cases ez
    exact ⟨ys,aM,l.mono (.new hq)⟩
  · rw[aU zq] at ez
    exact c5 m hq z y ez
section
variable {X:Cx} {o i a b c e value:Expr} {To Ti Ta Tb Te:ETr} {pos tpos:Pos}
theorem hu1 (hu:X.A.units+64 < cLine):X.A.units+1 < cLine:=by omega
def bD (To Ti:ETr):ETr:=fun ρ μ Q=>To ρ μ fun x μ1=>Ti ρ μ1 fun y μ2=>kObj x fun a=>kD μ2 a fun kvs=>xA y fun k=>kO (bN kvs k) fun d=>Q d μ2
theorem bH (hu:X.A.units+64 < cLine)(ho:LE X o To)(hi:LE X i Ti)(hs:Pj i:=by intro _ _;rfl):LE X (.Subscript o i pos) (bD To Ti):=by
  obtain ⟨to,po,so⟩:=ho.ex
  obtain ⟨ti,pi,si⟩:=hi.ex
  refine ⟨_,LM (hu1 hu) po pi hs,fun σ H ρ μ Q Q' rl h k=>so σ H ρ μ _ _ rl h fun x H1 dx μ1 t1 m1 p1 h1=>si σ H1 ρ μ1 _ _ (rl.go t1 m1) h1 fun y H2 dy μ2 t2 m2 p2 h2=>?_⟩
  obtain ⟨q,rfl,h2⟩:=iw p1 h2
  obtain ⟨kvs,e0,h2⟩:=qj h2
  obtain ⟨kk,rfl,h2⟩:=rq p2 h2
  obtain ⟨d,e1,h2⟩:=kJ h2
  obtain ⟨xs,ex,l⟩:=m2 q _ e0
  rcases l.look kk with ⟨z,_⟩ | ⟨v,d',z,ev,pv⟩
  · rw[z] at e1;cases e1
  · rw[z] at e1;cases e1
    exact ⟨q,v,rfl,by rw[← ev];exact sf.k ex,k _ H2 _ μ2 (t1.trans t2) m2 pv h2⟩
def jc (To Ti Te:ETr):STr:=fun E ρ μ=>Te ρ μ fun v μ1=>To ρ μ1 fun x μ2=>Ti ρ μ2 fun y μ3=>kObj x fun a=>kD μ3 a fun kvs=>xA y fun k=>kvs.length < 1000000∧E.nx ρ (up μ3 a (.dct (putD kvs k v)))
theorem lV (hu:X.A.units+64 < cLine)(ho:LE X o To)(hi:LE X i Ti)(he:LE X value Te)(hs:swapsWith value (some (.Subscript o i tpos)) pos.line X.env=pure false:=by rfl) :
    LS X (.Assign [.Subscript o i tpos] value pos) (jc To Ti Te):=by
  obtain ⟨to,po,so⟩:=ho.ex
  obtain ⟨ti,pi,si⟩:=hi.ex
  obtain ⟨te,pe,se⟩:=he.ex
  refine ⟨_,JU (hu1 hu) po pi pe hs,fun σ H ρ μ E E' rl h k=>se σ H ρ μ _ _ rl h fun v H1 dv μ1 t1 m1 p1 h1=>so σ H1 ρ μ1 _ _ (rl.go t1 m1) h1 fun x H2 dx μ2 t2 m2 p2 h2=>
    si σ H2 ρ μ2 _ _ (rl.go (t1.trans t2) m2) h2 fun y H3 dy μ3 t3 m3 p3 h3=>?_⟩
  obtain ⟨q,rfl,h3⟩:=iw p2 h3
  obtain ⟨kvs,e0,h3⟩:=qj h3
  obtain ⟨kk,rfl,h3⟩:=rq p3 h3
  obtain ⟨xs,ex,l⟩:=m3 q _ e0
  have t4:Tk H3 (L2.upd H3 q (.dK (putK xs kk v))):=qR ex
  have t14:=t1.trans (t2.trans (t3.trans t4))
  refine ⟨q,_,rfl,ur.k ex (by rw[l.length];exact Nat.lt_of_lt_of_le h3.1 (by decide)),k.nx _ _ ρ _ t14 (rl.go t14 (y4 m3 ex (l.put kk (p1.mono (t2.trans t3))))) h3.2⟩
def lA (f:Int→Int→Int)(To Ti Te:ETr):STr:=fun E ρ μ=>To ρ μ fun x μ1=>Ti ρ μ1 fun y μ2=>kObj x fun a=>kD μ2 a fun kvs=>xA y fun k=>kO (bN kvs k) fun d=>kI d fun m=>
  Te ρ μ2 fun w μ3=>kI w fun n=>kD μ3 a fun kvs3=>kvs3.length < 1000000∧E.nx ρ (up μ3 a (.dct (putD kvs3 k (.int (f m n)))))
theorem HC {to ti te:TE}{K:PySem.W.Frag}{f:Int→Int→Int}{rd:V→V→Hp→VK→Prop}(hrd:∀ i j H Q,Q (.int (f i j)) H→rd (.int i) (.int j) H Q)(so:Sim K to To)(si:Sim K ti Ti)(se:Sim K te Te) :
    EX K (Mb to ti te rd) (lA f To Ti Te):=fun σ H ρ μ E E' rl h k=>so σ H ρ μ _ _ rl h fun x H1 dx μ1 t1 m1 p1 h1=>si σ H1 ρ μ1 _ _ (rl.go t1 m1) h1 fun y H2 dy μ2 t2 m2 p2 h2=>by
    obtain ⟨q,rfl,h2⟩:=iw p1 h2
    obtain ⟨kvs,e0,h2⟩:=qj h2
    obtain ⟨kk,rfl,h2⟩:=rq p2 h2
    obtain ⟨d,e1,h2⟩:=kJ h2
    obtain ⟨xs,ex,l⟩:=m2 q _ e0
    rcases l.look kk with ⟨z,_⟩ | ⟨v,d',z,ev,pv⟩
    · rw[z] at e1;cases e1
    · rw[z] at e1;cases e1
      cases pv with
      | int m=>
        refine ⟨q,.int m,rfl,by rw[← ev];exact sf.k ex,se σ H2 ρ μ2 _ _ (rl.go (t1.trans t2) m2) h2 fun w H3 dw μ3 t3 m3 p3 h3=>?_⟩
        cases p3 with
        | int n=>
          obtain ⟨kvs3,e3,h3⟩:=qj (show kD μ3 q _ from h3)
          obtain ⟨xs3,ex3,l3⟩:=m3 q _ e3
          have t4:Tk H3 (L2.upd H3 q (.dK (putK xs3 kk (.int (f m n))))):=qR ex3
          have t14:=t1.trans (t2.trans (t3.trans t4))
          exact hrd m n H3 _ ⟨_,ur.k ex3 (by rw[l3.length];exact Nat.lt_of_lt_of_le h3.1 (by decide)),k.nx _ _ ρ _ t14 (rl.go t14 (y4 m3 ex3 (l3.put kk (.int _)))) h3.2⟩
        | _=>exact False.elim h3
      | _=>exact False.elim h2
theorem kK (hu:X.A.units+64 < cLine)(ho:LE X o To)(hi:LE X i Ti)(he:LE X value Te)(ha:∀ ov iv new,augStore i ov iv new=(do holding [new,ov,iv] (setItem ov iv new);release [new,ov,iv] [];pure .next):=by intros;rfl) :
    LS X (.AugAssign (.Subscript o i tpos) .Add value pos) (lA (fun m n=>m+n) To Ti Te):=by
  obtain ⟨to,po,so⟩:=ho.ex
  obtain ⟨ti,pi,si⟩:=hi.ex
  obtain ⟨te,pe,se⟩:=he.ex
  exact ⟨_,IG (hu1 hu) po pi pe N6 ha,HC (fun i j H Q q=>⟨i,j,rfl,rfl,q⟩) so si se⟩
def LD (f:Int→Int→Int)(i:Nat)(Te:ETr):STr:=fun E ρ μ=>kO (lk ρ i) fun d=>kI d fun m=>Te ρ μ fun w μ1=>kI w fun n=>aw i (.int (f m n)) ρ μ1 E.nx
theorem Jz {te:TE}{K:PySem.W.Frag}{f:Int→Int→Int}{j:Nat}(se:Sim K te Te):EX K (QW j te (ipI f)) (LD f j Te):=fun σ H ρ μ E E' rl h k=>by
  obtain ⟨d,e1,h⟩:=kJ h
  obtain ⟨v,ev,pv⟩:=rl.loc j d e1
  cases pv with
  | int m=>
    refine ⟨.int m,ev,se σ H ρ μ _ _ rl h fun w H1 dw μ1 t1 m1 p1 h1=>?_⟩
    cases p1 with
    | int n=>exact ⟨m,n,rfl,rfl,k.nx _ _ _ _ t1 ((rl.go t1 m1).set (.int _) j) h1⟩
    | _=>exact False.elim h1
  | _=>exact False.elim h
theorem CQ (j:Nat){x:Str}(hN:X.N.Nodup)(he:LE X e Te)(hi:X.N[j]? = some x:=by rfl)(hx:Loc X.env.scope x:=by first | exact Or.inl rfl | exact Or.inr rfl)(hf:X.fn x=true∨X.env.scope.names.lookup x=some .local:=by first | exact .inl rfl | exact .inr rfl | assumption) :
    LS X (.AugAssign (.Name x tpos) .Add e pos) (LD (fun m n=>m+n) j Te):=by
  obtain ⟨te,pe,se⟩:=he.ex
  exact ⟨_,Px hN hi hx pe Ov hf,Jz se⟩
def TZ (K:PySem.W.Frag)(trs:List (TE×TE))(ks:List Key)(T:ATr):Prop:=∀ σ H ρ μ (Q:List D→Mu→Prop) (Q':List (V×V)→Hp→Prop),Rl K σ H ρ μ→T ρ μ Q→
  (∀ vs H' ds μ',Tk H H'→bJ K H' μ'→vs.length=ks.length→DpL K H' vs ds→Q ds μ'→Q' ((ks.map kV).zip vs) H')→uJ trs σ H Q'
structure LPs (X:Cx) (pos:Pos) (keys:List (Option Expr)) (values:List Expr) (ks:List Key) (T:ATr):Prop where
  ex:∃ trs,PPs X pos keys values trs∧TZ X.K trs ks T
theorem JQ:LPs X pos [] [] [] ar:=⟨[],Kn,fun σ H ρ μ Q Q' rl h k=>k [] H [] μ (.refl H) rl.mu rfl .nil h⟩
theorem jT {s:Str}{j}{p:Pos}{ks:List (Option Expr)}{vs:List Expr}{kk:List Key}{At:ATr}(hv:LE X value Te)(hr:LPs X pos ks vs kk At):LPs X pos (some (.Constant (.str s) j p)::ks) (value::vs) (.inr s::kk) (af Te At):=by
  obtain ⟨te,pe,se⟩:=hv.ex
  obtain ⟨trs,pr,sr⟩:=hr.ex
  refine ⟨_,F7 Es pe pr,fun σ H ρ μ Q Q' rl h k=>?_⟩
  refine se σ H ρ μ _ _ rl h fun y H1 dy μ1 t1 m1 p1 h1=>sr σ H1 ρ μ1 _ _ (rl.go t1 m1) h1 fun vs H2 ds μ2 t2 m2 hl p2 h2=>?_
  exact k (y::vs) H2 (dy::ds) μ2 (t1.trans t2) m2 (by simp[hl]) (.cons (p1.mono t2) p2) h2
def Fy (ks:List Key)(At:ATr):ETr:=fun ρ μ Q=>∀ p,μ p=none→At ρ (up μ p (.dct [])) fun ds μ2=>kD μ2 p fun kvs=>kvs=[]∧Q (.obj p) (up μ2 p (.dct (ks.zip ds)))
theorem Eh {acc:List (Key×V)}{k:Key}{v:V}(h:gX acc k=some v):k∈acc.map (·.1):=by
  unfold gX at h
  obtain ⟨p,hp,_⟩:=Option.map_eq_some_iff.mp h
  have h1:=List.mem_of_find?_eq_some hp
  have h2:=List.find?_some hp
  exact List.mem_map.mpr ⟨p,h1,of_decide_eq_true h2⟩
theorem pY:∀ (kvs acc:List (Key×V)),((acc++kvs).map (·.1)).Nodup→eB acc kvs=acc++kvs
  | [],acc,_=>by simp[eB]
  | p::r,acc,h=>by
    have hn:gX acc p.1=none:=by
      cases e:gX acc p.1 with
      | none=>rfl
      | some v=>
        exfalso
        have:=Eh e
        rw[List.map_append,List.map_cons] at h
        exact (List.nodup_append.mp h).2.2 _ this _ List.mem_cons_self rfl
    show eB (putK acc p.1 p.2) r=_
    rw[EK p.2 hn]
    rw[pY r (acc++[(p.1,p.2)]) (by simpa using h)]
    simp
theorem yz:∀ (ks:List Key) (vs:List V),(ks.map kV).zip vs=(ks.zip vs).map fun kv=>(kV kv.1,kv.2)
  | [],_=>by simp
  | _::_,[]=>by simp
  | k::ks,v::vs=>by simp[yz ks vs]
theorem DpK.zip {K:PySem.W.Frag}{H:Hp}:∀ {ks:List Key} {vs:List V} {ds:List D},DpL K H vs ds→DpK K H (ks.zip vs) (ks.zip ds)
  | [],_,_,_=>by simp;exact .nil
  | _::_,_,_,.nil=>by simp;exact .nil
  | k::ks,_,_,.cons p l=>.cons p (DpK.zip l)
theorem IK {keys:List (Option Expr)}{values:List Expr}{ks:List Key}{At:ATr}(h:LPs X pos keys values ks At)(hall:keys.all (·.isSome)=true:=by rfl)(hl:keys.length=values.length:=by rfl)(h0:keys≠[]:=by nofun)
    (h15:keys.length≤15:=by decide) (hk:keys.length=ks.length:=by rfl) (hn:ks.Nodup:=by decide):LE X (.Dict keys values pos) (Fy ks At):=by
  obtain ⟨trs,pr,sr⟩:=h.ex
  refine ⟨_,IY pr hall hl h0 h15,fun σ H ρ μ Q Q' rl h k p hp=>?_⟩
  refine sr σ _ ρ _ _ _ (rl.go (.new hp) (Bu rl.mu hp .nil)) (h p (rl.mu.free hp)) fun vs H2 ds μ2 t2 m2 hvl p2 h2=>?_
  obtain ⟨kvs,e0,rfl,h2⟩:=qj h2
  obtain ⟨xs,ex,l⟩:=m2 p _ e0
  have:xs=[]:=by have:=l.length;cases xs with | nil=>rfl | cons=>simp at this
  subst this
  refine ⟨ex,ks.zip vs,yz ks vs,by rw[List.length_zip];omega,?_⟩
  have e:eB [] (ks.zip vs)=ks.zip vs:=by
    have:=pY (ks.zip vs) [] (by rw[List.nil_append,List.map_fst_zip (by omega)];exact hn)
    simpa using this
  rw[e]
  exact k _ _ _ _ ((Tk.new hp).trans (t2.trans (qR ex))) (y4 m2 ex (.zip p2)) (.obj p) h2
end
end
section
open PySem PySem.Spec PyProof.Rows L2
theorem C9:typeLookup (.type "list") (Str.ofString "keys")=pure none:=am_miss_of_fast (by kernel_rfl)
theorem NT {prog:Program}{w:World}{A:Around}{E:Value→Shared→Prop}{s:Shared}{a:Addr}{o:Obj}{xs:Array Value}{k:Nat}{Q:Option Value→Shared→Prop}
    (hx:s.heap.get? a=some o) (hc:o.cls=.type "list") (hdat:o.data=.seq xs k) (hd:o.dict=none) (hA:A.handled=none)
    (h:∀ h' tk,(∀ b ob,s.heap.get? b=some ob→h'.get? b=some ob)→Q none { s with heap:=h',toks:=tk }) :
    wpAny (model prog w) A (getAttr? (.ref a) "keys") Q E s:=by
  obtain ⟨c,dct,dat,sl⟩:=o
  simp only at hc hdat hd
  subst hc hdat hd
  obtain ⟨hp,g,d,tk,os⟩:=s
  have hT:∀ tk',(⟨hp,g,d,tk',os⟩:Shared).TypeIs (.ref a) "list" := fun _=>⟨_,hx,rfl⟩
  have f1:=sub_AttributeError
  have f3:=F.slot_list_getattribute.lookup
  have f4:=F.slot_list_getattribute.bind (.ref a)
  have f5:=am_list_getattr_none
  unfold getAttr? getAttrBy? getAttrBy
  repeat (any_goals (first | assumption | exact hT _ | ((with_reducible show wpAny _ _ (call (Value.builtin "list.__getattribute__") _ _) _ _ _);refine call_meets F.slot_list_getattribute (hT _) am_entry_list_getattribute (F.args_list_getattribute_2 _ _) (meets_getattribute_miss_list a xs k sl (Str.ofString "keys") _ C9 (by decide +kernel) (by decide +kernel)) ⟨hx,hA,fun h' tk' e hx'=>?_⟩) | wp_step))
  obtain ⟨t',u',he⟩:=hx'.there
  show wpAny _ _ (getattributeRaised _ _ _ _ _ _ _) _ _ _
  unfold getattributeRaised
  repeat (any_goals (first | assumption | wp_step))
  exact h _ _ hx'.keeps
theorem kP:plainId "dict.update.loop" = true:=by decide +kernel
theorem vk:entryFor table "dict.update.loop" = some Builtin.«dict.update.loop»:=entryFor_of_fast (by kernel_rfl)
inductive f7 {prog:Program} {w:World} {κ:Type} [DecidableEq κ] (knd:KeyKind prog w κ) (h:Heap):List Value→List (κ×Value)→Prop
  | nil:f7 knd h [] []
  | cons {a:Addr} {u v:Value} {k:κ} {us:List Value} {r:List (κ×Value)}:IsTup h a #[u,v]→knd.is k u=true→f7 knd h us r→f7 knd h (.ref a::us) ((k,v)::r)
section
variable {prog:Program} {w:World} {κ:Type} [DecidableEq κ] {knd:KeyKind prog w κ}
theorem f7.keeps {h h':Heap}(kp:∀ b o,h.get? b=some o→o.cls=.type "tuple" → h'.get? b=some o):∀ {us:List Value} {r:List (κ×Value)},f7 knd h us r→f7 knd h' us r
  | _,_,.nil=>.nil
  | _,_,.cons t k r=>.cons (by obtain ⟨o,e,c,n,d⟩:=t;exact ⟨o,kp _ o e c,c,n,d⟩) k (r.keeps kp)
theorem wK {A:Around}{R:Result→Shared→Prop}{d it l:Addr}{items:Array Value}(hA:A.handled=none)(n1:d≠it)(n2:l≠it)(n3:l≠d) :
    ∀ (us:List Value) (r:List (κ×Value)) (i:Nat) (kvs:List (κ×Value)) (s:Shared),items.toList.drop i=us→f7 knd s.heap us r→s.heap.IsListIter it l i→s.heap.IsList l items→s.heap.DictOf knd d kvs→kvs.length+r.length≤sizeLine→
      (∀ h' tk,h'.DictOf knd d (merged kvs r)→(∀ b o,b≠it→b≠d→s.heap.get? b=some o→h'.get? b=some o)→R (.ok (.ret .none)) { s with heap:=h',toks:=tk })→
      wpAny (model prog w) A.in1 (Builtin.«dict.update.loop» ⟨[.ref d,.ref it,rawInt i,.none],[]⟩) (fun fin s'=>match fin with | .done f=>R (.ok f) s' | .again c'=>c'.quiet=true∧codeAny (model prog w) A c' R s') (fun e s'=>R (.error e) s') s
  | [],r,i,kvs,s,hd,P,hit,hl,hm,hz,h=>by
    cases P
    have hx:items[i]? = none:=by
      have:items.toList.length≤i:=by
        have:=congrArg List.length hd
        simp at this;simp;omega
      simpa using this
    show wpAny _ _ (pyNext (.ref it) >>= _) _ _ _
    refine wpAny_bind (wpAny_pyNext_list_end (by exact hA) hit hl hx fun h' k=>?_)
    show wpAny _ _ (Builtin.Dict.addKeywords d [] >>= _) _ _ _
    refine wpAny_bind (wpAny_pure (wpAny_pure ?_))
    refine h h' s.toks ?_ fun b o hb _ e=>k b o hb e
    obtain ⟨o,es,ep,ho,rest⟩:=hm
    exact ⟨o,es,ep,k d o n1 ho,rest⟩
  | u::us,r,i,kvs,s,hd,P,hit,hl,hm,hz,h=>by
    cases P with
    | @cons a ku v k _ r tp hk P=>
    have hx:items[i]? = some (.ref a):=by
      have:items.toList[i]? = some (.ref a):=by
        have:=congrArg (fun l=>l[0]?) hd
        simpa using this
      simpa using this
    have hd':items.toList.drop (i+1)=us:=by
      have:=congrArg List.tail hd
      simpa using this
    show wpAny _ _ (pyNext (.ref it) >>= _) _ _ _
    refine wpAny_bind (wpAny_pyNext_list_item hit hl hx fun h1 it1 k1=>?_)
    have ne_it:∀ b o,s.heap.get? b=some o→o.cls≠.type "list_iterator" → b≠it:=fun b o e c z=>by
      subst z
      obtain ⟨o',e',c',_⟩:=hit
      rw[e] at e';cases e';exact c c'
    have tp1:IsTup h1 a #[ku,v]:=by
      obtain ⟨o,e,c,n,dd⟩:=tp
      exact ⟨o,(k1.2 a (ne_it a o e (by rw[c];decide))).trans e,c,n,dd⟩
    obtain ⟨o,e,c,n,dd⟩:=tp1
    have hm1:h1.DictOf knd d kvs:=by
      obtain ⟨o,es,ep,ho,rest⟩:=hm
      exact ⟨o,es,ep,(k1.2 d n1).trans ho,rest⟩
    have hl1:h1.IsList l items:=by
      obtain ⟨o,e,c,n,dd⟩:=hl
      exact ⟨o,(k1.2 l n2).trans e,c,n,dd⟩
    dsimp only
    refine wpAny_bind (wpAny_holding ?_)
    refine wpAny_bind (wpAny_tryCatch ?_)
    unfold Builtin.Dict.pairItems
    refine wpAny_bind (wpAny_typeOf (T := "tuple") ⟨o,e,c⟩ ?_)
    rw[if_pos (by decide)]
    refine wpAny_bind (wpAny_seqItems e dd (wpAny_pure ?_))
    show wpAny _ _ (holding [ku,v] (dictSet d ku v)) _ _ _
    refine wpAny_holding (wpAny_dictSet_pairs (hsz:=by have:=hz;simp at this;omega) hk hm1 fun h2 hm2 k2=>?_)
    refine wpAny_pure ?_
    refine ⟨plainId_quiet kP _,codeAny_builtin vk ?_⟩
    rw[Around.under_plainId kP _]
    have kp:∀ b o,b≠it→b≠d→s.heap.get? b=some o→h2.get? b=some o:=fun b o b1 b2 q=>(k2.2 b b2).trans ((k1.2 b b1).trans q)
    have ci:((i:Int)+1)=((i+1:Nat):Int):=by push_cast;rfl
    have nd:∀ b o,s.heap.get? b=some o→o.cls≠.type "dict" → b≠d:=fun b o q c z=>by
      subst z
      obtain ⟨o',_,_,e',ex,_⟩:=hm
      rw[q] at e';cases e';exact c ex.1
    show wpAny _ _ (Builtin.«dict.update.loop» ⟨[.ref d,.ref it,rawInt ((i:Int)+1),.none],[]⟩) _ _ _
    rw[ci]
    refine wK hA n1 n2 n3 us r (i+1) (stored kvs k v) _ hd' (P.keeps fun b o q c=>kp b o (ne_it b o q (by rw[c];decide)) (nd b o q (by rw[c];decide)) q) ?_ ?_ hm2 ?_ ?_
    · obtain ⟨o,e,c⟩:=it1
      exact ⟨o,(k2.2 it (Ne.symm n1)).trans e,c⟩
    · obtain ⟨o,e,c⟩:=hl1
      exact ⟨o,(k2.2 l n3).trans e,c⟩
    · have:=stored_length_le kvs k v
      simp at hz;omega
    · intro h' tk hm' kp'
      exact h h' tk hm' fun b o b1 b2 q=>kp' b o b1 b2 (kp b o b1 b2 q)
end
end
section
open PySem PySem.Spec PyProof.Rows L2
section
variable {prog:Program} {w:World} {κ:Type} [DecidableEq κ] {knd:KeyKind prog w κ}
theorem nQ {A:Around}{E:Value→Shared→Prop}{s:Shared}{l:Addr}{o:Obj}{items:Array Value}{k:Nat}{r:List (κ×Value)}{Q:Value→Shared→Prop}(hA:A.handled=none)
    (hx:s.heap.get? l=some o) (hc:o.cls=.type "list") (hdat:o.data=.seq items k) (hd:o.dict=none) (P:f7 knd s.heap items.toList r) (hz:r.length≤sizeLine)
    (h:∀ h' tk,h'.DictOf knd s.heap.objs.size (merged [] r)→(∀ b o,s.heap.get? b=some o→h'.get? b=some o)→Q (.ref s.heap.objs.size) { s with heap:=h',toks:=tk }) :
    wpAny (model prog w) A (call (.type "dict") [.ref l]) Q E s:=by
  refine callType_codes (Q₁:=fun obj s₁=>obj=.ref s.heap.objs.size∧s₁={ s with heap:=s.heap.push { cls:=.type "dict", data:=.dict #[] } }) F.kt_called_dict (F.kt_typeCall_dict_1 _) F.entry_dict_init (kt_code_dict_new _ ⟨rfl,rfl⟩) ?_
  rintro obj s₁ ⟨rfl,rfl⟩
  have KS:(s.heap.push { cls:=.type "dict", data:=.dict #[] }).DictOf knd s.heap.objs.size []:=Heap.DictOf.new s.heap
  have hx1:(s.heap.push { cls:=.type "dict", data:=.dict #[] }).get? l=some o:=Heap.get?_push_of_some _ hx
  have ll:l < s.heap.objs.size:=Heap.lt_size hx
  refine ⟨KS.typeIs,F.args_dict_init_2 _ _,?_⟩
  unfold Builtin.«dict.__init__»
  refine wpAny_bind ?_
  unfold Builtin.Dict.selfAndRest
  refine wpAny_bind (wpAny_notOrdered_dict KS.typeIs ?_)
  show wpAny _ _ (pure (s.heap.objs.size,[Value.ref l])) _ _ _
  refine wpAny_pure ?_
  show wpAny _ _ (Builtin.Dict.updateFrom "dict.__init__" s.heap.objs.size (.ref l) [] .none) _ _ _
  unfold Builtin.Dict.updateFrom
  refine wpAny_bind (wpAny_typeOf (T := "list") ⟨o,hx1,hc⟩ ?_)
  rw[if_pos (by decide)]
  refine wpAny_bind (NT hx1 hc hdat hd hA fun h1 tk1 kp1=>?_)
  rw[if_pos (by decide)]
  refine wpAny_bind (wpAny_rule ?_)
  have hx2:h1.get? l=some o:=kp1 _ _ hx1
  have hl2:h1.IsList l items:=⟨o,hx2,hc,k,hdat⟩
  have lt1:s.heap.objs.size < h1.objs.size:=by
    obtain ⟨o',es,ep,ho,_⟩:=KS
    exact Heap.lt_size (kp1 _ _ ho)
  refine wpAny_bind (wpAny_pyIter_list hl2 ?_)
  refine wpAny_bind (wpAny_pure (wpAny_pure ?_))
  refine ⟨plainId_quiet kP _,codeAny_builtin vk ?_⟩
  rw[Around.under_plainId kP _]
  have kp2:∀ b o,s.heap.get? b=some o→(h1.push { cls:=.type "list_iterator", data:=.fields #[.ref l,.int 0 0] }).get? b=some o:=fun b o q=>Heap.get?_push_of_some _ (kp1 _ _ (Heap.get?_push_of_some _ q))
  refine wK (A:=A.in1) (knd:=knd) (it:=h1.objs.size) (d:=s.heap.objs.size) (l:=l) (items:=items) (R:=wants (fun r s₂=>r=Value.none∧Q (Value.ref s.heap.objs.size) s₂) E) hA (Nat.ne_of_lt lt1) (Nat.ne_of_lt (Nat.lt_trans ll lt1)) (Nat.ne_of_lt ll) items.toList r 0 [] _ rfl ?_ ?_ ?_ ?_ (by simpa using hz) ?_
  · exact P.keeps fun b o q _=>kp2 b o q
  · exact ⟨_,Heap.get?_push_size _ rfl,rfl,rfl⟩
  · exact ⟨o,Heap.get?_push_of_some _ hx2,hc,k,hdat⟩
  · obtain ⟨o',es,ep,ho,rest⟩:=KS
    exact ⟨o',es,ep,Heap.get?_push_of_some _ (kp1 _ _ ho),rest⟩
  · intro h' tk hm' kp'
    refine ⟨rfl,h h' tk hm' fun b o q=>?_⟩
    have hb:b < s.heap.objs.size:=Heap.lt_size q
    exact kp' b o (Nat.ne_of_lt (Nat.lt_trans hb lt1)) (Nat.ne_of_lt hb) (kp2 b o q)
end
def dK:Key→D
  | .inl i=>.int i
  | .inr s=>.str s
def AA (kv:Key×D):D:=.tup [dK kv.1,kv.2]
def iZ (kvs more:List (Key×D)):List (Key×D):=more.foldl (fun acc kv=>putD acc kv.1 kv.2) kvs
inductive fN (K:PySem.W.Frag) (H:Hp):List V→List (Key×V)→Prop
  | nil:fN K H [] []
  | cons {a:Addr} {k:Key} {v:V} {ys:List V} {r:List (Key×V)}:SqT K H a [kV k,v]→fN K H ys r→fN K H (.ref a::ys) ((k,v)::r)
theorem fN.at {X:Cx}{pins:List (Addr×Obj)}{σ:L2.St}{H:Hp}{s:Shared}(I:Inv X pins σ H s):∀ {ys:List V} {kvs:List (Key×V)} {us:List Value},fN X.K H ys kvs→Vals ys us→∃ r,f7 (cc X.prog X.w) s.heap us r∧KV kvs r
  | _,_,_,.nil,.nil=>⟨[],.nil,.nil⟩
  | _,_,_,@fN.cons _ _ a k v ys r sq h,.cons ru rs=>by
    cases (show _=Value.ref a from ru)
    obtain ⟨r,p,q⟩:=h.at I rs
    obtain ⟨its,vs,it,_⟩:=I.tuple sq
    cases vs with | @cons _ u1 _ _ r1 vs=>cases vs with | @cons _ u2 _ _ r2 vs=>
    cases vs
    exact ⟨(k,u2)::r,.cons it (w4 r1) p,.cons ⟨rfl,r2⟩ q⟩
theorem oV {X:Cx}(hc:X.calm=true):bV X (.type "dict") (fun xs H Q=>∃ l ys kvs,xs=[.ref l]∧SqL X.K H l ys∧fN X.K H ys kvs∧kvs.length≤sizeLine∧∀ p,H p=none→Q (.ref p) (L2.upd H p (.dK (eB [] kvs)))):=by
  intro pins s σ H xs us Q I rx h
  obtain ⟨l,ys,kvs,rfl,sq,pv,hz,q⟩:=h
  obtain ⟨u,rfl,ru⟩:=vals1 rx
  cases (show u=Value.ref l from ru)
  obtain ⟨its,vs,pl,_⟩:=I.list sq
  obtain ⟨o,n,e,c,hd,hdat⟩:=pl
  obtain ⟨r,pr,kv⟩:=pv.at I vs
  refine nQ (knd:=cc X.prog X.w) (I.ok.hd hc) e c hdat hd (r:=r) (by simpa using pr) (by rw[← kv.length];exact hz) fun h' tk dd kp=>?_
  have hl:(eB [] kvs).length≤sizeLine:=by have:=gT kvs [];simp at this;omega
  exact ⟨.ref s.heap.objs.size,_,I.laid (a:=s.heap.objs.size) (o:=.dK (eB [] kvs)) kp (Nat.le_refl _) (yE hl (beq_eq_false_iff_ne.mpr (Ne.symm (Nat.ne_of_lt I.big))) (KV.merge kv .nil) dd),rfl,q _ (I.hok.fresh (Nat.le_refl _))⟩
def xp:FSp:=fun ds μ Q=>match ds with
  | [.ls xs]=>∃ kvs:List (Key×D),xs=kvs.map AA∧kvs.length≤1000000∧∀ p,μ p=none→Q (.obj p) (up μ p (.dct (iZ [] kvs)))
  | _=>False
theorem OI {K:PySem.W.Frag}{H:Hp}{v:V}{k:Key}(h:Dp K H v (dK k)):v=kV k:=by
  cases k with
  | inl i=>cases h;rfl
  | inr s=>cases h;rfl
theorem fN.of {K:PySem.W.Frag}{H:Hp}:∀ {kvs:List (Key×D)} {xs:List V},DpL K H xs (kvs.map AA)→∃ r,fN K H xs r∧DpK K H r kvs
  | [],_,h=>by cases h;exact ⟨[],.nil,.nil⟩
  | kv::kvs,_,h=>by
    obtain ⟨k,d⟩:=kv
    cases h with
    | cons p l=>
      obtain ⟨r,h1,h2⟩:=fN.of l
      cases p with
      | tup sq lp=>
        cases lp with | cons p1 lp=>cases lp with | cons p2 lp=>
        cases lp
        cases OI p1
        exact ⟨(k,_)::r,.cons sq h1,.cons p2 h2⟩
theorem DpK.merge {K:PySem.W.Frag}{H:Hp}{xs:List (Key×V)}{kvs:List (Key×D)}(h:DpK K H xs kvs):∀ {axs:List (Key×V)} {akvs:List (Key×D)},DpK K H axs akvs→DpK K H (eB axs xs) (iZ akvs kvs):=
  DpK.ind (P:=fun xs kvs=>∀ {axs:List (Key×V)} {akvs:List (Key×D)},DpK K H axs akvs→DpK K H (eB axs xs) (iZ akvs kvs)) (fun h=>h) (fun k v d xs kvs p _ ih axs akvs ha=>ih (ha.put k p)) h
theorem wZ {K:PySem.W.Frag}:kM K (fun xs H Q=>∃ l ys kvs,xs=[.ref l]∧SqL K H l ys∧fN K H ys kvs∧kvs.length≤sizeLine∧∀ p,H p=none→Q (.ref p) (L2.upd H p (.dK (eB [] kvs)))) xp:=fun H μ xs ds Q Q' m p h k=>by
  unfold xp at h
  split at h
  · obtain ⟨kvs,rfl,hl,h⟩:=h
    cases p with | cons p1 p2=>
    cases p2
    cases p1 with
    | ls q l=>
      obtain ⟨r,h1,h2⟩:=fN.of l
      exact ⟨_,_,r,rfl,q.sq,h1,by rw[h2.length];exact big hl,fun z hz=>k _ _ _ _ (.new hz) (Bu m hz (h2.merge .nil)) (.obj z) (h z (m.free hz))⟩
  · exact False.elim h
end
section
open PySem PySem.Spec PyProof.Rows L2
theorem Bx (K:PySem.W.Frag){t:String}(ht:t∈tys):∀ (cs:List String),(∀ c∈cs,c∈xC)→PySem.W.kitAny K (.type t) (cs.map .type)=some (cs.any fun c=>eW t c)
  | [],_=>rfl
  | c::cs,h=>by
    have e:=Bm K t ht c (h c List.mem_cons_self)
    have ih:=Bx K ht cs fun x hx=>h x (List.mem_cons_of_mem _ hx)
    rw[List.map_cons,List.any_cons]
    unfold PySem.W.kitAny
    rw[e]
    cases eW t c with
    | true=>rfl
    | false=>rw[Bool.false_or];exact ih
def E1 (K:PySem.W.Frag):List V→Hp→VK→Prop:=fun xs H Q=>∃ x d t p,∃ cs:List String,xs=[x,.ref p]∧SqT K H p (cs.map V.ty)∧Dp K H x d∧tyD d=some t∧(∀ c∈cs,c∈xC)∧Q (.bl (cs.any fun c=>eW t c)) H
theorem Bw:∀ {cs:List String} {us:List Value},Vals (cs.map V.ty) us→us=cs.map .type
  | [],_,h=>by cases h;rfl
  | c::cs,_,h=>by
    cases h with
    | cons r h=>rw[Bw h,List.map_cons];congr 1
theorem C3 {X:Cx}:bV X (.builtin "isinstance") (E1 X.K):=fun pins s σ H xs us Q I rx ⟨x,d,t,p,cs,ex,sq,px,et,hc,q⟩=>by
  subst ex
  cases rx with | @cons _ u _ _ r1 r2=>cases r2 with | cons r2 r3=>
  cases r3
  cases (show _=Value.ref p from r2)
  obtain ⟨its,rv,⟨o,ho,hcl,n,hd⟩,_⟩:=I.tuple sq
  have ei:=Bw rv
  subst ei
  have htp:s.heap.get? p=some ⟨.type "tuple", o.dict,.seq (cs.map Value.type).toArray n,o.slots⟩:=by
    rw[ho];obtain ⟨c,dd,dt,sl⟩:=o;simp only at hcl hd;subst hcl hd;rfl
  have e:=Bx X.K (Iq et) cs hc
  have fin:∀ tk,EP X pins σ Q (.bool (cs.any fun c=>eW t c)) { s with toks:=tk }:=fun tk=>⟨.bl _,H,I.tok tk,rfl,q⟩
  cases px with
  | non=>cases et;cases (show u=Value.none from r1);exact PySem.W.kia_tup PySem.W.kitx_none I.kIn True.intro htp e (fun z=>nomatch z) fin
  | bl y=>cases et;cases (show u=Value.bool y from r1);exact PySem.W.kia_tup PySem.W.kitx_bool I.kIn True.intro htp e (fun z=>nomatch z) fin
  | int i=>cases et;obtain ⟨t,z⟩:=(show ∃ t,u=Value.int i t from r1);cases z;exact PySem.W.kia_tup PySem.W.kitx_int I.kIn True.intro htp e (fun z=>nomatch z) fin
  | str y=>cases et;obtain ⟨t,z⟩:=(show ∃ t,u=Value.str y t from r1);cases z;exact PySem.W.kia_tup PySem.W.kitx_str I.kIn True.intro htp e (fun z=>nomatch z) fin
  | ty _=>cases et
  | obj _=>cases et
  | @tup a xs ds sq l=>
    cases et
    cases (show u=Value.ref a from r1)
    obtain ⟨its,_,⟨o,h1,h2,_⟩,_⟩:=I.tuple sq
    exact PySem.W.kia_tup PySem.W.kitx_tuple I.kIn ⟨o,h1,h2⟩ htp e (fun z=>nomatch z) fin
  | @ls a xs ds sq l=>
    cases et
    cases (show u=Value.ref a from r1)
    obtain ⟨its,_,⟨o,n,h1,h2,_⟩,_⟩:=I.list sq.sq
    exact PySem.W.kia_tup PySem.W.kitx_list I.kIn ⟨o,h1,h2⟩ htp e (fun z=>nomatch z) fin
def vI (cs:List String):FSp:=fun ds μ Q=>match ds with
  | [x,.tup ts]=>(ts=cs.map .ty∧∀ c∈cs,c∈xC)∧(match tyD x with
    | some t=>Q (.bl (cs.any fun c=>eW t c)) μ
    | none=>False)
  | _=>False
theorem Gg {K:PySem.W.Frag}{H:Hp}:∀ {cs:List String} {xs:List V},DpL K H xs (cs.map .ty)→xs=cs.map V.ty
  | [],_,h=>by cases h;rfl
  | c::cs,_,h=>by
    cases h with
    | cons p l=>cases p;rw[Gg l,List.map_cons]
theorem Gh {K:PySem.W.Frag}(cs:List String):kM K (E1 K) (vI cs):=fun H μ xs ds Q Q' m p h k=>by
  unfold vI at h
  split at h
  · obtain ⟨⟨rfl,hc⟩,h⟩:=h
    cases p with | cons p1 p2=>cases p2 with | cons p2 p3=>
    cases p3
    cases p2 with
    | tup sq l=>
      cases Gg l
      split at h
      · rename_i t et
        exact ⟨_,_,t,_,cs,rfl,sq,p1,et,hc,k _ H _ μ (.refl H) m (.bl _) h⟩
      · exact False.elim h
  · exact False.elim h
section
variable {X:Cx} {o i a b c e value:Expr} {To Ti Ta Tb Te:ETr} {pos tpos apos cpos:Pos}
def OQ (To Ti:ETr):ETr:=fun ρ μ Q=>To ρ μ fun x μ1=>kObj x fun a=>kL μ1 a fun _=>Ti ρ μ1 fun y μ2=>kI y fun j=>(-9223372036854775808≤j∧j < 9223372036854775808)∧kL μ2 a fun ds=>kN (L2.ixN ds.length j) fun k=>kO ds[k]? fun d=>Q d (up μ2 a (.lst (ds.eraseIdx k)))
theorem Gk {n k:Nat}{j:Int}(h:L2.ixN n j=some k):seqIndex? j n=some k:=by
  unfold L2.ixN at h
  unfold seqIndex?
  split at h
  · split at h
    · cases h
      rename_i h1 h2
      simp[show ¬ (j < 0) by omega,h1,h2]
    · cases h
  · split at h
    · cases h
      rename_i h1 h2
      simp[show j < 0 by omega]
      omega
    · cases h
theorem DpL.erase {K:PySem.W.Frag}{H:Hp}:∀ {vs:List V} {ds:List D} (i:Nat),DpL K H vs ds→DpL K H (vs.eraseIdx i) (ds.eraseIdx i)
  | _,_,_,.nil=>by simp;exact .nil
  | _,_,0,.cons _ l=>l
  | _,_,i+1,.cons q l=>.cons q (DpL.erase i l)
theorem Nm (ho:LE X o To)(hi:LE X i Ti)
    (hbase:attributeBase o "pop" X.env (eval o X.env)=eval o X.env:=by rfl)
    (hfew:((backTo cpos (starEach [i] X.env)).all (fun x=>!x.1)&&(backToKw cpos (keywordEach [] X.env)).all (fun x=>x.1.isSome)
      && decide (([i]:List Expr).length+([]:List Keyword).length+(if ([]:List Keyword).isEmpty then 0 else 1) < 30))=true:=by rfl)
    (hline:(apos.endLine == cpos.line)=true:=by rfl) (hs:starEach [i] X.env=(false,eval i X.env)::starEach [] X.env:=by rfl) (hplain:(backTo cpos (starEach [] X.env)).any (·.1)=false:=by rfl) :
    LE X (.Call (.Attribute o "pop" apos) [i] [] cpos) (OQ To Ti):=by
  obtain ⟨to,po,so⟩:=ho.ex
  obtain ⟨ti,pi,si⟩:=hi.ex
  refine ⟨_,Cn PySem.F.plainAttrs_list PySem.F.slot_list_pop PySem.F.type_list_pop D7 po (eV pi iM hs) hbase hfew hline hs hplain,fun σ H ρ μ Q Q' rl h k=>so σ H ρ μ _ _ rl h fun x H1 dx μ1 t1 m1 p1 h1=>?_⟩
  obtain ⟨q,rfl,h1⟩:=iw p1 h1
  obtain ⟨ds0,e0,h1⟩:=bK h1
  obtain ⟨xs0,ex0,_⟩:=m1 q _ e0
  refine ⟨.inl ⟨rfl,_,SqL.of ex0⟩,si σ H1 ρ μ1 _ _ (rl.go t1 m1) h1 fun y H2 dy μ2 t2 m2 p2 h2=>?_⟩
  cases p2 with
  | int j=>
    obtain ⟨hr,h2⟩:=h2
    obtain ⟨ds,e2,h3⟩:=bK (show kL μ2 q _ from h2)
    obtain ⟨kk,e3,h3⟩:=Ft h3
    obtain ⟨d,e4,h3⟩:=kJ h3
    obtain ⟨xs,ex,l⟩:=m2 q _ e2
    obtain ⟨v,ev,pv⟩:=l.get e4
    have e3':L2.ixN xs.length j=some kk:=by rw[l.length];exact e3
    exact ⟨q,xs,j,kk,v,rfl,rfl,ex,by omega,by omega,Gk e3',ev,k _ _ _ _ ((t1.trans t2).trans (kz ex)) (Hr m2 ex (l.erase kk)) (pv.mono (kz ex)) h3⟩
  | _=>exact False.elim h2
end
noncomputable def o6 (h:Heap) (dx:PyData) (y:Value):Bool:=@decide (∃ d as,Reads h y d as∧PyData.canLay0 d=true∧PyData.eqv d dx=true) (Classical.propDecidable _)
theorem Kh {h:Heap}{dx d:PyData}{y:Value}{as:List Addr}(r:Reads h y d as)(hd:d.canLay0=true):o6 h dx y=PyData.eqv d dx:=by
  unfold o6
  cases e:PyData.eqv d dx with
  | true=>exact @decide_eq_true _ (Classical.propDecidable _) ⟨d,as,r,hd,e⟩
  | false=>
    refine @decide_eq_false _ (Classical.propDecidable _) ?_
    rintro ⟨d',as',r',hd',e'⟩
    cases SeqAt.Reads.unique _ _ _ _ _ hd r r'
    rw[e] at e';cases e'
theorem B8 {n:Nat}:∀ {ds:List D} {d:D},cX n ds=true→d∈ds→okD n d=true
  | x::r,d,h,hm=>by
    have h':okD n x=true∧cX n r=true:=by simpa[cX] using h
    rcases List.mem_cons.mp hm with rfl | hm
    · exact h'.1
    · exact B8 h'.2 hm
section
variable {X:Cx} {pins:List (Addr×Obj)} {σ:L2.St} {H:Hp} {s:Shared}
theorem item_at (I:Inv X pins σ H s){vs:List V}{ds:List D}{us:List Value}(l:DpL X.K H vs ds)(r:Vals vs us)(ok:cX 38 ds=true){dy:D}{y:Value}{bs:List Addr}(oy:okD 38 dy=true)(ry:Reads s.heap y (toP dy) bs)(hu:X.A.units+64 < cLine)
    {m:Nat} {u:Value} (hm:us[m]? = some u):∃ d,ds[m]? = some d∧o6 s.heap (toP dy) u=eqD d dy∧SeqAt.EqAt X.A.in1 s u y (o6 s.heap (toP dy) u):=by
  have hlt:m < vs.length:=by rw[r.length];exact (List.getElem?_eq_some_iff.mp hm).1
  obtain ⟨u',e1,rv⟩:=r.get (List.getElem?_eq_getElem hlt)
  rw[hm] at e1;cases e1
  obtain ⟨d,ed,pd⟩:=l.get' (List.getElem?_eq_getElem hlt)
  have od:=B8 ok (List.mem_of_getElem? ed)
  obtain ⟨as,ra⟩:=fI I pd od rv
  obtain ⟨l1,d1⟩:=iB 38 d od
  obtain ⟨l2,d2⟩:=iB 38 dy oy
  have e:=Kh (dx:=toP dy) ra l1
  refine ⟨d,ed,by rw[e,oN 38 38 d dy od oy],?_⟩
  rw[e]
  exact SeqAt.eqAt_reads _ _ _ s _ _ _ _ ra ry l1 l2 (by have:=Nat.min_le_left (toP d).depth (toP dy).depth;rw[Around.in1_units];omega)
end
def Cq (ds:List D)(x:D):Option Nat:=ds.findIdx? fun y=>eqD y x
theorem IA {X:Cx}(hu:X.A.units+64 < cLine):MtM X "list.index" (fun x vs H Q=>∃ p xs y ds dy,∃ j:Nat,x=.ref p∧vs=[y]∧SqL X.K H p xs∧DpL X.K H xs ds∧Dp X.K H y dy∧cX 38 ds=true∧okD 38 dy=true∧Cq ds dy=some j∧j < 1000000∧Q (.int j) H):=by
  intro pins s σ H x vs v us Q I rx rv h
  obtain ⟨p,xs,y,ds,dy,j,rfl,rfl,sq,l,py,ok,oy,hj,hj2,q⟩:=h
  cases (show v=Value.ref p from rx)
  obtain ⟨u,rfl,ru⟩:=rv.one
  obtain ⟨its,r,⟨o,n,e,c,hd,hdat⟩,_⟩:=I.list sq
  obtain ⟨bs,rb⟩:=fI I py oy ru
  have he:s.heap.get? p=some ⟨.type "list", none,.seq its.toArray n,o.slots⟩:=by
    rw[e];obtain ⟨c',dd,dt,sl⟩:=o;simp only at c hd hdat;subst c hd hdat;rfl
  unfold Cq at hj
  rw[List.findIdx?_eq_some_iff_getElem] at hj
  obtain ⟨h1,h2,h3⟩:=hj
  have hl:ds.length=its.length:=by rw[← l.length,r.length]
  have at':∀ m (hm:m < its.toArray.size),∃ d,ds[m]? = some d∧o6 s.heap (toP dy) its.toArray[m]=eqD d dy∧SeqAt.EqAt X.A.in1 s its.toArray[m] u (o6 s.heap (toP dy) its.toArray[m]):=fun m hm=>
    item_at I l r ok oy rb hu (by simp at hm ⊢)
  refine call_meets F.slot_list_index ⟨_,he,rfl⟩ F.entry_list_index (F.args_list_index_2 _ _) (SeqAt.list_indexAt p its.toArray n none o.slots u (o6 s.heap (toP dy)) j (by simp;omega) (by omega) ?_ ?_) ⟨he,fun w hw=>?_,?_⟩
  · obtain ⟨d,e1,e2,_⟩:=at' j (by simp;omega)
    rw[e2]
    rw[List.getElem?_eq_getElem h1] at e1;cases e1
    exact h2
  · intro m hm hlt
    obtain ⟨d,e1,e2,_⟩:=at' m hm
    rw[e2]
    have hm':m < ds.length:=by simp at hm;omega
    rw[List.getElem?_eq_getElem hm'] at e1;cases e1
    have:=h3 m hlt
    simpa using this
  · obtain ⟨m,hm,rfl⟩:=Array.mem_iff_getElem.mp hw
    obtain ⟨d,_,_,e3⟩:=at' m hm
    exact e3
  · exact ⟨.int j,H,I.tok _,⟨_,rfl⟩,q⟩
section
variable {X:Cx} {o i a b c e value:Expr} {To Ti Ta Tb Te:ETr} {pos tpos apos cpos:Pos}
def Dc (μ:Mu)(x:D)(f:List D→Prop):Prop:=match x with
  | .ls ds=>f ds
  | .obj a=>kL μ a f
  | _=>False
theorem xB {K:PySem.W.Frag}{H:Hp}{μ:Mu}{x:V}{dx:D}{f:List D→Prop}(m:bJ K H μ)(p:Dp K H x dx)(h:Dc μ dx f):∃ q xs ds,x=.ref q∧SqL K H q xs∧DpL K H xs ds∧f ds:=by
  cases p with
  | ls sq l=>exact ⟨_,_,_,rfl,sq.sq,l,h⟩
  | obj q=>
    obtain ⟨ds,e0,h⟩:=bK h
    obtain ⟨xs,ex,l⟩:=m q _ e0
    exact ⟨q,xs,ds,rfl,SqL.of ex,l,h⟩
  | _=>exact False.elim h
def yT (To Ti:ETr):ETr:=fun ρ μ Q=>To ρ μ fun x μ1=>Dc μ1 x fun _=>Ti ρ μ1 fun y μ2=>Dc μ2 x fun ds=>(cX 38 ds=true∧okD 38 y=true)∧kN (Cq ds y) fun j=>j < 1000000∧Q (.int j) μ2
theorem Fx (hu:X.A.units+64 < cLine)(ho:LE X o To)(hi:LE X i Ti)
    (hbase:attributeBase o "index" X.env (eval o X.env)=eval o X.env:=by rfl)
    (hfew:((backTo cpos (starEach [i] X.env)).all (fun x=>!x.1)&&(backToKw cpos (keywordEach [] X.env)).all (fun x=>x.1.isSome)
      && decide (([i]:List Expr).length+([]:List Keyword).length+(if ([]:List Keyword).isEmpty then 0 else 1) < 30))=true:=by rfl)
    (hline:(apos.endLine == cpos.line)=true:=by rfl) (hs:starEach [i] X.env=(false,eval i X.env)::starEach [] X.env:=by rfl) (hplain:(backTo cpos (starEach [] X.env)).any (·.1)=false:=by rfl) :
    LE X (.Call (.Attribute o "index" apos) [i] [] cpos) (yT To Ti):=by
  obtain ⟨to,po,so⟩:=ho.ex
  obtain ⟨ti,pi,si⟩:=hi.ex
  refine ⟨_,Cn PySem.F.plainAttrs_list PySem.F.slot_list_index PySem.F.type_list_index (IA hu) po (eV pi iM hs) hbase hfew hline hs hplain,fun σ H ρ μ Q Q' rl h k=>so σ H ρ μ _ _ rl h fun x H1 dx μ1 t1 m1 p1 h1=>?_⟩
  obtain ⟨q,xs0,ds0,rfl,sq0,l0,h1⟩:=xB m1 p1 h1
  refine ⟨.inl ⟨rfl,_,sq0⟩,si σ H1 ρ μ1 _ _ (rl.go t1 m1) h1 fun y H2 dy μ2 t2 m2 p2 h2=>?_⟩
  obtain ⟨q',xs,ds,eq,sq,l,h2⟩:=xB m2 (p1.mono t2) h2
  cases eq
  obtain ⟨⟨o1,o2⟩,h2⟩:=h2
  obtain ⟨j,ej,hj,h2⟩:=Ft h2
  exact ⟨q,xs,y,ds,dy,j,rfl,rfl,sq,l,p2,o1,o2,ej,hj,k _ H2 _ μ2 (t1.trans t2) m2 (.int _) h2⟩
def inG (x:D)(ds:List D):Bool:=ds.any fun y=>eqD y x
def Mo (K:PySem.W.Frag)(neg:Bool):L2.R2:=fun x y H Q=>∃ p xs ds dx,y=.ref p∧(SqL K H p xs∨SqT K H p xs)∧DpL K H xs ds∧Dp K H x dx∧cX 38 ds=true∧okD 38 dx=true∧Q (.bl (if neg then !inG dx ds else inG dx ds)) H
theorem HX {pins:List (Addr×Obj)}{σ:L2.St}{H:Hp}{s:Shared}(I:Inv X pins σ H s)(hu:X.A.units+64 < cLine){vs:List V}{ds:List D}{us:List Value}(l:DpL X.K H vs ds)(r:Vals vs us)(ok:cX 38 ds=true){dy:D}{y:Value}{bs:List Addr}(oy:okD 38 dy=true)(ry:Reads s.heap y (toP dy) bs) :
    (∀ w,w∈us.toArray→SeqAt.EqAt X.A.in1 s w y (o6 s.heap (toP dy) w))∧us.toArray.any (o6 s.heap (toP dy))=inG dy ds:=by
  have hl:ds.length=us.length:=by rw[← l.length,r.length]
  constructor
  · intro w hw
    obtain ⟨m,hm,rfl⟩:=Array.mem_iff_getElem.mp hw
    obtain ⟨d,_,_,e3⟩:=item_at I l r ok oy ry hu (m:=m) (u:=us.toArray[m]) (by simp at hm ⊢)
    exact e3
  · unfold inG
    rw[show us.toArray.any (o6 s.heap (toP dy))=us.any (o6 s.heap (toP dy)) by simp]
    rw[Bool.eq_iff_iff,List.any_eq_true,List.any_eq_true]
    constructor
    · rintro ⟨w,hw,e⟩
      obtain ⟨m,hm,rfl⟩:=List.mem_iff_getElem.mp hw
      obtain ⟨d,e1,e2,_⟩:=item_at I l r ok oy ry hu (m:=m) (u:=us[m]) (by simp)
      exact ⟨d,List.mem_of_getElem? e1,by rw[← e2];exact e⟩
    · rintro ⟨d,hd,e⟩
      obtain ⟨m,hm,rfl⟩:=List.mem_iff_getElem.mp hd
      obtain ⟨d',e1,e2,_⟩:=item_at I l r ok oy ry hu (m:=m) (u:=us[m]'(by omega)) (by simp)
      rw[List.getElem?_eq_getElem hm] at e1;cases e1
      exact ⟨us[m]'(by omega),List.getElem_mem _,by rw[e2];exact e⟩
theorem OD (hu:X.A.units+64 < cLine):OpR X (compareOp .In) (Mo X.K false):=by
  intro pins s σ H x y v u Q I rx ry h
  obtain ⟨p,xs,ds,dx,rfl,hq,l,px,o1,o2,q⟩:=h
  cases (show u=Value.ref p from ry)
  obtain ⟨bs,rb⟩:=fI I px o2 rx
  rcases hq with hq | hq
  · obtain ⟨its,r,pl,hz⟩:=I.list hq
    obtain ⟨h1,h2⟩:=HX I hu l r o1 o2 rb
    exact SeqAt.in_listAt _ pl.isList h1 ⟨.bl _,H,I,rfl,by rw[h2];exact q⟩
  · obtain ⟨its,r,pl,hz⟩:=I.tuple hq
    obtain ⟨h1,h2⟩:=HX I hu l r o1 o2 rb
    exact SeqAt.in_tupleAt _ pl h1 ⟨.bl _,H,I,rfl,by rw[h2];exact q⟩
def CC (μ:Mu)(x:D)(f:List D→Prop):Prop:=match x with
  | .tup ds=>f ds
  | .ls ds=>f ds
  | .obj a=>kL μ a f
  | _=>False
def Ja (neg:Bool):DR2:=fun x y μ Q=>CC μ y fun ds=>(cX 38 ds=true∧okD 38 x=true)∧Q (.bl (if neg then !inG x ds else inG x ds)) μ
theorem Jh {K:PySem.W.Frag}(neg:Bool):gZ K (Mo K neg) (Ja neg):=fun H μ x y dx dy Q Q' m px py h k=>by
  cases py with
  | tup sq l=>exact ⟨_,_,_,dx,rfl,.inr sq,l,px,h.1.1,h.1.2,k _ H _ μ (.refl H) m (.bl _) h.2⟩
  | ls sq l=>exact ⟨_,_,_,dx,rfl,.inl sq.sq,l,px,h.1.1,h.1.2,k _ H _ μ (.refl H) m (.bl _) h.2⟩
  | obj q=>
    obtain ⟨ds,e0,h⟩:=bK (show kL μ q _ from h)
    obtain ⟨xs,ex,l⟩:=m q _ e0
    exact ⟨_,_,_,dx,rfl,.inl (SqL.of ex),l,px,h.1.1,h.1.2,k _ H _ μ (.refl H) m (.bl _) h.2⟩
  | _=>exact False.elim h
theorem N5 (hu:X.A.units+64 < cLine)(ha:LE X a Ta)(hb:LE X b Tb)(hm:behindInMarks .In b=false:=by rfl):LT X (.Compare a [.In] [b] pos) (TB (aj (Ja false) Ta Tb)):=gJ (OD hu) (Jh false) ha hb hm
end
end
section
open PySem PySem.Spec PyProof.Rows L2
def OZ (K:PySem.W.Frag)(n:Nat)(t:TGs)(is:List Nat):Prop:=∀ σ H ρ μ vs ds (k:ST→Mu→Prop) (k':L2.St→Hp→Prop),Rl K σ H ρ μ→DpL K H vs ds→ds.length=is.length→k (kE ρ is ds) μ→MC K n σ H k k'→t vs σ H k'
structure JX (X:Cx) (n:Nat) (es:List Expr) (is:List Nat):Prop where
  ex:∃ t,PGs X es t∧OZ X.K n t is
section
variable {X:Cx} {e tg:Expr} {es:List Expr} {is:List Nat} {pos:Pos} {x:Str} {n:Nat}
theorem fH:JX X n [] []:=⟨_,Ca,fun σ H ρ μ vs ds k k' rl l hl h q=>by
  cases ds with
  | nil=>cases l;exact ⟨rfl,q _ _ _ _ (.refl H) rl ⟨rfl,fun _ _=>rfl⟩ h⟩
  | cons=>cases hl⟩
theorem bA (i:Nat)(hN:X.N.Nodup)(h2:JX X n es is)(hin:i < n:=by decide)(hi:X.N[i]? = some x:=by rfl)(hx:Loc X.env.scope x:=by first | exact Or.inl rfl | exact Or.inr rfl)(hf:X.fn x=true∨X.env.scope.names.lookup x=some .local:=by first | exact .inr rfl | exact .inl rfl | assumption)
    (hs:(assignEach (.Name x pos::es) X.env).map (·.2)=assign (.Name x pos) X.env::(assignEach es X.env).map (·.2):=by rfl):JX X n (.Name x pos::es) (i::is):=by
  obtain ⟨t,pt,st⟩:=h2.ex
  refine ⟨_,vK (iz hN hi hx hf) pt hs,fun σ H ρ μ vs ds k k' rl l hl h q=>?_⟩
  cases l with
  | nil=>cases hl
  | @cons v d vs ds p l=>
    refine ⟨v,vs,rfl,st _ H _ μ vs ds k k' (rl.set p i) l (by simpa using hl) h fun σ' H' ρ' μ' t' r' hk kk=>q σ' H' ρ' μ' t' r' ⟨?_,fun j hj=>?_⟩ kk⟩
    · rw[hk.1];simp
    · rw[hk.2 j hj,List.getElem?_set_ne (by omega)]
theorem gD {k:Nat}(hc:X.calm=true)(h:JX X n es is)(hn:(assignEach es X.env).length=is.length:=by rfl)(hst:(assignEach es X.env).findIdx? (·.1)=none:=by rfl):LGc X n (.Tuple es k pos) (fL is):=by
  obtain ⟨t,pt,st⟩:=h.ex
  refine ⟨fun pins s σ H v u k' I r ⟨ρ,μ,d,k,rl,p,h,post⟩=>HE hc pt hn hst pins s σ H v u k' I r ?_⟩
  cases p with
  | @tup a xs ds sq l=>exact ⟨a,xs,rfl,sq,by rw[l.length];exact h.1,st σ H ρ μ xs ds k k' rl l h.1 h.2 post⟩
  | _=>exact False.elim h
end
section
variable {X:Cx} {o i a b c e value:Expr} {To Ti Ta Tb Te:ETr} {pos tpos apos cpos:Pos}
theorem Dv (l:Addr)(its:Array Value)(n:Nat)(q:Addr)(its2:Array Value)(n2:Nat)(sl:Array (Option Value))(h0:¬ (!its.isEmpty&&Builtin.List.listTooLong (its.size+its2.size))=true)(h1:its.size≤sizeLine)(h2:its.size+its2.size≤sizeLine+1) :
    Meets (Builtin.«list.extend» ⟨[.ref l,.ref q],[]⟩) (fun _ R s=>s.heap.get? l=some { cls:=.type "list", dict:=none,data:=.seq its n,slots:=#[] }∧s.heap.get? q=some { cls:=.type "list", dict:=none,data:=.seq its2 n2,slots:=sl }∧
      R (.ok (.ret Value.none)) { s with heap:=s.heap.update l (Obj.mapSeq fun x=>x++its2) }):=
  .of_wp fun prog w A R s h=>by
    obtain ⟨hp,g,d,tk,os⟩:=s
    obtain ⟨hl,hb,h⟩:=h
    have z1:=PySem.AutoSeq1.idx_int
    have z2:=PySem.AutoSeq1.sub_tuple_tuple
    have z3:=PySem.AutoSeq1.sub_list_list
    have z4:=PySem.AutoSeq1.sub_tuple_list
    have z5:=PySem.AutoSeq1.sub_list_tuple
    have hz':(its++its2).size≤sizeLine+1:=by rw[Array.size_append];omega
    wp_walk using (wpAny_updateSeq hl rfl (hz:=h1) (_hz':=hz')),wpAny_loadPart' hl,wpAny_loadPart' hb
    exact ⟨_,rfl,h⟩
def RA (K:PySem.W.Frag):V→List V→Hp→VK→Prop:=fun x vs H Q=>∃ l b xs zs,x=.ref l∧vs=[.ref b]∧H l=some (.lst xs)∧SqL K H b zs∧xs.length+zs.length≤sizeLine∧Q .non (L2.upd H l (.lst (xs++zs)))
theorem PM:MtM X "list.extend" (RA X.K):=by
  intro pins s σ H x vs v us Q I rx rv h
  obtain ⟨l,q,xs,zs,rfl,rfl,hH,hB,hz,qq⟩:=h
  cases (show v=Value.ref l from rx)
  obtain ⟨u,rfl,ru⟩:=rv.one
  cases (show u=Value.ref q from ru)
  obtain ⟨z,its,n,r,hl,e⟩:=I.LC hH
  obtain ⟨its2,r2,⟨o,n2,e2,c2,d2,dat2⟩,_⟩:=I.list hB
  have e2':s.heap.get? q=some ⟨.type "list", none,.seq its2.toArray n2,o.slots⟩:=by
    rw[e2];obtain ⟨c',dd,dt,sl⟩:=o;simp only at c2 d2 dat2;subst c2 d2 dat2;rfl
  have hl2:=r2.length
  have hs2:its.toArray.size+its2.toArray.size≤sizeLine:=by rw[List.size_toArray,List.size_toArray];omega
  have GI:¬ (!its.toArray.isEmpty&&Builtin.List.listTooLong (its.toArray.size+its2.toArray.size))=true:=by
    rw[xl hs2,Bool.and_false];decide
  refine call_meets F.slot_list_extend ⟨_,e,rfl⟩ F.entry_list_extend (F.args_list_extend_2 _ _) (Dv l its.toArray n q its2.toArray n2 o.slots GI (by omega) (by omega)) ⟨e,e2',?_⟩
  refine ⟨.non,_,I.Ly (its':=its++its2) hH e (by simp) (r.append r2) ?_,rfl,qq⟩
  rw[List.length_append];omega
end
section
variable {P:Program} {w:World} {K:PySem.W.Frag} {mg:Str→Option Value} {base:Heap}
theorem Qr {k:Nat}{f:Addr}{fd:FuncData}{ps:List Str}{x qual:Str}{st:Stmt}{N:List Str}(F:Fun K x qual st f fd)(S:aI N ps (av st)):gR P w K mg base CX0 (k+1) f fd ps (lift K fun _ _ _=>False):=by
  refine F.ok S (fun vs H Q E h=>?_) (fun cdv A outer s H vs Q E hroom h=>?_)
  · obtain ⟨ds,μ,QQ,l,m,h1,k⟩:=h;exact h1.elim
  · obtain ⟨ds,μ,QQ,l,m,h1,k⟩:=h;exact h1.elim
end
end
section
open PySem PySem.Spec PyProof.Rows L2
section
variable {X:Cx} {tg a ea eb:Expr} {Ta:ETr} {es:List Expr} {ek:Nat} {ep p pos:Pos}
def SN (K:PySem.W.Frag)(tl:TE):TI:=fun σ H R=>tl σ H fun x H1=>∃ q,x=.ref q∧(((∃ xs,SqL K H1 q xs)∧R (Itl K q) H1)∨((∃ xs,SqT K H1 q xs)∧R (Itt K q) H1))
theorem NP {tl:TE}(hl:PE X a tl):PI X tg a (SN X.K tl):=by
  intro pins s σ H R I h
  refine thn (hl pins s σ H _ I h) fun v s1 ⟨x,H1,I1,r1,q,ex,qq⟩=>?_
  subst ex
  cases (show v=Value.ref q from r1)
  have fp:∀ b∈[s1.heap.objs.size],_:=fun b hb=>by
    have e:b=s1.heap.objs.size:=by simpa using hb
    subst e
    exact I1.zH (Nat.le_refl _) (I1.hok.fresh (Nat.le_refl _))
  rcases qq with ⟨⟨xs,sq⟩,qq⟩ | ⟨⟨xs,sq⟩,qq⟩
  · obtain ⟨its,rv,pl,hz⟩:=I1.list sq
    exact wpAny_pyIter_list pl.isList ⟨s1.heap.objs.size,[s1.heap.objs.size],_,_,H1,rfl,I1.kept (t':=s1.toks) (fun b o e=>Heap.get?_push_of_some _ e),tm q _,⟨_,Heap.get?_push_size _ rfl,rfl,rfl⟩,fp,qq⟩
  · obtain ⟨its,rv,pl,hz⟩:=I1.tuple sq
    exact wpAny_pyIter_tuple (show s1.heap.IsTuple q its.toArray from pl) ⟨s1.heap.objs.size,[s1.heap.objs.size],_,_,H1,rfl,I1.kept (t':=s1.toks) (fun b o e=>Heap.get?_push_of_some _ e),AZ q _,⟨_,Heap.get?_push_size _ rfl,rfl,rfl⟩,fp,qq⟩
theorem bB (ha:LE X a Ta):LI X tg a (dH Ta):=by
  obtain ⟨ta,pa,sa⟩:=ha.ex
  refine ⟨_,NP pa,fun σ H ρ μ Q R rl h k=>sa σ H ρ μ _ _ rl h fun x H1 d μ1 t1 m1 p1 h1=>?_⟩
  cases p1 with
  | @tup p xs ds q l=>exact ⟨p,rfl,.inr ⟨⟨xs,q⟩,k _ H1 ds μ1 t1 m1 (D4 q l) h1⟩⟩
  | @ls p xs ds q l=>exact ⟨p,rfl,.inl ⟨⟨xs,q.sq⟩,k _ H1 ds μ1 t1 m1 (LR q l) h1⟩⟩
  | _=>exact False.elim h1
def QM (K:PySem.W.Frag)(t:TA):TI:=fun σ H R=>t σ H fun vs H1=>∃ (ta tb:Bool) (a b:Addr),vs=[.ref a,.ref b]∧(∃ xs,Sq ta K H1 a xs)∧(∃ ys,Sq tb K H1 b ys)∧R (Itz ta tb K a b) H1
theorem IS {t:TA}(hg:Gl X "zip")(hm:X.mg "zip" = none)(ha:PA X [ea,eb] t)(hs:starEach [ea,eb] X.env=[(false,eval ea X.env),(false,eval eb X.env)]:=by rfl)(hs2:starEach [eb] X.env=[(false,eval eb X.env)]:=by rfl) :
    PI X (.Tuple es ek ep) (.Call (.Name "zip" p) [ea,eb] [] pos) (QM X.K t):=by
  intro pins s σ H R I h
  refine Call_ (iC I hg hm boot_zip (PyProof.Rows.callWith_type1 (thn (ha pos pins s σ H _ I h) fun us s1 ⟨vs,H1,I1,r1,ta,tb,a,b,e,⟨xs,qa⟩,⟨ys,qb⟩,q⟩=>?_) (by rw[hs,hs2]) (by rw[hs2];rfl)))
  subst e
  cases r1 with | cons r rr=>cases rr with | cons r' rr=>
  cases rr
  cases (show _=Value.ref a from r)
  cases (show _=Value.ref b from r')
  obtain ⟨ia,ra,sa⟩:=Inv.sq I1 qa
  obtain ⟨ib,rb,sb⟩:=Inv.sq I1 qb
  have alt:a < s1.heap.objs.size:=by cases ta<;>(obtain ⟨o,e,_⟩:=sa;exact Heap.lt_size e)
  have blt:b < s1.heap.objs.size:=by cases tb<;>(obtain ⟨o,e,_⟩:=sb;exact Heap.lt_size e)
  refine CU sa sb fun g S kp=>wpAny_pyIter_zip S.zz ⟨s1.heap.objs.size+4,[s1.heap.objs.size+4,s1.heap.objs.size+2,s1.heap.objs.size+3,s1.heap.objs.size,s1.heap.objs.size+1],_,_,H1,rfl,I1.kept (t':=s1.toks) kp,E3 (RK _ _ _ alt blt),S,fun c hc=>?_,q⟩
  exact I1.zH (Mw _ _ hc) (I1.hok.fresh (Mw _ _ hc))
def ke (t:ATr):ATr:=fun ρ μ Q=>t ρ μ fun vs μ1=>k2 vs fun x y=>kS x fun ds=>kS y fun es=>Q (List.zipWith (fun d e=>.tup [d,e]) ds es) μ1
theorem yX {K:PySem.W.Frag}{H:Hp}{v:V}{x:D}{f:List D→Prop}(p:Dp K H v x)(h:kS x f):∃ (tp:Bool) (a:Addr) (xs:List V) (ds:List D),v=.ref a∧Sq tp K H a xs∧DpL K H xs ds∧kQ tp x f:=by
  cases p with
  | @tup a xs ds q l=>exact ⟨true,a,xs,ds,rfl,q,l,h⟩
  | @ls a xs ds q l=>exact ⟨false,a,xs,ds,rfl,q,l,h⟩
  | _=>exact False.elim h
theorem iN {At:ATr}(hg:Gl X "zip")(hm:X.mg "zip" = none)(ha:LA X [ea,eb] At)
    (hs:starEach [ea,eb] X.env=[(false,eval ea X.env),(false,eval eb X.env)]:=by rfl) (hs2:starEach [eb] X.env=[(false,eval eb X.env)]:=by rfl) :
    LI X (.Tuple es ek ep) (.Call (.Name "zip" p) [ea,eb] [] pos) (ke At):=by
  obtain ⟨t,pt,st⟩:=ha.ex
  refine ⟨_,IS hg hm pt hs hs2,fun σ H ρ μ Q R rl h k=>st σ H ρ μ _ _ rl h fun vs H1 ds μ1 t1 m1 p1 h1=>?_⟩
  unfold L3.k2 at h1
  split at h1
  case h_2=>exact False.elim h1
  cases p1 with | cons pa p2=>cases p2 with | cons pb p3=>
  cases p3
  obtain ⟨ta,a,xs,dx,rfl,qa,la,h2⟩:=yX pa h1
  obtain ⟨a',xs',dx',ea',qa',la',h2⟩:=yL pa h2
  cases ea'
  obtain ⟨tb,b,ys,dy,rfl,qb,lb,h3⟩:=yX pb h2
  obtain ⟨b',ys',dy',eb',qb',lb',h3⟩:=yL pb h3
  cases eb'
  refine ⟨ta,tb,a,b,rfl,⟨xs',qa'⟩,⟨ys',qb'⟩,k _ H1 _ μ1 t1 m1 ⟨fun i H' tk hi=>?_,fun i H' v H'' tk hi yv=>?_,fun i H' tk hi=>?_⟩ h3⟩
  · have l1:=la'.length
    have l2:=lb'.length
    rw[List.length_zipWith] at hi
    exact ⟨xs',ys',xs'[i],ys'[i],tk.sq qa',tk.sq qb',by simp[show i < xs'.length by omega],by simp[show i < ys'.length by omega]⟩
  · obtain ⟨x,y,q,fx,fy,rfl,fr,rfl⟩:=yv
    obtain ⟨d,ed,pd⟩:=la'.get' (fx _ (tk.sq qa'))
    obtain ⟨e,ee,pe⟩:=lb'.get' (fy _ (tk.sq qb'))
    have tn:Tk H' (L2.upd H' q (.tup [x,y])):=.new fr
    exact ⟨tn,⟨.tup [d,e],by simp[List.getElem?_zipWith,ed,ee],.tup (SqT.of aM) (.cons ((pd.mono tk).mono tn) (.cons ((pe.mono tk).mono tn) .nil))⟩,fun μ' m'=>c5 m' fr⟩
  · have l1:=la'.length
    have l2:=lb'.length
    rw[List.length_zipWith] at hi
    exact ⟨xs',ys',tk.sq qa',tk.sq qb',by omega⟩
variable {i o:Expr} {Ti To:ETr}
end
end
section
open PySem PySem.Spec PyProof.Rows L2
def ltS (x y:Str):Bool:=decide (x.cps.toList < y.cps.toList)
theorem lX:∀ {us:List Value} {ss:List Str},StrsAre us ss→Vals (ss.map V.str) us
  | _,_,.nil=>.nil
  | _,_,.cons n t h=>.cons ⟨t,rfl⟩ (lX h)
theorem Bz:∀ {us:List Value} {ss:List Str},Vals (ss.map V.str) us→StrsAre us ss
  | _,[],h=>by cases h;exact .nil
  | _,s::r,h=>by
    cases h with
    | cons q h=>obtain ⟨t,rfl⟩:=(show ∃ t,_=Value.str s t from q);exact .cons s t (Bz h)
def OS (K:PySem.W.Frag):List V→Hp→VK→Prop:=fun xs H Q=>∃ (p:Addr) (ss:List Str),xs=[.ref p]∧SqL K H p (ss.map V.str)∧ss.length < 64∧∀ ss':List Str,ss'.Perm ss→ss'.Pairwise (fun a b=>ltS b a=false)→∀ z,H z=none→Q (.ref z) (L2.upd H z (.lst (ss'.map V.str)))
theorem Cr:∀ (p:Str) (l:List Str),risingS p l=true→(p::l).Pairwise (fun a b=>ltS b a=false):=by
  have tr:∀ a b c:Str,ltS b a=false→ltS c b=false→ltS c a=false:=by
    intro a b c h1 h2
    unfold ltS at *
    rw[decide_eq_false_iff_not,List.not_lt] at *
    exact List.le_trans h1 h2
  intro p l
  induction l generalizing p with
  | nil=>intro _;exact List.pairwise_singleton _ _
  | cons x r ih=>
    intro h
    have h':ltCps x.cps.toList p.cps.toList=false∧risingS x r=true:=by
      have:(!ltCps x.cps.toList p.cps.toList&&risingS x r)=true:=h
      simpa using this
    have hx:=ih x h'.2
    have hpx:ltS x p=false:=by unfold ltS;rw[← ltCps_eq];exact h'.1
    refine List.pairwise_cons.mpr ⟨fun y hy=>?_,hx⟩
    rcases List.mem_cons.mp hy with rfl | hy
    · exact hpx
    · exact tr p x y hpx ((List.pairwise_cons.mp hx).1 y hy)
theorem CL:∀ (l:List Str),sortedS l=true→l.Pairwise (fun a b=>ltS b a=false)
  | [],_=>.nil
  | p::l,h=>Cr p l h
theorem AD {X:Cx}:bV X (.builtin "sorted") (OS X.K):=fun pins s σ H xs us Q I rx ⟨p,ss,e1,sq,hl,q⟩=>by
  subst e1
  obtain ⟨u,rfl,ru⟩:=vals1 rx
  cases (show u=Value.ref p from ru)
  obtain ⟨its,rv,pl,hz⟩:=I.list sq
  have hi:StrsAre its ss:=Bz rv
  have hlen:its.length < 64:=by have:=rv.length;simp at this;omega
  refine sorted_strs pl.isList hi hlen fun out ss' a1 a2 a3=>?_
  obtain ⟨n,en⟩:=sortedAll_at s.heap its out
  refine ⟨.ref _,_,I.laid (t':=s.toks) (o:=.lst (ss'.map V.str)) (fun b o e=>sortedAll_old e) (Nat.le_succ _) ?_,rfl,q ss' a2 (CL _ a3) _ (I.hok.fresh (Nat.le_succ _))⟩
  have z1:ss'.length=ss.length:=a2.length_eq
  exact ⟨by rw[List.length_map,z1];exact Nat.le_of_lt (Nat.lt_of_lt_of_le hl (by decide)),out.toList,n,lX a1,by simpa[seqObj] using en⟩
def yJ:FSp:=fun ds μ Q=>match ds with
  | [.ls xs]=>∃ ss:List Str,(xs=ss.map .str∧ss.length < 64)∧∀ ss':List Str,ss'.Perm ss→ss'.Pairwise (fun a b=>ltS b a=false)→Q (.ls (ss'.map .str)) μ
  | _=>False
theorem DpL.strs {K:PySem.W.Frag}{H:Hp}:∀ ss:List Str,DpL K H (ss.map V.str) (ss.map D.str)
  | []=>.nil
  | s::r=>.cons (.str s) (DpL.strs r)
theorem DpL.lX {K:PySem.W.Frag}{H:Hp}:∀ {xs:List V} {ss:List Str},DpL K H xs (ss.map .str)→xs=ss.map V.str
  | _,[],.nil=>rfl
  | _,s::r,.cons h l=>by cases h;rw[DpL.lX l];rfl
section
variable {X:Cx} {e a b:Expr} {x:Str} {p pos:Pos} {At:ATr} {Ta Tb:ETr}
theorem Fh (hg:Gl X x)(hm:X.mg x=none)(hv:bootBuiltins x=some (.builtin "sorted"))(ha:LA X [e] At)(hn:x ≠ "__name__" := by decide)(hdb:(x == ("__debug__" : Str))=false:=by decide)
    (h1:starEach [e] X.env=(false,eval e X.env)::starEach [] X.env:=by rfl) (h2:(backTo pos (starEach [] X.env)).any (·.1)=false:=by rfl):LE X (.Call (.Name x p) [e] [] pos) (aq yJ At):=by
  obtain ⟨ta,pa,sa⟩:=ha.ex
  refine ⟨_,jl (lr AD hg hm hv pa hn hdb h1 h2),fun σ H ρ μ Q Q' rl h k=>sa σ H ρ μ _ _ rl h fun xs H1 ds μ1 t1 m1 p1 h1=>?_⟩
  unfold yJ at h1
  split at h1
  · obtain ⟨ss,⟨rfl,hl⟩,h2⟩:=h1
    cases p1 with | cons p1 p2=>
    cases p2
    cases p1 with
    | @ls a ys _ q l=>
      cases DpL.lX l
      refine ⟨a,ss,rfl,q.sq,hl,fun ss' a2 a3 z hz=>⟨z,_,rfl,aM,fun o=>?_⟩⟩
      have e:L2.upd (L2.upd H1 z (.lst (ss'.map V.str))) z (.frz o (.lst (ss'.map V.str)))=L2.upd H1 z (.frz o (.lst (ss'.map V.str))):=tQ
      rw[e]
      exact k _ _ _ μ1 (t1.trans (.new hz)) (c5 m1 hz) (.ls (.inl ⟨o,aM⟩) (.strs ss')) (h2 ss' a2 a3)
  · exact False.elim h1
def MG (f:Str→Str→Bool):DR2:=fun x y μ Q=>match x,y with
  | .str i,.str j=>Q (.bl (f i j)) μ
  | _,_=>False
theorem O8:OpR X (compareOp .Gt) (fun x y H Q=>∃ i j,x=.str i∧y=.str j∧Q (.bl (ltS j i)) H):=by
  intro pins s σ H x y v u Q I rx ry h
  obtain ⟨i,j,rfl,rfl,q⟩:=h
  obtain ⟨t,rfl⟩:=rx
  obtain ⟨t',rfl⟩:=ry
  exact PySem.P.gt_str ⟨.bl _,H,I,rfl,q⟩
theorem D2 {K:PySem.W.Frag}(f:Str→Str→Bool):gZ K (fun x y H Q=>∃ i j,x=.str i∧y=.str j∧Q (.bl (f i j)) H) (MG f):=fun H μ x y dx dy Q Q' m px py h k=>by
  cases px with
  | str i=>cases py with
    | str j=>exact ⟨i,j,rfl,rfl,k _ H _ μ (.refl H) m (.bl _) h⟩
    | _=>exact False.elim h
  | _=>cases py<;>exact False.elim h
def PY:DR2:=MG fun i j=>ltS j i
theorem Ob (ha:LE X a Ta)(hb:LE X b Tb):LT X (.Compare a [.Gt] [b] pos) (TB (aj PY Ta Tb)):=gJ O8 (D2 _) ha hb (gA _)
end
end
section
open PySem PySem.Spec PyProof.Rows L2
def kA (C:Mu→Prop)(p:Addr)(G:GTr)(tt:TTr)(te:ETr)(ρc:ST)(K:Mu→Prop):List D→Mu→Prop
  | [],μ=>C μ∧K μ
  | d::r,μ=>C μ∧G d ρc μ fun ρ1 μ1=>tt ρ1 μ1 fun b μ2=>kIf b (te ρ1 μ2 fun y μ3=>kL μ3 p fun zs=>zs.length < 1000000∧kA C p G tt te ρc K r (up μ3 p (.lst (zs++[y])))) (kA C p G tt te ρc K r μ2)
def jx (To:ETr)(G:GTr)(tt:TTr)(te:ETr)(n:Nat)(caps:List Nat):ETr:=fun ρ μ Q=>To ρ μ fun x μ1=>kObj x fun a=>kL μ1 a fun ds=>∀ p,μ1 p=none→
  kA (fun μ=>μ a=some (.lst ds)) p G tt te (fo ρ n caps) (fun μ'=>kL μ' p fun zs=>Q (.ls zs) (dn μ' p)) ds (up μ1 p (.lst []))
theorem sQ {K:PySem.W.Frag}{ta:TE}{To:ETr}{G:GTr}{Tt:TTr}{Te:ETr}{n:Nat}{caps:List Nat}(sa:Sim K ta To):Sim K (Hm (sV (L8 K ta) (lB K n G) (liftT K Tt) (lD K Te) n caps)) (jx To G Tt Te n caps):=by
  intro σ H ρ μ Q Q' rl h k
  refine sa σ H ρ μ _ _ rl h fun x H1 dx μ1 t1 m1 px hx=>?_
  obtain ⟨q,rfl,hx⟩:=iw px hx
  obtain ⟨ds,eq0,h1⟩:=bK hx
  obtain ⟨xs0,exs0,l0⟩:=m1 q _ eq0
  refine ⟨q,rfl,⟨_,SqL.of exs0⟩,fun D hD=>?_⟩
  have hp:=h1 D (m1.free hD)
  have tD:Tk H1 (L2.upd H1 D (.lst [])):=.new hD
  have mD:bJ K (L2.upd H1 D (.lst [])) (up μ1 D (.lst [])):=fun a o e=>by
    by_cases ha:a=D
    · subst ha
      rw[aG] at e;cases e
      exact ⟨[],aM,.nil⟩
    · rw[aU ha] at e
      exact c5 m1 hD a o e
  refine ⟨fun i m ys H2=>m=ds.length - i∧i≤ds.length∧Tk H1 H2∧∃ μ2,bJ K H2 μ2∧kA (fun μ=>μ q=some (.lst ds)) D G Tt Te (fo ρ n caps) (fun μ'=>kL μ' D fun zs=>Q (.ls zs) (dn μ' D)) (ds.drop i) μ2,
    ⟨ds.length,by simp,Nat.zero_le _,tD,_,mD,by simpa using hp⟩,?_⟩
  rintro i m ys H2 ⟨rfl,hi,t12,μ2,m2,h2⟩
  have hg:μ2 q=some (.lst ds):=by
    cases hdr:ds.drop i with
    | nil=>rw[hdr] at h2;exact h2.1
    | cons=>rw[hdr] at h2;exact h2.1
  obtain ⟨xs2,ex2,l2⟩:=m2 q _ hg
  have ll:=l2.length
  by_cases hlt:i < ds.length
  · refine .inr ⟨⟨xs2,xs2[i]'(by omega),SqL.of ex2,List.getElem?_eq_getElem (by omega)⟩,fun ys' H'=>Tk H1 H'∧∃ μ',bJ K H' μ'∧kA (fun μ=>μ q=some (.lst ds)) D G Tt Te (fo ρ n caps) (fun μ'=>kL μ' D fun zs=>Q (.ls zs) (dn μ' D)) (ds.drop (i+1)) μ',fun ys' H' ⟨t',μ',m',h'⟩=>⟨ds.length - (i+1),by omega,rfl,hlt,t',μ',m',h'⟩,fun x H3 y=>?_⟩
    obtain ⟨rfl,y⟩:=y
    have exi:=y xs2 (SqL.of ex2)
    obtain ⟨d,ed,pd⟩:=l2.get' exi
    have e:ds.drop i=d::ds.drop (i+1):=by
      refine (List.drop_eq_getElem_cons hlt).trans ?_
      congr 1
      rw[List.getElem?_eq_getElem hlt] at ed
      exact Option.some.inj ed
    rw[e] at h2
    have t13:=t12
    have r3:Rl K (fB σ n caps) H3 (fo ρ n caps) μ2:=oP (rl.go (t1.trans t13) m2) n caps
    refine ⟨_,_,d,_,r3,pd,h2.2,fun σ4 H4 ρ4 μ4 t4 r4 kp h4=>⟨⟨kp.1.symm,fun j v ej=>?_⟩,_,_,_,r4,h4,fun b H5 μ5 t5 m5 h5=>?_⟩⟩
    · by_cases hj:n≤j
      · rw[kp.2 j hj];exact ej
      · obtain ⟨j',k',e1,_⟩:=gu ej
        omega
    · have t15:=t13.trans (t4.trans t5)
      cases b with
      | false=>exact pW ⟨t15,μ5,m5,h5⟩
      | true=>
        refine pG ⟨_,_,_,r4.go t5 m5,h5,fun v H6 d6 μ6 t6 m6 p6 h6=>?_⟩
        obtain ⟨zs,ez,lz,h7⟩:=bK h6
        obtain ⟨xs,ex,lx⟩:=m6 D _ ez
        have t67:Tk H6 (L2.upd H6 D (.lst (xs++[v]))):=.upd (fun ys z=>by rw[ex] at z;cases z) fun o' u z=>by rw[ex] at z;cases z
        refine ⟨xs,ex,by rw[lx.length];exact Nat.lt_of_lt_of_le lz (by decide),(t15.trans t6).trans t67,up μ6 D (.lst (zs++[d6])),fun a o ea=>?_,h7⟩
        by_cases ha:a=D
        · subst ha
          rw[aG] at ea;cases ea
          exact ⟨_,aM,(lx.append (.cons p6 .nil)).mono t67⟩
        · rw[aU ha] at ea
          exact (m6 a _ ea).ne t67 ha
  · have e:i=ds.length:=by omega
    subst e
    rw[List.drop_length] at h2
    obtain ⟨zs,ez,hq⟩:=bK (show kL μ2 D fun zs=>Q (.ls zs) (dn μ2 D) from h2.2)
    obtain ⟨xs,ex,lx⟩:=m2 D _ ez
    refine .inl ⟨⟨xs2,SqL.of ex2,by omega⟩,D,xs,rfl,ex,fun o=>?_⟩
    have t2f:Tk H2 (L2.upd H2 D (.frz o (.lst xs))):=.upd (fun ys z=>by rw[ex] at z;cases z) fun o' u z=>by rw[ex] at z;cases z
    refine k _ _ _ (dn μ2 D) ((t1.trans t12).trans t2f) (fun a o' ea=>?_) (.ls (.inl ⟨o,aM⟩) (lx.mono t2f)) hq
    have ha:a≠D:=fun z=>by subst z;unfold dn at ea;rw[if_pos rfl] at ea;cases ea
    have ea':μ2 a=some o':=by unfold dn at ea;rw[if_neg ha] at ea;exact ea
    exact (m2 a _ ea').ne t2f ha
theorem mx {X:Cx}{tg elt iter:Expr}{Te:ETr}{Tt:TTr}{pos spos py:Pos}{y:Str}{To:ETr}{G:GTr}{ifs:List Expr}{scope fsc:Scope}(iy:Nat)(hN:X.N.Nodup)(XN Nc:List Str)(n:Nat)(caps:List Nat)(hxe:X.xe=fun _ _=>False)(hcalm:X.calm=true)(hi:LE X iter To)
    (hbody:∀ (cl:List (Str×Addr)) (C:Addr) (s₀:Shared) (H₀:Hp) (ex:List Addr),LGc (a8 X scope Nc cl C s₀ H₀ ex) n tg G∧xH (a8 X scope Nc cl C s₀ H₀ ex) ifs Tt∧LE (a8 X scope Nc cl C s₀ H₀ ex) elt Te)
    (hsc:X.env.scope=fsc) (hXN:X.N=XN) (hok:gO fsc.names XN scope Nc n caps=true)
    (hiy:X.N[iy]? = some y:=by rfl) (hx:Loc X.env.scope y:=by first | exact Or.inl rfl | exact Or.inr rfl) (hf:X.fn y=true∨X.env.scope.names.lookup y=some .local:=by first | exact .inl rfl | exact .inr rfl | assumption)
    (hsw:swapsWith (.ListComp elt [⟨tg,iter,ifs,0⟩] scope pos) (some (.Name y py)) spos.line X.env=pure true:=by rfl)
    (hs:∀ x,foldedSetIterable iter X.env x=pure x:=by intro _;rfl) :
    LS X (.Assign [.Name y py] (.ListComp elt [⟨tg,iter,ifs,0⟩] scope pos) spos) (aN (jx To G Tt Te n caps) (aw iy)):=by
  unfold gO at hok
  simp only[Bool.and_eq_true,List.all_eq_true] at hok
  obtain ⟨⟨⟨h1,h2⟩,h3⟩,h4⟩:=hok
  obtain ⟨ta,pa,sa⟩:=hi.ex
  refine ⟨_,A3 (g:=lB X.K n G) (tt:=liftT X.K Tt) (te:=lD X.K Te) hxe hcalm (BJ pa) (fun cl C s₀ H₀ ex=>let ⟨h1,h2,h3⟩:=hbody cl C s₀ H₀ ex;⟨h1.pe,h2.pe,h3.pe⟩) (fun y hy hf=>?_) (fun y hy hf=>?_) (by simpa using h2) (fun y hy hf=>?_) (by simpa using h3) (fun j k hj=>?_) (iz hN hiy hx hf) hsw hs,fun σ H ρ μ E E' rl h k=>sQ sa σ H ρ μ _ _ rl h fun v H' d μ' t' m' p' h'=>g9 iy σ H' ρ μ' v d _ _ (rl.go t' m') p' h' (k.go t').nx⟩
  · have:=(h1 y hy).1.1
    show X.env.scope.names.lookup y.1=_
    rw[hsc]
    simpa[hf] using this
  · have:=(h1 y hy).1.2
    simp[hf] at this
  · have:=(h1 y hy).2
    simpa[hf] using this
  · have hl:j < caps.length:=(List.getElem?_eq_some_iff.mp hj).1
    have:=h4 j (List.mem_range.mpr hl)
    rw[hj] at this
    dsimp only at this
    rw[hXN]
    cases e:XN[k]? with
    | none=>rw[e] at this;cases this
    | some x=>
      rw[e] at this
      dsimp only at this
      rw[Bool.and_eq_true] at this
      exact ⟨x,by simpa using this.1,rfl,by simpa using this.2⟩
theorem Dk {X:Cx}{tg elt iter:Expr}{Te:ETr}{Tt:TTr}{pos:Pos}{To:ETr}{G:GTr}{ifs:List Expr}{scope fsc:Scope}(XN Nc:List Str)(n:Nat)(caps:List Nat)(hxe:X.xe=fun _ _=>False)(hcalm:X.calm=true)(hi:LE X iter To)
    (hbody:∀ (cl:List (Str×Addr)) (C:Addr) (s₀:Shared) (H₀:Hp) (ex:List Addr),LGc (a8 X scope Nc cl C s₀ H₀ ex) n tg G∧xH (a8 X scope Nc cl C s₀ H₀ ex) ifs Tt∧LE (a8 X scope Nc cl C s₀ H₀ ex) elt Te)
    (hsc:X.env.scope=fsc) (hXN:X.N=XN) (hok:gO fsc.names XN scope Nc n caps=true)
    (hs:∀ x,foldedSetIterable iter X.env x=pure x:=by intro _;rfl) :
    LE X (.ListComp elt [⟨tg,iter,ifs,0⟩] scope pos) (jx To G Tt Te n caps):=by
  unfold gO at hok
  simp only[Bool.and_eq_true,List.all_eq_true] at hok
  obtain ⟨⟨⟨h1,h2⟩,h3⟩,h4⟩:=hok
  obtain ⟨ta,pa,sa⟩:=hi.ex
  refine ⟨_,jl (BI (g:=lB X.K n G) (tt:=liftT X.K Tt) (te:=lD X.K Te) hxe hcalm (BJ pa) (fun cl C s₀ H₀ ex=>let ⟨h1,h2,h3⟩:=hbody cl C s₀ H₀ ex;⟨h1.pe,h2.pe,h3.pe⟩) (fun y hy hf=>?_) (fun y hy hf=>?_) (by simpa using h2) (fun y hy hf=>?_) (by simpa using h3) (fun j k hj=>?_) hs),sQ sa⟩
  · have:=(h1 y hy).1.1
    show X.env.scope.names.lookup y.1=_
    rw[hsc]
    simpa[hf] using this
  · have:=(h1 y hy).1.2
    simp[hf] at this
  · have:=(h1 y hy).2
    simpa[hf] using this
  · have hl:j < caps.length:=(List.getElem?_eq_some_iff.mp hj).1
    have:=h4 j (List.mem_range.mpr hl)
    rw[hj] at this
    dsimp only at this
    rw[hXN]
    cases e:XN[k]? with
    | none=>rw[e] at this;cases this
    | some x=>
      rw[e] at this
      dsimp only at this
      rw[Bool.and_eq_true] at this
      exact ⟨x,by simpa using this.1,rfl,by simpa using this.2⟩
end
theorem LU (a b:ETr)(ρ:ST)(μ:Mu)(Q:DK):bD a b ρ μ Q=a ρ μ fun x μ1=>b ρ μ1 fun y μ2=>kObj x fun a=>kD μ2 a fun kvs=>xA y fun k=>kO (bN kvs k) fun d=>Q d μ2:=propext Iff.rfl
theorem L5 (a b e:ETr)(nx:ST→Mu→Prop)(rt:DK)(bk ct:ST→Mu→Prop)(ρ:ST)(μ:Mu):jc a b e ⟨nx,rt,bk,ct⟩ ρ μ=e ρ μ fun v μ1=>a ρ μ1 fun x μ2=>b ρ μ2 fun y μ3=>kObj x fun a=>kD μ3 a fun kvs=>xA y fun k=>kvs.length < 1000000∧nx ρ (up μ3 a (.dct (putD kvs k v))):=propext Iff.rfl
theorem KC (f:Int→Int→Int)(a b e:ETr)(nx:ST→Mu→Prop)(rt:DK)(bk ct:ST→Mu→Prop)(ρ:ST)(μ:Mu):lA f a b e ⟨nx,rt,bk,ct⟩ ρ μ=a ρ μ fun x μ1=>b ρ μ1 fun y μ2=>kObj x fun a=>kD μ2 a fun kvs=>xA y fun k=>kO (bN kvs k) fun d=>kI d fun m=>e ρ μ2 fun w μ3=>kI w fun n=>kD μ3 a fun kvs3=>kvs3.length < 1000000∧nx ρ (up μ3 a (.dct (putD kvs3 k (.int (f m n))))):=propext Iff.rfl
theorem M6 (f:Int→Int→Int)(i:Nat)(e:ETr)(nx:ST→Mu→Prop)(rt:DK)(bk ct:ST→Mu→Prop)(ρ:ST)(μ:Mu):LD f i e ⟨nx,rt,bk,ct⟩ ρ μ=ah i ρ μ fun d _=>kI d fun m=>e ρ μ fun w μ1=>kI w fun n=>aw i (.int (f m n)) ρ μ1 nx:=propext Iff.rfl
theorem Kl (ks:List L2.Key)(t:ATr)(ρ:ST)(μ:Mu)(Q:DK):Fy ks t ρ μ Q = ∀ p,μ p=none→t ρ (up μ p (.dct [])) fun ds μ2=>kD μ2 p fun kvs=>kvs=[]∧Q (.obj p) (up μ2 p (.dct (ks.zip ds))):=propext Iff.rfl
theorem NS (a b:ETr)(ρ:ST)(μ:Mu)(Q:DK):OQ a b ρ μ Q=a ρ μ fun x μ1=>kObj x fun a=>kL μ1 a fun _=>b ρ μ1 fun y μ2=>kI y fun j=>(-9223372036854775808≤j∧j < 9223372036854775808)∧kL μ2 a fun ds=>kN (L2.ixN ds.length j) fun k=>kO ds[k]? fun d=>Q d (up μ2 a (.lst (ds.eraseIdx k))):=propext Iff.rfl
theorem GQ (a b:ETr)(ρ:ST)(μ:Mu)(Q:DK):yT a b ρ μ Q=a ρ μ fun x μ1=>Dc μ1 x fun _=>b ρ μ1 fun y μ2=>Dc μ2 x fun ds=>(cX 38 ds=true∧okD 38 y=true)∧kN (Cq ds y) fun j=>j < 1000000∧Q (.int j) μ2:=propext Iff.rfl
theorem NA (a:ETr)(ρ:ST)(μ:Mu)(Q:List D→Mu→Prop):dH a ρ μ Q=a ρ μ fun x μ1=>kS x fun ds=>Q ds μ1:=propext Iff.rfl
theorem Jc (t:ATr)(ρ:ST)(μ:Mu)(Q:List D→Mu→Prop):ke t ρ μ Q=t ρ μ fun vs μ1=>k2 vs fun x y=>kS x fun ds=>kS y fun es=>Q (List.zipWith (fun d e=>.tup [d,e]) ds es) μ1:=propext Iff.rfl
theorem Pc (n:Bool)(x:D)(ds:List D)(μ:Mu)(Q:DK):Ja n x (.ls ds) μ Q=((cX 38 ds=true∧okD 38 x=true)∧Q (.bl (if n then !inG x ds else inG x ds)) μ):=propext Iff.rfl
theorem Oh (μ:Mu)(ds:List D)(f:List D→Prop):Dc μ (.ls ds) f=f ds:=propext Iff.rfl
theorem Nv (s:Str)(f:L2.Key→Prop):xA (.str s) f=f (.inr s):=propext Iff.rfl
theorem Mx {μ:Mu}{a:Addr}{ds:List (L2.Key×D)}(h:μ a=some (.dct ds))(f):kD μ a f=f ds:=by unfold kD;rw[h]
theorem RI (μ:Mu)(a:Addr)(ds:List (L2.Key×D))(f:List (L2.Key×D)→Prop):kD (up μ a (.dct ds)) a f=f ds:=Mx aG f
theorem vB {μ:Mu}{a:Addr}{ds:List (L2.Key×D)}{f:List (L2.Key×D)→Prop}(e:μ a=some (.dct ds))(h:f ds):kD μ a f:=by rw[Mx e];exact h
theorem KI (cs:List String)(x:D)(ts:List D)(μ:Mu)(Q:DK):gS (vI cs) [x,.tup ts] μ Q=((ts=cs.map .ty∧∀ c∈cs,c∈xC)∧(match tyD x with | some t=>Q (.bl (cs.any fun c=>eW t c)) μ | none=>False)):=propext Iff.rfl
theorem K2 (xs:List D)(μ:Mu)(Q:DK):gS xp [.ls xs] μ Q=(∃ kvs:List (L2.Key×D),xs=kvs.map AA∧kvs.length≤1000000∧∀ p,μ p=none→Q (.obj p) (up μ p (.dct (iZ [] kvs)))):=propext Iff.rfl
theorem N4 (i j:Str)(μ:Mu)(Q:DK):PY (.str i) (.str j) μ Q=Q (.bl (ltS j i)) μ:=propext Iff.rfl
theorem IsPart.of_eq {a b c d x y:Int}(h:IsPart a b x y)(hb:0 < b)(hd:0 < d)(e:a*d=c*b):IsPart c d x y:=by
  have xd:x*d=c*y:=by
    refine Int.eq_of_mul_eq_mul_right (a:=b) (by omega) ?_
    calc x*d*b=(x*b)*d:=by ac_rfl
      _=(a*y)*d:=by rw[h.e]
      _=(a*d)*y:=by ac_rfl
      _=(c*b)*y:=by rw[e]
      _=c*y*b:=by ac_rfl
  have y0:=h.q0
  have dx:x ∣ c:=by
    have:x ∣ y*c:=⟨d,by rw[Int.mul_comm y c];exact xd.symm⟩
    have h':=Int.dvd_gcd_mul_iff_dvd_mul.mpr this
    rw[h.g] at h'
    simpa using h'
  have dy:y ∣ d:=by
    have:y ∣ x*d:=⟨c,by rw[xd,Int.mul_comm]⟩
    have h':=Int.dvd_gcd_mul_iff_dvd_mul.mpr this
    rw[Int.gcd_comm,h.g] at h'
    simpa using h'
  refine ⟨h.q0,h.g,xd,?_,Nat.le_of_dvd (by omega) (Int.natAbs_dvd_natAbs.mpr dy)⟩
  by_cases hc:c=0
  · subst hc
    have:x=0:=by
      rcases Int.mul_eq_zero.mp (show x*d=0 by rw[xd,Int.zero_mul]) with z | z
      · exact z
      · omega
    rw[this];exact Nat.le_refl _
  · exact Nat.le_of_dvd (by omega) (Int.natAbs_dvd_natAbs.mpr dx)
structure Vl (d:D) (a b:Int):Prop where
  ex:∃ p q,d=fr p q∧IsPart a b p q
  b0:0 < b
theorem Vl.of_eq {d:D}{a b a' b':Int}(h:Vl d a b)(hb:0 < b')(e:a*b'=a'*b):Vl d a' b':=by
  obtain ⟨⟨p,q,rfl,P⟩,b0⟩:=h
  exact ⟨⟨p,q,rfl,P.of_eq b0 hb e⟩,hb⟩
theorem Vl.uniq {d d':D}{a b:Int}(h:Vl d a b)(h':Vl d' a b):d=d':=by
  obtain ⟨⟨p,q,rfl,P⟩,b0⟩:=h
  obtain ⟨⟨p',q',rfl,P'⟩,_⟩:=h'
  obtain ⟨rfl,rfl⟩:=P.same P' (by omega) (by omega) rfl
  rfl
theorem ND (a:Int){b:Int}(b0:0 < b):Vl (.tup [.int (a.fdiv (Int.gcd a b)),.int (b.fdiv (Int.gcd a b))]) a b:=by
  have h:=A9 (a:=a) (b:=b) (by omega)
  rw[if_neg (by omega)] at h
  exact ⟨⟨_,_,rfl,h⟩,b0⟩
theorem iQ {lo hi p q:Int}(h:FrB lo hi p q):Vl (fr p q) p q:=⟨⟨p,q,rfl,h.q0,h.g,rfl,Nat.le_refl _,Nat.le_refl _⟩,h.q0⟩
theorem BY {a b x y:Int}(h:IsPart a b x y)(b0:0 < b):Vl (fr x y) a b:=⟨⟨x,y,rfl,h⟩,b0⟩
theorem Mq {p q a b:Int}(g:Int)(q0:0 < q)(b0:0 < b)(e:p*b=a*q):p*g / q=a*g / b:=by
  calc p*g / q=(p*g)*b / (q*b):=(Int.mul_ediv_mul_of_pos_left _ _ b0).symm
    _=(a*g)*q / (b*q):=by rw[show p*g*b=(p*b)*g by ac_rfl,e,Int.mul_comm q b,show a*q*g=a*g*q by ac_rfl]
    _=a*g / b:=Int.mul_ediv_mul_of_pos_left _ _ q0
theorem OM {p q a b:Int}(q0:0 < q)(b0:0 < b)(e:p*b=a*q):p / q=a / b:=by
  have:=Mq 1 q0 b0 e
  simpa using this
theorem Sa {p q r s a b c e:Int}(q0:0 < q)(s0:0 < s)(b0:0 < b)(e0:0 < e)(h1:p*b=a*q)(h2:r*e=c*s):(p*s < r*q)↔(a*e < c*b):=by
  have k1:(p*s)*(b*e)=(a*e)*(q*s):=by
    calc (p*s)*(b*e)=(p*b)*(s*e):=by ac_rfl
      _=(a*q)*(s*e):=by rw[h1]
      _=(a*e)*(q*s):=by ac_rfl
  have k2:(r*q)*(b*e)=(c*b)*(q*s):=by
    calc (r*q)*(b*e)=(r*e)*(q*b):=by ac_rfl
      _=(c*s)*(q*b):=by rw[h2]
      _=(c*b)*(q*s):=by ac_rfl
  have be:0 < b*e:=Int.mul_pos b0 e0
  have qs:0 < q*s:=Int.mul_pos q0 s0
  constructor
  · intro h
    have:=Int.mul_lt_mul_of_pos_right h be
    rw[k1,k2] at this
    exact Int.lt_of_mul_lt_mul_right this (Int.le_of_lt qs)
  · intro h
    have:=Int.mul_lt_mul_of_pos_right h qs
    rw[← k1,← k2] at this
    exact Int.lt_of_mul_lt_mul_right this (Int.le_of_lt be)
def Le (a A:Int):Prop:=-A≤a∧a≤A
theorem Le.mono {a A B:Int}(h:Le a A)(hb:A≤B):Le a B:=⟨by have:=h.1;omega,by have:=h.2;omega⟩
theorem Le.of {a A:Int}(h0:0≤a)(h1:a≤A):Le a A:=⟨by omega,h1⟩
theorem Le.add {a b A B:Int}(h:Le a A)(k:Le b B):Le (a+b) (A+B):=⟨by have:=h.1;have:=k.1;omega,by have:=h.2;have:=k.2;omega⟩
theorem Le.sub {a b A B:Int}(h:Le a A)(k:Le b B):Le (a - b) (A+B):=⟨by have:=h.1;have:=k.2;omega,by have:=h.2;have:=k.1;omega⟩
theorem Le.neg {a A:Int}(h:Le a A):Le (-a) A:=⟨by have:=h.2;omega,by have:=h.1;omega⟩
theorem Le.abs {a A:Int}(h:Le a A):(a.natAbs:Int)≤A:=by have:=h.1;have:=h.2;omega
theorem Le.HN {a A:Int}(h:(a.natAbs:Int)≤A):Le a A:=⟨by omega,by omega⟩
theorem Le.mul {a b A B:Int}(h:Le a A)(k:Le b B):Le (a*b) (A*B):=by
  refine .HN ?_
  rw[Int.natAbs_mul,Int.natCast_mul]
  have a0:(0:Int)≤(a.natAbs:Int):=Int.natCast_nonneg _
  have b0:(0:Int)≤(b.natAbs:Int):=Int.natCast_nonneg _
  exact Int.mul_le_mul h.abs k.abs b0 (Int.le_trans a0 h.abs)
abbrev Bd (a:Int):Prop:=Le a 1000000000000000000000000000000
theorem Bd.m {a:Int}(h:Bd a):gx a:=by have:=h.1;have:=h.2;unfold gx;omega
theorem Bd.mm {a b:Int}(h:Bd a)(k:Bd b):gx (a*b):=by
  have:=(h.mul k).1;have:=(h.mul k).2
  unfold gx;omega
theorem Bd.mul {a b:Int}(h:Bd a)(k:Bd b):MulOk a b:=.inr ⟨h.m,k.m⟩
theorem IsPart.bp {a b x y:Int}(h:IsPart a b x y)(ha:Bd a):Bd x:=.HN (by have:=h.pa;have:=ha.abs;omega)
theorem IsPart.bq {a b x y:Int}(h:IsPart a b x y)(hb:Bd b):Bd y:=.HN (by have:=h.qb;have:=hb.abs;omega)
inductive Wd | still | step | swell | heed | calm
  deriving DecidableEq
structure RN where
  wd:Wd
  p:Int
  q:Int
  x:Int
  y:Int
  a:Int
  b:Int
  l:Int
  h:Int
  r:Int
  s:Int
def Wd.str:Wd→Str
  | .still=>Str.ofString "still"
  | .step=>Str.ofString "step"
  | .swell=>Str.ofString "swell"
  | .heed=>Str.ofString "heed"
  | .calm=>Str.ofString "calm"
def RN.toD (R:RN):D:=match R.wd with
  | .still=>.tup [.str "still", fr R.p R.q]
  | .step=>.tup [.str "step", fr R.p R.q,fr R.x R.y,fr R.a R.b,fr R.r R.s]
  | .swell=>.tup [.str "swell", fr R.p R.q,fr R.x R.y,fr R.a R.b,fr R.r R.s]
  | .heed=>.tup [.str "heed", fr R.p R.q,fr R.x R.y,fr R.a R.b,fr R.r R.s]
  | .calm=>.tup [.str "calm", fr R.p R.q,fr R.x R.y,.int R.l,.int R.h,fr R.r R.s]
structure RN.Ok (R:RN):Prop where
  w:FrB 1 60 R.p R.q
  t:FrB 1 60 R.r R.s
  wt:R.p*R.s≤R.r*R.q
  u:FrA 0 60 R.x R.y
  u1:R.wd=.swell→R.y < R.x
  g:FrA 0 1 R.a R.b
  d1:R.wd=.step∨R.wd=.swell→R.a < R.b
  l0:0≤R.l
  lh:R.l≤R.h
  h1:R.h≤60
  st:R.wd=.still→R.r=R.p∧R.s=R.q
theorem Em {lo hi:Int}(h0:lo < 1)(h1:1≤hi):FrA lo hi 1 1:=⟨⟨by decide,by decide,by decide,by omega,by omega⟩,by omega⟩
theorem RU {p q:Int}(h:FrL 1 p q):FrA 0 1 p q:=⟨h.toFrB,by have:=h.ab;omega⟩
structure Hd where
  good:Int
  mark:Int
  bC:Int
  wt:Int
structure Hd.Ok (h:Hd):Prop where
  g0:0≤h.good
  g1:h.good≤1000000
  m0:0≤h.mark
  m1:h.mark≤1000000
  l0:0≤h.bC
  l1:h.bC≤1000000
  w0:0≤h.wt
def Hd.toD (h:Hd):D:=.tup [.int h.good,.int h.mark,.int h.bC,.int h.wt]
def Hd.bad (h:Hd):Int:=h.mark+h.bC
def Hd.many (h:Hd):Int:=h.good+h.bad
def RN.idle (R:RN)(h:Hd):Prop:=R.wd=.still∨h.good+h.mark+h.bC=0
instance (R:RN) (h:Hd):Decidable (R.idle h):=by unfold RN.idle;infer_instance
def RN.cap (R:RN)(g:Int):Int:=R.r*g / R.s
def RN.shr (R:RN)(g S:Int)(h:Hd):Int:=if R.wd=.heed then (S*R.b*h.many+R.a*(h.bad*g - S*h.many)) / (R.b*h.many) else S
def RN.fac (R:RN)(g S:Int)(h:Hd):Option (Int×Int):=match R.wd with
  | .still=>none
  | .calm=>if 0 < h.bC then some (1,2) else none
  | .heed=>if h.bad=0 then none else some (2*g - S,2*g)
  | .swell=>if h.bad=0 then some (R.x,R.y) else some (R.a,R.b)
  | .step=>if h.bad=0 then none else some (R.a,R.b)
def RN.mvd (R:RN)(g W:Int)(h:Hd):Int:=if R.wd=.calm then (if h.wt < R.l then W*R.y+g*R.x else if R.h < h.wt then W*R.y - g*R.x else W*R.y) else W*R.y+g*R.x
def RN.mv (R:RN)(g W S:Int)(h:Hd):Int:=match R.fac g S h with
  | some f=>W*f.1 / f.2
  | none=>R.mvd g W h / R.y
def RN.clip (R:RN)(g z:Int):Int:=min (max z g) (R.cap g)
def RN.beh (R:RN)(g W S:Int)(h:Hd):Int×Int:=if R.idle h then (W,S) else (R.clip g (R.mv g W (R.shr g S h) h),R.shr g S h)
theorem E2 {R:RN}(k:R.Ok){g:Int}(g0:0 < g):g≤R.cap g:=by
  unfold RN.cap
  rw[Int.le_ediv_iff_mul_le k.t.q0]
  have:=Int.mul_le_mul_of_nonneg_right k.t.ge (show 0≤g by omega)
  have e:g*R.s=1*R.s*g:=by rw[Int.one_mul,Int.mul_comm]
  omega
theorem Gx {R:RN}(k:R.Ok){g:Int}(g0:0 < g):R.cap g≤60*g:=by
  unfold RN.cap
  refine Int.ediv_le_of_le_mul k.t.q0 ?_
  have:=Int.mul_le_mul_of_nonneg_right k.t.le (show 0≤g by omega)
  have e:60*g*R.s=60*R.s*g:=by ac_rfl
  omega
theorem EO {R:RN}(k:R.Ok){g S:Int}{h:Hd}(H:h.Ok)(hn:¬ R.idle h)(g0:0 < g)(S0:0≤S)(S1:S≤g):0≤R.shr g S h∧R.shr g S h≤g:=by
  unfold RN.shr
  split
  · rename_i hw
    have m0:0 < h.many:=by
      unfold RN.idle at hn
      unfold Hd.many Hd.bad
      have:=H.g0;have:=H.m0;have:=H.l0
      have:¬ (h.good+h.mark+h.bC=0):=fun z=>hn (.inr z)
      omega
    have bb:h.bad≤h.many:=by unfold Hd.many;have:=H.g0;omega
    have b0:0≤h.bad:=by unfold Hd.bad;have:=H.m0;have:=H.l0;omega
    have q0:=k.g.q0
    have a0:0 < R.a:=by have:=k.g.ab;omega
    have ab:R.a≤R.b:=by have:=k.g.le;omega
    have Y:0 < R.b*h.many:=Int.mul_pos q0 m0
    have e:S*R.b*h.many+R.a*(h.bad*g - S*h.many)=(R.b - R.a)*(S*h.many)+R.a*(h.bad*g):=by
      rw[Int.mul_sub,Int.sub_mul,show S*R.b*h.many=R.b*(S*h.many) by ac_rfl];omega
    have z1:0≤(R.b - R.a)*(S*h.many):=Int.mul_nonneg (by omega) (Int.mul_nonneg S0 (by omega))
    have z2:0≤R.a*(h.bad*g):=Int.mul_nonneg (by omega) (Int.mul_nonneg b0 (by omega))
    have z3:(R.b - R.a)*(S*h.many)≤(R.b - R.a)*(g*h.many):=Int.mul_le_mul_of_nonneg_left (Int.mul_le_mul_of_nonneg_right S1 (by omega)) (by omega)
    have z4:R.a*(h.bad*g)≤R.a*(h.many*g):=Int.mul_le_mul_of_nonneg_left (Int.mul_le_mul_of_nonneg_right bb (by omega)) (by omega)
    have e2:(R.b - R.a)*(g*h.many)+R.a*(h.many*g)=g*(R.b*h.many):=by
      rw[Int.sub_mul,show R.b*(g*h.many)=g*(R.b*h.many) by ac_rfl,show R.a*(h.many*g)=R.a*(g*h.many) by ac_rfl];omega
    rw[e]
    exact ⟨Int.ediv_nonneg (by omega) (by omega),Int.ediv_le_of_le_mul Y (by omega)⟩
  · exact ⟨S0,S1⟩
local macro_rules | `(tactic| walk_at "rd")=>`(tactic| try simp only[ah,TC,aj,TUn,ig,EC,qC,TB,rY,TOr,Ax,l6,zO,ar,af,bc,fT,lY,aq,ba,aA,AO,Ex,fG,aW,HZ,bR,aw,aN,oA,zX,j7,fV,dH,bE,fR,fo,dm,Qq,ILs,
  Ff,Eo,G7,Iw,FA,zP,oR,yW,Fg,zf,uW,B5,rj,vg,vf,ud,ug,lR,iA,uK,o9,pV,p8,pK,rh,qv,oT,rB,qZ,TSl,ONo,i3,Il,Hu,Ge,GF,ID,GA,zk,zc,Hj,Ic,GW,pF,pZ,pN,AQ,Aw,yS,Ak,Ap,Az,ze,AX,zY,Hc,FQ,EY,GR,FI,HL,pw,Ea,Ee,Ag,AG,yH,Am,AB,AN,y8,As,AY,yY,
  lk,ini,List.map,List.length,List.replicate,List.append,List.set,List.cons_append,List.nil_append,Nat.sub_self,Nat.reduceSub,Nat.reduceAdd,
  yg,vF,BO,Cg,Cf,Bh,List.getElem?_cons_zero,List.getElem?_cons_succ,aG,hX,Nat.reduceLT,Nat.reduceLeDiff,if_true,if_false,true_and,and_true,Bool.not_true,Bool.not_false,Nat.lt_add_one,Nat.zero_lt_succ,Nat.succ_lt_succ_iff,Nat.zero_lt_one,
  decide_eq_true_eq,Bool.false_eq_true,ite_false,ite_true,ne_eq,not_false_eq_true,Int.reduceToNat,Int.reducePow,Int.reduceNeg,Int.reduceSub,Int.reduceAdd,Int.reduceMul,Int.reduceEq,okD,cX,eqD,kn,Bool.and_self,Bool.and_true,Bool.true_and,fL,kE,decide_true,decide_false,Bool.or_true,Bool.or_false,Bool.true_or,Bool.false_or,Bool.and_false,Bool.false_and,and_self,cu,bU,cv,cq,cD,cB,cQ,cO,bT,cE,cw,cz,cF,cN,cy,cT,cC,cR,cA,cS,iP,mF,pI,mq,qB,ro,fZ,fS,fW,f9,gj,fY,gi])
def gE:FSp:=fun ds μ Q=>match ds with
  | [d1,d2]=>∃ a b c e,((Vl d1 a b∧Vl d2 c e)∧Bd a∧Bd b∧Bd c∧Bd e)∧∀ z,Vl z (a*e+c*b) (b*e)→Q z μ
  | _=>False
theorem Hz:∀ ds μ Q,gE ds μ Q→ds.length=2:=by
  unfold gE
  walk_at "ln"
def EZ:STr:=aW (aq fv (af (aj aP (aj eQ (aj L3.rIx (ah 0) (TC (.int 0))) (aj L3.rIx (ah 1) (TC (.int 1)))) (aj eQ (aj L3.rIx (ah 1) (TC (.int 0))) (aj L3.rIx (ah 0) (TC (.int 1))))) (af (aj eQ (aj L3.rIx (ah 0) (TC (.int 1))) (aj L3.rIx (ah 1) (TC (.int 1)))) (ar))))
theorem KY:∀ ds μ Q,gE ds μ Q→EZ { nx:=fun _ μ'=>RT Q .non μ',rt:=RT Q } (ini 2 ds) μ:=by
  intro ds μ Q h
  unfold gE at h
  split at h
  case h_2=>exact h.elim
  rename_i d1 d2
  unfold EZ
  walk_at "rd"
  obtain ⟨a,b,c,e,⟨⟨V1,V2⟩,Ba,Bb,Bc,Be⟩,k⟩:=h
  obtain ⟨⟨p,q,rfl,P⟩,b0⟩:=V1
  obtain ⟨⟨r,s,rfl,S⟩,e0⟩:=V2
  have q0:=P.q0
  have s0:=S.q0
  have be:0 < b*e:=Int.mul_pos b0 e0
  have qs:0 < q*s:=Int.mul_pos q0 s0
  have Bp:=P.bp Ba
  have Bq:=P.bq Bb
  have Br:=S.bp Bc
  have Bs:=S.bq Be
  walk_at "rd"
  refine ⟨Bp.mul Bs,Br.mul Bq,Bq.mul Bs,⟨by omega,Bq.mm Bs⟩,fun x y Pt=>⟨_,.refl _,k _ ⟨⟨x,y,rfl,Pt.of_eq qs be ?_⟩,be⟩⟩⟩
  calc (p*s+r*q)*(b*e)=(p*b)*(s*e)+(r*e)*(q*b):=by rw[Int.add_mul];congr 1<;>ac_rfl
    _=(a*q)*(s*e)+(c*s)*(q*b):=by rw[P.e,S.e]
    _=(a*e+c*b)*(q*s):=by rw[Int.add_mul];congr 1<;>ac_rfl
def fF:FSp:=fun ds μ Q=>match ds with
  | [d1,d2]=>∃ a b c e,((Vl d1 a b∧Vl d2 c e)∧Bd a∧Bd b∧Bd c∧Bd e)∧∀ z,Vl z (a*e - c*b) (b*e)→Q z μ
  | _=>False
theorem C5:∀ ds μ Q,fF ds μ Q→ds.length=2:=by
  unfold fF
  walk_at "ln"
def Bk:STr:=aW (aq fv (af (aj j8 (aj eQ (aj L3.rIx (ah 0) (TC (.int 0))) (aj L3.rIx (ah 1) (TC (.int 1)))) (aj eQ (aj L3.rIx (ah 1) (TC (.int 0))) (aj L3.rIx (ah 0) (TC (.int 1))))) (af (aj eQ (aj L3.rIx (ah 0) (TC (.int 1))) (aj L3.rIx (ah 1) (TC (.int 1)))) (ar))))
theorem FF:∀ ds μ Q,fF ds μ Q→Bk { nx:=fun _ μ'=>RT Q .non μ',rt:=RT Q } (ini 2 ds) μ:=by
  intro ds μ Q h
  unfold fF at h
  split at h
  case h_2=>exact h.elim
  rename_i d1 d2
  unfold Bk
  walk_at "rd"
  obtain ⟨a,b,c,e,⟨⟨V1,V2⟩,Ba,Bb,Bc,Be⟩,k⟩:=h
  obtain ⟨⟨p,q,rfl,P⟩,b0⟩:=V1
  obtain ⟨⟨r,s,rfl,S⟩,e0⟩:=V2
  have q0:=P.q0
  have s0:=S.q0
  have be:0 < b*e:=Int.mul_pos b0 e0
  have qs:0 < q*s:=Int.mul_pos q0 s0
  have Bp:=P.bp Ba
  have Bq:=P.bq Bb
  have Br:=S.bp Bc
  have Bs:=S.bq Be
  walk_at "rd"
  refine ⟨Bp.mul Bs,Br.mul Bq,Bq.mul Bs,⟨by omega,Bq.mm Bs⟩,fun x y Pt=>⟨_,.refl _,k _ ⟨⟨x,y,rfl,Pt.of_eq qs be ?_⟩,be⟩⟩⟩
  calc (p*s - r*q)*(b*e)=(p*b)*(s*e) - (r*e)*(q*b):=by rw[Int.sub_mul];congr 1<;>ac_rfl
    _=(a*q)*(s*e) - (c*s)*(q*b):=by rw[P.e,S.e]
    _=(a*e - c*b)*(q*s):=by rw[Int.sub_mul];congr 1<;>ac_rfl
def fJ:FSp:=fun ds μ Q=>match ds with
  | [d1,d2]=>∃ a b c e,((Vl d1 a b∧Vl d2 c e)∧Bd a∧Bd b∧Bd c∧Bd e)∧∀ z,Vl z (a*c) (b*e)→Q z μ
  | _=>False
theorem CH:∀ ds μ Q,fJ ds μ Q→ds.length=2:=by
  unfold fJ
  walk_at "ln"
def Cd:STr:=aW (aq fv (af (aj eQ (aj L3.rIx (ah 0) (TC (.int 0))) (aj L3.rIx (ah 1) (TC (.int 0)))) (af (aj eQ (aj L3.rIx (ah 0) (TC (.int 1))) (aj L3.rIx (ah 1) (TC (.int 1)))) (ar))))
theorem FG:∀ ds μ Q,fJ ds μ Q→Cd { nx:=fun _ μ'=>RT Q .non μ',rt:=RT Q } (ini 2 ds) μ:=by
  intro ds μ Q h
  unfold fJ at h
  split at h
  case h_2=>exact h.elim
  rename_i d1 d2
  unfold Cd
  walk_at "rd"
  obtain ⟨a,b,c,e,⟨⟨V1,V2⟩,Ba,Bb,Bc,Be⟩,k⟩:=h
  obtain ⟨⟨p,q,rfl,P⟩,b0⟩:=V1
  obtain ⟨⟨r,s,rfl,S⟩,e0⟩:=V2
  have q0:=P.q0
  have s0:=S.q0
  have be:0 < b*e:=Int.mul_pos b0 e0
  have qs:0 < q*s:=Int.mul_pos q0 s0
  have Bp:=P.bp Ba
  have Bq:=P.bq Bb
  have Br:=S.bp Bc
  have Bs:=S.bq Be
  walk_at "rd"
  refine ⟨Bp.mul Br,Bq.mul Bs,⟨by omega,Bq.mm Bs⟩,fun x y Pt=>⟨_,.refl _,k _ ⟨⟨x,y,rfl,Pt.of_eq qs be ?_⟩,be⟩⟩⟩
  calc (p*r)*(b*e)=(p*b)*(r*e):=by ac_rfl
    _=(a*q)*(c*s):=by rw[P.e,S.e]
    _=(a*c)*(q*s):=by ac_rfl
def iS:FSp:=fun ds μ Q=>match ds with
  | [d1,d2]=>∃ a b c e,((Vl d1 a b∧Vl d2 c e)∧Bd a∧Bd b∧Bd c∧Bd e)∧Q (.bl (decide (a*e < c*b))) μ
  | _=>False
theorem GS:∀ ds μ Q,iS ds μ Q→ds.length=2:=by
  unfold iS
  walk_at "ln"
def Fw:STr:=aW (aj rLt (aj eQ (aj L3.rIx (ah 0) (TC (.int 0))) (aj L3.rIx (ah 1) (TC (.int 1)))) (aj eQ (aj L3.rIx (ah 1) (TC (.int 0))) (aj L3.rIx (ah 0) (TC (.int 1)))))
theorem IJ:∀ ds μ Q,iS ds μ Q→Fw { nx:=fun _ μ'=>RT Q .non μ',rt:=RT Q } (ini 2 ds) μ:=by
  intro ds μ Q h
  unfold iS at h
  split at h
  case h_2=>exact h.elim
  rename_i d1 d2
  unfold Fw
  walk_at "rd"
  obtain ⟨a,b,c,e,⟨⟨V1,V2⟩,Ba,Bb,Bc,Be⟩,k⟩:=h
  obtain ⟨⟨p,q,rfl,P⟩,b0⟩:=V1
  obtain ⟨⟨r,s,rfl,S⟩,e0⟩:=V2
  walk_at "rd"
  refine ⟨(P.bp Ba).mul (S.bq Be),(S.bp Bc).mul (P.bq Bb),_,.refl _,?_⟩
  rw[show decide (p*s < r*q)=decide (a*e < c*b) from decide_eq_decide.mpr (Sa P.q0 S.q0 b0 e0 P.e S.e)]
  exact k
def eM:FSp:=fun ds μ Q=>match ds with
  | [d1]=>∃ a b,(Vl d1 a b∧Bd b)∧Q (.int (a / b)) μ
  | _=>False
theorem uw:∀ ds μ Q,eM ds μ Q→ds.length=1:=by
  unfold eM
  walk_at "ln"
def qY:STr:=aW (aj mL (aj L3.rIx (ah 0) (TC (.int 0))) (aj L3.rIx (ah 0) (TC (.int 1))))
theorem xt:∀ ds μ Q,eM ds μ Q→qY { nx:=fun _ μ'=>RT Q .non μ',rt:=RT Q } (ini 1 ds) μ:=by
  intro ds μ Q h
  unfold eM at h
  split at h
  case h_2=>exact h.elim
  rename_i d1
  unfold qY
  walk_at "rd"
  obtain ⟨a,b,⟨⟨⟨p,q,rfl,P⟩,b0⟩,Bb⟩,k⟩:=h
  have q0:=P.q0
  walk_at "rd"
  rw[jn q0,OM q0 b0 P.e]
  exact ⟨⟨by omega,(P.bq Bb).m⟩,_,.refl _,k⟩
def dq:FSp:=fun ds μ Q=>match ds with
  | [d1,.int g]=>∃ a b,(Vl d1 a b∧Bd a∧Bd b∧0 < g∧g≤1000000)∧∀ z,Vl z (a*g / b) g→Q z μ
  | _=>False
theorem zy:∀ ds μ Q,dq ds μ Q→ds.length=2:=by
  unfold dq
  walk_at "ln"
def wO:STr:=aW (aq fv (af (aj mL (aj eQ (aj L3.rIx (ah 0) (TC (.int 0))) (ah 1)) (aj L3.rIx (ah 0) (TC (.int 1)))) (af (ah 1) (ar))))
theorem DO:∀ ds μ Q,dq ds μ Q→wO { nx:=fun _ μ'=>RT Q .non μ',rt:=RT Q } (ini 2 ds) μ:=by
  intro ds μ Q h
  unfold dq at h
  split at h
  case h_2=>exact h.elim
  rename_i d1 g
  unfold wO
  walk_at "rd"
  obtain ⟨a,b,⟨⟨⟨p,q,rfl,P⟩,b0⟩,Ba,Bb,g0,g1⟩,k⟩:=h
  have q0:=P.q0
  walk_at "rd"
  rw[jn q0,Mq g q0 b0 P.e]
  exact ⟨.inl (.inr (by unfold S64;omega)),⟨by omega,(P.bq Bb).m⟩,⟨by omega,by unfold gx;omega⟩,fun x y Pt=>⟨_,.refl _,k _ (BY Pt g0)⟩⟩
theorem Fu {xs:List D}{d:D}(h:xs[xs.length - 1]? = some d)(h0:xs≠[]):atD xs ((xs.length:Int) - 1)=some d:=by
  have:0 < xs.length:=List.length_pos_iff.mpr h0
  have e:((xs.length:Int) - 1)=((xs.length - 1:Nat):Int):=by omega
  rw[e,cf,h]
theorem RN.tup (R:RN)(hst:R.wd=.still→R.r=R.p∧R.s=R.q):∃ xs,R.toD=.tup xs∧xs[0]? = some (.str R.wd.str)∧xs[1]? = some (fr R.p R.q)∧xs[xs.length - 1]? = some (fr R.r R.s)∧xs≠[]:=by
  obtain ⟨wd,p,q,x,y,a,b,l,h,r,s⟩:=R
  cases wd
  · obtain ⟨e1,e2⟩:=hst rfl
    dsimp only at e1 e2
    subst e1 e2
    exact ⟨_,rfl,rfl,rfl,rfl,nofun⟩
  all_goals exact ⟨_,rfl,rfl,rfl,rfl,nofun⟩
def fu:FSp:=fun ds μ Q=>match ds with
  | [d]=>∃ R:RN,(R.Ok∧d=R.toD)∧Q (fr R.r R.s) μ
  | _=>False
theorem Av:∀ ds μ Q,fu ds μ Q→ds.length=1:=by
  unfold fu
  walk_at "ln"
def yq:STr:=aW (aj L3.rIx (ah 0) (aj j8 (aq c7 (af (ah 0) (ar))) (TC (.int 1))))
theorem CV:∀ ds μ Q,fu ds μ Q→yq { nx:=fun _ μ'=>RT Q .non μ',rt:=RT Q } (ini 1 ds) μ:=by
  intro ds μ Q h
  unfold fu at h
  split at h
  case h_2=>exact h.elim
  rename_i d
  unfold yq
  walk_at "rd"
  obtain ⟨R,⟨K,rfl⟩,k⟩:=h
  obtain ⟨xs,e,_,_,e3,e4⟩:=R.tup K.st
  rw[e]
  walk_at "rd"
  rw[Fu e3 e4]
  exact ⟨_,.refl _,k⟩
def ft:FSp:=fun ds μ Q=>match ds with
  | [d,e]=>∃ (R:RN) (h:Hd),(d=R.toD∧e=h.toD)∧Q (.bl (decide (R.idle h))) μ
  | _=>False
theorem xx:∀ ds μ Q,ft ds μ Q→ds.length=2:=by
  unfold ft
  walk_at "ln"
def tI:STr:=aW (EC (aj rEq (aj L3.rIx (ah 0) (TC (.int 0))) (TC (.str "still"))) (aj rEq (aj aP (aj aP (aj L3.rIx (ah 1) (TC (.int 0))) (aj L3.rIx (ah 1) (TC (.int 1)))) (aj L3.rIx (ah 1) (TC (.int 2)))) (TC (.int 0))))
theorem Aq:∀ ds μ Q,ft ds μ Q→tI { nx:=fun _ μ'=>RT Q .non μ',rt:=RT Q } (ini 2 ds) μ:=by
  intro ds μ Q h
  unfold ft at h
  split at h
  case h_2=>exact h.elim
  rename_i d e
  unfold tI
  walk_at "rd"
  obtain ⟨R,h,⟨rfl,rfl⟩,k⟩:=h
  obtain ⟨wd,p,q,x,y,a,b,l,hh,r,s⟩:=R
  obtain ⟨good,mark,bC,wt⟩:=h
  unfold RN.idle at k
  cases wd
  all_goals
    simp only[RN.toD,Hd.toD,fr]
    walk_at "rd"
    refine ⟨_,.refl _,?_⟩
    simpa using k
def Gd (g:Int):Prop:=1≤g∧g≤60
theorem Fn {R:RN}{h:Hd}(H:h.Ok)(hn:¬ R.idle h):0 < h.many∧h.many≤3000000:=by
  have:=H.g0;have:=H.m0;have:=H.l0;have:=H.g1;have:=H.m1;have:=H.l1
  have:¬ (h.good+h.mark+h.bC=0):=fun z=>hn (.inr z)
  unfold Hd.many Hd.bad
  omega
theorem FrB.bd {lo hi p q:Int}(h:FrB lo hi p q)(l0:0≤lo)(h1:hi≤60):Le p 600000120∧Le q 10000002:=by
  have:=h.q0;have:=h.q1
  have e1:=h.ge;have e2:=h.le
  have a1:0≤lo*q:=Int.mul_nonneg l0 (by omega)
  have a2:hi*q≤60*q:=Int.mul_le_mul_of_nonneg_right h1 (by omega)
  exact ⟨.of (by omega) (by omega),.of (by omega) (by omega)⟩
theorem zQ {R:RN}{g S:Int}{h:Hd}(hw:R.wd=.heed)(g0:0 < g)(Y:0 < R.b*h.many):(S*(R.b*(h.many*g))+R.a*(h.bad*g - S*h.many)*g)*g / (g*(R.b*(h.many*g)))=R.shr g S h:=by
  unfold RN.shr
  rw[if_pos hw]
  have e1:(S*(R.b*(h.many*g))+R.a*(h.bad*g - S*h.many)*g)*g=(S*R.b*h.many+R.a*(h.bad*g - S*h.many))*(g*g):=by
    rw[Int.add_mul,Int.add_mul];congr 1<;>ac_rfl
  have e2:g*(R.b*(h.many*g))=(R.b*h.many)*(g*g):=by ac_rfl
  rw[e1,e2]
  exact Int.mul_ediv_mul_of_pos_left _ _ (Int.mul_pos g0 g0)
def b5:FSp:=fun ds μ Q=>match ds with
  | [d,.int g,sd,e]=>∃ (R:RN) (S:Int) (h:Hd),((d=R.toD∧e=h.toD)∧R.Ok∧h.Ok∧Gd g∧Vl sd S g∧(0≤S∧S≤g)∧¬ R.idle h)∧∀ z,Vl z (R.shr g S h) g→Q z μ
  | _=>False
theorem md:∀ ds μ Q,b5 ds μ Q→ds.length=4:=by
  unfold b5
  walk_at "ln"
def jt:STr:=aA (bR (TB (aj rNe (aj L3.rIx (ah 0) (TC (.int 0))) (TC (.str "heed")))) (aW (ah 2)) (ba)) (aA (aN (aj aP (aj L3.rIx (ah 3) (TC (.int 1))) (aj L3.rIx (ah 3) (TC (.int 2)))) (aw 4)) (aA (aN (aq fJ (af (aj L3.rIx (ah 0) (TC (.int 3))) (af (aq fF (af (aq fv (af (ah 4) (af (aj aP (aj L3.rIx (ah 3) (TC (.int 0))) (ah 4)) (ar)))) (af (ah 2) (ar)))) (ar)))) (aw 5)) (aW (aq dq (af (aq gE (af (ah 2) (af (ah 5) (ar)))) (af (ah 1) (ar)))))))
theorem nS:∀ ds μ Q,b5 ds μ Q→jt { nx:=fun _ μ'=>RT Q .non μ',rt:=RT Q } (ini 6 ds) μ:=by
  intro ds μ Q h
  unfold b5 at h
  split at h
  case h_2=>exact h.elim
  rename_i d g sd e
  unfold jt
  walk_at "rd"
  obtain ⟨R,S,h,⟨⟨rfl,rfl⟩,K,H,⟨g0,g1⟩,VS,⟨S0,S1⟩,hn⟩,k⟩:=h
  obtain ⟨m0,m1⟩:=Fn H hn
  have hb0:=H.m0;have hb1:=H.m1;have hc0:=H.l0;have hc1:=H.l1;have hg0:=H.g0;have hg1:=H.g1
  have GB:=K.g.toFrB.bd (by decide) (by decide)
  have gp:=K.g.q0
  obtain ⟨wd,p,q,x,y,a,b,l,hh,r,s⟩:=R
  cases wd
  case heed=>
    have sh:=fun Y=>zQ (R:=⟨.heed,p,q,x,y,a,b,l,hh,r,s⟩) (g:=g) (S:=S) (h:=h) rfl (by omega) Y
    have k':=k
    generalize RN.shr ⟨.heed,p,q,x,y,a,b,l,hh,r,s⟩ g S h=Z at sh k'
    dsimp only at sh GB gp
    obtain ⟨good,mark,bC,wt⟩:=h
    simp only[Hd.many,Hd.bad] at sh m0 m1
    dsimp only at m0 m1 hb0 hb1 hc0 hc1 hg0 hg1
    simp only[RN.toD,Hd.toD,fr]
    walk_at "rd"
    have L1:Le (mark+bC) 2000000:=.of (by omega) (by omega)
    have L2:Le (good+(mark+bC)) 3000000:=.of (by omega) (by omega)
    have LS:Le S 60:=.of S0 (by omega)
    have Lg:Le g 60:=.of (by omega) g1
    have e1:=L1.mul Lg
    have e2:=LS.mul L2
    have e3:=L2.mul Lg
    have e4:=e1.sub e2
    have e5:=GB.1.mul e4
    have e6:=GB.2.mul e3
    have mg:0 < (good+(mark+bC))*g:=Int.mul_pos m0 (by omega)
    refine ⟨⟨by omega,Bd.m (L2.mono (by decide))⟩,fun u v Pt=>⟨_,_,_,_,⟨⟨BY Pt m0,VS⟩,L1.mono (by decide),L2.mono (by decide),LS.mono (by decide),Lg.mono (by decide)⟩,fun z1 V1=>?_⟩⟩
    refine ⟨a,b,_,_,⟨⟨iQ K.g.toFrB,V1⟩,GB.1.mono (by decide),GB.2.mono (by decide),e4.mono (by decide),e3.mono (by decide)⟩,fun z2 V2=>?_⟩
    walk_at "rd"
    refine ⟨_,_,_,_,⟨⟨VS,V2⟩,LS.mono (by decide),Lg.mono (by decide),e5.mono (by decide),e6.mono (by decide)⟩,fun z3 V3=>?_⟩
    refine ⟨_,_,⟨V3,((LS.mul e6).add (e5.mul Lg)).mono (by decide),(Lg.mul e6).mono (by decide),by omega,by omega⟩,fun z V=>⟨_,.refl _,k' z ?_⟩⟩
    rw[sh (Int.mul_pos gp m0)] at V
    exact V
  all_goals
    simp only[RN.toD,Hd.toD,fr]
    walk_at "rd"
    refine ⟨_,.refl _,k _ ?_⟩
    exact VS
def dJ:FSp:=fun ds μ Q=>match ds with
  | [d,sd,e]=>∃ (R:RN) (g S:Int) (h:Hd),((d=R.toD∧e=h.toD)∧R.Ok∧h.Ok∧Gd g∧Vl sd S g∧(0≤S∧S≤g)∧¬ R.idle h)∧(R.fac g S h=none→Q .non μ)∧∀ f,R.fac g S h=some f→∀ z,Vl z f.1 f.2→Q z μ
  | _=>False
theorem rJ:∀ ds μ Q,dJ ds μ Q→ds.length=3:=by
  unfold dJ
  walk_at "ln"
def nN:STr:=aA (bR (TB (aj rEq (aj L3.rIx (ah 0) (TC (.int 0))) (TC (.str "calm")))) (aW (l6 (TB (aj rGt (aj L3.rIx (ah 2) (TC (.int 2))) (TC (.int 0)))) (TC (.tup [.int 1,.int 2])) (TC .non))) (ba)) (aA (bR (TB (aj rEq (aj aP (aj L3.rIx (ah 2) (TC (.int 1))) (aj L3.rIx (ah 2) (TC (.int 2)))) (TC (.int 0)))) (aW (l6 (TB (aj rEq (aj L3.rIx (ah 0) (TC (.int 0))) (TC (.str "swell")))) (aj L3.rIx (ah 0) (TC (.int 2))) (TC .non))) (ba)) (aA (bR (TB (aj rEq (aj L3.rIx (ah 0) (TC (.int 0))) (TC (.str "heed")))) (aW (aq fF (af (TC (.tup [.int 1,.int 1])) (af (aq fJ (af (TC (.tup [.int 1,.int 2])) (af (ah 1) (ar)))) (ar))))) (ba)) (aW (aj L3.rIx (ah 0) (TC (.int 3))))))
theorem vd:∀ ds μ Q,dJ ds μ Q→nN { nx:=fun _ μ'=>RT Q .non μ',rt:=RT Q } (ini 3 ds) μ:=by
  intro ds μ Q h
  unfold dJ at h
  split at h
  case h_2=>exact h.elim
  rename_i d sd e
  unfold nN
  walk_at "rd"
  obtain ⟨R,g,S,h,⟨⟨rfl,rfl⟩,K,H,⟨g0,g1⟩,VS,⟨S0,S1⟩,hn⟩,k1,k2⟩:=h
  have hb0:=H.m0;have hb1:=H.m1;have hc0:=H.l0;have hc1:=H.l1;have hg0:=H.g0;have hg1:=H.g1
  have VG:=iQ K.g.toFrB
  have VU:=iQ K.u.toFrB
  have LS:Le S 60:=.of S0 (by omega)
  have Lg:Le g 60:=.of (by omega) g1
  have V12:Vl (fr 1 2) 1 2:=iQ (lo:=0) (hi:=1) ⟨by decide,by decide,by decide,by decide,by decide⟩
  have V11:Vl (fr 1 1) 1 1:=iQ (Em (lo:=0) (hi:=1) (by decide) (by decide)).toFrB
  obtain ⟨wd,p,q,x,y,a,b,l,hh,r,s⟩:=R
  obtain ⟨good,mark,bC,wt⟩:=h
  dsimp only at hb0 hb1 hc0 hc1 hg0 hg1 VG VU
  simp only[RN.fac,Hd.bad] at k1 k2
  cases wd
  case still=>exact absurd (Or.inl rfl) hn
  case calm=>
    simp only[RN.toD,Hd.toD,fr]
    walk_at "rd"
    split
    · rename_i hl
      exact ⟨_,.refl _,k2 (1,2) (if_pos hl) _ V12⟩
    · rename_i hl
      exact ⟨_,.refl _,k1 (if_neg hl)⟩
  case heed=>
    simp only[RN.toD,Hd.toD,fr]
    walk_at "rd"
    split
    · rename_i hl
      exact ⟨_,.refl _,k1 (if_pos hl)⟩
    · rename_i hl
      refine ⟨1,2,S,g,⟨⟨V12,VS⟩,.of (by decide) (by decide),.of (by decide) (by decide),LS.mono (by decide),Lg.mono (by decide)⟩,fun z1 V1=>?_⟩
      refine ⟨1,1,_,_,⟨⟨V11,V1⟩,.of (by decide) (by decide),.of (by decide) (by decide),?_,?_⟩,fun z2 V2=>⟨_,.refl _,k2 (2*g - S,2*g) (if_neg hl) _ ?_⟩⟩
      · rw[Int.one_mul];exact LS.mono (by decide)
      · exact .of (by omega) (by omega)
      · simpa using V2
  case step=>
    simp only[RN.toD,Hd.toD,fr]
    walk_at "rd"
    split
    · rename_i hl
      exact ⟨_,.refl _,k1 (if_pos hl)⟩
    · rename_i hl
      exact ⟨_,.refl _,k2 (a,b) (if_neg hl) _ VG⟩
  case swell=>
    simp only[RN.toD,Hd.toD,fr]
    walk_at "rd"
    split
    · rename_i hl
      exact ⟨_,.refl _,k2 (x,y) (if_pos hl) _ VU⟩
    · rename_i hl
      exact ⟨_,.refl _,k2 (a,b) (if_neg hl) _ VG⟩
def ie:FSp:=fun ds μ Q=>match ds with
  | [d,wd,e]=>∃ (R:RN) (g W:Int) (h:Hd),((d=R.toD∧e=h.toD)∧R.Ok∧Gd g∧Vl wd W g∧Le W 1000000∧¬ R.idle h)∧∀ z,Vl z (R.mvd g W h) (g*R.y)→Q z μ
  | _=>False
theorem Ct:∀ ds μ Q,ie ds μ Q→ds.length=3:=by
  unfold ie
  walk_at "ln"
def BC:STr:=aA (bR (TOr (TB (aj rNe (aj L3.rIx (ah 0) (TC (.int 0))) (TC (.str "calm")))) (TB (aj rLt (aj L3.rIx (ah 2) (TC (.int 3))) (aj L3.rIx (ah 0) (TC (.int 3)))))) (aW (aq gE (af (ah 1) (af (aj L3.rIx (ah 0) (TC (.int 2))) (ar))))) (ba)) (aA (bR (TB (aj rGt (aj L3.rIx (ah 2) (TC (.int 3))) (aj L3.rIx (ah 0) (TC (.int 4))))) (aW (aq fF (af (ah 1) (af (aj L3.rIx (ah 0) (TC (.int 2))) (ar))))) (ba)) (aW (ah 1)))
theorem HK:∀ ds μ Q,ie ds μ Q→BC { nx:=fun _ μ'=>RT Q .non μ',rt:=RT Q } (ini 3 ds) μ:=by
  intro ds μ Q h
  unfold ie at h
  split at h
  case h_2=>exact h.elim
  rename_i d wd e
  unfold BC
  walk_at "rd"
  obtain ⟨R,g,W,h,⟨⟨rfl,rfl⟩,K,⟨g0,g1⟩,VW,LW,hn⟩,k⟩:=h
  have VU:=iQ K.u.toFrB
  have UB:=K.u.toFrB.bd (by decide) (by decide)
  have y0:=K.u.q0
  have Lg:Le g 60:=.of (by omega) g1
  obtain ⟨wd',p,q,x,y,a,b,l,hh,r,s⟩:=R
  obtain ⟨good,mark,bC,wt⟩:=h
  dsimp only at VU UB y0
  simp only[RN.mvd] at k
  have up:∀ Q':DK,(∀ z,Vl z (W*y+g*x) (g*y)→Q' z μ)→gE [wd,fr x y] μ Q':=fun Q' kk=>
    ⟨W,g,x,y,⟨⟨VW,VU⟩,LW.mono (by decide),Lg.mono (by decide),UB.1.mono (by decide),UB.2.mono (by decide)⟩,fun z V=>kk z (by rw[Int.mul_comm g x];exact V)⟩
  cases wd'
  case still=>exact absurd (Or.inl rfl) hn
  case calm=>
    simp only[if_true] at k
    simp only[RN.toD,Hd.toD,fr]
    walk_at "rd"
    split
    · rename_i hl
      rw[if_pos hl] at k
      exact up _ fun z V=>⟨_,.refl _,k z V⟩
    · rename_i hl
      rw[if_neg hl] at k
      split
      · rename_i hm
        rw[if_pos hm] at k
        exact ⟨W,g,x,y,⟨⟨VW,VU⟩,LW.mono (by decide),Lg.mono (by decide),UB.1.mono (by decide),UB.2.mono (by decide)⟩,fun z V=>⟨_,.refl _,k z (by rw[Int.mul_comm g x];exact V)⟩⟩
      · rename_i hm
        rw[if_neg hm] at k
        exact ⟨_,.refl _,k _ (VW.of_eq (Int.mul_pos (by omega) y0) (by ac_rfl))⟩
  all_goals
    simp only[reduceCtorEq,if_false] at k
    simp only[RN.toD,Hd.toD,fr]
    walk_at "rd"
    exact up _ fun z V=>⟨_,.refl _,k z V⟩
def iF:FSp:=fun ds μ Q=>match ds with
  | [d,.int g,wd]=>∃ (R:RN) (N M:Int),(d=R.toD∧R.Ok∧Gd g∧Vl wd N M∧Bd N∧Bd M)∧∀ z,Vl z (R.clip g (N*g / M)) g→Q z μ
  | _=>False
theorem IE:∀ ds μ Q,iF ds μ Q→ds.length=3:=by
  unfold iF
  walk_at "ln"
def Ij:STr:=aA (bR (TB (aq iS (af (ah 2) (af (TC (.tup [.int 1,.int 1])) (ar))))) (aW (TC (.tup [.int 1,.int 1]))) (ba)) (aA (bR (TB (aq iS (af (aq fu (af (ah 0) (ar))) (af (ah 2) (ar))))) (aW (aq dq (af (aq fu (af (ah 0) (ar))) (af (ah 1) (ar))))) (ba)) (aW (aq dq (af (ah 2) (af (ah 1) (ar))))))
theorem IX:∀ ds μ Q,iF ds μ Q→Ij { nx:=fun _ μ'=>RT Q .non μ',rt:=RT Q } (ini 3 ds) μ:=by
  intro ds μ Q h
  unfold iF at h
  split at h
  case h_2=>exact h.elim
  rename_i d g wd
  unfold Ij
  walk_at "rd"
  obtain ⟨R,N,M,⟨rfl,K,⟨g0,g1⟩,V,BN,BM⟩,k⟩:=h
  have M0:=V.b0
  have V11:Vl (fr 1 1) 1 1:=iQ (Em (lo:=0) (hi:=1) (by decide) (by decide)).toFrB
  have TB:=K.t.bd (by decide) (by decide)
  have VT:=iQ K.t
  have s0:=K.t.q0
  have cg:=E2 K (g:=g) (by omega)
  refine ⟨N,M,1,1,⟨⟨V,V11⟩,BN,BM,.of (by decide) (by decide),.of (by decide) (by decide)⟩,?_⟩
  walk_at "rd"
  rw[Int.mul_one,Int.one_mul]
  have key:∀ z,Vl z (R.clip g (N*g / M)) g→RT Q z μ:=fun z V=>⟨_,.refl _,k z V⟩
  unfold RN.clip at key
  split
  · rename_i hl
    have f:N*g / M < g:=by
      rw[Int.ediv_lt_iff_lt_mul M0,Int.mul_comm g M]
      exact Int.mul_lt_mul_of_pos_right hl (by omega)
    rw[show min (max (N*g / M) g) (R.cap g)=g by omega] at key
    exact key _ (V11.of_eq (by omega) (by omega))
  · rename_i hl
    refine ⟨R,⟨K,rfl⟩,R.r,R.s,N,M,⟨⟨VT,V⟩,TB.1.mono (by decide),TB.2.mono (by decide),BN,BM⟩,?_⟩
    walk_at "rd"
    have f1:g≤N*g / M:=by
      rw[Int.le_ediv_iff_mul_le M0,Int.mul_comm g M]
      exact Int.mul_le_mul_of_nonneg_right (by omega) (by omega)
    split
    · rename_i ht
      have f2:R.cap g≤N*g / M:=by
        unfold RN.cap
        rw[Int.le_ediv_iff_mul_le M0]
        have d:=Int.ediv_mul_le (R.r*g) (show R.s≠0 by omega)
        have e1:R.r*g / R.s*M*R.s≤N*g*R.s:=by
          calc R.r*g / R.s*M*R.s=(R.r*g / R.s*R.s)*M:=by ac_rfl
            _≤(R.r*g)*M:=Int.mul_le_mul_of_nonneg_right d (by omega)
            _=(R.r*M)*g:=by ac_rfl
            _≤(N*R.s)*g:=Int.mul_le_mul_of_nonneg_right (by omega) (by omega)
            _=N*g*R.s:=by ac_rfl
        exact Int.le_of_mul_le_mul_right e1 s0
      rw[show min (max (N*g / M) g) (R.cap g)=R.cap g by omega] at key
      exact ⟨R,⟨K,rfl⟩,R.r,R.s,⟨VT,TB.1.mono (by decide),TB.2.mono (by decide),by omega,by omega⟩,fun z V=>key z V⟩
    · rename_i ht
      have f2:N*g / M≤R.cap g:=by
        unfold RN.cap
        rw[Int.le_ediv_iff_mul_le s0]
        have d:=Int.ediv_mul_le (N*g) (show M≠0 by omega)
        have e1:N*g / M*R.s*M≤R.r*g*M:=by
          calc N*g / M*R.s*M=(N*g / M*M)*R.s:=by ac_rfl
            _≤(N*g)*R.s:=Int.mul_le_mul_of_nonneg_right d (by omega)
            _=(N*R.s)*g:=by ac_rfl
            _≤(R.r*M)*g:=Int.mul_le_mul_of_nonneg_right (by omega) (by omega)
            _=R.r*g*M:=by ac_rfl
        exact Int.le_of_mul_le_mul_right e1 M0
      rw[show min (max (N*g / M) g) (R.cap g)=N*g / M by omega] at key
      exact ⟨N,M,⟨V,BN,BM,by omega,by omega⟩,fun z V=>key z V⟩
theorem RN.Oc {R:RN}(K:R.Ok){g S:Int}{h:Hd}(G:Gd g)(S0:0≤S)(S1:S≤g){f:Int×Int}(e:R.fac g S h=some f):0 < f.1∧0 < f.2∧Le f.1 600000120∧Le f.2 10000002:=by
  obtain ⟨g0,g1⟩:=G
  have UB:=K.u.toFrB.bd (by decide) (by decide)
  have GB:=K.g.toFrB.bd (by decide) (by decide)
  have h1:=K.u.q0;have h2:=K.u.ab;have h3:=K.g.q0;have h4:=K.g.ab
  unfold RN.fac at e
  split at e
  · cases e
  · split at e
    · cases e;exact ⟨by decide,by decide,.of (by decide) (by decide),.of (by decide) (by decide)⟩
    · cases e
  · split at e
    · cases e
    · cases e;exact ⟨by show 0 < 2*g - S;omega,by show 0 < 2*g;omega,.of (by show 0≤2*g - S;omega) (by show 2*g - S≤_;omega),.of (by show 0≤2*g;omega) (by show 2*g≤_;omega)⟩
  · split at e
    · cases e;exact ⟨by show 0 < R.x;omega,h1,UB.1,UB.2⟩
    · cases e;exact ⟨by show 0 < R.a;omega,h3,GB.1,GB.2⟩
  · split at e
    · cases e
    · cases e;exact ⟨by show 0 < R.a;omega,h3,GB.1,GB.2⟩
theorem RN.Nd {R:RN}(K:R.Ok){g W:Int}{h:Hd}(G:Gd g)(L:Le W 1000000):Bd (R.mvd g W h):=by
  obtain ⟨g0,g1⟩:=G
  have UB:=K.u.toFrB.bd (by decide) (by decide)
  have Lg:Le g 60:=.of (by omega) g1
  have e1:=L.mul UB.2
  have e2:=Lg.mul UB.1
  unfold RN.mvd
  split
  · split
    · exact (e1.add e2).mono (by decide)
    · split
      · exact (e1.sub e2).mono (by decide)
      · exact e1.mono (by decide)
  · exact (e1.add e2).mono (by decide)
def eG:FSp:=fun ds μ Q=>match ds with
  | [d,.int g,wd,sd,e]=>∃ (R:RN) (W S:Int) (h:Hd),((d=R.toD∧e=h.toD)∧R.Ok∧h.Ok∧Gd g∧(Vl wd W g∧Le W 1000000)∧Vl sd S g∧(0≤S∧S≤g))∧∀ w z,Vl w (R.beh g W S h).1 g→Vl z (R.beh g W S h).2 g→Q (.tup [w,z]) μ
  | _=>False
theorem va:∀ ds μ Q,eG ds μ Q→ds.length=5:=by
  unfold eG
  walk_at "ln"
def qw:STr:=aA (bR (TB (aq ft (af (ah 0) (af (ah 4) (ar))))) (aW (bc (af (ah 2) (af (ah 3) (ar))))) (ba)) (aA (aN (aq b5 (af (ah 0) (af (ah 1) (af (ah 3) (af (ah 4) (ar)))))) (aw 5)) (aA (aN (aq dJ (af (ah 0) (af (ah 5) (af (ah 4) (ar))))) (aw 6)) (aA (bR (TB (aj rIs (ah 6) (TC .non))) (aW (bc (af (aq iF (af (ah 0) (af (ah 1) (af (aq ie (af (ah 0) (af (ah 2) (af (ah 4) (ar))))) (ar))))) (af (ah 5) (ar))))) (ba)) (aW (bc (af (aq iF (af (ah 0) (af (ah 1) (af (aq fJ (af (ah 2) (af (ah 6) (ar)))) (ar))))) (af (ah 5) (ar))))))))
theorem vh:∀ ds μ Q,eG ds μ Q→qw { nx:=fun _ μ'=>RT Q .non μ',rt:=RT Q } (ini 7 ds) μ:=by
  intro ds μ Q h
  unfold eG at h
  split at h
  case h_2=>exact h.elim
  rename_i d g wd sd e
  unfold qw
  walk_at "rd"
  obtain ⟨R,W,S,h,⟨⟨rfl,rfl⟩,K,H,G,⟨VW,LW⟩,VS,S0,S1⟩,k⟩:=h
  have g0:=G.1
  have g1:=G.2
  have Lg:Le g 60:=.of (by omega) g1
  refine ⟨R,h,⟨rfl,rfl⟩,?_⟩
  walk_at "rd"
  unfold RN.beh at k
  split
  · rename_i hi
    rw[if_pos hi] at k
    exact ⟨_,.refl _,k _ _ VW VS⟩
  · rename_i hi
    rw[if_neg hi] at k
    refine ⟨R,S,h,⟨⟨rfl,rfl⟩,K,H,G,VS,⟨S0,S1⟩,hi⟩,fun z VZ=>?_⟩
    walk_at "rd"
    have sin:=EO K H hi (by omega) S0 S1
    unfold RN.mv at k
    refine ⟨R,g,_,h,⟨⟨rfl,rfl⟩,K,H,G,VZ,sin,hi⟩,fun hf=>?_,fun f hf v VF=>?_⟩
    · rw[hf] at k
      walk_at "rd"
      have y0:=K.u.q0
      refine ⟨R,g,W,h,⟨⟨rfl,rfl⟩,K,G,VW,LW,hi⟩,fun w Vw=>?_⟩
      refine ⟨R,_,_,⟨rfl,K,G,Vw,RN.Nd K G LW,?_⟩,fun w2 Vw2=>?_⟩
      · exact (Lg.mul (K.u.toFrB.bd (by decide) (by decide)).2).mono (by decide)
      · walk_at "rd"
        refine ⟨_,.refl _,k _ _ ?_ VZ⟩
        rw[show R.mvd g W h*g / (g*R.y)=R.mvd g W h / R.y by rw[Int.mul_comm g R.y];exact Int.mul_ediv_mul_of_pos_left _ _ (by omega)] at Vw2
        exact Vw2
    · rw[hf] at k
      obtain ⟨f1,f2,F1,F2⟩:=RN.Oc K G sin.1 sin.2 hf
      obtain ⟨⟨p,q,rfl,P⟩,b0⟩:=id VF
      walk_at "rd"
      refine ⟨W,g,f.1,f.2,⟨⟨VW,VF⟩,LW.mono (by decide),Lg.mono (by decide),F1.mono (by decide),F2.mono (by decide)⟩,fun w Vw=>?_⟩
      refine ⟨R,_,_,⟨rfl,K,G,Vw,(LW.mul F1).mono (by decide),(Lg.mul F2).mono (by decide)⟩,fun w2 Vw2=>?_⟩
      walk_at "rd"
      refine ⟨_,.refl _,k _ _ ?_ VZ⟩
      rw[show W*f.1*g / (g*f.2)=W*f.1 / f.2 by rw[Int.mul_comm g f.2];exact Int.mul_ediv_mul_of_pos_left _ _ (by omega)] at Vw2
      exact Vw2
def QH:=Jn @MS <| Jn @LH <| Jn @Nk <| Jn @IP <| Jn @Oy <| Jn @Lo <| Jn @N7 <| Jn @JR <| Jn @Pe <| Jn @K8 <| Jn @MT <| Jn @Ko <| Jn @NK <| Jn @Jx <| Jn @Np <| Jn @IU <| Jn @Po <| Jn @JB <| Jn @M9 <| Jn @JG <| Jn @JE <| Jn @Ef <| Jn @IL <| Jn @Ir <| Jn @J7 <| Jn @FY <| Jn @F3 <| Jn @Kf <| Jn @Fz <| Jn @K9 <| Jn @HM <| Jn @Sh <| Jn @OP <| Jn @Rc <| Jn @Ku <| Jn @IZ <| Jn @Tu <| Jn @PJ <| Jn @Ri <| Jn @OH <| Jn @O3 <| Jn @PV <| Jn @Jm <| Jn @N3 <| Jn @Na <| Jn @M3 <| Jn @Ke <| Jn @LJ <| Jn @OO <| Jn @Lq <| Jn @PQ <| Jn @Nr <| Jn @Pu <| Jn @Og <| Jn @Oo <| Jn @De <| Jn @Nb <| Jn @PF <| Jn @RB <| Jn @Q4 <| Jn @ML <| Jn @N0 <| Jn @QX <| Jn @Qd <| Jn @RF <| Jn @QD <| Jn @Rr <| Jn @QG <| Jn @QA <| Jn @QE <| Jn @PC <| Jn @OA <| Jn @NN <| Jn @Ni <| Jn @OW <| Jn @LF <| Jn @KW <| Jn @L4 <| Jn @FD <| Jn @CI <| Jn @Gw <| Jn @IT <| Jn @Hs <| Jn @CW <| Jn @B5 <| Jn @Dz <| Jn @CG <| Jn @Dj <| Jn @Fj <| Jn @Ew <| Jn @EB <| Jn @Hw <| Jn @He <| Jn @Jg <| Jn @Lc <| Jn @KJ <| Jn @Eb <| Jn @F5 <| Jn @Gb <| Jn @E8 <| Jn @Fq <| Jn @Jf <| Jn @Jj <| Jn @J5 <| Jn @Kz <| Jn @OR <| Jn @O2 <| Jn @OX <| Jn @MU <| Jn @OV <| Jn @MX <| Jn @Nt <| Jn @D8 <| Jn @HG <| Jn @FV <| Jn @GK <| Jn @Fb <| Jn @Nq <| @OB
def CO:=Jn @mF <| Jn @pI <| Jn @mq <| Jn @qB <| @ro
local macro_rules | `(tactic| walk_at "go")=>`(tactic| try simp only[↓QH,CO,↓jW,↓iA,cu,bU,cv,cq,cD,cB,cQ,cO,bT,cE,cw,cz,cF,cN,cy,cT,cC,cR,cA,cS,iP,DP,Ao,DW,DC,gq,sR,nD,tH,sS,mh,l8,jX,jS,j5,jY,true_and,and_true,and_self,Bool.not_true,Bool.not_false,decide_true,decide_false,Bool.or_true,Bool.or_false,Bool.true_or,Bool.false_or,Bool.and_false,Bool.false_and,Bool.and_true,Bool.true_and,Int.reduceToNat,Int.reducePow,Int.reduceNeg,Int.reduceSub,Int.reduceAdd,Int.reduceMul,Int.reduceEq,Int.reduceLT,Int.reduceLE,Int.reduceBEq,hX,fZ,fS,fW,f9,gj,fY,gi,if_true,if_false,Bool.false_eq_true,reduceCtorEq,decide_eq_true_eq])
local macro_rules | `(tactic| walk_at "ini")=>`(tactic| simp only[ini,List.map,List.length,List.replicate,Nat.reduceSub,Nat.reduceAdd,Nat.sub_self,List.cons_append,List.nil_append,List.append_nil])
theorem fm {xs:List D}{P:D→Prop}(h:∀ d∈xs,P d){k:Int}(k0:0≤k)(k1:k < xs.length):∃ d,atD xs k=some d∧P d:=by
  obtain ⟨j,rfl⟩:=Int.eq_ofNat_of_zero_le k0
  rw[cf]
  have hj:j < xs.length:=by omega
  exact ⟨xs[j],by simp[hj],h _ (List.getElem_mem hj)⟩
def IsL (hi:Int)(d:D):Prop:=∃ p q,d=fr p q∧FrL hi p q
def IsI (lo hi:Int)(d:D):Prop:=∃ i:Int,d=.int i∧lo≤i∧i≤hi
theorem eU {P:D→Prop}:∀ d∈([]:List D),P d:=fun _ h=>nomatch h
theorem aD {P:D→Prop}{a:D}{xs:List D}(h:P a)(k:∀ d∈xs,P d):∀ d∈a::xs,P d:=fun d hd=>by
  rcases List.mem_cons.mp hd with e | e
  · rw[e];exact h
  · exact k d e
local macro_rules | `(tactic| walk_at "all")=>`(tactic| repeat' (first | exact eU | refine aD ?_ ?_))
structure nV (b p:Addr) (xs:List D) (μ μ':Mu):Prop where
  box:Box μ' b
  ne:p≠b
  new:μ p=none
  at':μ' p=some (.lst xs)
  oth:∀ a,a≠b→a≠p→μ' a=μ a
theorem nV.mk' {b p:Addr}{xs:List D}{μ:Mu}(hB:Box μ b)(hp:μ p=none):nV b p xs μ (up μ p (.lst xs)):=by
  have ne:p≠b:=fun z=>by subst z;obtain ⟨_,_,_,e,_⟩:=hB;rw[hp] at e;cases e
  obtain ⟨g,s,c,e,h⟩:=hB
  exact ⟨⟨g,s,c,by rw[aU ne.symm];exact e,h⟩,ne,hp,aG,fun a _ h=>aU h⟩
theorem nV.go {b p:Addr}{xs:List D}{μ μ1 μ2:Mu}(h:nV b p xs μ μ1)(B:qK b μ1 μ2):nV b p xs μ μ2:=
  ⟨B.box,h.ne,h.new,by rw[B.oth p h.ne];exact h.at',fun a h1 h2=>by rw[B.oth a h1];exact h.oth a h1 h2⟩
theorem nV.set {b p:Addr}{xs ys:List D}{μ μ1:Mu}(h:nV b p xs μ μ1):nV b p ys μ (up μ1 p (.lst ys)):=by
  obtain ⟨g,s,c,e,hh⟩:=h.box
  exact ⟨⟨g,s,c,by rw[aU h.ne.symm];exact e,hh⟩,h.ne,h.new,aG,fun a h1 h2=>by rw[aU h2];exact h.oth a h1 h2⟩
theorem NV (μ:Mu)(p:Addr):Sub (dn μ p) μ:=fun a o e=>by
  unfold dn at e
  split at e
  · cases e
  · exact e
theorem nV.fin {b p:Addr}{xs:List D}{μ μ1:Mu}(h:nV b p xs μ μ1):qK b μ (dn μ1 p):=by
  obtain ⟨g,s,c,e,hh⟩:=h.box
  refine ⟨⟨g,s,c,?_,hh⟩,fun a ha=>?_⟩
  · unfold dn;rw[if_neg h.ne.symm];exact e
  · unfold dn
    split
    · rename_i z;subst z;exact h.new.symm
    · rename_i z;exact h.oth a ha z
theorem nV.rt {b p:Addr}{xs:List D}{μ μ1:Mu}{Q:DK}{d:D}(h:nV b p xs μ μ1)(k:∀ μ',qK b μ μ'→Q d μ'):RT Q d μ1:=⟨_,NV μ1 p,k _ h.fin⟩
def RN.ap1 (R:RN)(g S far:Int)(h:Hd):Int×Int:=if R.idle h then (S,far) else
  (R.shr g S h,min (match R.fac g (R.shr g S h) h with
    | some f=>-((-(far*f.1)) / f.2)
    | none=>far) (R.cap g - g))
def RN.ap (R:RN)(g:Int):List Hd→Int→Int→Int
  | [],_,far=>far
  | h::r,S,far=>RN.ap R g r (R.ap1 g S far h).1 (R.ap1 g S far h).2
theorem jU {p:Addr}{G:GTr}{tt:TTr}{te:ETr}{ρc:ST}{K:Mu→Prop}(P:List D→Mu→Prop)(hnil:∀ μ,P [] μ→K μ)
    (hcons:∀ d r μ (N:Mu→Prop),P (d::r) μ→(∀ μ',P r μ'→N μ')→G d ρc μ fun ρ1 μ1=>tt ρ1 μ1 fun b μ2=>kIf b (te ρ1 μ2 fun y μ3=>kL μ3 p fun zs=>zs.length < 1000000∧N (up μ3 p (.lst (zs++[y])))) (N μ2)) :
    ∀ (ds:List D) (μ:Mu),P ds μ→fR p G tt te ρc K ds μ
  | [],μ,h=>hnil μ h
  | d::r,μ,h=>hcons d r μ _ h fun μ' q=>jU P hnil hcons r μ' q
theorem wF (d0:D)(r:List D)(f:D→Prop):kO (atD (d0::r) 0) f=f d0:=by rw[yg];rfl
theorem xu (d0 d1:D)(r:List D)(f:D→Prop):kO (atD (d0::d1::r) 1) f=f d1:=by rw[vF];rfl
theorem wj (d0 d1 d2:D)(r:List D)(f:D→Prop):kO (atD (d0::d1::d2::r) 2) f=f d2:=by rw[BO];rfl
theorem vm (d0 d1 d2 d3:D)(r:List D)(f:D→Prop):kO (atD (d0::d1::d2::d3::r) 3) f=f d3:=by rw[Cg];rfl
theorem xq (d0 d1 d2 d3 d4:D)(r:List D)(f:D→Prop):kO (atD (d0::d1::d2::d3::d4::r) 4) f=f d4:=by rw[Cf];rfl
theorem xY (d0 d1 d2 d3 d4 d5:D)(r:List D)(f:D→Prop):kO (atD (d0::d1::d2::d3::d4::d5::r) 5) f=f d5:=by rw[Bh];rfl
def rK (G:GTr)(tt:TTr)(te:ETr)(ρc:ST)(ds:List D)(μ:Mu)(Q:DK):Prop:=∀ p,μ p=none→fR p G tt te ρc (fun μ'=>kL μ' p fun zs=>Q (.ls zs) (dn μ' p)) ds (up μ p (.lst []))
theorem IH (it:ATr)(G:GTr)(tt:TTr)(te:ETr)(n:Nat)(caps:List Nat)(ρ:ST)(μ:Mu)(Q:DK):bE it G tt te n caps ρ μ Q=it ρ μ fun ds μ1=>rK G tt te (fo ρ n caps) ds μ1 Q:=propext Iff.rfl
theorem Nf (ρ:ST)(μ:Mu)(Q:Bool→Mu→Prop):dm ρ μ Q=Q true μ:=propext Iff.rfl
section
variable {G:GTr} {tt:TTr} {te:ETr} {ρc:ST} {ds:List D} {μ:Mu} {Q:DK}
theorem ue (f:D→Option D)(hl:ds.length≤999999)
    (step:∀ d∈ds,∀ μ',Sub μ μ'→∀ (N:Option D→Mu→Prop),N (f d) μ'→G d ρc μ' fun ρ1 μ1=>tt ρ1 μ1 fun b μ2=>kIf b (te ρ1 μ2 fun y μ3=>N (some y) μ3) (N none μ2))
    (k:Q (.ls (ds.filterMap f)) μ):rK G tt te ρc ds μ Q:=by
  intro p hp
  refine jU (fun r μ'=>∃ done,ds=done++r∧μ'=up μ p (.lst (done.filterMap f))) ?_ ?_ _ _ ⟨[],rfl,rfl⟩
  · rintro μ' ⟨done,e,rfl⟩
    rw[List.append_nil] at e
    subst e
    refine bo aG ?_
    rw[pJ hp];exact k
  · rintro d r μ' N ⟨done,e,rfl⟩ hN
    have hd:d∈ds:=by rw[e];simp
    have e':ds=(done++[d])++r:=by rw[e];simp
    have lf:(done.filterMap f).length < 1000000:=by
      have h1:=List.length_filterMap_le f done
      have h2:ds.length=done.length+(d::r).length:=by rw[e,List.length_append]
      rw[List.length_cons] at h2;omega
    refine step d hd _ (Sub.new hp) (fun oy μ3=>match oy with
      | some y=>kL μ3 p fun zs=>zs.length < 1000000∧N (up μ3 p (.lst (zs++[y])))
      | none=>N μ3) ?_
    cases hf:f d with
    | none=>
      refine hN _ ⟨done++[d],e',?_⟩
      rw[List.filterMap_append];simp[hf]
    | some y=>
      refine bo aG ⟨lf,hN _ ⟨done++[d],e',?_⟩⟩
      rw[List.filterMap_append,hX];simp[hf]
theorem comp_map (f:D→D)(hl:ds.length≤999999)
    (step:∀ d∈ds,∀ μ',Sub μ μ'→∀ (N:DK),N (f d) μ'→G d ρc μ' fun ρ1 μ1=>te ρ1 μ1 N)
    (k:Q (.ls (ds.map f)) μ):rK G dm te ρc ds μ Q:=by
  refine ue (fun d=>some (f d)) hl (fun d hd μ' s N n=>?_) (by rw[show (fun d=>some (f d))=some ∘ f from rfl,List.filterMap_eq_map];exact k)
  exact step d hd μ' s (fun y μ3=>N (some y) μ3) n
theorem Ii (I:List D→List D→Prop)(h0:I ds [])(hl:ds.length≤999999)
    (step:∀ d r zs μ',Sub μ μ'→I (d::r) zs→∀ (N:Option D→Mu→Prop),(∀ oy,I r (zs++oy.toList)→N oy μ')→G d ρc μ' fun ρ1 μ1=>tt ρ1 μ1 fun b μ2=>kIf b (te ρ1 μ2 fun y μ3=>N (some y) μ3) (N none μ2))
    (k:∀ zs,I [] zs→Q (.ls zs) μ):rK G tt te ρc ds μ Q:=by
  intro p hp
  refine jU (fun r μ'=>∃ zs,I r zs∧zs.length+r.length≤ds.length∧μ'=up μ p (.lst zs)) ?_ ?_ _ _ ⟨[],h0,by simp,rfl⟩
  · rintro μ' ⟨zs,hI,_,rfl⟩
    refine bo aG ?_
    rw[pJ hp];exact k zs hI
  · rintro d r μ' N ⟨zs,hI,hz,rfl⟩ hN
    rw[List.length_cons] at hz
    refine step d r zs _ (Sub.new hp) hI (fun oy μ3=>match oy with
      | some y=>kL μ3 p fun zs=>zs.length < 1000000∧N (up μ3 p (.lst (zs++[y])))
      | none=>N μ3) ?_
    intro oy hoy
    cases oy with
    | none=>exact hN _ ⟨zs,by simpa using hoy,by omega,rfl⟩
    | some y=>
      refine bo aG ⟨by omega,hN _ ⟨zs++[y],hoy,by rw[List.length_append];simp;omega,?_⟩⟩
      rw[hX]
theorem lC {α:Type}(xs:List α)(t:α→D)(h:α→Option D)(hds:ds=xs.map t)(hl:xs.length≤999999)
    (step:∀ x∈xs,∀ μ',Sub μ μ'→∀ (N:Option D→Mu→Prop),N (h x) μ'→G (t x) ρc μ' fun ρ1 μ1=>tt ρ1 μ1 fun b μ2=>kIf b (te ρ1 μ2 fun y μ3=>N (some y) μ3) (N none μ2))
    (k:Q (.ls (xs.filterMap h)) μ):rK G tt te ρc ds μ Q:=by
  subst hds
  refine Ii (fun r zs=>∃ a c,xs=a++c∧r=c.map t∧zs=a.filterMap h) ⟨[],xs,rfl,rfl,rfl⟩ (by simpa using hl) ?_ ?_
  · rintro d r zs μ' sb ⟨a,c,e,er,rfl⟩ N hN
    cases c with
    | nil=>cases er
    | cons x c=>
    cases er
    refine step x (by rw[e];simp) μ' sb N (hN _ ⟨a++[x],c,by rw[e];simp,rfl,?_⟩)
    rw[List.filterMap_append]
    cases hx:h x<;>simp[hx]
  · rintro zs ⟨a,c,e,er,rfl⟩
    have:c=[]:=by cases c with | nil=>rfl | cons=>cases er
    subst this
    rw[List.append_nil] at e
    subst e;exact k
theorem bw {α:Type}(xs:List α)(t:α→D)(h:α→D)(hds:ds=xs.map t)(hl:xs.length≤999999)
    (step:∀ x∈xs,∀ μ',Sub μ μ'→∀ (N:DK),N (h x) μ'→G (t x) ρc μ' fun ρ1 μ1=>te ρ1 μ1 N)
    (k:Q (.ls (xs.map h)) μ):rK G dm te ρc ds μ Q:=by
  refine lC xs t (fun x=>some (h x)) hds hl (fun x hx μ' s N n=>?_) (by rw[show (fun x=>some (h x))=some ∘ h from rfl,List.filterMap_eq_map];exact k)
  exact step x hx μ' s (fun y μ3=>N (some y) μ3) n
def BX (a:Addr)(full:List D)(G:GTr)(tt:TTr)(te:ETr)(ρc:ST)(ds:List D)(μ:Mu)(Q:DK):Prop:=∀ p,μ p=none→kA (fun μ=>μ a=some (.lst full)) p G tt te ρc (fun μ'=>kL μ' p fun zs=>Q (.ls zs) (dn μ' p)) ds (up μ p (.lst []))
theorem GP (To:ETr)(G:GTr)(tt:TTr)(te:ETr)(n:Nat)(caps:List Nat)(ρ:ST)(μ:Mu)(Q:DK):jx To G tt te n caps ρ μ Q=To ρ μ fun x μ1=>kObj x fun a=>kL μ1 a fun ds=>BX a ds G tt te (fo ρ n caps) ds μ1 Q:=propext Iff.rfl
theorem ko {C:Mu→Prop}{p:Addr}{ρc:ST}{K:Mu→Prop}(P:List D→Mu→Prop)(hC:∀ r μ,P r μ→C μ)(hnil:∀ μ,P [] μ→K μ)
    (hcons:∀ d r μ (N:Mu→Prop),P (d::r) μ→(∀ μ',P r μ'→N μ')→G d ρc μ fun ρ1 μ1=>tt ρ1 μ1 fun b μ2=>kIf b (te ρ1 μ2 fun y μ3=>kL μ3 p fun zs=>zs.length < 1000000∧N (up μ3 p (.lst (zs++[y])))) (N μ2)) :
    ∀ (ds:List D) (μ:Mu),P ds μ→kA C p G tt te ρc K ds μ
  | [],μ,h=>⟨hC _ _ h,hnil μ h⟩
  | d::r,μ,h=>⟨hC _ _ h,hcons d r μ _ h fun μ' q=>ko P hC hnil hcons r μ' q⟩
theorem Hn {a:Addr}{full:List D}(hm:μ a=some (.lst full))(f:D→Option D)(hl:ds.length≤999999)
    (step:∀ d∈ds,∀ μ',Sub μ μ'→∀ (N:Option D→Mu→Prop),N (f d) μ'→G d ρc μ' fun ρ1 μ1=>tt ρ1 μ1 fun b μ2=>kIf b (te ρ1 μ2 fun y μ3=>N (some y) μ3) (N none μ2))
    (k:Q (.ls (ds.filterMap f)) μ):BX a full G tt te ρc ds μ Q:=by
  intro p hp
  refine ko (fun r μ'=>∃ done,ds=done++r∧μ'=up μ p (.lst (done.filterMap f))) ?_ ?_ ?_ _ _ ⟨[],rfl,rfl⟩
  · rintro r μ' ⟨done,_,rfl⟩
    exact Sub.new hp _ _ hm
  · rintro μ' ⟨done,e,rfl⟩
    rw[List.append_nil] at e
    subst e
    refine bo aG ?_
    rw[pJ hp];exact k
  · rintro d r μ' N ⟨done,e,rfl⟩ hN
    have hd:d∈ds:=by rw[e];simp
    have e':ds=(done++[d])++r:=by rw[e];simp
    have lf:(done.filterMap f).length < 1000000:=by
      have h1:=List.length_filterMap_le f done
      have h2:ds.length=done.length+(d::r).length:=by rw[e,List.length_append]
      rw[List.length_cons] at h2;omega
    refine step d hd _ (Sub.new hp) (fun oy μ3=>match oy with
      | some y=>kL μ3 p fun zs=>zs.length < 1000000∧N (up μ3 p (.lst (zs++[y])))
      | none=>N μ3) ?_
    cases hf:f d with
    | none=>
      refine hN _ ⟨done++[d],e',?_⟩
      rw[List.filterMap_append];simp[hf]
    | some y=>
      refine bo aG ⟨lf,hN _ ⟨done++[d],e',?_⟩⟩
      rw[List.filterMap_append,hX];simp[hf]
theorem ml {α:Type}{a:Addr}(xs:List α)(t:α→D)(h:α→Option D)(hds:ds=xs.map t)(hm:μ a=some (.lst (xs.map t)))(hl:xs.length≤999999)
    (step:∀ x∈xs,∀ μ',Sub μ μ'→∀ (N:Option D→Mu→Prop),N (h x) μ'→G (t x) ρc μ' fun ρ1 μ1=>tt ρ1 μ1 fun b μ2=>kIf b (te ρ1 μ2 fun y μ3=>N (some y) μ3) (N none μ2))
    (k:Q (.ls (xs.filterMap h)) μ):BX a (xs.map t) G tt te ρc ds μ Q:=by
  subst hds
  intro p hp
  refine ko (fun r μ'=>∃ b c,xs=b++c∧r=c.map t∧μ'=up μ p (.lst (b.filterMap h))) ?_ ?_ ?_ _ _ ⟨[],xs,rfl,rfl,rfl⟩
  · rintro r μ' ⟨b,c,_,_,rfl⟩
    exact Sub.new hp _ _ hm
  · rintro μ' ⟨b,c,e,er,rfl⟩
    have:c=[]:=by cases c with | nil=>rfl | cons=>cases er
    subst this
    rw[List.append_nil] at e
    subst e
    refine bo aG ?_
    rw[pJ hp];exact k
  · rintro d r μ' N ⟨b,c,e,er,rfl⟩ hN
    cases c with
    | nil=>cases er
    | cons x c=>
    cases er
    have e':xs=(b++[x])++c:=by rw[e];simp
    have lf:(b.filterMap h).length < 1000000:=by
      have h1:=List.length_filterMap_le h b
      have h2:xs.length=b.length+(x::c).length:=by rw[e,List.length_append]
      rw[List.length_cons] at h2;omega
    refine step x (by rw[e];simp) _ (Sub.new hp) (fun oy μ3=>match oy with
      | some y=>kL μ3 p fun zs=>zs.length < 1000000∧N (up μ3 p (.lst (zs++[y])))
      | none=>N μ3) ?_
    cases hf:h x with
    | none=>
      refine hN _ ⟨b++[x],c,e',rfl,?_⟩
      rw[List.filterMap_append];simp[hf]
    | some y=>
      refine bo aG ⟨lf,hN _ ⟨b++[x],c,e',rfl,?_⟩⟩
      rw[List.filterMap_append,hX];simp[hf]
theorem CZ {a:Addr}{full:List D}(hm:μ a=some (.lst full))(f:D→D)(hl:ds.length≤999999)
    (step:∀ d∈ds,∀ μ',Sub μ μ'→∀ (N:DK),N (f d) μ'→G d ρc μ' fun ρ1 μ1=>te ρ1 μ1 N)
    (k:Q (.ls (ds.map f)) μ):BX a full G dm te ρc ds μ Q:=by
  refine Hn hm (fun d=>some (f d)) hl (fun d hd μ' s N n=>?_) (by rw[show (fun d=>some (f d))=some ∘ f from rfl,List.filterMap_eq_map];exact k)
  exact step d hd μ' s (fun y μ3=>N (some y) μ3) n
end
def QK:=Jn @IH <| Jn @GP <| Jn @Nf <| Jn @LU <| Jn @L5 <| Jn @KC <| Jn @M6 <| Jn @Kl <| Jn @NS <| Jn @GQ <| Jn @NA <| Jn @Jc <| Jn @Pc <| Jn @Oh <| Jn @Nv <| Jn @RI <| Jn @KI <| Jn @K2 <| Jn @N4 <| @QH
local macro_rules | `(tactic| walk_at "go")=>`(tactic| try simp only[↓QK,CO,↓wF,↓xu,↓wj,↓vm,↓xq,↓xY,↓jW,↓iA,cu,bU,cv,cq,cD,cB,cQ,cO,bT,cE,cw,cz,cF,cN,cy,cT,cC,cR,cA,cS,iP,fo,List.map_cons,List.map_nil,List.replicate,List.cons_append,List.nil_append,lk,DP,Ao,DW,DC,gq,sR,nD,tH,sS,mh,l8,jX,jS,j5,jY,true_and,and_true,and_self,Bool.not_true,Bool.not_false,decide_true,decide_false,Bool.or_true,Bool.or_false,Bool.true_or,Bool.false_or,Bool.and_false,Bool.false_and,Bool.and_true,Bool.true_and,Int.reduceToNat,Int.reducePow,Int.reduceNeg,Int.reduceSub,Int.reduceAdd,Int.reduceMul,Int.reduceEq,Int.reduceLT,Int.reduceLE,Int.reduceBEq,hX,fZ,fS,fW,f9,gj,fY,gi,if_true,if_false,Bool.false_eq_true,reduceCtorEq,decide_eq_true_eq])
abbrev ks (s:String):L2.Key:=.inr (Str.ofString s)
def hU (cs:List Int)(a l g m s:Int):List (L2.Key×D):=[(ks "cells", .ls (cs.map .int)),(ks "at", .int a),(ks "left", .int l),(ks "given", .int g),(ks "many", .int m),(ks "seed", .int s)]
section
variable (cs:List Int) (a l g m s x:Int)
theorem Dr:bN (hU cs a l g m s) (.inr (Str.ofString "cells"))=some (.ls (cs.map .int)):=rfl
theorem MY:bN (hU cs a l g m s) (.inr (Str.ofString "at"))=some (.int a):=rfl
theorem ES:bN (hU cs a l g m s) (.inr (Str.ofString "left"))=some (.int l):=rfl
theorem Co:bN (hU cs a l g m s) (.inr (Str.ofString "given"))=some (.int g):=rfl
theorem HU:bN (hU cs a l g m s) (.inr (Str.ofString "many"))=some (.int m):=rfl
theorem Ej:bN (hU cs a l g m s) (.inr (Str.ofString "seed"))=some (.int s):=rfl
theorem M7:putD (hU cs a l g m s) (.inr (Str.ofString "at")) (.int x)=hU cs x l g m s:=rfl
theorem DZ:putD (hU cs a l g m s) (.inr (Str.ofString "left")) (.int x)=hU cs a x g m s:=rfl
theorem CS:putD (hU cs a l g m s) (.inr (Str.ofString "given")) (.int x)=hU cs a l x m s:=rfl
theorem D0:putD (hU cs a l g m s) (.inr (Str.ofString "many")) (.int x)=hU cs a l g x s:=rfl
theorem HP:putD (hU cs a l g m s) (.inr (Str.ofString "seed")) (.int x)=hU cs a l g m x:=rfl
theorem JK:(hU cs a l g m s).length < 1000000:=by show 6 < 1000000;decide
end
local macro_rules | `(tactic| walk_at "pot")=>`(tactic| try simp only[Dr,MY,ES,Co,HU,Ej,M7,DZ,CS,D0,HP,JK,true_and,oR])
local macro_rules | `(tactic| walk_at "gp")=>`(tactic| (walk_at "go";walk_at "pot";walk_at "go";walk_at "pot";walk_at "go";walk_at "pot";walk_at "go";walk_at "pot";walk_at "go"))
def Pot (μ:Mu)(b:Addr):Prop:=∃ (cs:List Int) (a l g m s:Int),μ b=some (.dct (hU cs a l g m s))∧0≤a
structure d8 (b:Addr) (μ μ':Mu):Prop where
  pot:Pot μ' b
  oth:∀ a,a≠b→μ' a=μ a
theorem d8.trans {b:Addr}{μ μ1 μ2:Mu}(x:d8 b μ μ1)(y:d8 b μ1 μ2):d8 b μ μ2:=⟨y.pot,fun a h=>(y.oth a h).trans (x.oth a h)⟩
theorem d8.ne {b p:Addr}{μ μ1:Mu}(x:d8 b μ μ1)(h:p≠b):μ1 p=μ p:=x.oth p h
theorem Pot.ne {μ:Mu}{b p:Addr}(h:Pot μ b)(hp:μ p=none):p≠b:=fun z=>by subst z;obtain ⟨_,_,_,_,_,_,e,_⟩:=h;rw[hp] at e;cases e
theorem Pot.up {μ:Mu}{b p:Addr}{o:MO}(h:Pot μ b)(hp:p≠b):Pot (up μ p o) b:=by
  obtain ⟨cs,a,l,g,m,s,e,h0⟩:=h
  exact ⟨cs,a,l,g,m,s,by rw[aU (Ne.symm hp)];exact e,h0⟩
theorem Lb {μ:Mu}{b:Addr}{o:MO}(h:μ b=some o):up μ b o=μ:=by
  funext a;unfold L3.up;split
  · rename_i e;subst e;exact h.symm
  · rfl
def Kp (b:Addr)(μ μ':Mu):Prop:=∀ a o,a≠b→μ a=some o→μ' a=some o
theorem Kp.refl (b:Addr)(μ:Mu):Kp b μ μ:=fun _ _ _ h=>h
theorem Kp.trans {b:Addr}{μ μ1 μ2:Mu}(x:Kp b μ μ1)(y:Kp b μ1 μ2):Kp b μ μ2:=fun a o h e=>y a o h (x a o h e)
theorem d8.kp {b:Addr}{μ μ1:Mu}(x:d8 b μ μ1):Kp b μ μ1:=fun a o h e=>by rw[x.oth a h];exact e
theorem Kp.new {b p:Addr}{μ:Mu}{o:MO}(h:μ p=none):Kp b μ (up μ p o):=fun a u _ e=>by rw[aU (fun z=>by subst z;rw[h] at e;cases e)];exact e
theorem Kp.put {b p:Addr}{μ μ1:Mu}{o:MO}(x:Kp b μ μ1)(h:μ p=none):Kp b μ (up μ1 p o):=fun a u n e=>by rw[aU (fun z=>by subst z;rw[h] at e;cases e)];exact x a u n e
theorem Kp.dn {b p:Addr}{μ μ1:Mu}(x:Kp b μ μ1)(h:μ p=none):Kp b μ (dn μ1 p):=fun a u n e=>by unfold L3.dn;rw[if_neg (fun z=>by subst z;rw[h] at e;cases e)];exact x a u n e
theorem KR {b:Addr}{μ μ':Mu}{d:D}{Q:DK}(hP:Pot μ' b)(h:Kp b μ μ')(k:∀ μ2,d8 b μ μ2→Q d μ2):RT Q d μ':=by
  refine ⟨fun a=>if a=b then μ' a else μ a,fun a o e=>?_,k _ ⟨?_,fun a ha=>by simp only[if_neg ha]⟩⟩
  · dsimp only at e
    split at e
    · exact e
    · rename_i ha;exact h a o ha e
  · obtain ⟨cs,a,l,g,m,s,e,h0⟩:=hP
    exact ⟨cs,a,l,g,m,s,by simp only[if_pos rfl];exact e,h0⟩
def j3:FSp:=fun ds μ Q=>match ds with
  | [.ls xs]=>(∃ ns:List Int,xs=ns.map .int)∧∀ p μ',μ p=none→Pot μ' p→(∀ a,a≠p→μ' a=μ a)→Q (.obj p) μ'
  | _=>False
theorem HQ:∀ ds μ Q,j3 ds μ Q→ds.length=1:=by
  unfold j3
  walk_at "ln"
def G8:STr:=aW (Fy [.inr (Str.ofString "cells"),.inr (Str.ofString "at"),.inr (Str.ofString "left"),.inr (Str.ofString "given"),.inr (Str.ofString "many"),.inr (Str.ofString "seed")] (af (aq jF (af (ah 0) (ar))) (af (TC (.int 0)) (af (TC (.int 0)) (af (TC (.int 0)) (af (TC (.int 0)) (af (TC (.int 5)) (ar))))))))
theorem I0:∀ ds μ Q,j3 ds μ Q→G8 { nx:=fun _ μ'=>RT Q .non μ',rt:=RT Q } (ini 1 ds) μ:=by
  intro ds μ Q h
  unfold j3 at h
  split at h
  case h_2=>exact h.elim
  rename_i xs
  walk_at "ini"
  unfold G8
  walk_at "go"
  obtain ⟨⟨ns,rfl⟩,k⟩:=h
  intro p hp
  walk_at "go"
  exact ⟨_,.refl _,k p _ hp ⟨ns,0,0,0,0,5,aG,Int.le_refl 0⟩ fun a ha=>aU ha⟩
def gf:FSp:=fun ds μ Q=>match ds with
  | [.int _,.int _]=>∀ k:Int,Q (.int k) μ
  | _=>False
theorem El:∀ ds μ Q,gf ds μ Q→ds.length=2:=by
  unfold gf
  walk_at "ln"
def EE:STr:=aA (aN (aj lJ (aj eQ (aj aP (aj aP (aj lJ (ah 0) (TC (.int 2147483647))) (aj eQ (TC (.int 7919)) (ah 1))) (TC (.int 11))) (TC (.int 48271))) (TC (.int 2147483629))) (aw 2)) (aA (aN (aj lJ (aj eQ (ah 2) (ah 2)) (TC (.int 2147483587))) (aw 3)) (aW (aj lJ (aj eQ (aj aP (ah 3) (ah 1)) (TC (.int 69621))) (TC (.int 1999999973)))))
theorem Ju:∀ ds μ Q,gf ds μ Q→EE { nx:=fun _ μ'=>RT Q .non μ',rt:=RT Q } (ini 4 ds) μ:=by
  intro ds μ Q h
  unfold gf at h
  split at h
  case h_2=>exact h.elim
  rename_i n t
  walk_at "ini"
  unfold EE
  walk_at "go"
  have s79:S64 7919:=by unfold S64;decide
  have s48:S64 48271:=by unfold S64;decide
  have s69:S64 69621:=by unfold S64;decide
  refine ⟨by decide,.inl (.inl s79),.inl (.inr s48),by decide,?_⟩
  walk_at "go"
  generalize hx:((n.fmod 2147483647+7919*t+11)*48271).fmod 2147483629=x
  have x0:0≤x:=by rw[← hx];exact fm0 (by decide)
  have x1:x < 2147483629:=by rw[← hx];exact fm1 (by decide)
  refine ⟨.inl (.inl (by unfold S64;omega)),by decide,?_⟩
  walk_at "go"
  exact ⟨.inl (.inr s69),by decide,_,.refl _,h _⟩
def ay:FSp:=fun ds μ Q=>match ds with
  | [.obj b,.int n]=>(Pot μ b∧0 < n∧n < 18446744073709551616)∧∀ k μ',0≤k→k < n→d8 b μ μ'→Q (.int k) μ'
  | _=>False
theorem aT {μ:Mu}{b:Addr}{n:Int}{Q:DK}(hB:Pot μ b)(h0:0 < n)(h1:n < 18446744073709551616)(h:∀ k μ',0≤k→k < n→d8 b μ μ'→Q (.int k) μ'):ay [.obj b,.int n] μ Q:=⟨⟨hB,h0,h1⟩,h⟩
theorem Cz:∀ ds μ Q,ay ds μ Q→ds.length=2:=by
  unfold ay
  walk_at "ln"
def kx:STr:=aA (bR (rY (TB (aj rGt (bD (ah 0) (TC (.str "left"))) (TC (.int 0)))) (TB (aj rLt (bD (ah 0) (TC (.str "given"))) (TC (.int 60))))) (aA (lA (fun m n=>m+n) (ah 0) (TC (.str "given")) (TC (.int 1))) (aA (aN (aj lJ (bD (ah 0) (TC (.str "left"))) (ah 1)) (aw 3)) (aA (jc (ah 0) (TC (.str "left")) (aj mL (bD (ah 0) (TC (.str "left"))) (ah 1))) (aW (ah 3))))) (ba)) (aA (jc (ah 0) (TC (.str "seed")) (aq gf (af (bD (ah 0) (TC (.str "seed"))) (af (bD (ah 0) (TC (.str "many"))) (ar))))) (aW (aj lJ (aj mL (bD (ah 0) (TC (.str "seed"))) (TC (.int 7))) (ah 1))))
def A8:STr:=aA (lA (fun m n=>m+n) (ah 0) (TC (.str "many")) (TC (.int 1))) (aA (bR (rY (TOr (TB (aj rEq (bD (ah 0) (TC (.str "left"))) (TC (.int 0)))) (TB (aj rEq (bD (ah 0) (TC (.str "given"))) (TC (.int 60))))) (TB (aj rLt (bD (ah 0) (TC (.str "at"))) (aq c7 (af (bD (ah 0) (TC (.str "cells"))) (ar)))))) (aA (aN (aq wV (af (aj L3.rIx (bD (ah 0) (TC (.str "cells"))) (bD (ah 0) (TC (.str "at")))) (ar))) (aw 2)) (aA (lA (fun m n=>m+n) (ah 0) (TC (.str "at")) (TC (.int 1))) (aA (jc (ah 0) (TC (.str "left")) (aj eQ (ah 2) (aq y1 (af (aj rGe (ah 2) (aj Hb (TC (.int 10)) (TC (.int 18)))) (ar))))) (aA (jc (ah 0) (TC (.str "given")) (TC (.int 0))) (jc (ah 0) (TC (.str "seed")) (aq gf (af (aj aP (bD (ah 0) (TC (.str "seed"))) (ah 2)) (af (bD (ah 0) (TC (.str "many"))) (ar))))))))) (ba)) (kx))
theorem EJ:∀ ds μ Q,ay ds μ Q→A8 { nx:=fun _ μ'=>RT Q .non μ',rt:=RT Q } (ini 4 ds) μ:=by
  intro ds μ Q h
  unfold ay at h
  split at h
  case h_2=>exact h.elim
  rename_i b n
  walk_at "ini"
  unfold A8
  obtain ⟨⟨⟨cs,a,l,g,m,s,eb,a0⟩,n0,n1⟩,k⟩:=h
  have nm:gx n:=by unfold gx;omega
  have fin:∀ (μ':Mu) (c a l g m s:Int),0≤c→c < n→0≤a→RT Q (.int c) (up μ b (.dct (hU cs a l g m s))):=fun μ' c a l g m s c0 c1 a0=>
    ⟨_,.refl _,k c _ c0 c1 ⟨⟨cs,a,l,g,m,s,aG,a0⟩,fun z hz=>aU hz⟩⟩
  have rest:∀ (v2 v3:Option D) (a l g m s:Int),0≤a→kx { nx:=fun _ μ'=>RT Q .non μ',rt:=RT Q } [some (.obj b),some (.int n),v2,v3] (up μ b (.dct (hU cs a l g m s))):=by
    intro v2 v3 a l g m s a0
    unfold kx
    walk_at "gp"
    refine kif (fun h1=>kif (fun h2=>?_) fun _=>?_) fun _=>?_
    · walk_at "gp"
      refine ⟨by omega,?_⟩
      walk_at "gp"
      exact ⟨⟨by omega,nm⟩,fin μ _ a _ _ m s (fm0 n0) (fm1 n0) a0⟩
    all_goals
      intro s2
      walk_at "gp"
      exact ⟨⟨by decide,by unfold gx;decide⟩,by omega,fin μ _ a l g m s2 (fm0 n0) (fm1 n0) a0⟩
  have e0:∀ c:Int,MulOk c (if 1000000000000000000≤c then 1 else 0):=fun c=>.inl (.inr (by unfold S64;split<;>decide))
  have e1:pC 10 18:=by unfold pC;decide
  refine (Lb eb).symm ▸ ?_
  walk_at "gp"
  rw[List.length_map]
  refine kif (fun _=>kif (fun h1=>?_) fun _=>rest _ _ _ _ _ _ _ a0) fun _=>kif (fun _=>kif (fun h1=>?_) fun _=>rest _ _ _ _ _ _ _ a0) fun _=>rest _ _ _ _ _ _ _ a0
  all_goals
    obtain ⟨z,ez⟩:=FL a0 h1
    rw[ez]
    walk_at "gp"
    refine ⟨e1,e0 _,?_⟩
    walk_at "gp"
    intro s2
    walk_at "gp"
    exact rest _ _ _ _ _ _ _ (by omega)
def cU:List Str:=[Str.ofString "a", Str.ofString "aa", Str.ofString "ab", Str.ofString "b", Str.ofString "ba", Str.ofString "mid", Str.ofString "way", Str.ofString "zz", Str.ofString "z", Str.ofString "long", Str.ofString "longer", Str.ofString "abcdefgh", Str.ofString "x", Str.ofString "yz", Str.ofString "m", Str.ofString "az", Str.ofString "c"]
theorem Gu:∀ w∈cU,PyData.strOk w=true:=by decide +kernel
theorem zd:cU.Nodup:=by decide +kernel
theorem Hx:∀ f:Fin 17,∀ s:Fin 16,((List.range 17).map fun k=>(f.val+(1+s.val)*k) % 17).Nodup:=by decide +kernel
def nameAt (f s:Nat)(k:Nat):Str:=cU.getD ((f+(1+s)*k) % 17) (Str.ofString "")
theorem Fd {f s n:Nat}(hf:f < 17)(hs:s < 16)(hn:n≤17):((List.range n).map (nameAt f s)).Nodup:=by
  have h1:((List.range 17).map fun k=>(f+(1+s)*k) % 17).Nodup:=Hx ⟨f,hf⟩ ⟨s,hs⟩
  have h2:((List.range n).map fun k=>(f+(1+s)*k) % 17).Nodup:=by
    refine List.Nodup.sublist ?_ h1
    refine List.Sublist.map _ ?_
    rw[show List.range 17=List.range n++(List.range (17 - n)).map (n + ·) by rw[← List.range_add];congr 1;omega]
    exact List.sublist_append_left _ _
  have h3:((List.range n).map (nameAt f s))=((List.range n).map fun k=>(f+(1+s)*k) % 17).map fun j=>cU.getD j (Str.ofString ""):=by rw[List.map_map];rfl
  rw[h3]
  rw[List.nodup_iff_pairwise_ne,List.pairwise_map]
  rw[List.nodup_iff_pairwise_ne] at h2
  refine (List.pairwise_map.mp h2 |> fun q=>?_)
  rw[List.pairwise_map]
  refine q.imp_of_mem ?_
  intro a b ha hb hne e
  refine hne ?_
  have l1:(f+(1+s)*a) % 17 < cU.length:=Nat.mod_lt _ (by decide)
  have l2:(f+(1+s)*b) % 17 < cU.length:=Nat.mod_lt _ (by decide)
  rw[List.getD_eq_getElem?_getD,List.getD_eq_getElem?_getD,List.getElem?_eq_getElem l1,List.getElem?_eq_getElem l2,Option.getD_some,Option.getD_some] at e
  exact (List.getElem_inj zd).mp e
theorem yB (f s k:Nat):nameAt f s k∈cU:=by
  unfold nameAt
  have l1:(f+(1+s)*k) % 17 < cU.length:=Nat.mod_lt _ (by decide)
  rw[List.getD_eq_getElem?_getD,List.getElem?_eq_getElem l1,Option.getD_some]
  exact List.getElem_mem _
def fh:FSp:=fun ds μ Q=>match ds with
  | [.obj b,.int m]=>(Pot μ b∧0≤m∧m≤17)∧∀ (ws:List Str) μ',(ws.length:Int)=m→ws.Nodup→(∀ w∈ws,w∈cU)→d8 b μ μ'→Q (.ls (ws.map .str)) μ'
  | _=>False
theorem Ae:∀ ds μ Q,fh ds μ Q→ds.length=2:=by
  unfold fh
  walk_at "ln"
def yh:STr:=aA (aN (fT (af (TC (.str "a")) (af (TC (.str "aa")) (af (TC (.str "ab")) (af (TC (.str "b")) (af (TC (.str "ba")) (af (TC (.str "mid")) (af (TC (.str "way")) (af (TC (.str "zz")) (af (TC (.str "z")) (af (TC (.str "long")) (af (TC (.str "longer")) (af (TC (.str "abcdefgh")) (af (TC (.str "x")) (af (TC (.str "yz")) (af (TC (.str "m")) (af (TC (.str "az")) (ar)))))))))))))))))) (aw 2)) (aA (aN (bc (af (aq ay (af (ah 0) (af (TC (.int 17)) (ar)))) (af (aj aP (TC (.int 1)) (aq ay (af (ah 0) (af (TC (.int 16)) (ar))))) (ar)))) (fL [3,4])) (aW (bE (fV (ah 1)) (aw 0) (dm) (aj L3.rIx (aj aP (ah 1) (fT (af (TC (.str "c")) (ar)))) (aj lJ (aj aP (ah 2) (aj eQ (ah 3) (ah 0))) (TC (.int 17)))) 1 [2,3,4])))
theorem Cs:∀ ds μ Q,fh ds μ Q→yh { nx:=fun _ μ'=>RT Q .non μ',rt:=RT Q } (ini 5 ds) μ:=by
  intro ds μ Q h
  unfold fh at h
  split at h
  case h_2=>exact h.elim
  rename_i b m
  walk_at "ini"
  unfold yh
  walk_at "go"
  obtain ⟨⟨hP,m0,m1⟩,k⟩:=h
  refine ⟨by decide,?_⟩
  refine aT hP (by decide) (by decide) fun f μ1 f0 f1 P1=>?_
  walk_at "go"
  refine aT P1.pot (by decide) (by decide) fun s μ2 s0 s1 P2=>?_
  walk_at "go"
  refine ⟨⟨by omega,by omega⟩,?_⟩
  have hw:∀ (kk:Nat),atD [D.str "a", D.str "aa", D.str "ab", D.str "b", D.str "ba", D.str "mid", D.str "way", D.str "zz", D.str "z", D.str "long", D.str "longer", D.str "abcdefgh", D.str "x", D.str "yz", D.str "m", D.str "az", D.str "c"] ((f+(1+s)*(kk:Int)).fmod 17)=some (.str (nameAt f.toNat s.toNat kk)):=by
    intro kk
    have e1:(f+(1+s)*(kk:Int)).fmod 17=(((f.toNat+(1+s.toNat)*kk) % 17:Nat):Int):=by
      rw[Int.fmod_eq_emod_of_nonneg _ (by decide)]
      push_cast
      rw[Int.toNat_of_nonneg f0,Int.toNat_of_nonneg s0]
    rw[e1,cf]
    show (cU.map D.str)[(f.toNat+(1+s.toNat)*kk) % 17]? = _
    have l1:(f.toNat+(1+s.toNat)*kk) % 17 < cU.length:=Nat.mod_lt _ (by decide)
    unfold nameAt
    rw[List.getElem?_map,List.getD_eq_getElem?_getD,List.getElem?_eq_getElem l1];rfl
  refine comp_map (fun d=>match d with
    | .int j=>.str (nameAt f.toNat s.toNat j.toNat)
    | _=>.non) (by rw[c9];omega) (fun d hd μ' _ N n=>?_) ?_
  · obtain ⟨j,rfl,j0,j1⟩:=zW hd
    walk_at "go"
    refine ⟨by decide,?_⟩
    walk_at "go"
    refine ⟨.inl (.inl (by unfold S64;omega)),by decide,?_⟩
    have:=hw j.toNat
    rw[Int.toNat_of_nonneg (by omega)] at this
    rw[this]
    walk_at "go"
    exact n
  · refine ⟨_,.refl _,?_⟩
    have e:(cx 0 m.toNat).map (fun d=>match d with
      | .int j=>D.str (nameAt f.toNat s.toNat j.toNat)
      | _=>.non)=((List.range m.toNat).map (nameAt f.toNat s.toNat)).map .str:=by
      unfold cx
      rw[List.map_map,List.map_map]
      refine List.map_congr_left fun i _=>?_
      simp
    rw[e]
    refine k _ _ (by simp;omega) (Fd (by omega) (by omega) (by omega)) (fun w hw=>?_) (P1.trans P2)
    obtain ⟨i,_,rfl⟩:=List.mem_map.mp hw
    exact yB _ _ _
section
variable {G:GTr} {tt:TTr} {te:ETr} {ρc:ST} {ds:List D} {μ:Mu} {Q:DK} {b:Addr}
theorem rA (hP:Pot μ b)(I:List D→List D→Prop)(h0:I ds [])(hl:ds.length≤999999)
    (step:∀ d r zs μ',Pot μ' b→Kp b μ μ'→I (d::r) zs→∀ (N:Option D→Mu→Prop),(∀ oy μ2,I r (zs++oy.toList)→d8 b μ' μ2→N oy μ2)→G d ρc μ' fun ρ1 μ1=>tt ρ1 μ1 fun c μ2=>kIf c (te ρ1 μ2 fun y μ3=>N (some y) μ3) (N none μ2))
    (k:∀ zs μ',I [] zs→d8 b μ μ'→Q (.ls zs) μ'):rK G tt te ρc ds μ Q:=by
  intro p hp
  have pb:=hP.ne hp
  refine jU (fun r μ'=>∃ zs,I r zs∧zs.length+r.length≤ds.length∧μ' p=some (.lst zs)∧Pot μ' b∧∀ a,a≠b→a≠p→μ' a=μ a) ?_ ?_ _ _ ⟨[],h0,by simp,aG,hP.up pb,fun a _ h=>aU h⟩
  · rintro μ' ⟨zs,hI,_,e,P,fr⟩
    refine bo e (k zs _ hI ⟨?_,fun a ha=>?_⟩)
    · obtain ⟨cs,a,l,g,m,s,e,h0⟩:=P
      exact ⟨cs,a,l,g,m,s,by unfold dn;rw[if_neg (Ne.symm pb)];exact e,h0⟩
    · unfold dn
      split
      · rename_i z;subst z;exact hp.symm
      · rename_i z;exact fr a ha z
  · rintro d r μ' N ⟨zs,hI,hz,e,P,fr⟩ hN
    rw[List.length_cons] at hz
    refine step d r zs μ' P (fun a o n h=>?_) hI (fun oy μ3=>match oy with
      | some y=>kL μ3 p fun zs=>zs.length < 1000000∧N (up μ3 p (.lst (zs++[y])))
      | none=>N μ3) ?_
    · rw[fr a n (fun z=>by subst z;rw[hp] at h;cases h)];exact h
    intro oy μ2 hoy P2
    have e2:μ2 p=some (.lst zs):=by rw[P2.oth p pb];exact e
    cases oy with
    | none=>exact hN _ ⟨zs,by simpa using hoy,by omega,e2,P2.pot,fun a h1 h2=>(P2.oth a h1).trans (fr a h1 h2)⟩
    | some y=>
      refine bo e2 ⟨by omega,hN _ ⟨zs++[y],hoy,by rw[List.length_append];simp;omega,aG,P2.pot.up pb,fun a h1 h2=>?_⟩⟩
      rw[aU h2,P2.oth a h1,fr a h1 h2]
end
theorem K3 {xs:List D}{c:Int}(c0:0≤c):atD xs c=xs[c.toNat]?:=by
  have:=cf c.toNat xs
  rwa [Int.toNat_of_nonneg c0] at this
structure Lt where
  nm:Str
  nu:Int
  ag:Int
  hp:Int
  mr:Int
def Lt.toD (x:Lt):D:=.tup [.str x.nm,.int x.nu,.int x.ag,.int x.hp,.int x.mr]
abbrev ltD (ls:List Lt):List D:=ls.map Lt.toD
structure Lt.Ok (x:Lt):Prop where
  a0:0≤x.ag
  a1:x.ag < 30
  h0:0≤x.hp
  h1:x.hp < 6
  m0:0≤x.mr
  m1:x.mr≤1
structure Wy where
  nm:Str
  pc:Int
  rm:Int
  mr:Option Int
  tn:Bool
def cM:Option Int→D
  | none=>.non
  | some i=>.int i
def wM (b:Bool):Str:=if b then Str.ofString "turns" else Str.ofString "line"
def Wy.toD (x:Wy):D:=.tup [.str x.nm,.int x.pc,.int x.rm,cM x.mr,.str (wM x.tn)]
structure Wy.Ok (x:Wy):Prop where
  n:PyData.strOk x.nm=true
  p0:1≤x.pc
  p1:x.pc≤20
  r0:1≤x.rm
  r1:x.rm≤60
  m:∀ i,x.mr=some i→0≤i∧i≤60
mutual
def pl:Nat→D→Bool
  | _,.non=>true
  | _,.int _=>true
  | _,.str x=>PyData.strOk x
  | n+1,.tup ds=>decide (ds.length≤999999)&&pls n ds
  | n+1,.ls ds=>decide (ds.length≤999999)&&pls n ds
  | _,_=>false
def pls:Nat→List D→Bool
  | _,[]=>true
  | n,d::r=>pl n d&&pls n r
end
def jr (n:Nat):FSp:=fun ds μ Q=>match ds with
  | [x,y]=>(x=y∧pl n y=true)∧Q (.bl true) μ
  | _=>False
def gm:Nat→FSp
  | 0=>fun _ _ _=>False
  | n+1=>jr n
theorem AI:∀ n ds μ Q,gm n ds μ Q→ds.length=2:=by
  intro n ds μ Q h
  cases n with
  | zero=>exact h.elim
  | succ n=>
    have h:jr n ds μ Q:=h
    unfold jr at h
    split at h
    · rfl
    · exact h.elim
theorem Cb {n:Nat}:∀ {ds:List D} {d:D},pls n ds=true→d∈ds→pl n d=true
  | x::r,d,h,hm=>by
    have h':pl n x=true∧pls n r=true:=by simpa[pls] using h
    rcases List.mem_cons.mp hm with rfl | hm
    · exact h'.1
    · exact Cb h'.2 hm
theorem ym:∀ (ds:List D),List.zipWith (fun d e=>D.tup [d,e]) ds ds=ds.map fun d=>.tup [d,d]
  | []=>rfl
  | d::r=>by simp[ym r]
def EG (sp_self:FSp):STr:=aA (bR (TB (aq (vI ["tuple", "list"]) (af (ah 1) (af (bc (af (TC (.ty "tuple")) (af (TC (.ty "list")) (ar)))) (ar))))) (aA (bR (TOr (TB (aj rNe (TUn (fe "tuple") (ah 0)) (TUn (fe "tuple") (ah 1)))) (TB (aj rNe (TUn (fe "list") (ah 0)) (TUn (fe "list") (ah 1))))) (aW (TC (.bl false))) (ba)) (aW (ig (aj rEq (aq c7 (af (ah 0) (ar))) (aq c7 (af (ah 1) (ar)))) (aq HF (af (bE (ke (af (ah 0) (af (ah 1) (ar)))) (fL [0,1]) (dm) (aq sp_self (af (ah 0) (af (ah 1) (ar)))) 2 []) (ar)))))) (ba)) (aA (bR (TB (aj rIs (ah 1) (TC .non))) (aW (aj rIs (ah 0) (TC .non))) (ba)) (aA (bR (TB (TUn (fe "str") (ah 1))) (aW (ig (TUn (fe "str") (ah 0)) (aj rEq (ah 0) (ah 1)))) (ba)) (aW (ig (TUn (fe "int") (ah 0)) (ig (qC (TUn (fe "bool") (ah 0))) (aj rEq (ah 0) (ah 1)))))))
theorem BF {n:Nat}{ds:List D}{μ:Mu}{Q:DK}(hl:ds.length≤999999)(hp:pls n ds=true)(fin:RT Q (.bl true) μ) :
    rK (fL [0,1]) dm (aq (gm (n+1)) (af (ah 0) (af (ah 1) ar))) [none,none] (List.zipWith (fun d e=>D.tup [d,e]) ds ds) μ fun x μ1=>gS HF [x] μ1 (RT Q):=by
  rw[ym]
  refine comp_map (fun _=>.bl true) (by simpa using hl) (fun d hd μ' _ N n=>?_) ?_
  · obtain ⟨x,hx,rfl⟩:=List.mem_map.mp hd
    walk_at "go"
    exact ⟨⟨rfl,Cb hp hx⟩,n⟩
  · refine ⟨ds.map fun _=>true,by simp,?_⟩
    have:(ds.map fun _=>true).all id=true:=by simp
    rw[this]
    exact fin
theorem Dm (n:Nat):∀ ds μ Q,gm (n+1) ds μ Q→EG (gm n) { nx:=fun _ μ'=>RT Q .non μ',rt:=RT Q } (ini 2 ds) μ:=by
  intro ds μ Q h
  have h2:∃ x,ds=[x,x]∧pl n x=true∧Q (.bl true) μ:=by
    have h:jr n ds μ Q:=h
    unfold jr at h
    split at h
    · obtain ⟨⟨rfl,hp⟩,k⟩:=h;exact ⟨_,rfl,hp,k⟩
    · exact h.elim
  obtain ⟨x,rfl,hp,k⟩:=h2
  clear h
  walk_at "ini"
  unfold EG
  have fin:RT Q (.bl true) μ:=⟨_,.refl _,k⟩
  cases x with
  | non=>
    walk_at "go"
    refine ⟨by decide,?_⟩
    show kIf false _ _
    walk_at "go"
    exact fin
  | int i=>
    walk_at "go"
    refine ⟨by decide,?_⟩
    show kIf false _ _
    walk_at "go"
    show kIf false _ _
    walk_at "go"
    exact fin
  | str s=>
    walk_at "go"
    refine ⟨by decide,?_⟩
    show kIf false _ _
    walk_at "go"
    have hs:PyData.strOk s=true:=by cases n<;>simpa[pl] using hp
    show PyData.strOk s=true∧RT Q (.bl true) μ
    exact ⟨hs,fin⟩
  | tup ds=>
    cases n with
    | zero=>simp[pl] at hp
    | succ n=>
    simp only[pl,Bool.and_eq_true,decide_eq_true_eq] at hp
    walk_at "go"
    refine ⟨by decide,?_⟩
    show kIf true _ _
    walk_at "go"
    show kIf false _ (kIf false _ _)
    walk_at "go"
    exact BF hp.1 hp.2 fin
  | ls ds=>
    cases n with
    | zero=>simp[pl] at hp
    | succ n=>
    simp only[pl,Bool.and_eq_true,decide_eq_true_eq] at hp
    walk_at "go"
    refine ⟨by decide,?_⟩
    show kIf true _ _
    walk_at "go"
    show kIf false _ (kIf false _ _)
    walk_at "go"
    exact BF hp.1 hp.2 fin
  | _=>cases n<;>simp[pl] at hp
abbrev oD:FSp:=gm 6
theorem B4 {x y:D}{μ:Mu}{Q:DK}(e:x=y)(h:pl 5 y=true)(k:Q (.bl true) μ):gS oD [x,y] μ Q:=⟨⟨e,h⟩,k⟩
theorem mK {n:Nat}:∀ {ds:List D},(∀ d∈ds,pl n d=true)→pls n ds=true
  | [],_=>rfl
  | d::r,h=>by simp only[pls,Bool.and_eq_true];exact ⟨h d List.mem_cons_self,mK fun x hx=>h x (List.mem_cons_of_mem _ hx)⟩
def nR (w:Wy)(x:Lt)(n:Nat):Lt:=match w.mr with
  | none=>x
  | some i=>if (n:Int) < i then x else { x with mr:=1 }
def bW (w:Wy)(p:List Lt×List Lt)(y:Lt):List Lt×List Lt:=if w.rm≤(p.1.length:Int) then (p.1,p.2++[y]) else (p.1++[nR w y p.1.length],p.2)
def tk (w:Wy)(xs ys:List Lt):List Lt×List Lt:=ys.foldl (bW w) (xs,[])
theorem Pg (a b c d e:D):cutD [a,b,c,d,e] none (some 4)=[a,b,c,d]:=rfl
def cY:FSp:=fun ds μ Q=>match ds with
  | [wd,ld,.int n]=>∃ (w:Wy) (x:Lt) (m:Nat),(wd=w.toD∧ld=x.toD∧n=m)∧Q (nR w x m).toD μ
  | _=>False
theorem qT:∀ ds μ Q,cY ds μ Q→ds.length=3:=by
  unfold cY
  walk_at "ln"
def kZ:STr:=aA (bR (TOr (TB (aj rIs (aj L3.rIx (ah 0) (TC (.int 3))) (TC .non))) (TB (aj rLt (ah 2) (aj L3.rIx (ah 0) (TC (.int 3)))))) (aW (ah 1)) (ba)) (aW (aj aP (TSl (ah 1) (ONo) (i3 (TC (.int 4)))) (bc (af (TC (.int 1)) (ar)))))
theorem rE:∀ ds μ Q,cY ds μ Q→kZ { nx:=fun _ μ'=>RT Q .non μ',rt:=RT Q } (ini 3 ds) μ:=by
  intro ds μ Q h
  unfold cY at h
  split at h
  case h_2=>exact h.elim
  rename_i wd ld n
  walk_at "ini"
  unfold kZ
  walk_at "go"
  obtain ⟨w,x,m,⟨rfl,rfl,rfl⟩,k⟩:=h
  simp only[Wy.toD]
  walk_at "go"
  unfold nR at k
  cases hm:w.mr with
  | none=>
    rw[hm] at k
    simp only[cM]
    walk_at "go"
    exact ⟨_,.refl _,k⟩
  | some i=>
    rw[hm] at k
    simp only[cM]
    walk_at "go"
    refine kif (fun h1=>⟨_,.refl _,?_⟩) fun h1=>?_
    · simp only[if_pos h1] at k;exact k
    · simp only[if_neg h1] at k
      simp only[Lt.toD]
      walk_at "go"
      rw[Pg]
      walk_at "go"
      exact ⟨by show 5≤1000000;decide,_,.refl _,k⟩
def eC:FSp:=fun ds μ Q=>match ds with
  | [wd,.tup st,.tup le]=>∃ (w:Wy) (xs ys:List Lt),(wd=w.toD∧st=ltD xs∧le=ltD ys∧xs.length+ys.length≤900000)∧Q (.tup [.tup (ltD (tk w xs ys).1),.tup (ltD (tk w xs ys).2)]) μ
  | _=>False
theorem tR:∀ ds μ Q,eC ds μ Q→ds.length=3:=by
  unfold eC
  walk_at "ln"
def qr:STr:=aA (aN (aq jM (af (ah 1) (ar))) (aw 3)) (aA (aN (lY (ar)) (aw 4)) (aA (j7 (dH (ah 2)) (aw 5) (bR (TB (aj rGe (aq c7 (af (ah 3) (ar))) (aj L3.rIx (ah 0) (TC (.int 2))))) (fG (lR (ah 4) (ah 5))) (fG (lR (ah 3) (aq cY (af (ah 0) (af (ah 5) (af (aq c7 (af (ah 3) (ar))) (ar))))))))) (aW (bc (af (aq bh (af (ah 3) (ar))) (af (aq bh (af (ah 4) (ar))) (ar)))))))
theorem xR:∀ ds μ Q,eC ds μ Q→qr { nx:=fun _ μ'=>RT Q .non μ',rt:=RT Q } (ini 6 ds) μ:=by
  intro ds μ Q h
  unfold eC at h
  split at h
  case h_2=>exact h.elim
  rename_i wd st le
  walk_at "ini"
  unfold qr
  walk_at "go"
  obtain ⟨w,xs,ys,⟨rfl,rfl,rfl,hl⟩,k⟩:=h
  intro p hp
  walk_at "go"
  intro q hq
  have qp:q≠p:=fun z=>by subst z;rw[aG] at hq;cases hq
  have hqn:μ q=none:=by rw[aU qp] at hq;exact hq
  refine cW (fun r ρ μ'=>∃ (a b:List Lt) (rs:List Lt) (v5:Option D),r=ltD rs∧ρ=[some w.toD,some (.tup (ltD xs)),some (.tup (ltD ys)),some (.obj p),some (.obj q),v5]∧μ' p=some (.lst (ltD a))∧μ' q=some (.lst (ltD b))∧Sub μ μ'∧rs.foldl (bW w) (a,b)=tk w xs ys∧a.length+b.length+rs.length≤900000) ?_ ?_ _ _ _ ⟨xs,[],ys,_,rfl,rfl,by rw[aU (Ne.symm qp),aG],aG,(Sub.new hp).trans (Sub.new hq),rfl,by simpa using hl⟩
  · rintro ρ μ' ⟨a,b,rs,v5,er,rfl,ep,eq,s,e,_⟩
    have:rs=[]:=by cases rs with | nil=>rfl | cons=>cases er
    subst this
    have e:(a,b)=tk w xs ys:=e
    rw[← e] at k
    walk_at "go"
    refine bo ep ?_
    walk_at "go"
    refine bo eq ?_
    exact ⟨_,s,k⟩
  · rintro d r ρ μ' N ⟨a,b,rs,v5,er,rfl,ep,eq,s,e,hz⟩ hN
    cases rs with
    | nil=>cases er
    | cons y rs=>
    cases er
    rw[List.length_cons] at hz
    rw[List.foldl_cons] at e
    unfold bW at e
    simp only[Wy.toD]
    walk_at "go"
    refine bo ep ?_
    walk_at "go"
    rw[List.length_map]
    refine kif (fun h1=>?_) fun h1=>?_
    · rw[if_pos h1] at e
      walk_at "go"
      refine bo eq ?_
      walk_at "go"
      refine bo eq ⟨by simp;omega,hN _ _ ⟨a,b++[y],rs,_,rfl,rfl,by rw[aU (Ne.symm qp)];exact ep,by rw[aG];simp[ltD],fun z o h=>?_,e,by simp;omega⟩⟩
      rw[aU (fun e=>by subst e;rw[hqn] at h;cases h)];exact s z o h
    · rw[if_neg h1] at e
      walk_at "go"
      refine bo ep ?_
      walk_at "go"
      refine bo ep ?_
      rw[List.length_map]
      refine ⟨w,y,a.length,⟨rfl,rfl,rfl⟩,?_⟩
      walk_at "go"
      refine bo ep ⟨by simp;omega,hN _ _ ⟨a++[nR w y a.length],b,rs,_,rfl,rfl,by rw[aG];simp[ltD],by rw[aU qp];exact eq,fun z o h=>?_,e,by simp;omega⟩⟩
      rw[aU (fun e=>by subst e;rw[hp] at h;cases h)];exact s z o h
theorem TH (w:Wy)(μ:Mu)(Q:DK):L3.rIx w.toD (.int 0) μ Q=Q (.str w.nm) μ:=propext Iff.rfl
theorem Tp (w:Wy)(μ:Mu)(Q:DK):L3.rIx w.toD (.int 1) μ Q=Q (.int w.pc) μ:=propext Iff.rfl
theorem TU (w:Wy)(μ:Mu)(Q:DK):L3.rIx w.toD (.int 4) μ Q=Q (.str (wM w.tn)) μ:=propext Iff.rfl
theorem lt_0 (x:Lt)(μ:Mu)(Q:DK):L3.rIx x.toD (.int 0) μ Q=Q (.str x.nm) μ:=propext Iff.rfl
theorem SA (x:Lt)(μ:Mu)(Q:DK):L3.rIx x.toD (.int 1) μ Q=Q (.int x.nu) μ:=propext Iff.rfl
theorem T6 (x:Lt)(μ:Mu)(Q:DK):L3.rIx x.toD (.int 2) μ Q=Q (.int x.ag) μ:=propext Iff.rfl
theorem SO (x:Lt)(μ:Mu)(Q:DK):L3.rIx x.toD (.int 3) μ Q=Q (.int x.hp) μ:=propext Iff.rfl
theorem SE (x:Lt)(μ:Mu)(Q:DK):L3.rIx x.toD (.int 4) μ Q=Q (.int x.mr) μ:=propext Iff.rfl
theorem TM (xs:List D){k:Int}(k0:0≤k):cutD xs none (some k)=xs.take k.toNat:=by
  have:=Bo xs k.toNat
  rwa [Int.toNat_of_nonneg k0] at this
theorem Sf (xs:List D){k:Int}(k0:0≤k):cutD xs (some k) none=xs.drop k.toNat:=by
  have:=sA xs k.toNat
  rwa [Int.toNat_of_nonneg k0] at this
theorem KD (ls:List Lt)(n:Nat):(ltD ls).take n=ltD (ls.take n):=by simp[ltD,List.map_take]
theorem LX (ls:List Lt)(n:Nat):(ltD ls).drop n=ltD (ls.drop n):=by simp[ltD,List.map_drop]
theorem oO {w:Wy}{a b:List Lt}{y:Lt}(h:w.rm≤(a.length:Int)):bW w (a,b) y=(a,b++[y]):=by unfold bW;rw[if_pos h]
theorem BR {w:Wy}{a b:List Lt}{y:Lt}(h:¬ w.rm≤(a.length:Int)):bW w (a,b) y=(a++[nR w y a.length],b):=by unfold bW;rw[if_neg h]
theorem uu:cM none=.non:=rfl
theorem tM (i:Int):cM (some i)=.int i:=rfl
theorem AR (w:Wy):∀ (ys:List Lt) (a b:List Lt),(ys.foldl (bW w) (a,b)).1.length+(ys.foldl (bW w) (a,b)).2.length=a.length+b.length+ys.length
  | [],a,b=>by simp
  | y::ys,a,b=>by
    rw[List.foldl_cons]
    by_cases h:w.rm≤(a.length:Int)
    · rw[oO h,AR w ys];simp;omega
    · rw[BR h,AR w ys];simp;omega
theorem BG (w:Wy)(y:Lt)(n:Nat):(nR w y n).nm=y.nm:=by
  unfold nR
  split
  · rfl
  · split<;>rfl
theorem Fe (w:Wy)(P:Str→Prop):∀ (ys:List Lt) (a b:List Lt),(∀ x∈a,P x.nm)→(∀ x∈b,P x.nm)→(∀ x∈ys,P x.nm)→(∀ x∈(ys.foldl (bW w) (a,b)).1,P x.nm)∧∀ x∈(ys.foldl (bW w) (a,b)).2,P x.nm
  | [],a,b,h1,h2,_=>⟨h1,h2⟩
  | y::ys,a,b,h1,h2,h3=>by
    rw[List.foldl_cons]
    have hy:=h3 y List.mem_cons_self
    have hr:∀ x∈ys,P x.nm:=fun x hx=>h3 x (List.mem_cons_of_mem _ hx)
    by_cases h:w.rm≤(a.length:Int)
    · rw[oO h]
      refine Fe w P ys _ _ h1 (fun x hx=>?_) hr
      rcases List.mem_append.mp hx with z | z
      · exact h2 x z
      · have:x=y:=by simpa using z
        subst this;exact hy
    · rw[BR h]
      refine Fe w P ys _ _ (fun x hx=>?_) h2 hr
      rcases List.mem_append.mp hx with z | z
      · exact h1 x z
      · have:x=nR w y a.length:=by simpa using z
        subst this;rw[BG];exact hy
def Rj:=Jn @TH <| Jn @Tp <| Jn @TU <| Jn @lt_0 <| Jn @SA <| Jn @T6 <| Jn @SO <| Jn @SE <| @QK
local macro_rules | `(tactic| walk_at "go")=>`(tactic| try simp only[↓Rj,CO,↓wF,↓xu,↓wj,↓vm,↓xq,↓xY,↓jW,↓iA,cu,bU,cv,cq,cD,cB,cQ,cO,bT,cE,cw,cz,cF,cN,cy,cT,cC,cR,cA,cS,iP,uu,tM,fo,List.map_cons,List.map_nil,List.replicate,List.cons_append,List.nil_append,lk,DP,Ao,DW,DC,gq,sR,nD,tH,sS,mh,l8,jX,jS,j5,jY,true_and,and_true,and_self,Bool.not_true,Bool.not_false,decide_true,decide_false,Bool.or_true,Bool.or_false,Bool.true_or,Bool.false_or,Bool.and_false,Bool.false_and,Bool.and_true,Bool.true_and,Int.reduceToNat,Int.reducePow,Int.reduceNeg,Int.reduceSub,Int.reduceAdd,Int.reduceMul,Int.reduceEq,Int.reduceLT,Int.reduceLE,Int.reduceBEq,hX,fZ,fS,fW,f9,gj,fY,gi,if_true,if_false,Bool.false_eq_true,reduceCtorEq,decide_eq_true_eq])
def nz (ws os:List Str)(l:Str):Option Str:=match (ws.filter fun w=>decide (w∈os)).filter fun w=>ltS l w with
  | x::_=>some x
  | []=>(ws.filter fun w=>decide (w∈os)).head?
theorem vA {ws os:List Str}{l n:Str}(h:nz ws os l=some n):n∈ws∧n∈os:=by
  unfold nz at h
  have hm:n∈ws.filter fun w=>decide (w∈os):=by
    split at h
    · rename_i x r e
      cases h
      have:n∈(ws.filter fun w=>decide (w∈os)).filter fun w=>ltS l w:=by rw[e];exact List.mem_cons_self
      exact (List.mem_filter.mp this).1
    · exact List.mem_of_head? h
  have:=List.mem_filter.mp hm
  exact ⟨this.1,by simpa using this.2⟩
theorem Aa {ws os:List Str}{l w:Str}(h1:w∈ws)(h2:w∈os):∃ n,nz ws os l=some n:=by
  have hm:w∈ws.filter fun w=>decide (w∈os):=List.mem_filter.mpr ⟨h1,by simpa using h2⟩
  unfold nz
  split
  · exact ⟨_,rfl⟩
  · cases e:(ws.filter fun w=>decide (w∈os)) with
    | nil=>rw[e] at hm;cases hm
    | cons x r=>exact ⟨x,rfl⟩
theorem KZ (w:Str)(os:List Str):inG (.str w) (os.map .str)=decide (w∈os):=by
  unfold inG
  rw[List.any_map]
  induction os with
  | nil=>simp
  | cons o r ih=>
    rw[List.any_cons,ih]
    simp only[Function.comp_apply,nD]
    by_cases h:o=w
    · simp[h]
    · simp[h,Ne.symm h,eq_comm]
theorem BQ {n:Nat}{os:List Str}(h:∀ o∈os,PyData.strOk o=true):cX n (os.map .str)=true:=by
  induction os with
  | nil=>rfl
  | cons o r ih=>
    rw[List.map_cons,gq,Ao,h o List.mem_cons_self,ih fun x hx=>h x (List.mem_cons_of_mem _ hx)];rfl
theorem yk (os:List Str)(p:Str→Bool):(os.map D.str).filterMap (fun d=>match d with
    | .str w=>if p w then some (D.str w) else none
    | _=>none)=(os.filter p).map D.str:=by
  induction os with
  | nil=>rfl
  | cons o r ih=>
    rw[List.map_cons,List.filterMap_cons,List.filter_cons]
    dsimp only
    cases p o with
    | true=>simp[ih]
    | false=>simp[ih]
def dD:FSp:=fun ds μ Q=>match ds with
  | [d,.ls os',.str l]=>∃ (ws os:List Str) (n:Str),((d=.tup (ws.map .str)∨d=.ls (ws.map .str))∧os'=os.map .str∧(∀ w∈ws,PyData.strOk w=true)∧(∀ w∈os,PyData.strOk w=true)∧ws.length≤900000∧nz ws os l=some n)∧Q (.str n) μ
  | _=>False
theorem rP:∀ ds μ Q,dD ds μ Q→ds.length=3:=by
  unfold dD
  walk_at "ln"
def mT:STr:=aA (aN (bE (dH (ah 0)) (aw 0) (TB (aj (Ja false) (ah 0) (ah 1))) (ah 0) 1 [1]) (aw 3)) (aA (aN (bE (dH (ah 3)) (aw 0) (TB (aj PY (ah 0) (ah 1))) (ah 0) 1 [2]) (aw 4)) (aW (l6 (TB (aj rGt (aq c7 (af (ah 4) (ar))) (TC (.int 0)))) (aj L3.rIx (ah 4) (TC (.int 0))) (aj L3.rIx (ah 3) (TC (.int 0))))))
theorem uv:∀ ds μ Q,dD ds μ Q→mT { nx:=fun _ μ'=>RT Q .non μ',rt:=RT Q } (ini 5 ds) μ:=by
  intro ds μ Q h
  unfold dD at h
  split at h
  case h_2=>exact h.elim
  rename_i d os' l
  walk_at "ini"
  unfold mT
  walk_at "go"
  obtain ⟨ws,os,n,⟨hd,rfl,h1,h2,hl,hn⟩,k⟩:=h
  have go:∀ d,d=.tup (ws.map .str)∨d=.ls (ws.map .str)→∀ f:List D→Prop,f (ws.map .str)→kS d f:=fun d h f hf=>by rcases h with rfl | rfl<;>exact hf
  refine go d hd _ ?_
  refine ue (fun d=>match d with
    | .str w=>if decide (w∈os) then some (.str w) else none
    | _=>none) (by rw[List.length_map];omega) (fun d hd μ' _ N n=>?_) ?_
  · obtain ⟨w,hw,rfl⟩:=List.mem_map.mp hd
    walk_at "go"
    rw[BQ h2,KZ]
    have:=h1 w hw
    simp only[this,true_and]
    dsimp only at n
    refine kif (fun h=>?_) fun h=>?_
    · rw[decide_eq_true h] at n;exact n
    · rw[decide_eq_false h] at n;exact n
  · rw[yk ws fun w=>decide (w∈os)]
    generalize hth:(ws.filter fun w=>decide (w∈os))=th at *
    have lth:th.length≤900000:=by rw[← hth];exact Nat.le_trans (List.length_filter_le _ _) hl
    walk_at "go"
    refine ue (fun d=>match d with
      | .str w=>if ltS l w then some (.str w) else none
      | _=>none) (by rw[List.length_map];omega) (fun d hd μ' _ N n=>?_) ?_
    · obtain ⟨w,hw,rfl⟩:=List.mem_map.mp hd
      walk_at "go"
      dsimp only at n
      refine RD (fun h=>?_) fun h=>?_
      · rw[h] at n;exact n
      · rw[h] at n;exact n
    · rw[yk th fun w=>ltS l w]
      unfold nz at hn
      rw[hth] at hn
      walk_at "go"
      cases e:th.filter fun w=>ltS l w with
      | nil=>
        rw[e] at hn
        have hn:th.head? = some n:=hn
        cases th with
        | nil=>cases hn
        | cons x r=>
        cases hn
        walk_at "go"
        show kIf false _ _
        walk_at "go"
        exact ⟨_,.refl _,k⟩
      | cons x r=>
        rw[e] at hn
        have hn:some x=some n:=hn
        cases hn
        walk_at "go"
        refine Bl (by simp) ?_
        exact ⟨_,.refl _,k⟩
def at1 (n:Str)(st:List Lt):Nat:=st.findIdx fun x=>decide (x.nm=n)
def da (ws:List Str)(p:Int):Nat→List Lt→List Lt→Str→List Lt×List Lt×Str
  | 0,st,out,l=>(out,st,l)
  | f+1,st,out,l=>if 0 < st.length∧(out.length:Int) < p then (match nz ws (st.map Lt.nm) l with
      | some n=>(match st[at1 n st]? with
        | some x=>da ws p f (st.eraseIdx (at1 n st)) (out++[x]) n
        | none=>(out,st,l))
      | none=>(out,st,l)) else (out,st,l)
theorem D5 {n:Str}{st:List Lt}(h:n∈st.map Lt.nm):at1 n st < st.length:=by
  obtain ⟨x,hx,rfl⟩:=List.mem_map.mp h
  exact List.findIdx_lt_length_of_exists ⟨x,hx,by simp⟩
theorem sC {α β:Type}(f:α→β):∀ (l:List α) (i:Nat),(l.map f).eraseIdx i=(l.eraseIdx i).map f
  | [],_=>by simp
  | _::_,0=>rfl
  | a::l,i+1=>by simp[sC f l i]
theorem PL {n:Str}{st:List Lt}(h:n∈st.map Lt.nm):Cq ((st.map Lt.nm).map .str) (.str n)=some (at1 n st):=by
  unfold Cq
  have hl:=D5 h
  rw[List.findIdx?_eq_some_iff_getElem]
  have e1:∀ m (hm:m < ((st.map Lt.nm).map D.str).length),eqD ((st.map Lt.nm).map D.str)[m] (.str n)=decide ((st[m]'(by simpa using hm)).nm=n):=by
    intro m hm
    simp[nD]
  refine ⟨by simpa using hl,?_,fun j hj=>?_⟩
  · rw[e1]
    have hl':(st.findIdx fun x=>decide (x.nm=n)) < st.length:=hl
    have:=List.findIdx_getElem (xs:=st) (p:=fun x=>decide (x.nm=n)) (w:=hl')
    exact this
  · rw[e1]
    have:=List.not_of_lt_findIdx (xs:=st) (p:=fun x=>decide (x.nm=n)) hj
    simpa using this
theorem Ar {ws:List Str}{p:Int}{f:Nat}{st out:List Lt}{l:Str}(h:¬ (0 < st.length∧(out.length:Int) < p)):da ws p f st out l=(out,st,l):=by
  cases f with
  | zero=>rfl
  | succ f=>unfold da;rw[if_neg h]
theorem Fs {ws:List Str}{p:Int}{f:Nat}{st out:List Lt}{l n:Str}{x:Lt}(h:0 < st.length∧(out.length:Int) < p)(hn:nz ws (st.map Lt.nm) l=some n)(hx:st[at1 n st]? = some x) :
    da ws p (f+1) st out l=da ws p f (st.eraseIdx (at1 n st)) (out++[x]) n:=by
  conv=>lhs;unfold da
  rw[if_pos h,hn]
  dsimp only
  rw[hx]
theorem Kb {n k:Nat}(h:k < n):L2.ixN n (k:Int)=some k:=by rw[JL,if_pos h]
def mw (ws:List Str)(st:List Lt):Prop:=∀ x∈st,x.nm∈ws
def b6:FSp:=fun ds μ Q=>match ds with
  | [wd,d,.tup st',.str l]=>∃ (w:Wy) (ws:List Str) (st:List Lt),(wd=w.toD∧(d=.tup (ws.map .str)∨d=.ls (ws.map .str))∧st'=ltD st∧(∀ x∈ws,PyData.strOk x=true)∧mw ws st∧ws.length≤900000∧st.length≤900000)∧
      Q (.tup [.tup (ltD (da ws w.pc st.length st [] l).1),.tup (ltD (da ws w.pc st.length st [] l).2.1),.str (da ws w.pc st.length st [] l).2.2]) μ
  | _=>False
theorem mB:∀ ds μ Q,b6 ds μ Q→ds.length=4:=by
  unfold b6
  walk_at "ln"
def jC:STr:=aA (aN (aq jM (af (ah 2) (ar))) (aw 4)) (aA (aN (lY (ar)) (aw 5)) (aA (aN (ah 3) (aw 6)) (aA (uO (rY (TB (aj rGt (aq c7 (af (ah 4) (ar))) (TC (.int 0)))) (TB (aj rLt (aq c7 (af (ah 5) (ar))) (aj L3.rIx (ah 0) (TC (.int 1)))))) (aA (aN (jx (ah 4) (aw 0) (dm) (aj L3.rIx (ah 0) (TC (.int 0))) 1 []) (aw 7)) (aA (aN (aq dD (af (ah 1) (af (ah 7) (af (ah 6) (ar))))) (aw 6)) (fG (lR (ah 5) (OQ (ah 4) (yT (ah 7) (ah 6)))))))) (aW (bc (af (aq bh (af (ah 5) (ar))) (af (aq bh (af (ah 4) (ar))) (af (ah 6) (ar)))))))))
theorem nT:∀ ds μ Q,b6 ds μ Q→jC { nx:=fun _ μ'=>RT Q .non μ',rt:=RT Q } (ini 8 ds) μ:=by
  intro ds μ Q h
  unfold b6 at h
  split at h
  case h_2=>exact h.elim
  rename_i wd d st' l
  walk_at "ini"
  unfold jC
  walk_at "go"
  obtain ⟨w,ws,st,⟨rfl,hd,rfl,hw,hs,hl1,hl2⟩,k⟩:=h
  intro p hp
  walk_at "go"
  intro q hq
  have qp:q≠p:=fun z=>by subst z;rw[aG] at hq;cases hq
  have hqn:μ q=none:=by rw[aU qp] at hq;exact hq
  walk_at "go"
  refine ⟨fun ρ μ'=>∃ (a o:List Lt) (n:Str) (v7:Option D) (f:Nat),ρ=[some w.toD,some d,some (.tup (ltD st)),some (.str l),some (.obj p),some (.obj q),some (.str n),v7]∧μ' p=some (.lst (ltD a))∧μ' q=some (.lst (ltD o))∧Sub μ μ'∧da ws w.pc f a o n=da ws w.pc st.length st [] l∧a.length≤f∧a.length+o.length≤900000∧mw ws a,
    fun _ μ'=>match μ' p with
      | some (.lst ds)=>ds.length
      | _=>0,⟨st,[],l,_,st.length,rfl,by rw[aU (Ne.symm qp),aG],aG,(Sub.new hp).trans (Sub.new hq),rfl,Nat.le_refl _,by simpa using hl2,hs⟩,?_⟩
  rintro ρ μ' ⟨a,o,n,v7,f,rfl,ep,eq,sb,e,hf,hz,ha⟩
  have fin:¬ (0 < a.length∧(o.length:Int) < w.pc)→RT Q (.tup [.tup (ltD o),.tup (ltD a),.str n]) μ':=fun hn=>by
    rw[Ar hn] at e
    rw[← e] at k
    exact ⟨_,sb,k⟩
  walk_at "go"
  refine bo ep ?_
  walk_at "go"
  rw[List.length_map]
  refine kif (fun h1=>?_) fun h1=>?_
  rotate_left
  · refine bo eq ?_
    walk_at "go"
    refine bo ep ?_
    walk_at "go"
    exact fin fun h=>h1 (by have:=h.1;omega)
  walk_at "go"
  refine bo eq ?_
  walk_at "go"
  rw[List.length_map]
  refine kif (fun h2=>?_) fun h2=>?_
  rotate_left
  · refine bo eq ?_
    walk_at "go"
    refine bo ep ?_
    walk_at "go"
    exact fin fun h=>h2 h.2
  walk_at "go"
  refine bo ep ?_
  refine CZ ep (fun d=>match d with
    | .tup (x::_)=>x
    | _=>.non) (by rw[List.length_map];omega) (fun d hd μ2 _ N n=>?_) ?_
  · obtain ⟨x,hx,rfl⟩:=List.mem_map.mp hd
    walk_at "go"
    exact n
  have em:(ltD a).map (fun d=>match d with
    | .tup (x::_)=>x
    | _=>D.non)=(a.map Lt.nm).map .str:=by rw[List.map_map,List.map_map];rfl
  rw[em]
  walk_at "go"
  cases a with
  | nil=>simp at h1
  | cons x0 a0=>
  have h0:=ha x0 List.mem_cons_self
  obtain ⟨n2,hn2⟩:=Aa (l:=n) h0 (show x0.nm∈(x0::a0).map Lt.nm from List.mem_cons_self)
  generalize hA:x0::a0=A at *
  have hos:∀ z∈A.map Lt.nm,PyData.strOk z=true:=fun z hz=>by
    obtain ⟨y,hy,rfl⟩:=List.mem_map.mp hz
    exact hw _ (ha y hy)
  refine ⟨ws,A.map Lt.nm,n2,⟨hd,rfl,hw,hos,hl1,hn2⟩,?_⟩
  walk_at "go"
  have hin:=vA hn2
  have hi:=D5 hin.2
  refine bo eq ?_
  walk_at "go"
  refine bo ep ?_
  walk_at "go"
  rw[BQ hos,hw _ hin.1,PL hin.2]
  simp only[true_and]
  walk_at "go"
  refine ⟨by omega,⟨by omega,by omega⟩,bo ep ?_⟩
  rw[List.length_map,Kb hi]
  walk_at "go"
  obtain ⟨x,hx⟩:∃ x,A[at1 n2 A]? = some x:=⟨A[at1 n2 A],List.getElem?_eq_getElem hi⟩
  rw[List.getElem?_map,hx]
  walk_at "go"
  refine bo (by rw[aU qp];exact eq) ⟨by simp;omega,?_⟩
  cases f with
  | zero=>omega
  | succ f=>
  rw[Fs ⟨by omega,h2⟩ hn2 hx] at e
  have le:(A.eraseIdx (at1 n2 A)).length=A.length - 1:=List.length_eraseIdx_of_lt hi
  refine ⟨⟨A.eraseIdx (at1 n2 A),o++[x],n2,_,f,rfl,?_,?_,?_,e,by omega,by simp;omega,fun y hy=>ha y (List.mem_of_mem_eraseIdx hy)⟩,?_⟩
  · rw[aU (Ne.symm qp),aG,sC]
  · rw[aG];simp[ltD]
  · intro z u h
    rw[aU (fun e=>by subst e;rw[hqn] at h;cases h),aU (fun e=>by subst e;rw[hp] at h;cases h)]
    exact sb z u h
  · rw[aU (Ne.symm qp),aG,ep]
    simp[List.length_eraseIdx,hi]
    omega
def cV (w:Wy)(ws:List Str)(st:List Lt)(l:Str):List Lt×List Lt×Str:=if w.tn then da ws w.pc st.length st [] l else (st.take w.pc.toNat,st.drop w.pc.toNat,Str.ofString "")
theorem Jb (b:Bool):PyData.strOk (wM b)=true:=by cases b<;>decide +kernel
theorem FZ:PyData.strOk (Str.ofString "turns")=true:=by decide +kernel
theorem O9 (b:Bool):decide (wM b=Str.ofString "turns")=b:=by cases b<;>decide +kernel
def fq:FSp:=fun ds μ Q=>match ds with
  | [wd,d,.tup st',.str l]=>∃ (w:Wy) (ws:List Str) (st:List Lt),(wd=w.toD∧(w.tn=true→(d=.tup (ws.map .str)∨d=.ls (ws.map .str))∧(∀ x∈ws,PyData.strOk x=true)∧mw ws st∧ws.length≤900000)∧st'=ltD st∧st.length≤900000∧0≤w.pc)∧
      Q (.tup [.tup (ltD (cV w ws st l).1),.tup (ltD (cV w ws st l).2.1),.str (cV w ws st l).2.2]) μ
  | _=>False
theorem vj:∀ ds μ Q,fq ds μ Q→ds.length=4:=by
  unfold fq
  walk_at "ln"
def sU:STr:=aA (bR (TB (aj rEq (aj L3.rIx (ah 0) (TC (.int 4))) (TC (.str "turns")))) (aW (aq b6 (af (ah 0) (af (ah 1) (af (ah 2) (af (ah 3) (ar))))))) (ba)) (aW (bc (af (aq bh (af (TSl (ah 2) (ONo) (i3 (aj L3.rIx (ah 0) (TC (.int 1))))) (ar))) (af (aq bh (af (TSl (ah 2) (i3 (aj L3.rIx (ah 0) (TC (.int 1)))) (ONo)) (ar))) (af (TC (.str "")) (ar))))))
theorem zm:∀ ds μ Q,fq ds μ Q→sU { nx:=fun _ μ'=>RT Q .non μ',rt:=RT Q } (ini 4 ds) μ:=by
  intro ds μ Q h
  unfold fq at h
  split at h
  case h_2=>exact h.elim
  rename_i wd d st' l
  walk_at "ini"
  unfold sU
  walk_at "go"
  obtain ⟨w,ws,st,⟨rfl,ht,rfl,hl,hp⟩,k⟩:=h
  walk_at "go"
  rw[Jb,FZ,O9]
  unfold cV at k
  refine ⟨⟨rfl,rfl⟩,?_⟩
  cases e:w.tn with
  | true=>
    rw[e,if_pos rfl] at k
    obtain ⟨h1,h2,h3,h4⟩:=ht e
    walk_at "go"
    exact ⟨w,ws,st,⟨rfl,h1,rfl,h2,h3,h4,hl⟩,_,.refl _,k⟩
  | false=>
    rw[e,if_neg (by decide)] at k
    walk_at "go"
    rw[TM _ hp,Sf _ hp,KD,LX]
    exact ⟨_,.refl _,k⟩
def bG:FSp:=fun ds μ Q=>match ds with
  | [.int a,.int b]=>(0≤a∧0 < b∧gx b)∧Q (fr (a.fdiv (Int.gcd a b)) (b.fdiv (Int.gcd a b))) μ
  | _=>False
theorem AM:∀ ds μ Q,bG ds μ Q→ds.length=2:=by
  unfold bG
  walk_at "ln"
def xf:STr:=aA (oA 2 3 (af (ah 0) (af (ah 1) (ar)))) (aA (uO (TB (aj rGt (ah 3) (TC (.int 0)))) (oA 2 3 (af (ah 3) (af (aj lJ (ah 2) (ah 3)) (ar))))) (aW (bc (af (aj mL (ah 0) (ah 2)) (af (aj mL (ah 1) (ah 2)) (ar))))))
theorem DE:∀ ds μ Q,bG ds μ Q→xf { nx:=fun _ μ'=>RT Q .non μ',rt:=RT Q } (ini 4 ds) μ:=by
  intro ds μ Q h
  unfold bG at h
  split at h
  case h_2=>exact h.elim
  rename_i a b
  walk_at "ini"
  unfold xf
  walk_at "go"
  obtain ⟨⟨a0,b0,b1⟩,k⟩:=h
  refine ⟨fun ρ μ'=>μ'=μ∧∃ x y:Int,ρ=[some (.int a),some (.int b),some (.int x),some (.int y)]∧0≤x∧0≤y∧Int.gcd x y=Int.gcd a b,mz 3,⟨rfl,a,b,rfl,a0,by omega,rfl⟩,?_⟩
  rintro ρ _ ⟨rfl,x,y,rfl,x0,y0,e⟩
  walk_at "go"
  refine kif (fun hy=>?_) fun hy=>?_
  · walk_at "go"
    refine ⟨by omega,⟨_,_,rfl,y0,fm0 hy,?_⟩,?_⟩
    · rw[wb];exact e
    · have:=fm1 (a:=x) hy
      have:=fm0 (a:=x) hy
      simp only[mz,lk]
      omega
  · have hy0:y=0:=by omega
    subst hy0
    rw[Int.gcd_zero_right] at e
    have hx:x=(Int.gcd a b:Int):=by omega
    subst hx
    have gp:0 < Int.gcd a b:=Int.gcd_pos_of_ne_zero_right a (by omega)
    have gl:(Int.gcd a b:Int)≤b:=Int.gcd_le_right a b0
    have dv:ji (Int.gcd a b:Int):=⟨by omega,by unfold gx at *;omega⟩
    walk_at "go"
    exact ⟨dv,dv,_,.refl _,k⟩
def bM:FSp:=fun ds μ Q=>match ds with
  | [.obj b,.int lo,.int hi]=>(Pot μ b∧0≤lo∧lo≤hi∧hi≤60)∧∀ p q μ',FrB lo hi p q→q≤7→d8 b μ μ'→Q (fr p q) μ'
  | _=>False
theorem rT:∀ ds μ Q,bM ds μ Q→ds.length=3:=by
  unfold bM
  walk_at "ln"
def nr:STr:=aA (aN (aj L3.rIx (fT (af (TC (.int 1)) (af (TC (.int 1)) (af (TC (.int 2)) (af (TC (.int 3)) (af (TC (.int 5)) (af (TC (.int 7)) (ar)))))))) (aq ay (af (ah 0) (af (TC (.int 6)) (ar))))) (aw 3)) (aW (aq bG (af (aj aP (aj eQ (ah 1) (ah 3)) (aq ay (af (ah 0) (af (aj aP (aj eQ (aj j8 (ah 2) (ah 1)) (ah 3)) (TC (.int 1))) (ar))))) (af (ah 3) (ar)))))
theorem vc:∀ ds μ Q,bM ds μ Q→nr { nx:=fun _ μ'=>RT Q .non μ',rt:=RT Q } (ini 4 ds) μ:=by
  intro ds μ Q h
  unfold bM at h
  split at h
  case h_2=>exact h.elim
  rename_i b lo hi
  walk_at "ini"
  unfold nr
  walk_at "go"
  obtain ⟨⟨hP,l0,l1,l2⟩,k⟩:=h
  refine aT hP (by decide) (by decide) fun k1 μ1 k10 k11 P1=>?_
  have al:∀ d∈([.int 1,.int 1,.int 2,.int 3,.int 5,.int 7]:List D),IsI 1 7 d:=aD ⟨_,rfl,by decide,by decide⟩ (aD ⟨_,rfl,by decide,by decide⟩ (aD ⟨_,rfl,by decide,by decide⟩ (aD ⟨_,rfl,by decide,by decide⟩ (aD ⟨_,rfl,by decide,by decide⟩ (aD ⟨_,rfl,by decide,by decide⟩ eU)))))
  obtain ⟨_,e1,m,rfl,m0,m1⟩:=fm al k10 k11
  walk_at "go"
  rw[e1]
  walk_at "go"
  have sm:S64 m:=by unfold S64;omega
  have n1:0≤(hi - lo)*m:=Int.mul_nonneg (by omega) (by omega)
  have n2:(hi - lo)*m≤60*7:=Int.mul_le_mul (by omega) (by omega) (by omega) (by decide)
  refine ⟨.inl (.inr sm),.inl (.inr sm),?_⟩
  refine aT P1.pot (by omega) (by omega) fun k2 μ2 k20 k21 P2=>?_
  walk_at "go"
  have n3:0≤lo*m:=Int.mul_nonneg l0 (by omega)
  have e2:(hi - lo)*m=hi*m - lo*m:=Int.sub_mul hi lo m
  refine ⟨⟨by omega,by omega,by unfold gx;omega⟩,_,.refl _,k _ _ μ2 (Gn (by omega) (by omega) (by omega) (by omega)) ?_ (P1.trans P2)⟩
  obtain ⟨g,p,q,g0,ea,eb,ep,eq,q0,qb,gg⟩:=jR (a:=lo*m+k2) (show 0 < m by omega)
  rw[eq];omega
theorem DA (w:Wd)(i:Decidable (w.str=Str.ofString "still")):@decide (w.str=Str.ofString "still") i=decide (w=.still):=by
  have e:(w.str=Str.ofString "still")↔w=.still:=by cases w<;>simp[Wd.str,dW,dj,dY,d7,eg,dU,eX,eR,dk,dN,ef,dO,dZ,eZ,dX,eO,dP,fc,d9,fb]
  cases i with
  | isTrue h=>exact (decide_eq_true (e.mp h)).symm
  | isFalse h=>exact (decide_eq_false fun z=>h (e.mpr z)).symm
theorem Eu (w:Wd)(i:Decidable (w.str=Str.ofString "step")):@decide (w.str=Str.ofString "step") i=decide (w=.step):=by
  have e:(w.str=Str.ofString "step")↔w=.step:=by cases w<;>simp[Wd.str,dW,dj,dY,d7,eg,dU,eX,eR,dk,dN,ef,dO,dZ,eZ,dX,eO,dP,fc,d9,fb]
  cases i with
  | isTrue h=>exact (decide_eq_true (e.mp h)).symm
  | isFalse h=>exact (decide_eq_false fun z=>h (e.mpr z)).symm
theorem C4 (w:Wd)(i:Decidable (w.str=Str.ofString "swell")):@decide (w.str=Str.ofString "swell") i=decide (w=.swell):=by
  have e:(w.str=Str.ofString "swell")↔w=.swell:=by cases w<;>simp[Wd.str,dW,dj,dY,d7,eg,dU,eX,eR,dk,dN,ef,dO,dZ,eZ,dX,eO,dP,fc,d9,fb]
  cases i with
  | isTrue h=>exact (decide_eq_true (e.mp h)).symm
  | isFalse h=>exact (decide_eq_false fun z=>h (e.mpr z)).symm
theorem F4 (w:Wd)(i:Decidable (w.str=Str.ofString "heed")):@decide (w.str=Str.ofString "heed") i=decide (w=.heed):=by
  have e:(w.str=Str.ofString "heed")↔w=.heed:=by cases w<;>simp[Wd.str,dW,dj,dY,d7,eg,dU,eX,eR,dk,dN,ef,dO,dZ,eZ,dX,eO,dP,fc,d9,fb]
  cases i with
  | isTrue h=>exact (decide_eq_true (e.mp h)).symm
  | isFalse h=>exact (decide_eq_false fun z=>h (e.mpr z)).symm
theorem Py (w:Wd):PyData.strOk w.str=true:=by cases w<;>simp[Wd.str,mF,pI,mq,qB,ro]
theorem Me {lo hi hi' p q:Int}(h:FrB lo hi p q)(hh:hi≤hi'):FrB lo hi' p q:=⟨h.q0,h.q1,h.g,h.ge,by have:=h.le;have:=Int.mul_le_mul_of_nonneg_right hh (Int.le_of_lt h.q0);omega⟩
def gy:FSp:=fun ds μ Q=>match ds with
  | [.obj b,.int m]=>(Pot μ b∧1≤m∧m≤60)∧∀ (R:RN) μ',R.Ok→R.r≤m*R.s→d8 b μ μ'→Q R.toD μ'
  | _=>False
theorem Cu:∀ ds μ Q,gy ds μ Q→ds.length=2:=by
  unfold gy
  walk_at "ln"
def kq:STr:=aA (aN (aj aP (TC (.int 1)) (aq ay (af (ah 0) (af (TC (.int 5)) (ar))))) (aw 5)) (aA (aN (aq bG (af (aj aP (TC (.int 1)) (aq ay (af (ah 0) (af (aj eQ (TC (.int 2)) (ah 5)) (ar))))) (af (ah 5) (ar)))) (aw 6)) (aA (aN (aq bG (af (aj aP (TC (.int 1)) (aq ay (af (ah 0) (af (ah 5) (ar))))) (af (aj aP (ah 5) (TC (.int 1))) (ar)))) (aw 7)) (aA (bR (TB (aj rEq (ah 2) (TC (.str "still")))) (aW (bc (af (ah 2) (af (ah 3) (ar))))) (ba)) (aA (bR (TB (aj rEq (ah 2) (TC (.str "step")))) (aW (bc (af (ah 2) (af (ah 3) (af (ah 6) (af (ah 7) (af (ah 4) (ar)))))))) (ba)) (aA (bR (TB (aj rEq (ah 2) (TC (.str "swell")))) (aW (bc (af (ah 2) (af (ah 3) (af (aq bG (af (aj aP (aj L3.rIx (ah 6) (TC (.int 0))) (aj L3.rIx (ah 6) (TC (.int 1)))) (af (aj L3.rIx (ah 6) (TC (.int 1))) (ar)))) (af (ah 7) (af (ah 4) (ar)))))))) (ba)) (aA (bR (TB (aj rEq (ah 2) (TC (.str "heed")))) (aW (bc (af (ah 2) (af (ah 3) (af (ah 6) (af (aq bG (af (aj aP (TC (.int 1)) (aq ay (af (ah 0) (af (ah 5) (ar))))) (af (ah 5) (ar)))) (af (ah 4) (ar)))))))) (ba)) (aA (aN (aq ay (af (ah 0) (af (TC (.int 4)) (ar)))) (aw 8)) (aW (bc (af (ah 2) (af (ah 3) (af (ah 6) (af (ah 8) (af (aj aP (ah 8) (aq ay (af (ah 0) (af (TC (.int 5)) (ar))))) (af (ah 4) (ar))))))))))))))))
def BS:STr:=aA (aN (aj L3.rIx (fT (af (TC (.str "still")) (af (TC (.str "step")) (af (TC (.str "swell")) (af (TC (.str "heed")) (af (TC (.str "calm")) (ar))))))) (aq ay (af (ah 0) (af (TC (.int 5)) (ar))))) (aw 2)) (aA (oA 3 4 (af (aq bM (af (ah 0) (af (TC (.int 1)) (af (ah 1) (ar))))) (af (aq bM (af (ah 0) (af (TC (.int 1)) (af (ah 1) (ar))))) (ar)))) (aA (bR (TB (aj rGt (aj eQ (aj L3.rIx (ah 3) (TC (.int 0))) (aj L3.rIx (ah 4) (TC (.int 1)))) (aj eQ (aj L3.rIx (ah 4) (TC (.int 0))) (aj L3.rIx (ah 3) (TC (.int 1)))))) (oA 3 4 (af (ah 4) (af (ah 3) (ar)))) (ba)) (kq)))
theorem EU:∀ ds μ Q,gy ds μ Q→BS { nx:=fun _ μ'=>RT Q .non μ',rt:=RT Q } (ini 9 ds) μ:=by
  intro ds μ Q h
  unfold gy at h
  split at h
  case h_2=>exact h.elim
  rename_i b m
  walk_at "ini"
  unfold BS
  walk_at "go"
  obtain ⟨⟨hP,m0,m1⟩,k⟩:=h
  refine aT hP (by decide) (by decide) fun k1 μ1 k10 k11 P1=>?_
  have al:∀ d∈([.str "still", .str "step", .str "swell", .str "heed", .str "calm"]:List D),∃ w:Wd,d=.str w.str:=aD ⟨.still,rfl⟩ (aD ⟨.step,rfl⟩ (aD ⟨.swell,rfl⟩ (aD ⟨.heed,rfl⟩ (aD ⟨.calm,rfl⟩ eU))))
  obtain ⟨_,e1,wd,rfl⟩:=fm al k10 k11
  walk_at "go"
  rw[e1]
  walk_at "go"
  refine ⟨⟨P1.pot,by decide,by omega,by omega⟩,fun p q μ2 F1 q7 P2=>?_⟩
  walk_at "go"
  refine ⟨⟨P2.pot,by decide,by omega,by omega⟩,fun r s μ3 F2 s7 P3=>?_⟩
  have sq:S64 q:=by have:=F1.q0;unfold S64;omega
  have ss:S64 s:=by have:=F2.q0;unfold S64;omega
  simp only[fr]
  walk_at "go"
  refine ⟨.inl (.inr ss),.inl (.inr sq),?_⟩
  have big:∀ (p q r s:Int) (μ3:Mu) (v5 v6 v7 v8:Option D),d8 b μ μ3→FrB 1 m p q→FrB 1 m r s→p*s≤r*q→
      kq { nx:=fun _ μ'=>RT Q .non μ',rt:=RT Q } [some (.obj b),some (.int m),some (.str wd.str),some (.tup [.int p,.int q]),some (.tup [.int r,.int s]),v5,v6,v7,v8] μ3:=by
    intro p q r s μ3 v5 v6 v7 v8 P3 F1 F2 wt
    have F1':FrB 1 60 p q:=Me F1 m1
    have F2':FrB 1 60 r s:=Me F2 m1
    have rs:r≤m*s:=F2.le
    have ps:p≤m*q:=F1.le
    unfold kq
    walk_at "go"
    refine aT P3.pot (by decide) (by decide) fun n μ4 n0 n1 P4=>?_
    walk_at "go"
    refine ⟨.inl (.inl (by unfold S64;decide)),?_⟩
    refine aT P4.pot (by omega) (by omega) fun u μ5 u0 u1 P5=>?_
    walk_at "go"
    refine ⟨⟨by omega,by omega,by unfold gx;omega⟩,?_⟩
    have U:=EM (lo:=0) (hi:=2) (a:=1+u) (b:=1+n) (by omega) (by omega) (by omega) (by omega)
    generalize (1+u).fdiv (Int.gcd (1+u) (1+n))=x at *
    generalize (1+n).fdiv (Int.gcd (1+u) (1+n))=y at *
    have y0:=U.q0
    have yb:=U.q1
    have xb:=U.le
    have x0:0 < x:=by have:=U.ab;omega
    have U60:FrA 0 60 x y:=⟨⟨U.q0,U.q1,U.g,U.ge,by omega⟩,U.ab⟩
    walk_at "go"
    refine aT P5.pot (by omega) (by omega) fun w μ6 w0 w1 P6=>?_
    walk_at "go"
    refine ⟨⟨by omega,by omega,by unfold gx;omega⟩,?_⟩
    have G:=Qj (hi:=1) (a:=1+w) (b:=1+n+1) (by omega) (by omega) (by omega) (by omega)
    generalize (1+w).fdiv (Int.gcd (1+w) (1+n+1))=a at *
    generalize (1+n+1).fdiv (Int.gcd (1+w) (1+n+1))=c at *
    have G1:=RU G
    have G2:a < c:=by have:=G.be;omega
    have P36:=P3.trans (P4.trans (P5.trans P6))
    walk_at "go"
    simp only[DA,Eu,C4,F4,Py]
    walk_at "go"
    cases wd with
    | still=>
      simp only[reduceCtorEq,decide_true,decide_false]
      walk_at "go"
      have R:RN.Ok ⟨.still,p,q,1,1,1,1,0,0,p,q⟩:=⟨F1',F1',Int.le_refl _,Em (by decide) (by decide),nofun,Em (by decide) (by decide),(fun z=>by rcases z with z | z<;>cases z),Int.le_refl 0,Int.le_refl 0,(show (0:Int)≤60 by decide),fun _=>⟨rfl,rfl⟩⟩
      exact ⟨_,.refl _,k _ μ6 R ps P36⟩
    | step=>
      simp only[reduceCtorEq,decide_true,decide_false]
      walk_at "go"
      have R:RN.Ok ⟨.step,p,q,x,y,a,c,0,0,r,s⟩:=⟨F1',F2',wt,U60,nofun,G1,fun _=>G2,Int.le_refl 0,Int.le_refl 0,(show (0:Int)≤60 by decide),nofun⟩
      exact ⟨_,.refl _,k _ μ6 R rs P36⟩
    | swell=>
      simp only[reduceCtorEq,decide_true,decide_false,fr]
      walk_at "go"
      refine ⟨⟨by omega,y0,by unfold gx;omega⟩,?_⟩
      have V:=EM (lo:=1) (hi:=60) (a:=x+y) (b:=y) y0 yb (by omega) (by omega)
      generalize (x+y).fdiv (Int.gcd (x+y) y)=x2 at *
      generalize y.fdiv (Int.gcd (x+y) y)=y2 at *
      have v1:=V.ab
      have vq:=V.q0
      have V2:FrA 0 60 x2 y2:=⟨⟨V.q0,V.q1,V.g,by omega,V.le⟩,by omega⟩
      have R:RN.Ok ⟨.swell,p,q,x2,y2,a,c,0,0,r,s⟩:=⟨F1',F2',wt,V2,fun _=>(by show y2 < x2;omega),G1,fun _=>G2,Int.le_refl 0,Int.le_refl 0,(show (0:Int)≤60 by decide),nofun⟩
      walk_at "go"
      exact ⟨_,.refl _,k _ μ6 R rs P36⟩
    | heed=>
      simp only[reduceCtorEq,decide_true,decide_false]
      walk_at "go"
      refine aT P6.pot (by omega) (by omega) fun z μ7 z0 z1 P7=>?_
      walk_at "go"
      refine ⟨⟨by omega,by omega,by unfold gx;omega⟩,?_⟩
      have V:=EM (lo:=0) (hi:=1) (a:=1+z) (b:=1+n) (by omega) (by omega) (by omega) (by omega)
      generalize (1+z).fdiv (Int.gcd (1+z) (1+n))=a2 at *
      generalize (1+n).fdiv (Int.gcd (1+z) (1+n))=c2 at *
      have R:RN.Ok ⟨.heed,p,q,x,y,a2,c2,0,0,r,s⟩:=⟨F1',F2',wt,U60,nofun,V,(fun z=>by rcases z with z | z<;>cases z),Int.le_refl 0,Int.le_refl 0,(show (0:Int)≤60 by decide),nofun⟩
      walk_at "go"
      exact ⟨_,.refl _,k _ μ7 R rs (P36.trans P7)⟩
    | calm=>
      simp only[reduceCtorEq,decide_true,decide_false]
      walk_at "go"
      refine aT P6.pot (by decide) (by decide) fun z μ7 z0 z1 P7=>?_
      walk_at "go"
      refine aT P7.pot (by decide) (by decide) fun z2 μ8 z20 z21 P8=>?_
      walk_at "go"
      have R:RN.Ok ⟨.calm,p,q,x,y,1,1,z,z+z2,r,s⟩:=⟨F1',F2',wt,U60,nofun,Em (by decide) (by decide),(fun z=>by rcases z with z | z<;>cases z),z0,(by show z≤z+z2;omega),(by show z+z2≤60;omega),nofun⟩
      exact ⟨_,.refl _,k _ μ8 R rs (P36.trans (P7.trans P8))⟩
  have P13:=P1.trans (P2.trans P3)
  refine kif (fun h1=>?_) fun h1=>?_
  · walk_at "go"
    exact big r s p q μ3 _ _ _ _ P13 F2 F1 (by omega)
  · exact big p q r s μ3 _ _ _ _ P13 F1 F2 (by omega)
abbrev wyD (ws:List Wy):List D:=ws.map Wy.toD
structure Sn where
  nm:Str
  rd:List Str
  bt:Int
  bg:Int
  mn:Option Int
  rl:RN
def Sn.toD (x:Sn):D:=.tup [.str x.nm,.tup (x.rd.map .str),.int x.bt,.int x.bg,cM x.mn,x.rl.toD]
abbrev snD (ss:List Sn):List D:=ss.map Sn.toD
structure Sn.Ok (wn:List Str) (m:Int) (x:Sn):Prop where
  n:PyData.strOk x.nm=true
  r0:x.rd≠[]
  r:x.rd.Sublist wn
  b0:1≤x.bt
  b1:x.bt≤8
  g0:0≤x.bg
  g1:x.bg≤1000000
  mm:∀ i,x.mn=some i→0≤i∧i≤1000000
  k:x.rl.Ok
  l:x.rl.r≤m*x.rl.s
structure Pn where
  g:Int
  ws:List Wy
  ss:List Sn
def Pn.toD (p:Pn):D:=.tup [.int p.g,.tup (wyD p.ws),.tup (snD p.ss)]
abbrev Pn.wn (p:Pn):List Str:=p.ws.map Wy.nm
abbrev Pn.sn (p:Pn):List Str:=p.ss.map Sn.nm
structure Pn.Ok (m:Int) (p:Pn):Prop where
  g:Gd p.g
  w0:0 < p.ws.length
  w1:p.ws.length≤6
  wd:p.wn.Nodup
  w:∀ x∈p.ws,x.Ok
  s1:p.ss.length≤8
  sd:p.sn.Pairwise fun a b=>ltS a b=true
  s:∀ x∈p.ss,x.Ok p.wn m
theorem LZ {a b:Str}(h:a.cps.toList=b.cps.toList):a=b:=by
  cases a with | mk x=>cases b with | mk y=>
  congr 1
  exact Array.toList_inj.mp h
theorem PB {a b:Str}(h1:ltS b a=false)(h2:a≠b):ltS a b=true:=by
  unfold ltS at *
  rw[decide_eq_false_iff_not,List.not_lt] at h1
  rw[decide_eq_true_eq]
  refine Decidable.byContradiction fun h3=>h2 (LZ (List.le_antisymm h1 ?_))
  exact List.not_lt.mp h3
theorem pw_strict {l:List Str}(h:l.Pairwise fun a b=>ltS b a=false)(hn:l.Nodup):l.Pairwise fun a b=>ltS a b=true:=by
  induction h with
  | nil=>exact .nil
  | @cons a l h1 h2 ih=>
    rw[List.nodup_cons] at hn
    exact .cons (fun b hb=>PB (h1 b hb) fun e=>hn.1 (e ▸ hb)) (ih hn.2)
def ip:FSp:=fun ds μ Q=>match ds with
  | [.obj b,.ls ns']=>∃ ns:List Str,(Pot μ b∧ns'=ns.map .str∧(∀ n∈ns,n∈cU)∧ns.length≤17)∧∀ (ws:List Wy) μ',ws.map Wy.nm=ns→(∀ w∈ws,w.Ok)→d8 b μ μ'→Q (.tup (wyD ws)) μ'
  | _=>False
theorem C6:∀ ds μ Q,ip ds μ Q→ds.length=2:=by
  unfold ip
  walk_at "ln"
def Ci:STr:=aA (aN (lY (ar)) (aw 2)) (aA (j7 (dH (ah 1)) (aw 3) (aA (aN (aj L3.rIx (fT (af (TC (.int 1)) (af (TC (.int 1)) (af (TC (.int 2)) (af (TC (.int 3)) (af (aj aP (TC (.int 1)) (aq ay (af (ah 0) (af (TC (.int 20)) (ar))))) (ar))))))) (aq ay (af (ah 0) (af (TC (.int 5)) (ar))))) (aw 4)) (aA (aN (aj L3.rIx (fT (af (aj aP (TC (.int 1)) (aq ay (af (ah 0) (af (TC (.int 3)) (ar))))) (af (aj aP (TC (.int 2)) (aq ay (af (ah 0) (af (TC (.int 8)) (ar))))) (af (aj aP (TC (.int 5)) (aq ay (af (ah 0) (af (TC (.int 56)) (ar))))) (ar))))) (aq ay (af (ah 0) (af (TC (.int 3)) (ar))))) (aw 5)) (aA (aN (aj L3.rIx (fT (af (TC .non) (af (aq ay (af (ah 0) (af (aj aP (ah 5) (TC (.int 1))) (ar)))) (af (aq ay (af (ah 0) (af (TC (.int 61)) (ar)))) (ar))))) (aq ay (af (ah 0) (af (TC (.int 3)) (ar))))) (aw 6)) (fG (lR (ah 2) (bc (af (ah 3) (af (ah 4) (af (ah 5) (af (ah 6) (af (aj L3.rIx (fT (af (TC (.str "line")) (af (TC (.str "turns")) (ar)))) (aq ay (af (ah 0) (af (TC (.int 2)) (ar))))) (ar))))))))))))) (aW (aq bh (af (ah 2) (ar)))))
theorem E5:∀ ds μ Q,ip ds μ Q→Ci { nx:=fun _ μ'=>RT Q .non μ',rt:=RT Q } (ini 7 ds) μ:=by
  intro ds μ Q h
  unfold ip at h
  split at h
  case h_2=>exact h.elim
  rename_i b ns'
  walk_at "ini"
  unfold Ci
  walk_at "go"
  obtain ⟨ns,⟨hP,rfl,hn,hl⟩,k⟩:=h
  intro p hp
  have pb:=hP.ne hp
  walk_at "go"
  refine cW (fun r ρ μ'=>∃ (ws:List Wy) (rs:List Str) (v3 v4 v5 v6:Option D),r=rs.map .str∧ρ=[some (.obj b),some (.ls (ns.map .str)),some (.obj p),v3,v4,v5,v6]∧μ' p=some (.lst (wyD ws))∧Pot μ' b∧Kp b μ μ'∧(∀ w∈ws,w.Ok)∧ws.map Wy.nm++rs=ns) ?_ ?_ _ _ _ ⟨[],ns,_,_,_,_,rfl,rfl,aG,hP.up pb,Kp.new hp,(fun _ h=>nomatch h),rfl⟩
  · rintro ρ μ' ⟨ws,rs,v3,v4,v5,v6,er,rfl,ep,P',kp,hw,e⟩
    have:rs=[]:=by cases rs with | nil=>rfl | cons=>cases er
    subst this
    rw[List.append_nil] at e
    walk_at "go"
    exact bo ep (KR P' kp fun μ2 P2=>k ws μ2 e hw P2)
  · rintro d r ρ μ' N ⟨ws,rs,v3,v4,v5,v6,er,rfl,ep,P',kp,hw,e⟩ hN
    cases rs with
    | nil=>cases er
    | cons n rs=>
    cases er
    have hnn:n∈cU:=hn n (by rw[← e];simp)
    have hlen:ws.length≤17:=by have:=congrArg List.length e;simp at this;omega
    walk_at "go"
    refine aT P' (by decide) (by decide) fun k1 μ1 k10 k11 P1=>?_
    walk_at "go"
    refine aT P1.pot (by decide) (by decide) fun k2 μ2 k20 k21 P2=>?_
    have al:∀ d∈([.int 1,.int 1,.int 2,.int 3,.int (1+k1)]:List D),IsI 1 20 d:=aD ⟨_,rfl,by decide,by decide⟩ (aD ⟨_,rfl,by decide,by decide⟩ (aD ⟨_,rfl,by decide,by decide⟩ (aD ⟨_,rfl,by decide,by decide⟩ (aD ⟨_,rfl,by omega,by omega⟩ eU))))
    obtain ⟨_,e1,pc,rfl,pc0,pc1⟩:=fm al k20 k21
    walk_at "go"
    rw[e1]
    walk_at "go"
    refine aT P2.pot (by decide) (by decide) fun k3 μ3 k30 k31 P3=>?_
    walk_at "go"
    refine aT P3.pot (by decide) (by decide) fun k4 μ4 k40 k41 P4=>?_
    walk_at "go"
    refine aT P4.pot (by decide) (by decide) fun k5 μ5 k50 k51 P5=>?_
    walk_at "go"
    refine aT P5.pot (by decide) (by decide) fun k6 μ6 k60 k61 P6=>?_
    have al2:∀ d∈([.int (1+k3),.int (2+k4),.int (5+k5)]:List D),IsI 1 60 d:=aD ⟨_,rfl,by omega,by omega⟩ (aD ⟨_,rfl,by omega,by omega⟩ (aD ⟨_,rfl,by omega,by omega⟩ eU))
    obtain ⟨_,e2,rm,rfl,rm0,rm1⟩:=fm al2 k60 k61
    walk_at "go"
    rw[e2]
    walk_at "go"
    refine aT P6.pot (by omega) (by omega) fun k7 μ7 k70 k71 P7=>?_
    walk_at "go"
    refine aT P7.pot (by decide) (by decide) fun k8 μ8 k80 k81 P8=>?_
    walk_at "go"
    refine aT P8.pot (by decide) (by decide) fun k9 μ9 k90 k91 P9=>?_
    have al3:∀ d∈([.non,.int k7,.int k8]:List D),∃ o:Option Int,d=cM o∧∀ i,o=some i→0≤i∧i≤60:=aD ⟨none,rfl,nofun⟩ (aD ⟨some _,rfl,fun i e=>by cases e;omega⟩ (aD ⟨some _,rfl,fun i e=>by cases e;omega⟩ eU))
    obtain ⟨_,e3,o,rfl,ho⟩:=fm al3 k90 k91
    walk_at "go"
    rw[e3]
    walk_at "go"
    have P19:=P1.trans (P2.trans (P3.trans (P4.trans (P5.trans (P6.trans (P7.trans (P8.trans P9)))))))
    have ep9:μ9 p=some (.lst (wyD ws)):=by rw[P19.oth p pb];exact ep
    refine bo ep9 ?_
    refine aT P9.pot (by decide) (by decide) fun k11 μ10 k110 k111 P10=>?_
    have al4:∀ d∈([.str "line", .str "turns"]:List D),∃ t:Bool,d=.str (wM t):=aD ⟨false,rfl⟩ (aD ⟨true,rfl⟩ eU)
    obtain ⟨_,e4,tn,rfl⟩:=fm al4 k110 k111
    walk_at "go"
    rw[e4]
    walk_at "go"
    have ep10:μ10 p=some (.lst (wyD ws)):=by rw[P10.oth p pb];exact ep9
    refine bo ep10 ⟨by simp;omega,hN _ _ ⟨ws++[⟨n,pc,rm,o,tn⟩],rs,_,_,_,_,rfl,rfl,?_,P10.pot.up pb,((kp.trans P19.kp).trans P10.kp).put hp,?_,?_⟩⟩
    · rw[aG];simp[wyD,Wy.toD]
    · intro x hx
      rcases List.mem_append.mp hx with z | z
      · exact hw x z
      · have:x=⟨n,pc,rm,o,tn⟩:=by simpa using z
        subst this
        exact ⟨Gu _ hnn,pc0,pc1,rm0,rm1,ho⟩
    · rw[← e];simp
theorem sub_snoc {α:Type}{a b:List α}(h:a.Sublist b)(x:α):(a++[x]).Sublist (b++[x]):=h.append (List.Sublist.refl _)
def fj:FSp:=fun ds μ Q=>match ds with
  | [.obj b,.str n,.tup ws',.int m]=>∃ ws:List Wy,(Pot μ b∧n∈cU∧ws'=wyD ws∧(0 < ws.length∧ws.length≤17)∧1≤m∧m≤60)∧∀ (x:Sn) μ',x.Ok (ws.map Wy.nm) m→x.nm=n→d8 b μ μ'→Q x.toD μ'
  | _=>False
theorem vp:∀ ds μ Q,fj ds μ Q→ds.length=4:=by
  unfold fj
  walk_at "ln"
def iH:STr:=aA (aN (aj L3.rIx (fT (af (TC (.int 1)) (af (TC (.int 1)) (af (TC (.int 2)) (af (TC (.int 3)) (af (aj aP (TC (.int 1)) (aq ay (af (ah 0) (af (TC (.int 8)) (ar))))) (ar))))))) (aq ay (af (ah 0) (af (TC (.int 5)) (ar))))) (aw 5)) (aA (aN (aj L3.rIx (fT (af (TC .non) (af (TC .non) (af (aq ay (af (ah 0) (af (TC (.int 4)) (ar)))) (af (aq ay (af (ah 0) (af (TC (.int 40)) (ar)))) (ar)))))) (aq ay (af (ah 0) (af (TC (.int 4)) (ar))))) (aw 6)) (aW (bc (af (ah 1) (af (ah 4) (af (ah 5) (af (aj L3.rIx (fT (af (TC (.int 0)) (af (TC (.int 0)) (af (aq ay (af (ah 0) (af (TC (.int 3)) (ar)))) (af (aq ay (af (ah 0) (af (TC (.int 12)) (ar)))) (ar)))))) (aq ay (af (ah 0) (af (TC (.int 4)) (ar))))) (af (ah 6) (af (aq gy (af (ah 0) (af (ah 3) (ar)))) (ar))))))))))
def tE:STr:=aA (aN (aq bh (af (bE (dH (ah 2)) (aw 0) (TB (aj rEq (aq ay (af (ah 1) (af (TC (.int 2)) (ar)))) (TC (.int 0)))) (aj L3.rIx (ah 0) (TC (.int 0))) 1 [0]) (ar))) (aw 4)) (aA (bR (TB (aj rEq (aq c7 (af (ah 4) (ar))) (TC (.int 0)))) (aN (bc (af (aj L3.rIx (aj L3.rIx (ah 2) (aq ay (af (ah 0) (af (aq c7 (af (ah 2) (ar))) (ar))))) (TC (.int 0))) (ar))) (aw 4)) (ba)) (iH))
theorem Al:∀ ds μ Q,fj ds μ Q→tE { nx:=fun _ μ'=>RT Q .non μ',rt:=RT Q } (ini 7 ds) μ:=by
  intro ds μ Q h
  unfold fj at h
  split at h
  case h_2=>exact h.elim
  rename_i b n ws' m
  walk_at "ini"
  unfold tE
  walk_at "go"
  obtain ⟨ws,⟨hP,hn,rfl,⟨w0,w1⟩,m0,m1⟩,k⟩:=h
  have rest:∀ (rd:List Str) (μ1:Mu) (v5 v6:Option D),d8 b μ μ1→rd≠[]→rd.Sublist (ws.map Wy.nm)→iH { nx:=fun _ μ'=>RT Q .non μ',rt:=RT Q } [some (.obj b),some (.str n),some (.tup (wyD ws)),some (.int m),some (.tup (rd.map .str)),v5,v6] μ1:=by
    intro rd μ0 v5 v6 P0 rd0 rds
    unfold iH
    walk_at "go"
    refine aT P0.pot (by decide) (by decide) fun k1 μ1 k10 k11 P1=>?_
    walk_at "go"
    refine aT P1.pot (by decide) (by decide) fun k2 μ2 k20 k21 P2=>?_
    have al:∀ d∈([.int 1,.int 1,.int 2,.int 3,.int (1+k1)]:List D),IsI 1 8 d:=aD ⟨_,rfl,by decide,by decide⟩ (aD ⟨_,rfl,by decide,by decide⟩ (aD ⟨_,rfl,by decide,by decide⟩ (aD ⟨_,rfl,by decide,by decide⟩ (aD ⟨_,rfl,by omega,by omega⟩ eU))))
    obtain ⟨_,e1,bt,rfl,bt0,bt1⟩:=fm al k20 k21
    walk_at "go"
    rw[e1]
    walk_at "go"
    refine aT P2.pot (by decide) (by decide) fun k3 μ3 k30 k31 P3=>?_
    walk_at "go"
    refine aT P3.pot (by decide) (by decide) fun k4 μ4 k40 k41 P4=>?_
    walk_at "go"
    refine aT P4.pot (by decide) (by decide) fun k5 μ5 k50 k51 P5=>?_
    have al3:∀ d∈([.non,.non,.int k3,.int k4]:List D),∃ o:Option Int,d=cM o∧∀ i,o=some i→0≤i∧i≤1000000:=aD ⟨none,rfl,nofun⟩ (aD ⟨none,rfl,nofun⟩ (aD ⟨some _,rfl,fun i e=>by cases e;omega⟩ (aD ⟨some _,rfl,fun i e=>by cases e;omega⟩ eU)))
    obtain ⟨_,e3,o,rfl,ho⟩:=fm al3 k50 k51
    walk_at "go"
    rw[e3]
    walk_at "go"
    refine aT P5.pot (by decide) (by decide) fun k6 μ6 k60 k61 P6=>?_
    walk_at "go"
    refine aT P6.pot (by decide) (by decide) fun k7 μ7 k70 k71 P7=>?_
    walk_at "go"
    refine aT P7.pot (by decide) (by decide) fun k8 μ8 k80 k81 P8=>?_
    have al4:∀ d∈([.int 0,.int 0,.int k6,.int k7]:List D),IsI 0 1000000 d:=aD ⟨_,rfl,by decide,by decide⟩ (aD ⟨_,rfl,by decide,by decide⟩ (aD ⟨_,rfl,by omega,by omega⟩ (aD ⟨_,rfl,by omega,by omega⟩ eU)))
    obtain ⟨_,e4,bg,rfl,bg0,bg1⟩:=fm al4 k80 k81
    walk_at "go"
    rw[e4]
    walk_at "go"
    refine ⟨⟨P8.pot,m0,m1⟩,fun R μ9 K L P9=>?_⟩
    walk_at "go"
    exact ⟨_,.refl _,k ⟨n,rd,bt,bg,o,R⟩ μ9 ⟨Gu _ hn,rd0,rds,bt0,bt1,bg0,bg1,ho,K,L⟩ rfl (P0.trans (P1.trans (P2.trans (P3.trans (P4.trans (P5.trans (P6.trans (P7.trans (P8.trans P9)))))))))⟩
  refine rA hP (fun r zs=>∃ (rd:List Str) (a c:List Wy),zs=rd.map .str∧r=wyD c∧a++c=ws∧rd.Sublist (a.map Wy.nm)) ⟨[],[],ws,rfl,rfl,rfl,List.Sublist.refl _⟩ (by simp;omega) ?_ ?_
  · rintro d r zs μ' P' _ ⟨rd,a,c,rfl,er,ea,hs⟩ N hN
    cases c with
    | nil=>cases er
    | cons x c=>
    cases er
    walk_at "go"
    refine aT P' (by decide) (by decide) fun k1 μ2 k10 k11 P2=>?_
    walk_at "go"
    refine kif (fun _=>hN (some (.str x.nm)) μ2 ⟨rd++[x.nm],a++[x],c,by simp,rfl,by simp[ea],?_⟩ P2) fun _=>hN none μ2 ⟨rd,a++[x],c,by simp,rfl,by simp[ea],?_⟩ P2
    · rw[List.map_append];exact sub_snoc hs _
    · rw[List.map_append];exact hs.trans (List.sublist_append_left _ _)
  · rintro zs μ1 ⟨rd,a,c,rfl,er,ea,hs⟩ P1
    have:c=[]:=by cases c with | nil=>rfl | cons=>cases er
    subst this
    rw[List.append_nil] at ea
    subst ea
    walk_at "go"
    rw[List.length_map]
    refine kif (fun h0=>?_) fun h0=>?_
    · walk_at "go"
      rw[List.length_map]
      refine aT P1.pot (by omega) (by omega) fun k2 μ2 k20 k21 P2=>?_
      have hc:k2.toNat < a.length:=by omega
      walk_at "go"
      rw[K3 k20,List.getElem?_map,List.getElem?_eq_getElem hc]
      walk_at "go"
      simp only[Option.map_some]
      walk_at "go"
      exact rest [a[k2.toNat].nm] μ2 _ _ (P1.trans P2) (by simp) (List.singleton_sublist.mpr (List.mem_map.mpr ⟨_,List.getElem_mem hc,rfl⟩))
    · exact rest rd μ1 _ _ P1 (fun z=>h0 (by rw[z];rfl)) hs
def hV:FSp:=fun ds μ Q=>match ds with
  | [.obj b]=>Pot μ b∧∀ (p:Pn) (m:Int) μ',p.Ok m→(1≤m∧m≤60)→d8 b μ μ'→Q p.toD μ'
  | _=>False
theorem DQ:∀ ds μ Q,hV ds μ Q→ds.length=1:=by
  unfold hV
  walk_at "ln"
def Cm:STr:=aA (aN (aj L3.rIx (fT (af (TC (.int 1)) (af (TC (.int 2)) (af (TC (.int 3)) (af (aj aP (TC (.int 1)) (aq ay (af (ah 0) (af (TC (.int 60)) (ar))))) (ar)))))) (aq ay (af (ah 0) (af (TC (.int 4)) (ar))))) (aw 1)) (aA (aN (aq ip (af (ah 0) (af (aq fh (af (ah 0) (af (aj L3.rIx (fT (af (TC (.int 1)) (af (TC (.int 1)) (af (TC (.int 2)) (af (TC (.int 2)) (af (TC (.int 3)) (af (TC (.int 6)) (ar)))))))) (aq ay (af (ah 0) (af (TC (.int 6)) (ar))))) (ar)))) (ar)))) (aw 2)) (aA (aN (aj L3.rIx (fT (af (TC (.int 2)) (af (TC (.int 4)) (af (TC (.int 12)) (af (TC (.int 12)) (af (TC (.int 60)) (ar))))))) (aq ay (af (ah 0) (af (TC (.int 5)) (ar))))) (aw 3)) (aA (aN (aq fh (af (ah 0) (af (aj L3.rIx (fT (af (TC (.int 0)) (af (TC (.int 1)) (af (TC (.int 1)) (af (TC (.int 2)) (af (TC (.int 2)) (af (TC (.int 3)) (af (TC (.int 3)) (af (TC (.int 8)) (ar)))))))))) (aq ay (af (ah 0) (af (TC (.int 8)) (ar))))) (ar)))) (aw 4)) (aW (bc (af (ah 1) (af (ah 2) (af (aq bh (af (bE (dH (aq yJ (af (ah 4) (ar)))) (aw 0) (dm) (aq fj (af (ah 1) (af (ah 0) (af (ah 2) (af (ah 3) (ar)))))) 1 [0,2,3]) (ar))) (ar)))))))))
theorem EN:∀ ds μ Q,hV ds μ Q→Cm { nx:=fun _ μ'=>RT Q .non μ',rt:=RT Q } (ini 5 ds) μ:=by
  intro ds μ Q h
  unfold hV at h
  split at h
  case h_2=>exact h.elim
  rename_i b
  walk_at "ini"
  unfold Cm
  walk_at "go"
  obtain ⟨hP,k⟩:=h
  refine aT hP (by decide) (by decide) fun k1 μ1 k10 k11 P1=>?_
  walk_at "go"
  refine aT P1.pot (by decide) (by decide) fun k2 μ2 k20 k21 P2=>?_
  have al:∀ d∈([.int 1,.int 2,.int 3,.int (1+k1)]:List D),IsI 1 60 d:=aD ⟨_,rfl,by decide,by decide⟩ (aD ⟨_,rfl,by decide,by decide⟩ (aD ⟨_,rfl,by decide,by decide⟩ (aD ⟨_,rfl,by omega,by omega⟩ eU)))
  obtain ⟨_,e1,g,rfl,g0,g1⟩:=fm al k20 k21
  walk_at "go"
  rw[e1]
  walk_at "go"
  refine aT P2.pot (by decide) (by decide) fun k3 μ3 k30 k31 P3=>?_
  have al2:∀ d∈([.int 1,.int 1,.int 2,.int 2,.int 3,.int 6]:List D),IsI 1 6 d:=aD ⟨_,rfl,by decide,by decide⟩ (aD ⟨_,rfl,by decide,by decide⟩ (aD ⟨_,rfl,by decide,by decide⟩ (aD ⟨_,rfl,by decide,by decide⟩ (aD ⟨_,rfl,by decide,by decide⟩ (aD ⟨_,rfl,by decide,by decide⟩ eU)))))
  obtain ⟨_,e2,nw,rfl,nw0,nw1⟩:=fm al2 k30 k31
  walk_at "go"
  rw[e2]
  walk_at "go"
  refine ⟨⟨P3.pot,by omega,by omega⟩,fun ns μ4 ln nd nw' P4=>?_⟩
  walk_at "go"
  refine ⟨ns,⟨P4.pot,rfl,nw',by omega⟩,fun ws μ5 ew hw P5=>?_⟩
  have lw:(ws.length:Int)=nw:=by have:=congrArg List.length ew;simp at this;omega
  walk_at "go"
  refine aT P5.pot (by decide) (by decide) fun k6 μ6 k60 k61 P6=>?_
  have al3:∀ d∈([.int 2,.int 4,.int 12,.int 12,.int 60]:List D),IsI 1 60 d:=aD ⟨_,rfl,by decide,by decide⟩ (aD ⟨_,rfl,by decide,by decide⟩ (aD ⟨_,rfl,by decide,by decide⟩ (aD ⟨_,rfl,by decide,by decide⟩ (aD ⟨_,rfl,by decide,by decide⟩ eU))))
  obtain ⟨_,e3,m,rfl,m0,m1⟩:=fm al3 k60 k61
  walk_at "go"
  rw[e3]
  walk_at "go"
  refine aT P6.pot (by decide) (by decide) fun k7 μ7 k70 k71 P7=>?_
  have al4:∀ d∈([.int 0,.int 1,.int 1,.int 2,.int 2,.int 3,.int 3,.int 8]:List D),IsI 0 8 d:=aD ⟨_,rfl,by decide,by decide⟩ (aD ⟨_,rfl,by decide,by decide⟩ (aD ⟨_,rfl,by decide,by decide⟩ (aD ⟨_,rfl,by decide,by decide⟩ (aD ⟨_,rfl,by decide,by decide⟩ (aD ⟨_,rfl,by decide,by decide⟩ (aD ⟨_,rfl,by decide,by decide⟩ (aD ⟨_,rfl,by decide,by decide⟩ eU)))))))
  obtain ⟨_,e4,n8,rfl,n80,n81⟩:=fm al4 k70 k71
  walk_at "go"
  rw[e4]
  walk_at "go"
  refine ⟨⟨P7.pot,by omega,by omega⟩,fun sn μ8 ls sd sw P8=>?_⟩
  walk_at "go"
  refine ⟨sn,⟨rfl,by omega⟩,fun sn' hp hs=>?_⟩
  have ls':sn'.length=sn.length:=hp.length_eq
  have sd':=pw_strict hs (hp.nodup_iff.mpr sd)
  walk_at "go"
  refine rA P8.pot (fun r zs=>∃ (xs:List Sn) (rs:List Str),zs=snD xs∧r=rs.map .str∧xs.map Sn.nm++rs=sn'∧∀ x∈xs,x.Ok (ws.map Wy.nm) m) ⟨[],sn',rfl,rfl,rfl,fun _ h=>nomatch h⟩ (by rw[List.length_map];omega) ?_ ?_
  · rintro d r zs μ' P' _ ⟨xs,rs,rfl,er,ex,hx⟩ N hN
    cases rs with
    | nil=>cases er
    | cons n rs=>
    cases er
    have hn:n∈cU:=sw n (hp.mem_iff.mp (by rw[← ex];simp))
    walk_at "go"
    refine ⟨ws,⟨P',hn,rfl,⟨by omega,by omega⟩,m0,m1⟩,fun x μ2 X en P2=>hN (some x.toD) μ2 ⟨xs++[x],rs,by simp[snD],rfl,by rw[← ex];simp[en],fun y hy=>?_⟩ P2⟩
    rcases List.mem_append.mp hy with z | z
    · exact hx y z
    · have:y=x:=by simpa using z
      subst this;exact X
  · rintro zs μ9 ⟨xs,rs,rfl,er,ex,hx⟩ P9
    have:rs=[]:=by cases rs with | nil=>rfl | cons=>cases er
    subst this
    rw[List.append_nil] at ex
    have lx:xs.length=sn.length:=by have:=congrArg List.length ex;simp at this;omega
    walk_at "go"
    exact ⟨_,.refl _,k ⟨g,ws,xs⟩ m μ9 ⟨⟨g0,g1⟩,(by show 0 < ws.length;omega),(by show ws.length≤6;omega),(by show (ws.map Wy.nm).Nodup;rw[ew];exact nd),hw,(by show xs.length≤8;omega),(by show (xs.map Sn.nm).Pairwise _;rw[ex];exact sd'),hx⟩ ⟨m0,m1⟩ (P1.trans (P2.trans (P3.trans (P4.trans (P5.trans (P6.trans (P7.trans (P8.trans P9))))))))⟩
def dR (a b:Int):D:=fr (a.fdiv (Int.gcd a b)) (b.fdiv (Int.gcd a b))
theorem NY (a:Int){b:Int}(b0:0 < b):Vl (dR a b) a b:=ND a b0
theorem D6 {d:D}{a b:Int}(h:Vl d a b):d=dR a b:=h.uniq (NY a h.b0)
theorem OY {g:Int}(g0:0 < g):dR 0 g=fr 0 1:=by
  unfold dR
  rw[Int.gcd_zero_left,Int.zero_fdiv]
  have:((g.natAbs:Nat):Int)=g:=by omega
  rw[this,jn g0,Int.ediv_self (by omega)]
abbrev cI (ns:List Int):List D:=ns.map .int
structure Ws where
  cm:List Lt
  st:List Lt
  la:Str
def Ws.toD (x:Ws):D:=.tup [.tup (ltD x.cm),.tup (ltD x.st),.str x.la]
abbrev wsD (xs:List Ws):List D:=xs.map Ws.toD
structure Ss where
  nm:Str
  du:Option Int
  W:Int
  S:Int
  nx:Int
  lf:Option Int
  ag:List Int
  lo:List Int
  gd:Int
  mk':Int
  wt:Int
def Ss.toD (g:Int)(x:Ss):D:=.tup [.str x.nm,cM x.du,dR x.W g,dR x.S g,.int x.nx,cM x.lf,.tup (cI x.ag),.tup (cI x.lo),.int x.gd,.int x.mk',.int x.wt]
abbrev ssD (g:Int)(xs:List Ss):List D:=xs.map (Ss.toD g)
structure St' where
  ws:List Ws
  ss:List Ss
def St'.toD (g:Int)(x:St'):D:=.tup [.tup (wsD x.ws),.tup (ssD g x.ss)]
def Sn.beg (g:Int)(x:Sn):Ss:=⟨x.nm,some x.bg,x.rl.p*g / x.rl.q,0,0,x.mn,[],[],0,0,0⟩
def Pn.beg (p:Pn):St':=⟨p.ws.map fun _=>⟨[],[],Str.ofString ""⟩,p.ss.map (Sn.beg p.g)⟩
theorem SH (x:Sn)(μ:Mu)(Q:DK):L3.rIx x.toD (.int 0) μ Q=Q (.str x.nm) μ:=propext Iff.rfl
theorem Sz (x:Sn)(μ:Mu)(Q:DK):L3.rIx x.toD (.int 1) μ Q=Q (.tup (x.rd.map .str)) μ:=propext Iff.rfl
theorem Sk (x:Sn)(μ:Mu)(Q:DK):L3.rIx x.toD (.int 2) μ Q=Q (.int x.bt) μ:=propext Iff.rfl
theorem TN (x:Sn)(μ:Mu)(Q:DK):L3.rIx x.toD (.int 3) μ Q=Q (.int x.bg) μ:=propext Iff.rfl
theorem S7 (x:Sn)(μ:Mu)(Q:DK):L3.rIx x.toD (.int 4) μ Q=Q (cM x.mn) μ:=propext Iff.rfl
theorem Tn (x:Sn)(μ:Mu)(Q:DK):L3.rIx x.toD (.int 5) μ Q=Q (x.rl.toD) μ:=propext Iff.rfl
theorem TF (x:Pn)(μ:Mu)(Q:DK):L3.rIx x.toD (.int 0) μ Q=Q (.int x.g) μ:=propext Iff.rfl
theorem S5 (x:Pn)(μ:Mu)(Q:DK):L3.rIx x.toD (.int 1) μ Q=Q (.tup (wyD x.ws)) μ:=propext Iff.rfl
theorem Tf (x:Pn)(μ:Mu)(Q:DK):L3.rIx x.toD (.int 2) μ Q=Q (.tup (snD x.ss)) μ:=propext Iff.rfl
theorem SJ (x:Ws)(μ:Mu)(Q:DK):L3.rIx x.toD (.int 0) μ Q=Q (.tup (ltD x.cm)) μ:=propext Iff.rfl
theorem S2 (x:Ws)(μ:Mu)(Q:DK):L3.rIx x.toD (.int 1) μ Q=Q (.tup (ltD x.st)) μ:=propext Iff.rfl
theorem T9 (x:Ws)(μ:Mu)(Q:DK):L3.rIx x.toD (.int 2) μ Q=Q (.str x.la) μ:=propext Iff.rfl
theorem Sl (g:Int)(x:Ss)(μ:Mu)(Q:DK):L3.rIx (x.toD g) (.int 0) μ Q=Q (.str x.nm) μ:=propext Iff.rfl
theorem S4 (g:Int)(x:Ss)(μ:Mu)(Q:DK):L3.rIx (x.toD g) (.int 1) μ Q=Q (cM x.du) μ:=propext Iff.rfl
theorem Tg (g:Int)(x:Ss)(μ:Mu)(Q:DK):L3.rIx (x.toD g) (.int 2) μ Q=Q (dR x.W g) μ:=propext Iff.rfl
theorem Se (g:Int)(x:Ss)(μ:Mu)(Q:DK):L3.rIx (x.toD g) (.int 3) μ Q=Q (dR x.S g) μ:=propext Iff.rfl
theorem SX (g:Int)(x:Ss)(μ:Mu)(Q:DK):L3.rIx (x.toD g) (.int 4) μ Q=Q (.int x.nx) μ:=propext Iff.rfl
theorem Sw (g:Int)(x:Ss)(μ:Mu)(Q:DK):L3.rIx (x.toD g) (.int 5) μ Q=Q (cM x.lf) μ:=propext Iff.rfl
theorem T5 (g:Int)(x:Ss)(μ:Mu)(Q:DK):L3.rIx (x.toD g) (.int 6) μ Q=Q (.tup (cI x.ag)) μ:=propext Iff.rfl
theorem SU (g:Int)(x:Ss)(μ:Mu)(Q:DK):L3.rIx (x.toD g) (.int 7) μ Q=Q (.tup (cI x.lo)) μ:=propext Iff.rfl
theorem Tr (g:Int)(x:Ss)(μ:Mu)(Q:DK):L3.rIx (x.toD g) (.int 8) μ Q=Q (.int x.gd) μ:=propext Iff.rfl
theorem So (g:Int)(x:Ss)(μ:Mu)(Q:DK):L3.rIx (x.toD g) (.int 9) μ Q=Q (.int x.mk') μ:=propext Iff.rfl
theorem RO (g:Int)(x:Ss)(μ:Mu)(Q:DK):L3.rIx (x.toD g) (.int 10) μ Q=Q (.int x.wt) μ:=propext Iff.rfl
theorem Sd (g:Int)(x:St')(μ:Mu)(Q:DK):L3.rIx (x.toD g) (.int 0) μ Q=Q (.tup (wsD x.ws)) μ:=propext Iff.rfl
theorem SS (g:Int)(x:St')(μ:Mu)(Q:DK):L3.rIx (x.toD g) (.int 1) μ Q=Q (.tup (ssD g x.ss)) μ:=propext Iff.rfl
def Qz:=Jn @SH <| Jn @Sz <| Jn @Sk <| Jn @TN <| Jn @S7 <| Jn @Tn <| Jn @TF <| Jn @S5 <| Jn @Tf <| Jn @SJ <| Jn @S2 <| Jn @T9 <| Jn @Sl <| Jn @S4 <| Jn @Tg <| Jn @Se <| Jn @SX <| Jn @Sw <| Jn @T5 <| Jn @SU <| Jn @Tr <| Jn @So <| Jn @RO <| Jn @Sd <| Jn @SS <| @Rj
local macro_rules | `(tactic| walk_at "go")=>`(tactic| try simp only[↓Qz,CO,↓wF,↓xu,↓wj,↓vm,↓xq,↓xY,↓jW,↓iA,cu,bU,cv,cq,cD,cB,cQ,cO,bT,cE,cw,cz,cF,cN,cy,cT,cC,cR,cA,cS,iP,uu,tM,fo,List.map_cons,List.map_nil,List.replicate,List.cons_append,List.nil_append,lk,DP,Ao,DW,DC,gq,sR,nD,tH,sS,mh,l8,jX,jS,j5,jY,true_and,and_true,and_self,Bool.not_true,Bool.not_false,decide_true,decide_false,Bool.or_true,Bool.or_false,Bool.true_or,Bool.false_or,Bool.and_false,Bool.false_and,Bool.and_true,Bool.true_and,Int.reduceToNat,Int.reducePow,Int.reduceNeg,Int.reduceSub,Int.reduceAdd,Int.reduceMul,Int.reduceEq,Int.reduceLT,Int.reduceLE,Int.reduceBEq,hX,fZ,fS,fW,f9,gj,fY,gi,if_true,if_false,Bool.false_eq_true,reduceCtorEq,decide_eq_true_eq])
def eL:FSp:=fun ds μ Q=>match ds with
  | [d,.int g]=>∃ R:RN,(d=R.toD∧R.Ok∧Gd g)∧Q (.tup [dR (R.p*g / R.q) g,dR 0 g]) μ
  | _=>False
theorem tN:∀ ds μ Q,eL ds μ Q→ds.length=2:=by
  unfold eL
  walk_at "ln"
def oZ:STr:=aW (bc (af (aq dq (af (aj L3.rIx (ah 0) (TC (.int 1))) (af (ah 1) (ar)))) (af (TC (.tup [.int 0,.int 1])) (ar))))
theorem wo:∀ ds μ Q,eL ds μ Q→oZ { nx:=fun _ μ'=>RT Q .non μ',rt:=RT Q } (ini 2 ds) μ:=by
  intro ds μ Q h
  unfold eL at h
  split at h
  case h_2=>exact h.elim
  rename_i d g
  walk_at "ini"
  unfold oZ
  walk_at "go"
  obtain ⟨R,⟨rfl,K,g0,g1⟩,k⟩:=h
  obtain ⟨xs,e,e0,e1,e3,e4⟩:=R.tup K.st
  have WB:=K.w.bd (by decide) (by decide)
  rw[e]
  walk_at "go"
  rw[vF,e1]
  walk_at "go"
  refine ⟨R.p,R.q,⟨iQ K.w,WB.1.mono (by decide),WB.2.mono (by decide),by omega,by omega⟩,fun w V=>?_⟩
  walk_at "go"
  rw[D6 V]
  rw[OY (show 0 < g by omega)] at k
  exact ⟨_,.refl _,k⟩
def bZ:FSp:=fun ds μ Q=>match ds with
  | [.int g,d]=>∃ x:Sn,(d=x.toD∧x.rl.Ok∧Gd g)∧Q ((x.beg g).toD g) μ
  | _=>False
theorem mI:∀ ds μ Q,bZ ds μ Q→ds.length=2:=by
  unfold bZ
  walk_at "ln"
def jI:STr:=aA (aN (aq eL (af (aj L3.rIx (ah 1) (TC (.int 5))) (af (ah 0) (ar)))) (aw 2)) (aW (bc (af (aj L3.rIx (ah 1) (TC (.int 0))) (af (aj L3.rIx (ah 1) (TC (.int 3))) (af (aj L3.rIx (ah 2) (TC (.int 0))) (af (aj L3.rIx (ah 2) (TC (.int 1))) (af (TC (.int 0)) (af (aj L3.rIx (ah 1) (TC (.int 4))) (af (bc (ar)) (af (bc (ar)) (af (TC (.int 0)) (af (TC (.int 0)) (af (TC (.int 0)) (ar))))))))))))))
theorem nZ:∀ ds μ Q,bZ ds μ Q→jI { nx:=fun _ μ'=>RT Q .non μ',rt:=RT Q } (ini 3 ds) μ:=by
  intro ds μ Q h
  unfold bZ at h
  split at h
  case h_2=>exact h.elim
  rename_i g d
  walk_at "ini"
  unfold jI
  walk_at "go"
  obtain ⟨x,⟨rfl,K,G⟩,k⟩:=h
  walk_at "go"
  refine ⟨x.rl,⟨rfl,K,G⟩,?_⟩
  walk_at "go"
  exact ⟨_,.refl _,k⟩
def h9:FSp:=fun ds μ Q=>match ds with
  | [d]=>∃ p:Pn,(d=p.toD∧(∀ x∈p.ss,x.rl.Ok)∧Gd p.g∧p.ws.length≤900000∧p.ss.length≤900000)∧Q (p.beg.toD p.g) μ
  | _=>False
theorem Cv:∀ ds μ Q,h9 ds μ Q→ds.length=1:=by
  unfold h9
  walk_at "ln"
def BH:STr:=aA (aN (aq bh (af (bE (dH (aj L3.rIx (ah 0) (TC (.int 1)))) (aw 0) (dm) (bc (af (bc (ar)) (af (bc (ar)) (af (TC (.str "")) (ar))))) 1 []) (ar))) (aw 1)) (aW (bc (af (ah 1) (af (aq bh (af (bE (dH (aj L3.rIx (ah 0) (TC (.int 2)))) (aw 0) (dm) (aq bZ (af (aj L3.rIx (ah 1) (TC (.int 0))) (af (ah 0) (ar)))) 1 [0]) (ar))) (ar)))))
theorem E9:∀ ds μ Q,h9 ds μ Q→BH { nx:=fun _ μ'=>RT Q .non μ',rt:=RT Q } (ini 2 ds) μ:=by
  intro ds μ Q h
  unfold h9 at h
  split at h
  case h_2=>exact h.elim
  rename_i d
  walk_at "ini"
  unfold BH
  walk_at "go"
  obtain ⟨p,⟨rfl,K,G,l1,l2⟩,k⟩:=h
  walk_at "go"
  refine comp_map (fun _=>.tup [.tup [],.tup [],.str ""]) (by rw[List.length_map];omega) (fun d hd μ' _ N n=>?_) ?_
  · walk_at "go"
    exact n
  · walk_at "go"
    refine bw p.ss Sn.toD (fun x=>(x.beg p.g).toD p.g) rfl (by omega) (fun x hx μ' _ N n=>?_) ?_
    · walk_at "go"
      exact ⟨x,⟨rfl,K x hx,G⟩,n⟩
    · walk_at "go"
      refine ⟨_,.refl _,?_⟩
      have e1:(wyD p.ws).map (fun _=>D.tup [.tup [],.tup [],.str ""])=wsD p.beg.ws:=by simp[Pn.beg,wsD,wyD,Ws.toD,Function.comp_def]
      have e2:p.ss.map (fun x=>(x.beg p.g).toD p.g)=ssD p.g p.beg.ss:=by simp[Pn.beg,ssD,Function.comp_def]
      rw[e1,e2];exact k
section
open PySem PySem.Spec PyProof.Rows L2
section
variable {prog:Program} {w:World} {A:Around} {E:Value→Shared→Prop} {s:Shared}
abbrev G3 (a c:Int)(acc:Array Value)(n:Nat):Prop:=ItemsOf (fun i v=>∃ t,v=.int (a+i*c) t) acc n
abbrev Kept (s:Shared)(g:Heap):Prop:=∀ b o,s.heap.get? b=some o→g.get? b=some o
structure Rg (s:Shared) (r:Addr) (a b c:Int) (n:Nat):Prop where
  at':∃ t u v,IsRange s.heap r a b c t u v
  sm:Builtin.Range.small a b c=true
  sz:Builtin.Range.rangeSize a b c=n
  le:n≤1048576
theorem run_plain {id:String}{bi:Builtin}{args:Args}{R:Result→Shared→Prop}(hp:plainId id=true)(he:entryFor table id=some bi)
    (h:wpAny (model prog w) A.in1 (bi args) (fun fin s'=>match fin with | .done f=>R (.ok f) s' | .again c'=>c'.quiet=true∧codeAny (model prog w) A c' R s') (fun e s'=>R (.error e) s') s):codeAny (model prog w) A (.builtin id args) R s:=
  codeAny_builtin he (by rw[Around.under_plainId hp];exact h)
theorem kH {R:Result→Shared→Prop}{r:Addr}{a b c:Int}{n:Nat}(hh:A.handled=none)(G:Rg s r a b c n)
    (hR:∀ (g:Heap) (tk:Nat) (acc:Array Value) (e:Nat),Kept s g→g.get? s.heap.objs.size=some { cls:=.type "list", dict:=none,data:=.seq acc e,slots:=#[] }→G3 a c acc n→R (.ok (.ret (.ref s.heap.objs.size))) { s with heap:=g,toks:=tk }) :
    codeAny (model prog w) A (.builtin "proto.collect" ⟨[.ref r],[]⟩) R s:=by
  obtain ⟨⟨t,u,v,hr⟩,sm,sz,le⟩:=G
  have l24:n≤2 ^ 24:=by omega
  have ext:=fun h0=>wpAny_extend_range (prog:=prog) (w:=w) (A:=A) (R:=R) (s:={ s with heap:=s.heap.push { cls:=.type "list", data:=.seq #[] } }) hh (Heap.get?_push_of_some _ hr) sm sz l24 s.heap.objs.size (.ref s.heap.objs.size) 0 h0 fun g tk acc e kp new its=>
    hR g tk acc e (fun b o q=>kp b o (Nat.ne_of_lt (Heap.lt_size q)) (Heap.get?_push_of_some _ q)) new its
  exact run_plain F.plain_proto_collect F.entry_proto_collect (wpAny_bind (wpAny_newObj_type (wpAny_pure ⟨plainId_quiet F.plain_list_iadd _,run_plain F.plain_list_iadd F.entry_list_iadd (ext (Heap.get?_push_size _ rfl))⟩)))
theorem rH {Q:List Value→Shared→Prop}{r:Addr}{a b c:Int}{n:Nat}(hh:A.handled=none)(G:Rg s r a b c n)
    (hQ:∀ (g:Heap) (tk:Nat) (acc:Array Value),Kept s g→G3 a c acc n→Q acc.toList { s with heap:=g,toks:=tk }):wpAny (model prog w) A (collect (.ref r)) Q E s:=by
  unfold collect
  exact wpAny_bind (wpAny_runValue (kH hh G fun g tk acc e kp new its=>wpAny_bind (wpAny_load new (wpAny_pure (hQ g tk acc kp its)))))
theorem mM {Q:Value→Shared→Prop}{r:Addr}{a b c:Int}{n:Nat}(hh:A.handled=none)(G:Rg s r a b c n)
    (hQ:∀ (g:Heap) (tk:Nat) (acc:Array Value),Kept s g→G3 a c acc n→Q (.ref g.objs.size) { s with heap:=g.push { cls:=.type "tuple", data:=.seq acc },toks:=tk }) :
    wpAny (model prog w) A (call (.type "tuple") [.ref r]) Q E s:=by
  have isr:s.TypeIs (.ref r) "range" := let ⟨t,u,v,hr⟩:=G.at';⟨_,hr,rfl⟩
  have fit:n≤sizeLine:=by have:=G.le;rw[sizeLine_eq];omega
  have made:codeAny (model prog w) A.in1 (.call (.builtin "tuple.__new__") ⟨[.type "tuple", .ref r],[]⟩) (wants (fun obj s₁=>s₁.TypeIs obj "tuple" ∧ Q obj s₁) E) s:=by
    refine codeAny_of_tree (wpAny_bind (wpAny_of_eq (F.newCall_tuple_1 _) (wpAny_pure ⟨plainId_quiet F.plain_tuple_new _,run_plain F.plain_tuple_new F.entry_tuple_new ?_⟩)))
    have u1:=sub_tuple_self
    have u2:=init_tuple_lookup
    have u3:=madeHere_tuple
    wp_walk using wpAny_typeOf isr,rH (A:=A.in1.in1) hh G
    intro g tk acc kp its
    have whole:acc.toList.toArray=acc:=Array.toArray_toList
    have few:acc.toList.toArray.size≤sizeLine:=by rw[whole,its.1];exact fit
    have end':wpAny (model prog w) A.in1.in1 (Builtin.Tuple.tupleExact acc.toList.toArray) (fun v s'=>wants (fun obj s₁=>s₁.TypeIs obj "tuple" ∧ Q obj s₁) E (.ok (.ret v)) s') (fun e s'=>wants (fun obj s₁=>s₁.TypeIs obj "tuple" ∧ Q obj s₁) E (.error e) s') { s with heap:=g,toks:=tk }:=by
      unfold Builtin.Tuple.tupleExact;exact wpAny_newObj_type (by rw[whole];exact ⟨⟨_,Heap.get?_push_size _ rfl,rfl⟩,hQ g tk acc kp its⟩) few
    exact (show wpAny _ _ (Builtin.Tuple.tupleExact acc.toList.toArray >>= fun v=>ret v) _ _ _ from wpAny_bind (wpAny_mono end' (fun v s' h=>wpAny_pure h) fun _ _ h=>h))
  exact callType_codes F.called_tuple (F.typeCall_tuple_1 _) F.entry_object_init made fun obj s₁ h₁=>⟨h₁.1,F.args_object_init_2 obj _,object_init_meets F.called_tuple.init.lookup F.called_tuple.made (by decide) prog w A.in1 _ s₁ ⟨h₁.1,rfl,h₁.2⟩⟩
end
section
variable {X:Cx} {ea eb:Expr} {Ta Tb:ETr} {p p2 pos rpos:Pos}
def Qo (t:TA):TE:=fun σ H Q=>t σ H fun vs H1=>∃ i j:Int,vs=[.int i,.int j]∧(-(2 ^ 62)≤i∧i < 2 ^ 62∧-(2 ^ 62)≤j∧j < 2 ^ 62∧(j - i).toNat≤1000000)∧∀ z,H1 z=none→Q (.ref z) (L2.upd H1 z (.tup ((List.range (j - i).toNat).map fun (k:Nat)=>V.int (i+(k:Int)))))
theorem kj:∀ {us:List Value} {vs:List V},us.length=vs.length→(∀ (j:Nat) u v,us[j]? = some u→vs[j]? = some v→RelV v u)→Vals vs us
  | [],[],_,_=>.nil
  | u::us,v::vs,hl,h=>.cons (h 0 u v rfl rfl) (kj (by simpa using hl) fun j a b h1 h2=>h (j+1) a b h1 h2)
theorem Lw {t:TA}(hc:X.calm=true)(hg:Gl X "tuple")(hm:X.mg "tuple" = none)(hgr:Gl X "range")(hmr:X.mg "range" = none)(ha:PA X [ea,eb] t)(hs:starEach [ea,eb] X.env=[(false,eval ea X.env),(false,eval eb X.env)]:=by rfl)(hs2:starEach [eb] X.env=[(false,eval eb X.env)]:=by rfl)
    (hs0:starEach [.Call (.Name "range" p2) [ea,eb] [] rpos] X.env=(false,eval (.Call (.Name "range" p2) [ea,eb] [] rpos) X.env)::starEach [] X.env:=by rfl) :
    PE X (.Call (.Name "tuple" p) [.Call (.Name "range" p2) [ea,eb] [] rpos] [] pos) (Qo t):=by
  intro pins s σ H Q I h
  refine Call_ (iC I hg hm boot_tuple (PyProof.Rows.callWith_type1 ?_ hs0 rfl))
  rw[hs0]
  show wpAny _ _ (spliced ((false,eval _ X.env)::backTo pos (starEach [] X.env))) _ _ s
  refine Calls.spliced_cons (Call_ (iC I hgr hmr boot_range (PyProof.Rows.callWith_type1 (thn (ha rpos pins s σ H _ I h) fun us s1 ⟨vs,H1,I1,r1,q1⟩=>?_) (by rw[hs,hs2]) (by rw[hs2];rfl))))
  obtain ⟨i,j,e,⟨h1,h2,h3,h4,h5⟩,q⟩:=q1
  subst e
  cases r1 with | cons r rr=>cases rr with | cons r' rr=>
  cases rr
  obtain ⟨t1,rfl⟩:=r
  obtain ⟨t2,rfl⟩:=r'
  refine call_range_2 (Calls.spliced_nil ?_)
  have e2:Builtin.Range.rangeSize i j 1=((j - i).toNat:Nat):=by rw[rangeSize_one];split<;>omega
  refine mM (n:=(j - i).toNat) (I1.ok.hd hc) ⟨⟨_,_,_,IsRange.new ..⟩,small_one h1 h2 h3 h4,e2,by omega⟩ fun h' tk acc hk hacc=>?_
  have I2:Inv X pins σ H1 { s1 with heap:=h',toks:=tk }:=I1.kept (t':=tk) fun b o e=>hk b o (Heap.get?_push_of_some _ e)
  refine ⟨.ref h'.objs.size,_,I2.laid (t':=tk) (o:=.tup ((List.range (j - i).toNat).map fun (k:Nat)=>V.int (i+(k:Int)))) (fun b o e=>Heap.get?_push_of_some _ e) (Nat.le_refl _) ⟨?_,acc.toList,kj ?_ fun m u v hu hv=>?_,?_⟩,rfl,q _ (I2.hok.fresh (Nat.le_refl _))⟩
  · rw[List.length_map,List.length_range];exact big (by omega)
  · rw[List.length_map,List.length_range,Array.length_toList,hacc.1]
  · have hu':acc[m]? = some u:=by simpa using hu
    obtain ⟨t3,rfl⟩:=hacc.2 m u hu'
    have hm:m < (j - i).toNat:=by
      have:=(Array.getElem?_eq_some_iff.mp hu').1
      exact hacc.1 ▸ this
    rw[List.getElem?_map,List.getElem?_range hm] at hv
    cases hv
    exact ⟨t3,by simp⟩
  · rw[Array.toArray_toList];exact u9.new h' acc
def D3 (Ta Tb:ETr):ETr:=fun ρ μ Q=>Ta ρ μ fun x μ1=>Tb ρ μ1 fun y μ2=>kI x fun i=>kI y fun j=>((-4611686018427387904≤i∧i < 4611686018427387904)∧(-4611686018427387904≤j∧j < 4611686018427387904)∧(j - i).toNat≤1000000)∧Q (.tup (cx i (j - i).toNat)) μ2
theorem Dx {K:PySem.W.Frag}{H:Hp}(i:Int)(n:Nat):DpL K H ((List.range n).map fun (k:Nat)=>V.int (i+(k:Int))) (cx i n):=by
  unfold cx
  generalize List.range n=l
  induction l with
  | nil=>exact .nil
  | cons a l ih=>exact .cons (.int _) ih
theorem JZ (hc:X.calm=true)(hg:Gl X "tuple")(hm:X.mg "tuple" = none)(hgr:Gl X "range")(hmr:X.mg "range" = none)(ha:LE X ea Ta)(hb:LE X eb Tb)(hs:starEach [ea,eb] X.env=[(false,eval ea X.env),(false,eval eb X.env)]:=by rfl)(hs2:starEach [eb] X.env=[(false,eval eb X.env)]:=by rfl)
    (hs0:starEach [.Call (.Name "range" p2) [ea,eb] [] rpos] X.env=(false,eval (.Call (.Name "range" p2) [ea,eb] [] rpos) X.env)::starEach [] X.env:=by rfl) :
    LE X (.Call (.Name "tuple" p) [.Call (.Name "range" p2) [ea,eb] [] rpos] [] pos) (D3 Ta Tb):=by
  obtain ⟨ta,pa,sa⟩:=ha.ex
  obtain ⟨tb,pb,sb⟩:=hb.ex
  refine ⟨_,Lw hc hg hm hgr hmr (eV pa (eV pb iM hs2) (by rw[hs,hs2])) hs hs2 hs0,fun σ H ρ μ Q Q' rl h k=>sa σ H ρ μ _ _ rl h fun x H1 d μ1 t1 m1 p1 h1=>sb σ H1 ρ μ1 _ _ (rl.go t1 m1) h1 fun y H2 d2 μ2 t2 m2 p2 h2=>?_⟩
  cases p1 with
  | int i=>
    cases p2 with
    | int j=>
      obtain ⟨⟨⟨h3,h4⟩,⟨h5,h6⟩,h7⟩,h8⟩:=h2
      refine ⟨i,j,rfl,⟨by simpa using h3,by simpa using h4,by simpa using h5,by simpa using h6,h7⟩,fun z hz=>?_⟩
      have tn:Tk H2 (L2.upd H2 z (.tup ((List.range (j - i).toNat).map fun (k:Nat)=>V.int (i+(k:Int))))):=.new hz
      exact k _ _ _ μ2 ((t1.trans t2).trans tn) (c5 m2 hz) (.tup (SqT.of aM) (Dx i _)) h8
    | _=>exact False.elim h2
  | _=>exact False.elim h2
end
end
section
open PySem PySem.Spec PyProof.Rows L2
section
variable {prog:Program} {w:World} {A:Around} {E:Value→Shared→Prop} {s:Shared}
theorem sortedHeap_at {g:Heap}{vs:List Value}{out:Array Value}{k:Nat}(e:(g.push (seqObj "list" vs.toArray k)).get? g.objs.size=some (seqObj "list" vs.toArray k)):(∃ n,(sortedHeap (g.push (seqObj "list" vs.toArray k)) g.objs.size vs out).get? g.objs.size=some (seqObj "list" out n))∧∀ b o,g.get? b=some o→(sortedHeap (g.push (seqObj "list" vs.toArray k)) g.objs.size vs out).get? b=some o:=by
  have lt:g.objs.size < (g.push (seqObj "list" vs.toArray k)).objs.size:=by rw[size_push'];omega
  unfold sortedHeap
  constructor
  · have e1:=get?_update_seq e fun _=>#[]
    have e2:∀ o1 o2:Obj,((((g.push (seqObj "list" vs.toArray k)).update g.objs.size (Obj.mapSeq fun _=>#[])).push o1).push o2).get? g.objs.size=_:=fun o1 o2=>Heap.get?_push_of_some _ (Heap.get?_push_of_some _ e1)
    exact ⟨_,get?_update_seq (e2 _ _) fun _=>out⟩
  · intro b o hb
    have nb:g.objs.size≠b:=Ne.symm (Nat.ne_of_lt (Heap.lt_size hb))
    exact (Heap.get?_update_other _ _ nb).trans (Heap.get?_push_of_some _ (Heap.get?_push_of_some _ ((Heap.get?_update_other _ _ nb).trans (Heap.get?_push_of_some _ hb))))
theorem zB {tp:Addr}{vs:List Value}{ns:List Int}{Q:Value→Shared→Prop}(hl:IsTup s.heap tp vs.toArray)(hI:IntsAre vs ns)(few:vs.length < 64)
    (h:∀ (g g1:Heap) (out:Array Value) (n:Nat) (ns':List Int),Kept s g→(∀ b o,g.get? b=some o→g1.get? b=some o)→g1.get? g.objs.size=some (seqObj "list" out n)→IntsAre out.toList ns'→ns'.Perm ns→ns'.Pairwise (·≤·)→Q (.ref g.objs.size) { s with heap:=g1 }) :
    wpAny (model prog w) A (call (.builtin "sorted") [.ref tp]) Q E s:=by
  obtain ⟨ob,e1,e2,ne,e3⟩:=hl
  have fits:vs.toArray.size≤sizeLine:=by rw[List.size_toArray,sizeLine_eq];omega
  have rest:∀ g:Heap,(∀ b o,s.heap.get? b=some o→g.get? b=some o)→wpAny (model prog w) A.in1 (do let z ← newList vs;let _ ← holding [z] (call (.builtin "list.sort") [z]);ret z) (fun fin s'=>∃ v,fin=.done (.ret v)∧Q v s') E { s with heap:=g }:=fun g kp=>by
    have at':(g.push (seqObj "list" vs.toArray 0)).get? g.objs.size=some (seqObj "list" vs.toArray 0):=Heap.get?_push_size _ rfl
    have done:=fun out ns' (a1:IntsAre out.toList ns') (a2:ns'.Perm ns) (a3:ns'.Pairwise (·≤·))=>let ⟨⟨m,e⟩,old⟩:=sortedHeap_at (out:=out) at';h g _ out m ns' kp old e a1 a2 a3
    exact wpAny_bind (wpAny_newList (wpAny_bind (wpAny_holding (wpAny_call_entry slot_list_sort ⟨_,at',rfl⟩ entry_list_sort (list_sort_tree at' hI few fun out ns' a1 a2 a3=>⟨_,rfl,wpAny_pure ⟨_,rfl,done out ns' a1 a2 a3⟩⟩) (args_list_sort _)))))
  refine Calls.call_function_entry (b:=Builtin.«sorted») kind_sorted plain_sorted entry_sorted (args_sorted1 _) ?_
  show wpAny _ _ (do checkCount "sorted" 1 1 1;let xs ← collect (.ref tp);let z ← newList xs;let _ ← holding [z] (call (.builtin "list.sort") [z]);ret z) _ _ s
  exact wpAny_bind (wpAny_pure (wpAny_bind (wpAny_collect_seq tp (.inr rfl) e1 e2 e3 (fun g kp=>rest g kp) fits)))
end
def Of (K:PySem.W.Frag):List V→Hp→VK→Prop:=fun xs H Q=>∃ (p:Addr) (ns:List Int),xs=[.ref p]∧(SqL K H p (ns.map V.int)∨SqT K H p (ns.map V.int))∧ns.length < 64∧∀ ns':List Int,ns'.Perm ns→ns'.Pairwise (·≤·)→∀ z,H z=none→Q (.ref z) (L2.upd H z (.lst (ns'.map V.int)))
theorem yO {X:Cx}:bV X (.builtin "sorted") (Of X.K):=fun pins s σ H xs us Q I rx ⟨p,ns,e1,sq,hl,q⟩=>by
  rcases sq with sq | sq
  · exact zF pins s σ H xs us Q I rx ⟨p,ns,e1,sq,hl,q⟩
  subst e1
  obtain ⟨u,rfl,ru⟩:=vals1 rx
  cases ru
  obtain ⟨its,rv,pl,hz⟩:=I.tuple sq
  have hi:IntsAre its ns:=intsAre_of rv
  have hlen:its.length < 64:=by rw[hi.length];exact hl
  refine zB pl hi hlen fun g g1 out n ns' kp old e a1 a2 a3=>?_
  have I2:Inv X pins σ H { s with heap:=g }:=I.kept (t':=s.toks) kp
  refine ⟨.ref g.objs.size,_,I2.laid (t':=s.toks) (o:=.lst (ns'.map V.int)) old (Nat.le_refl _) ?_,rfl,q ns' a2 a3 _ (I2.hok.fresh (Nat.le_refl _))⟩
  have z1:ns'.length=ns.length:=a2.length_eq
  exact ⟨by rw[List.length_map,z1];exact Nat.le_of_lt (Nat.lt_of_lt_of_le hl (by decide)),out.toList,n,iD a1,by simpa[seqObj] using e⟩
def qD:FSp:=fun ds μ Q=>match ds with
  | [x]=>kS x fun xs=>∃ ns:List Int,(xs=ns.map .int∧ns.length < 64)∧∀ ns':List Int,ns'.Perm ns→ns'.Pairwise (·≤·)→Q (.ls (ns'.map .int)) μ
  | _=>False
theorem xK {X:Cx}{e:Expr}{x:Str}{p pos:Pos}{At:ATr}(hg:Gl X x)(hm:X.mg x=none)(hv:bootBuiltins x=some (.builtin "sorted"))(ha:LA X [e] At)(hn:x ≠ "__name__" := by decide)(hdb:(x == ("__debug__" : Str))=false:=by decide)
    (h1:starEach [e] X.env=(false,eval e X.env)::starEach [] X.env:=by rfl) (h2:(backTo pos (starEach [] X.env)).any (·.1)=false:=by rfl):LE X (.Call (.Name x p) [e] [] pos) (aq qD At):=by
  obtain ⟨ta,pa,sa⟩:=ha.ex
  refine ⟨_,jl (lr yO hg hm hv pa hn hdb h1 h2),fun σ H ρ μ Q Q' rl h k=>sa σ H ρ μ _ _ rl h fun xs H1 ds μ1 t1 m1 p1 h1=>?_⟩
  unfold qD at h1
  split at h1
  · cases p1 with | cons p1 p2=>
    cases p2
    cases p1 with
    | @ls q xs ds sq l=>
      obtain ⟨ns,⟨rfl,hl⟩,h2⟩:=h1
      have ex:=l.ints_of
      subst ex
      exact ⟨q,ns,rfl,.inl sq.sq,hl,fun ns' a2 a3 z hz=>gI m1 (DpL.ints ns') (h2 ns' a2 a3) (k.go t1) hz⟩
    | @tup q xs ds sq l=>
      obtain ⟨ns,⟨rfl,hl⟩,h2⟩:=h1
      have ex:=l.ints_of
      subst ex
      exact ⟨q,ns,rfl,.inr sq,hl,fun ns' a2 a3 z hz=>gI m1 (DpL.ints ns') (h2 ns' a2 a3) (k.go t1) hz⟩
    | _=>exact False.elim h1
  · exact h1.elim
theorem Df {X:Cx}(hc:X.calm=true):bV X (.builtin "sum") (fun xs H Q=>∃ (p:Addr) (ns:List Int),xs=[.ref p]∧SqL X.K H p (ns.map V.int)∧Q (.int ns.sum) H):=fun pins s σ H xs us Q I rx ⟨p,ns,e1,sq,q⟩=>by
  subst e1
  obtain ⟨u,rfl,ru⟩:=vals1 rx
  cases ru
  obtain ⟨its,rv,pl,_⟩:=I.list sq
  obtain ⟨ps,rfl,rfl⟩:=gW (intsAre_of rv)
  have il:s.heap.IsList p (intItems ps.toArray):=by
    have:=pl.isList
    simpa[intItems] using this
  refine sum_intListG (I.ok.hd hc) il fun h' tk t' hk=>?_
  have e:preSum (numAt ps.toArray) ps.toArray.size=(ps.map Prod.fst).sum:=by
    rw[preSum_eq,List.take_of_length_le (by simp)]
  rw[e]
  exact ⟨.int _,H,I.kept hk,⟨t',rfl⟩,q⟩
def Cj:FSp:=fun ds μ Q=>match ds with
  | [.ls xs]=>∃ ns:List Int,xs=ns.map .int∧Q (.int ns.sum) μ
  | _=>False
theorem Hy {K:PySem.W.Frag}:kM K (fun xs H Q=>∃ (p:Addr) (ns:List Int),xs=[.ref p]∧SqL K H p (ns.map V.int)∧Q (.int ns.sum) H) Cj:=fun H μ xs ds Q Q' m p h k=>by
  unfold Cj at h
  split at h
  · obtain ⟨ns,rfl,h⟩:=h
    cases p with | cons p1 p2=>
    cases p2
    cases p1 with
    | @ls q xs ds sq l=>
      have ex:=l.ints_of
      subst ex
      exact ⟨q,ns,rfl,sq.sq,k _ H _ μ (.refl H) m (.int _) h⟩
  · exact h.elim
end
section
open PySem PySem.Spec PyProof.Rows L2
section
variable {prog:Program} {w:World} {A:Around} {E:Value→Shared→Prop} {s:Shared}
theorem D1 {tp:Bool}{e it a:Addr}{i:Nat}{xs:Array Value}{x old:Value}{Q:Option Value→Shared→Prop}(en:IsEnum s.heap e it i old)(li:iu tp s.heap it a i)(se:fX tp s.heap a xs)(hx:xs[i]? = some x)(ne:e≠it)
    (q:∀ g,IsEnumOut g e it ((i:Int)+1) x s.heap.objs.size→iu tp g it a (i+1)→g.get? s.heap.objs.size=some { cls:=.type "tuple", data:=.seq #[.int i s.toks,x] }→
      (∀ c o,c≠e→c≠it→s.heap.get? c=some o→g.get? c=some o)→Q (some (.ref s.heap.objs.size)) { s with heap:=g,toks:=s.toks+1 }):wpAny (model prog w) A (pyNext (.ref e)) Q E s:=by
  have ty:s.TypeIs (.ref e) "enumerate" := ⟨_,en,rfl⟩
  unfold pyNext
  refine wpAny_bind (wpAny_attempt (wpAny_callSpecial?_slot (name:=Str.ofString "__next__") ty F.slot_enumerate_next (wpAny_call_entry F.slot_enumerate_next ty F.entry_enumerate_next ?_ (F.args_enumerate_next_1 _))))
  refine wpAny_bind (m:=field (.ref e) 2) (wpAny_field en rfl (x:=.ref it) rfl (wpAny_bind (m:=Builtin.SmallTypes.nextOf (.ref it)) (oM li se hx fun g1 li1 k1=>?_)))
  have en1:IsEnum g1 e it i old:=(k1.2 e ne).trans en
  refine wpAny_bind (m:=field (.ref e) 3) (wpAny_field (s:={ s with heap:=g1 }) en1 rfl (x:=rawInt i) rfl (wpAny_bind (m:=field (.ref e) 4) (wpAny_field (s:={ s with heap:=g1 }) en1 rfl (x:=.none) rfl (wpAny_bind (m:=mkInt i) (wpAny_mkInt ?_)))))
  refine wpAny_bind (m:=setField (.ref e) 3 (rawInt ((i:Int)+1))) (wpAny_setField_rec en1 (by simp) fun g2 en2 k2=>?_)
  have en2:IsEnum g2 e it ((i:Int)+1) old:=en2
  refine wpAny_bind (m:=setField (.ref e) 4 .none) (wpAny_setField_rec en2 (by simp) fun g3 en3 k3=>?_)
  have en3:IsEnum g3 e it ((i:Int)+1) old:=en3
  refine wpAny_bind (m:=newTuple [.int i s.toks,x]) (wpAny_newTuple ?_)
  have sz:g3.objs.size=s.heap.objs.size:=by rw[k3.1,k2.1,k1.1]
  have en4:IsEnum (g3.push { cls:=.type "tuple", data:=.seq #[.int i s.toks,x] }) e it ((i:Int)+1) old:=Heap.get?_push_of_some _ en3
  have elt:e < g3.objs.size:=Heap.lt_size en3
  refine wpAny_bind (m:=Builtin.SmallTypes.ownedTupleIsFree (.ref e)) ?_
  delta Builtin.SmallTypes.ownedTupleIsFree
  refine wpAny_bind (wpAny_field (s:={ s with heap:=g3.push { cls:=.type "tuple", data:=.seq #[.int i s.toks,x] },toks:=s.toks+1 }) en4 rfl (x:=.none) rfl (wpAny_pure ?_))
  simp only[if_true]
  refine wpAny_bind (wpAny_rule (wpAny_bind (wpAny_field en4 rfl (x:=old) rfl (wpAny_bind (wpAny_setField_rec en4 (by simp) fun g5 en5 k5=>?_)))))
  have en5:IsEnum g5 e it ((i:Int)+1) x:=en5
  refine wpAny_bind (m:=Builtin.SmallTypes.ownedTupleHandOut (.ref e) (.ref g3.objs.size)) ?_
  delta Builtin.SmallTypes.ownedTupleHandOut
  refine wpAny_bind (wpAny_setField_rec en5 (by simp) fun g6 en6 k6=>?_)
  have en6:IsEnumOut g6 e it ((i:Int)+1) x g3.objs.size:=en6
  refine wpAny_setField_rec en6 (by simp) fun g7 en7 k7=>?_
  have en7:IsEnumOut g7 e it ((i:Int)+1) x g3.objs.size:=en7
  have up3:∀ c o,c≠e→g3.get? c=some o→g7.get? c=some o:=fun c o c1 h=>(k7.2 c c1).trans ((k6.2 c c1).trans ((k5.2 c c1).trans (Heap.get?_push_of_some _ h)))
  have new:g7.get? g3.objs.size=some { cls:=.type "tuple", data:=.seq #[.int i s.toks,x] }:=(k7.2 _ (Nat.ne_of_gt elt)).trans ((k6.2 _ (Nat.ne_of_gt elt)).trans ((k5.2 _ (Nat.ne_of_gt elt)).trans (Heap.get?_push_size _ rfl)))
  rw[sz] at en7 new
  have fin:=q g7 en7 (li1.at fun o h=>up3 it o (Ne.symm ne) ((k3.2 it (Ne.symm ne)).trans ((k2.2 it (Ne.symm ne)).trans h))) new fun c o c1 c2 h=>up3 c o c1 ((k3.2 c c1).trans ((k2.2 c c1).trans ((k1.2 c c2).trans h)))
  rw[← sz] at fin
  exact wpAny_bind (wpAny_letGo (wpAny_pure ⟨_,rfl,wpAny_pure fin⟩))
theorem Kx {tp:Bool}{e it a:Addr}{i:Nat}{xs:Array Value}{old:Value}{Q:Option Value→Shared→Prop}(hh:A.handled=none)(en:IsEnum s.heap e it i old)(li:iu tp s.heap it a i)(se:fX tp s.heap a xs)(hx:xs[i]? = none)
    (q:∀ g,Heap.ExtBut it s.heap g→Q none { s with heap:=g }):wpAny (model prog w) A (pyNext (.ref e)) Q E s:=by
  have ty:s.TypeIs (.ref e) "enumerate" := ⟨_,en,rfl⟩
  unfold pyNext
  refine wpAny_bind (wpAny_attempt (wpAny_callSpecial?_slot (name:=Str.ofString "__next__") ty F.slot_enumerate_next (wpAny_call_entry F.slot_enumerate_next ty F.entry_enumerate_next ?_ (F.args_enumerate_next_1 _))))
  refine wpAny_bind (m:=field (.ref e) 2) (wpAny_field en rfl (x:=.ref it) rfl (wpAny_bind (m:=Builtin.SmallTypes.nextOf (.ref it)) (Ai hh li se hx fun g z kp sz=>?_)))
  obtain ⟨o,ho,hc⟩:=sz
  exact wpAny_bind (wpAny_isInstance (T := "StopIteration") (b:=true) ⟨o,ho,hc⟩ isSubtype_stop (wpAny_pure (q _ kp)))
theorem Gi (tp:Bool)(a:Addr)(xs:Array Value):Meets (Builtin.«enumerate.__new__» ⟨[.type "enumerate", .ref a],[]⟩) (fun _ R s=>fX tp s.heap a xs∧
      R (.ok (.ret (.ref (s.heap.push (itO tp a)).objs.size))) { s with heap:=(s.heap.push (itO tp a)).push { cls:=.type "enumerate", data:=.fields #[.none,.bool false,.ref s.heap.objs.size,rawInt 0,.none,.none] } }):=
  .of_wp fun prog w A R s h=>by
    rcases s with ⟨hp,g,d,tk,os⟩
    obtain ⟨h1,h⟩:=h
    have hs0:=sub_enumerate
    have H1:fX tp (Shared.heap ⟨hp,g,d,tk,os⟩) a xs:=h1
    wp_walk
    refine wpAny_stack_any fun stk=>wpAny_pure ?_
    split
    · rename_i c _ _ _ _ _
      cases (c == Value.type "enumerate")<;>(wp_walk using JF H1;exact ⟨_,rfl,h⟩)
    · wp_walk using JF H1
      exact ⟨_,rfl,h⟩
theorem A0 {tp:Bool}{a:Addr}{xs:Array Value}{Q:Value→Shared→Prop}(h1:fX tp s.heap a xs)
    (q:∀ g,IsEnum g (s.heap.objs.size+1) s.heap.objs.size 0 .none→iu tp g s.heap.objs.size a 0→(∀ c o,s.heap.get? c=some o→g.get? c=some o)→Q (.ref (s.heap.objs.size+1)) { s with heap:=g }) :
    wpAny (model prog w) A (call (.type "enumerate") [.ref a]) Q E s:=by
  refine callType_new F.called_enumerate (by decide) (F.typeCall_enumerate_1 _) (F.newCall_enumerate_1 _) (fun obj=>F.args_object_init_2 obj _) F.entry_enumerate_new (Gi tp a xs) ⟨h1,?_⟩
  have s1:(s.heap.push (itO tp a)).objs.size=s.heap.objs.size+1:=Heap.size_push ..
  have new:IsEnum ((s.heap.push (itO tp a)).push { cls:=.type "enumerate", data:=.fields #[.none,.bool false,.ref s.heap.objs.size,rawInt 0,.none,.none] }) (s.heap.push (itO tp a)).objs.size s.heap.objs.size 0 .none:=Heap.get?_push_size _ rfl
  refine ⟨⟨_,new,rfl⟩,?_⟩
  rw[s1] at new ⊢
  refine q _ new ?_ fun c o h=>Heap.get?_push_of_some _ (Heap.get?_push_of_some _ h)
  have z:=Heap.get?_push_of_some { cls:=.type "enumerate", data:=.fields #[.none,.bool false,.ref s.heap.objs.size,rawInt 0,.none,.none] } (Heap.get?_push_size s.heap (o:=itO tp a) (by cases tp<;>rfl))
  cases tp<;>exact ⟨_,z,rfl,rfl⟩
end
def Itn (tp:Bool)(K:PySem.W.Frag)(a:Addr):It:=
  ⟨fun i H=>∃ xs x,Sq tp K H a xs∧xs[i]? = some x,
   fun i H v H'=>∃ x p,(∀ xs,Sq tp K H a xs→xs[i]? = some x)∧v=.ref p∧H p=none∧H'=L2.upd H p (.tup [.int i,x]),
   fun i H=>∃ xs,Sq tp K H a xs∧xs.length≤i⟩
structure NAt (tp:Bool) (h:Heap) (e it a:Addr) (k:Nat):Prop where
  en:∃ old,IsEnum h e it k old
  li:iu tp h it a k
theorem FW {P:Program}{w:World}{K:PySem.W.Frag}{es:List Expr}{ek:Nat}{ep:Pos}{tp:Bool}{e it a:Addr}(n1:e≠it) :
    Turn P w K (.Tuple es ek ep) (Itn tp K a) [e,it] e (fun k h=>NAt tp h e it a k) where
  mem:=by simp
  obj:=fun k h S c hc=>by
    obtain ⟨⟨old,en⟩,li⟩:=S
    simp only[List.mem_cons,List.not_mem_nil,or_false] at hc
    rcases hc with rfl | rfl
    · exact ⟨_,en,fun v y=>by cases y⟩
    · obtain ⟨o,ho,vs,hd⟩:=li.ex;exact ⟨o,ho,fun v y=>by rw[hd] at y;cases y⟩
  keep:=fun k h g S kp=>by
    obtain ⟨⟨old,en⟩,li⟩:=S
    exact ⟨⟨old,kp e (by simp) _ en⟩,li.at fun o q=>kp it (by simp) o q⟩
  item:=by
    intro X hP hw hK hc k pins s σ H E I hf S hg
    subst hP hw hK
    obtain ⟨xs,x,qa,ex⟩:=hg
    obtain ⟨⟨old,en⟩,li⟩:=S
    obtain ⟨ia,ra,sa⟩:=Inv.sq I qa
    obtain ⟨ux,hux,rx⟩:=ra.get ex
    have elt:e < s.heap.objs.size:=Heap.lt_size en
    have fr:H s.heap.objs.size=none:=I.hok.fresh (Nat.le_refl _)
    refine D1 en li sa (x:=ux) (by simpa using hux) n1 fun g eo li2 new al=>⟨_,rfl,wpAny_letOwnedTupleGo_enum eo fun g2 en2 k2=>?_⟩
    have k2:Heap.SameBut e g g2:=k2
    have all:∀ c o,c ∉ [e,it]→s.heap.get? c=some o→g2.get? c=some o:=fun c o hc q=>by
      simp only[List.mem_cons,List.not_mem_nil,or_false,not_or] at hc
      exact (k2.2 c hc.1).trans (al c o hc.1 hc.2 q)
    have new2:g2.get? s.heap.objs.size=some { cls:=.type "tuple", data:=.seq #[.int k s.toks,ux] }:=(k2.2 _ (Nat.ne_of_gt elt)).trans new
    have nfp:∀ c u,H c=some u→c ∉ [e,it]:=fun c u q hc=>by rw[(hf c hc).1] at q;cases q
    refine ⟨.ref s.heap.objs.size,L2.upd H s.heap.objs.size (.tup [.int k,x]),?_,rfl,⟨x,_,fun xs' q=>by rw[Inv.zS I q qa];exact ex,rfl,fr,rfl⟩,⟨⟨_,en2⟩,li2.at fun o q=>(k2.2 it (Ne.symm n1)).trans q⟩,fun c hc=>?_⟩
    · refine L2.Inv.step (s:=s) (H:=H) (H':=L2.upd H s.heap.objs.size (.tup [.int k,x])) (g':=s.gens) (d':=s.drawn) (t':=s.toks+1) (h':=g2) (ch:=[e,it]) I (fun c hc=>⟨(hf c hc).2.2.2.1,(hf c hc).2.1,(hf c hc).2.2.2.2.1,(hf c hc).2.2.2.2.2⟩) (fun c o _ _ hc q _=>all c o hc q) (fun c o _ _ hc q _=>⟨o.slots,all c o hc q⟩) (fun c o hc q n=>?_) (fun c o hc q=>⟨o,all c o hc q⟩)
        (fun c xs q=>?_) (fun c o u q=>?_) (fun c ps q=>⟨#[],?_⟩) (fun m hm=>?_) (fun c u q=>?_) I.bare
      · rw[aL (Nat.ne_of_lt (Heap.lt_size q))];exact n
      · rw[aL (bf q fr)];exact q
      · rw[aL (bf q fr)];exact q
      · rw[aL (bf q fr),q];simp
      · obtain ⟨o,es',ep',ho,r⟩:=hm
        exact ⟨o,es',ep',all _ o (fun hc=>(hf _ hc).2.1 rfl) ho,r⟩
      · by_cases hcT:c=s.heap.objs.size
        · subst hcT
          rw[aM] at q;cases q
          exact ⟨by show 2≤sizeLine;decide,[.int k s.toks,ux],.cons ⟨s.toks,rfl⟩ (.cons rx .nil),⟨_,new2⟩⟩
        · rw[aL hcT] at q
          refine (I.hok c u q).lI (fun c' v hc' z=>all c' v ?_ z) (fun c' z=>by rw[aL (bf z fr)];exact z) fun c' xs z=>by rw[aL (bf z fr)];exact z
          rcases hc' with rfl | hc'
          · exact nfp _ _ q
          · exact nfp _ _ hc'
    · have hcl:c≠s.heap.objs.size:=by
        simp only[List.mem_cons,List.not_mem_nil,or_false] at hc
        rcases hc with rfl | rfl
        · exact Nat.ne_of_lt elt
        · obtain ⟨o,q,_⟩:=li.ex;exact Nat.ne_of_lt (Heap.lt_size q)
      rw[aL hcl];exact (hf c hc).1
  done:=by
    intro X hP hw hK hc k pins s σ H E I hf S hg
    subst hP hw hK
    obtain ⟨xs,qa,he⟩:=hg
    obtain ⟨⟨old,en⟩,li⟩:=S
    obtain ⟨ia,ra,sa⟩:=Inv.sq I qa
    have la:=ra.length
    obtain ⟨f0,f1,f2,f3,f4,f5⟩:=hf it (by simp)
    exact Kx (I.ok.hd hc) en li sa (by simp;omega) fun g eb=>⟨rfl,I.turned (t':=s.toks) (fun b o hb q=>eb b o hb q) f0 f1 f3 f4 f5⟩
  self:=fun _ _ _ _ _ S h=>by
    obtain ⟨⟨old,en⟩,_⟩:=S
    exact wpAny_pyIter_enum en h
def TQ (K:PySem.W.Frag)(t:TA):TI:=fun σ H R=>t σ H fun vs H1=>∃ (tp:Bool) (a:Addr),vs=[.ref a]∧(∃ xs,Sq tp K H1 a xs)∧R (Itn tp K a) H1
section
variable {X:Cx} {ea:Expr} {es:List Expr} {ek:Nat} {ep p pos:Pos}
theorem Oe {t:TA}(hg:Gl X "enumerate")(hm:X.mg "enumerate" = none)(ha:PA X [ea] t)(hs:starEach [ea] X.env=[(false,eval ea X.env)]:=by rfl) :
    PI X (.Tuple es ek ep) (.Call (.Name "enumerate" p) [ea] [] pos) (TQ X.K t):=by
  intro pins s σ H R I h
  refine Call_ (iC I hg hm boot_enumerate (PyProof.Rows.callWith_type1 (thn (ha pos pins s σ H _ I h) fun us s1 ⟨vs,H1,I1,r1,q1⟩=>?_) (by rw[hs];rfl) rfl))
  obtain ⟨tp,a,e,⟨xs,qa⟩,q⟩:=q1
  subst e
  cases r1 with | cons r rr=>
  cases rr
  cases (show _=Value.ref a from r)
  obtain ⟨ia,ra,sa⟩:=Inv.sq I1 qa
  refine A0 sa fun g en li kp=>wpAny_pyIter_enum en ?_
  refine ⟨s1.heap.objs.size+1,[s1.heap.objs.size+1,s1.heap.objs.size],_,_,H1,rfl,I1.kept (t':=s1.toks) kp,FW (tp:=tp) (a:=a) (Nat.succ_ne_self _),⟨⟨_,en⟩,li⟩,fun c hc=>?_,q⟩
  have hc':s1.heap.objs.size≤c:=by
    simp only[List.mem_cons,List.not_mem_nil,or_false] at hc
    rcases hc with rfl | rfl
    · exact Nat.le_succ _
    · exact Nat.le_refl _
  exact I1.zH hc' (I1.hok.fresh hc')
def FN (t:ATr):ATr:=fun ρ μ Q=>t ρ μ fun vs μ1=>match vs with
  | [x]=>kS x fun ds=>Q (ki ds) μ1
  | _=>False
theorem Jv {At:ATr}(hg:Gl X "enumerate")(hm:X.mg "enumerate" = none)(ha:LA X [ea] At)(hs:starEach [ea] X.env=[(false,eval ea X.env)]:=by rfl) :
    LI X (.Tuple es ek ep) (.Call (.Name "enumerate" p) [ea] [] pos) (FN At):=by
  obtain ⟨t,pt,st⟩:=ha.ex
  refine ⟨_,Oe hg hm pt hs,fun σ H ρ μ Q R rl h k=>st σ H ρ μ _ _ rl h fun vs H1 ds μ1 t1 m1 p1 h1=>?_⟩
  split at h1
  case h_2=>exact False.elim h1
  cases p1 with | cons pa p2=>
  cases p2
  obtain ⟨tp,a,xs,dx,rfl,qa,la,h2⟩:=yX pa h1
  obtain ⟨a',xs',dx',ea',qa',la',h2⟩:=yL pa h2
  cases ea'
  refine ⟨tp,a,rfl,⟨xs',qa'⟩,k _ H1 _ μ1 t1 m1 ⟨fun i H' tk hi=>?_,fun i H' v H'' tk hi yv=>?_,fun i H' tk hi=>?_⟩ h2⟩
  · have l1:=la'.length
    rw[sL] at hi
    exact ⟨xs',xs'[i],tk.sq qa',by simp[show i < xs'.length by omega]⟩
  · obtain ⟨x,q,fx,rfl,fr,rfl⟩:=yv
    have ex:=fx _ (tk.sq qa')
    obtain ⟨d,ed,pd⟩:=la'.get' ex
    have tn:Tk H' (L2.upd H' q (.tup [.int i,x])):=.new fr
    exact ⟨tn,⟨.tup [.int i,d],by rw[tF,ed];rfl,.tup (SqT.of aM) (.cons (.int _) (.cons ((pd.mono tk).mono tn) .nil))⟩,fun μ' m'=>c5 m' fr⟩
  · rw[sL] at hi
    exact ⟨xs',tk.sq qa',by rw[la'.length];exact hi⟩
end
end
section
open PySem PySem.Spec PyProof PyProof.Rows L2
section
variable {w:World} {prog:Program} {A:Around} {E:Value→Shared→Prop}
abbrev QN (g:Heap)(b:Addr)(xs:Array Value):Prop:=∃ n,g.get? b=some { cls:=.type "list", dict:=none,data:=.seq xs n,slots:=#[] }
section
variable {R:Result→Shared→Prop} {I:Addr} {fp wr:List Addr} {n:Nat} {P:Nat→Value→Prop} {St:Nat→Heap→Prop}
theorem KA (W:Walks prog w A.in1 I fp wr n P St){bt:Nat→Nat→Bool}(cm:CmpOf prog w A.in1 .Gt P bt){S:Addr}(hS:S ∉ fp)(kw:List (Str×Value)) :
    ∀ (m:Nat) (j:Nat) (s:Shared) (vb:Value),j+1+m=n→St (j+1) s.heap→P (argBest bt j) vb→QN s.heap S #[vb,vb]→
    (∀ v g tk,P (argBest bt (n - 1)) v→(∀ c o,c ∉ wr→c≠S→s.heap.get? c=some o→g.get? c=some o)→R (.ok (.ret v)) { s with heap:=g,toks:=tk })→
    codeAny (model prog w) A (.builtin "max.loop" ⟨[.ref I,.none,.ref S],kw⟩) R s:=by
  have sw:S ∉ wr:=fun h=>hS (W.sub _ h)
  have nm:(toString "max" ++ toString ".loop" : String) = "max.loop" := by decide
  intro m
  induction m with
  | zero=>
    intro j s vb en st pb ⟨ep,at'⟩ fin
    refine run_plain F.plain_max_loop F.entry_max_loop ?_
    show wpAny (model prog w) A.in1 (seqItems? (.ref S) >>= _) _ _ s
    refine wpAny_bind (wpAny_seqItems at' rfl ?_)
    show wpAny (model prog w) A.in1 (tryCatch (pyNext (.ref I)) _ >>= _) _ _ s
    refine wpAny_bind (wpAny_tryCatch (W.done s _ _ (by rw[← en];exact st) fun g tk kp=>?_))
    have at1:=kp S _ sw at'
    show wpAny (model prog w) A.in1 (updateSeq S (fun _=>#[]) >>= _) _ _ _
    refine wpAny_bind ?_
    refine wpAny_updateSeq at1 rfl ?_;refine wpAny_bind (wpAny_letGo (wpAny_pure ?_))
    exact fin vb _ tk (by rw[show n - 1=j by omega];exact pb) fun c o c1 c2 e=>(Heap.get?_update_other _ _ (Ne.symm c2)).trans (kp c o c1 e)
  | succ m ih=>
    intro j s vb en st pb ⟨ep,at'⟩ fin
    refine run_plain F.plain_max_loop F.entry_max_loop ?_
    show wpAny (model prog w) A.in1 (seqItems? (.ref S) >>= _) _ _ s
    refine wpAny_bind (wpAny_seqItems at' rfl ?_)
    show wpAny (model prog w) A.in1 (tryCatch (pyNext (.ref I)) _ >>= _) _ _ s
    refine wpAny_bind (wpAny_tryCatch (W.item (j+1) s _ _ (by omega) st fun v g tk pv st1 kp=>?_))
    have at1:=kp S _ sw at'
    show wpAny (model prog w) A.in1 (tryCatch (holding [v,v] (richCompare .Gt v vb >>= _)) _ >>= _) _ _ _
    refine wpAny_bind (wpAny_tryCatch (wpAny_holding (wpAny_bind (cm (j+1) (argBest bt j) v vb _ _ _ pv pb ?_))))
    refine wpAny_bind (wpAny_holding (wpAny_truthy_bool (wpAny_bind (wpAny_letGo (wpAny_pure ?_)))))
    cases better:bt (j+1) (argBest bt j) with
    | true=>
      rw[if_pos rfl]
      have bst:argBest bt (j+1)=j+1:=by rw[argBest,if_pos better]
      refine wpAny_bind ?_
      refine wpAny_updateSeq at1 rfl ?_
      refine wpAny_bind (wpAny_letGo ?_)
      rw[nm]
      refine wpAny_pure ⟨plainId_quiet F.plain_max_loop _,ih (j+1) _ v (by omega) (W.frame _ _ _ st1 fun c hc o e=>(Heap.get?_update_other _ _ (fun z:S=c=>hS (by rw[z];exact hc))).trans e) (by rw[bst];exact pv) ⟨_,Heap.get?_update_self _ at1 rfl⟩ fun v' g' tk' p' kp'=>?_⟩
      exact fin v' g' tk' p' fun c o c1 c2 e=>kp' c o c1 c2 ((Heap.get?_update_other _ _ (Ne.symm c2)).trans (kp c o c1 e))
    | false=>
      rw[if_neg Bool.false_ne_true]
      have bst:argBest bt (j+1)=argBest bt j:=by rw[argBest,if_neg (by rw[better];exact Bool.false_ne_true)]
      refine wpAny_bind (wpAny_letGo ?_)
      rw[nm]
      exact wpAny_pure ⟨plainId_quiet F.plain_max_loop _,ih (j+1) _ vb (by omega) st1 (by rw[bst];exact pb) ⟨_,at1⟩ fun v' g' tk' p' kp'=>fin v' g' tk' p' fun c o c1 c2 e=>kp' c o c1 c2 (kp c o c1 e)⟩
theorem G4 (W:Walks prog w A.in1 I fp wr n P St){bt:Nat→Nat→Bool}(cm:CmpOf prog w A.in1 .Gt P bt){S:Addr}(hS:S ∉ fp){s:Shared}{nm':Str}{d:Value}(st:St 0 s.heap)(at0:QN s.heap S #[])
    (f0:n=0→∀ g tk,(∀ c o,c ∉ wr→c≠S→s.heap.get? c=some o→g.get? c=some o)→R (.ok (.ret d)) { s with heap:=g,toks:=tk })
    (f1:∀ v g tk,0 < n→P (argBest bt (n - 1)) v→(∀ c o,c ∉ wr→c≠S→s.heap.get? c=some o→g.get? c=some o)→R (.ok (.ret v)) { s with heap:=g,toks:=tk }) :
    codeAny (model prog w) A (.builtin "max.loop" ⟨[.ref I,.none,.ref S],[(nm',d)]⟩) R s:=by
  have sw:S ∉ wr:=fun h=>hS (W.sub _ h)
  have nm:(toString "max" ++ toString ".loop" : String) = "max.loop" := by decide
  obtain ⟨ep,at'⟩:=at0
  refine run_plain F.plain_max_loop F.entry_max_loop ?_
  show wpAny (model prog w) A.in1 (seqItems? (.ref S) >>= _) _ _ s
  refine wpAny_bind (wpAny_seqItems at' rfl ?_)
  show wpAny (model prog w) A.in1 (tryCatch (pyNext (.ref I)) _ >>= _) _ _ s
  rcases Nat.eq_zero_or_pos n with hn | hn
  · refine wpAny_bind (wpAny_tryCatch (W.done s _ _ (by rw[hn];exact st) fun g tk kp=>?_))
    show wpAny (model prog w) A.in1 (rule _ >>= _) _ _ _
    exact wpAny_bind (wpAny_rule (wpAny_pure (f0 hn g tk fun c o c1 c2 e=>kp c o c1 e)))
  · refine wpAny_bind (wpAny_tryCatch (W.item 0 s _ _ hn st fun v g tk pv st1 kp=>?_))
    have at1:=kp S _ sw at'
    show wpAny (model prog w) A.in1 (updateSeq S (fun _=>#[v,v]) >>= _) _ _ _
    refine wpAny_bind ?_
    refine wpAny_updateSeq at1 rfl ?_
    rw[nm]
    refine wpAny_pure ⟨plainId_quiet F.plain_max_loop _,KA W cm hS _ (n - 1) 0 _ v (by omega) (W.frame _ _ _ st1 fun c hc o e=>(Heap.get?_update_other _ _ (fun z:S=c=>hS (by rw[z];exact hc))).trans e) pv ⟨_,Heap.get?_update_self _ at1 rfl⟩ fun v' g' tk' p' kp'=>?_⟩
    exact f1 v' g' tk' hn p' fun c o c1 c2 e=>kp' c o c1 c2 ((Heap.get?_update_other _ _ (Ne.symm c2)).trans (kp c o c1 e))
end
variable {s:Shared}
theorem Dg (a d:Value):argsOk "max" ⟨[a],[(Str.ofString "default", d)]⟩:=by unfold argsOk;kernel_rfl
theorem DF (d:Value):Builtin.Builtins.bindParams "max" ["key", "default"] 0 ⟨[],[(Str.ofString "default", d)]⟩=pure [none,some d]:=by kernel_rfl
theorem Jy {id:String}{bi:Builtin}{a:Args}{Q:Value→Shared→Prop}(hk:builtinKind id=none)(hp:plainId id=true)(hb:entryFor table id=some bi)(ha:argsOk id a)
    (h:wpAny (model prog w) A.in1 (bi a) (fun fin s'=>match fin with
      | .done f=>(match (Except.ok f:Result) with | .ok (.ret v)=>Q v s' | .ok _=>False | .error e=>E e s') | .again c'=>c'.quiet=true∧codeAny (model prog w) A c' (fun r s'=>match r with | .ok (.ret v)=>Q v s' | .ok _=>False | .error e=>E e s') s') E s):wpAny (model prog w) A (call (.builtin id) a.pos a.kw) Q E s:=by
  refine wpAny_call (codeAny_call_builtin hp hb ?_);simp only[checkBuiltinCall,hk]
  unfold argsOk at ha
  split<;>rename_i sg
  · rw[sg] at ha
    have ha':Bind.checkArgs id _ a=pure ():=ha
    rw[show (⟨a.pos,a.kw⟩:Args)=a from rfl,ha']
    exact wpAny_pure h
  · exact wpAny_pure h
theorem Dh {l:Addr}{xs:Array (Int×Tok)}{d:Value}{Q:Value→Shared→Prop}(hh:A.handled=none)(hl:s.heap.IsList l (intItems xs))
    (f0:xs.size=0→∀ g tk,Kept s g→Q d { s with heap:=g,toks:=tk })
    (f1:∀ v g tk,0 < xs.size→(intItems xs)[argBest (fun i j=>decide (numAt xs i > numAt xs j)) (xs.size - 1)]? = some v→Kept s g→Q v { s with heap:=g,toks:=tk }) :
    wpAny (model prog w) A (call (.builtin "max") [.ref l] [(Str.ofString "default", d)]) Q E s:=by
  have nm:(toString "max" ++ toString ".loop" : String) = "max.loop" := by decide
  refine Jy (a:=⟨[.ref l],[(Str.ofString "default", d)]⟩) F.kind_max F.plain_max F.entry_max (Dg _ _) ?_
  show wpAny (model prog w) A.in1 (Builtin.Builtins.bindParams "max" ["key", "default"] 0 ⟨[],[(Str.ofString "default", d)]⟩ >>= _) _ _ s
  refine wpAny_bind (wpAny_of_eq (DF d) ?_)
  refine wpAny_bind (wpAny_pure ?_)
  refine wpAny_bind (iter_intList hl fun s₂ e st hfp hlI=>?_)
  subst e
  refine wpAny_bind (wpAny_newObj_type ?_);rw[nm]
  have W:=Walks.list (prog:=prog) (w:=w) (A:=A.in1) hh _ l hlI (intItems xs)
  have n1:(intItems xs).size=xs.size:=by simp[intItems]
  have S0:(s.heap.push { cls:=.type "list_iterator", data:=.fields #[.ref l,.int 0 0] }).objs.size ∉ [s.heap.objs.size,l]:=fun hm=>Nat.lt_irrefl _ (hfp _ hm)
  have old:∀ g,(∀ c o,c ∉ [s.heap.objs.size]→c≠(s.heap.push { cls:=.type "list_iterator", data:=.fields #[.ref l,.int 0 0] }).objs.size→((s.heap.push { cls:=.type "list_iterator", data:=.fields #[.ref l,.int 0 0] }).push { cls:=.type "list", data:=.seq ([]:List Value).toArray }).get? c=some o→g.get? c=some o)→Kept s g:=fun g kp c o e=>by
    have lt:=Heap.lt_size e
    exact kp c o (fun h=>by rw[List.mem_singleton.mp h] at lt;exact Nat.lt_irrefl _ lt) (by rw[Heap.size_push];exact Nat.ne_of_lt (Nat.lt_succ_of_lt lt)) (Heap.get?_push_of_some _ (Heap.get?_push_of_some _ e))
  refine wpAny_pure ⟨plainId_quiet F.plain_max_loop _,G4 W (CmpOf.ints_gt (numAt xs) fun _ _=>intItems_at) S0 (W.frame _ _ _ st fun c _ o e=>Heap.get?_push_of_some _ e) ⟨_,Heap.get?_push_size _ rfl⟩ (fun z g tk kp=>?_) fun v g tk hn pv kp=>?_⟩
  · exact f0 (by rw[← n1];exact z) g tk (old g kp)
  · rw[n1] at hn pv
    exact f1 v g tk hn pv (old g kp)
end
section
variable {X:Cx} {e d:Expr} {p pos kp:Pos} {Te Td:ETr}
def QC (K:PySem.W.Frag)(xs:List V)(zs:List V)(H:Hp)(Q:VK):Prop:=∃ (p:Addr) (ns:List Int) (z:V),xs=[.ref p]∧zs=[z]∧SqL K H p (ns.map V.int)∧(ns=[]→Q z H)∧(ns≠[]→∀ M,M∈ns→(∀ a∈ns,a≤M)→Q (.int M) H)
theorem Jd {t tk:TA}(hc:X.calm=true)(hg:Gl X "max")(hm:X.mg "max" = none)(ha:PA X [e] t)(hkw:PK X [⟨some (Str.ofString "default"),d,kp⟩] tk)(he:backTo pos (starEach [e] X.env)=(false,eval e X.env)::backTo pos (starEach [] X.env):=by rfl)(hpl:(backTo pos (starEach [e] X.env)).any (·.1)=false:=by rfl) :
    PE X (.Call (.Name "max" p) [e] [⟨some (Str.ofString "default"),d,kp⟩] pos) (fun σ H Q=>t σ H fun xs H1=>tk σ H1 fun zs H2=>QC X.K xs zs H2 Q):=by
  intro pins s σ H Q I h
  refine wpAny_Call_Name_kw (iC I hg hm (u:=.builtin "max") (by rfl) ?_)
  refine callWith_kw (thn (ha pos pins s σ H _ I h) fun us s1 ⟨vs,H1,I1,r1,q1⟩=>thn (hkw pos pins s1 σ H1 _ I1 q1) fun ws s2 ⟨zs,H2,I2,rz,q2⟩=>?_) he hpl rfl rfl
  obtain ⟨q,ns,z,rfl,rfl,sq,k0,k1⟩:=q2
  obtain ⟨u,rfl,ru⟩:=vals1 r1
  cases ru
  obtain ⟨u,rfl,rz1⟩:=vals1 rz
  obtain ⟨its,rv,pl,_⟩:=I2.list sq
  obtain ⟨ps,rfl,rfl⟩:=gW (intsAre_of rv)
  have il:s2.heap.IsList q (intItems ps.toArray):=by
    have:=pl.isList
    simpa[intItems] using this
  have hs:ps.toArray.size=ps.length:=by simp
  refine Dh (I2.ok.hd hc) il (fun z0 g tk kp=>?_) fun v g tk hn hv hk=>?_
  · exact ⟨z,H2,I2.kept kp,rz1,k0 (by rw[hs] at z0;cases ps with | nil=>rfl | cons=>cases z0)⟩
  · rcases intItems_at hv with ⟨t,rfl⟩
    obtain ⟨b1,b2⟩:=argBest_gt (numAt ps.toArray) (ps.toArray.size - 1)
    generalize argBest (fun i j=>decide (numAt ps.toArray i > numAt ps.toArray j)) (ps.toArray.size - 1)=m at hv b1 b2
    rw[hs] at b1 b2 hn
    have hk':m < (ps.map Prod.fst).length:=by rw[List.length_map];omega
    refine ⟨.int _,H2,I2.kept hk,⟨t,rfl⟩,k1 (fun z=>by rw[List.map_eq_nil_iff.mp z] at hn;cases hn) _ ?_ fun a ha=>?_⟩
    · rw[qf,List.getElem?_eq_getElem hk']
      exact List.getElem_mem hk'
    · obtain ⟨j,hj,rfl⟩:=List.getElem_of_mem ha
      have:=b2 j (by rw[List.length_map] at hj;omega)
      rw[qf ps j,List.getElem?_eq_getElem hj] at this
      exact this
def B3 (Te Td:ETr):ETr:=fun ρ μ Q=>Te ρ μ fun x μ1=>Td ρ μ1 fun y μ2=>match x with
  | .ls xs=>∃ ns:List Int,xs=ns.map .int∧(ns=[]→Q y μ2)∧(ns≠[]→∀ M,M∈ns→(∀ a∈ns,a≤M)→Q (.int M) μ2)
  | _=>False
theorem Cc (hc:X.calm=true)(hg:Gl X "max")(hm:X.mg "max" = none)(ha:LE X e Te)(hd:LE X d Td)(h1:starEach [e] X.env=(false,eval e X.env)::starEach [] X.env:=by rfl)(he:backTo pos (starEach [e] X.env)=(false,eval e X.env)::backTo pos (starEach [] X.env):=by rfl)(hpl:(backTo pos (starEach [e] X.env)).any (·.1)=false:=by rfl) :
    LE X (.Call (.Name "max" p) [e] [⟨some (Str.ofString "default"),d,kp⟩] pos) (B3 Te Td):=by
  obtain ⟨te,pe,se⟩:=ha.ex
  obtain ⟨td,pd,sd⟩:=hd.ex
  refine ⟨_,Jd hc hg hm (eV pe iM h1) (Lv pd Ng) he hpl,fun σ H ρ μ Q Q' rl h k=>se σ H ρ μ _ _ rl h fun x H1 dx μ1 t1 m1 p1 h1=>sd σ H1 ρ μ1 _ _ (rl.go t1 m1) h1 fun y H2 dy μ2 t2 m2 p2 h2=>?_⟩
  cases (p1.mono t2) with
  | @ls q xs ds sq l=>
    obtain ⟨ns,rfl,k0,k1⟩:=h2
    have ex:=l.ints_of
    subst ex
    exact ⟨q,ns,y,rfl,rfl,sq.sq,fun z=>k _ H2 _ μ2 (t1.trans t2) m2 p2 (k0 z),fun z M h3 h4=>k _ H2 _ μ2 (t1.trans t2) m2 (.int _) (k1 z M h3 h4)⟩
  | _=>exact False.elim h2
end
end
section
open PySem PySem.Spec PyProof.Rows L2
def ua (It':ATr)(G:GTr)(tt:TTr)(te:ETr)(n:Nat)(caps:List Nat):ETr:=fun ρ μ Q=>It' ρ μ fun ds μ1=>∀ p,μ1 p=none→fR p G tt te (fo ρ n caps) (fun μ'=>Q (.obj p) μ') ds (up μ1 p (.lst []))
theorem E6 {X:Cx}{tg iter elt:Expr}{ifs:List Expr}{scope:Scope}{pos spos py:Pos}{y:Str}{iy:Nat}{wi:TI}{g:TG}{tt:TT}{te:TE}{Nc:List Str}{n:Nat}{caps:List Nat}
    (hxe:X.xe=fun _ _=>False) (hcalm:X.calm=true) (hi:PI X tg iter wi)
    (hbody:∀ (cl:List (Str×Addr)) (C:Addr) (s₀:Shared) (H₀:Hp) (ex:List Addr),PG (a8 X scope Nc cl C s₀ H₀ ex) tg g∧Dn (a8 X scope Nc cl C s₀ H₀ ex) ifs tt∧PE (a8 X scope Nc cl C s₀ H₀ ex) elt te)
    (hfree:∀ y∈scope.names,y.2=.free→X.env.kindOf y.1=some .cell) (hcell:∀ y∈scope.names,y.2≠.cell) (gv:scope.kind=.function)
    (hnames:∀ y∈scope.names,y.2=.local→scope.names.lookup y.1=some .local) (hlen:Nc.length=n+caps.length)
    (hcap:∀ (j k:Nat),caps[j]? = some k→∃ x,Nc[n+j]? = some x∧X.N[k]? = some x∧scope.names.lookup x=some .free)
    (pgy:PG X (.Name y py) (lK iy))
    (hsw:swapsWith (.ListComp elt [⟨tg,iter,ifs,0⟩] scope pos) (some (.Name y py)) spos.line X.env=pure true)
    (hs:∀ x,foldedSetIterable iter X.env x=pure x:=by intro _;rfl) :
    PS X (.Assign [.Name y py] (.ListComp elt [⟨tg,iter,ifs,0⟩] scope pos) spos) (Ls (sV wi g tt te n caps) (lK iy)):=by
  intro pins s σ H E' I h
  rw[hxe]
  obtain ⟨cl,hclos,clin,clfree⟩:=kF (scope:=scope) (env:=X.env) fun y hy hf=>I.ok.has y.1 (.inl (hfree y hy hf))
  rewrite [exec_Assign_Name_used _ _ _ _ hsw]
  refine wpAny_bind (wpAny_standAt ?_)
  refine wpAny_bind ?_
  refine (show wpAny _ X.A (do let _ ← comprehension (.ListComp elt [⟨tg,iter,ifs,0⟩] scope pos) scope X.env _ (newList []) false (eval iter X.env) (some (assign (.Name y py) X.env))) _ _ s from ?_)
  refine wpAny_bind (wpAny_mono (wpAny_comprehension_free (use:=some (assign (.Name y py) X.env)) (Q:=fun _ s'=>SP X pins E' .next s') rfl hs hclos gv hnames ?_) (fun _ s' hq=>wpAny_pure (wpAny_pure hq)) fun _ _ e=>e)
  have hi':=hi pins s σ H _ I h
  rw[hxe] at hi'
  refine wpAny_mono hi' (fun xv s1 h1=>wpAny_mono h1 (fun itv s2 h2=>?_) fun _ _ z=>z) fun _ _ z=>z
  obtain ⟨it,fp,tn,J,H1,rfl,I2,T,st2,f2,hh⟩:=h2
  -- the new list
  refine wpAny_newObj_type ?_
  have hD:H1 s2.heap.objs.size=none:=I2.hok.fresh (Nat.le_refl _)
  obtain ⟨W,⟨m0,w0⟩,turn⟩:=hh _ hD
  have I3:Inv X pins σ (L2.upd H1 s2.heap.objs.size (.lst [])) { s2 with heap:=s2.heap.push { cls:=.type "list", dict:=none,data:=.seq ([]:List Value).toArray } }:=
    I2.laid (t':=s2.toks) (fun b u e=>Heap.get?_push_of_some _ e) (Nat.le_refl _) ⟨Nat.zero_le _,[],0,.nil,Heap.get?_push_size _ rfl⟩
  have k3:∀ b u,s2.heap.get? b=some u→(s2.heap.push { cls:=.type "list", dict:=none,data:=.seq ([]:List Value).toArray }).get? b=some u:=fun b u e=>Heap.get?_push_of_some _ e
  have fne:∀ b∈fp,b≠s2.heap.objs.size:=fun b hb=>by
    obtain ⟨o,ho,_⟩:=T.obj 0 _ st2 b hb
    exact Nat.ne_of_lt (Heap.lt_size ho)
  generalize eD:s2.heap.objs.size=D at *
  generalize eh3:s2.heap.push { cls:=.type "list", dict:=none,data:=.seq ([]:List Value).toArray }=h3 at *
  generalize eH3:L2.upd H1 D (.lst [])=H3 at *
  have st3:tn 0 h3:=T.keep 0 _ _ st2 fun b hb o e=>k3 b o e
  have f3:∀ b∈fp,lE X pins H3 b:=fun b hb=>⟨by rw[← eH3,aL (fne b hb)];exact (f2 b hb).1,(f2 b hb).2⟩
  have lt3:∀ b∈fp,b < h3.objs.size:=fun b hb=>by
    obtain ⟨o,ho,_⟩:=T.obj 0 _ st3 b hb
    exact Heap.lt_size ho
  generalize es3:({ s2 with heap:=h3 }:Shared)=s3 at *
  have hs3:s3.heap=h3:=by rw[← es3]
  refine wpAny_newFunctionEnv hcell (fun y hy=>(by cases hy)) (fun h4 hns hsb=>?_) gv
  show codeAny _ _ (.compStart _ 0 (.ref it) (.ref D) (compEnvC scope cl s3.heap.objs.size X.env)) (compPost _ _ _ _ _ (.ref D) s3.heap.objs.size) _
  have k4:∀ b u,s3.heap.get? b=some u→h4.get? b=some u:=fun b u e=>hsb.extBut b u (Nat.ne_of_lt (Heap.lt_size e)) (Heap.get?_push_of_some _ e)
  have okY:(a8 X scope Nc cl s3.heap.objs.size s3 H3 fp).Ok:=by
    refine ⟨I3.ok.mod,gv,I3.ok.glob,I3.ok.blt,Nat.le_refl _,fun x y c e1 e2=>I3.ok.inj x y c (clin _ _ e1) (clin _ _ e2),fun x hx=>?_,fun x c hf=>(by cases hf),I3.ok.hd,I3.ok.frames,.inl rfl,fun b hb=>⟨?_,fun x c e z=>?_⟩,I3.bs,Nat.le_trans I3.ok.bsz I3.sz,fun b o e hb=>?_,fun b hb hz=>?_,I3.stack,I3.oJ⟩
    · have hx':(relabel scope X.env).names.lookup x=some .cell∨(relabel scope X.env).names.lookup x=some .free:=hx
      have hm:(x,NameKind.free)∈scope.names:=by
        rcases hx' with q | q
        · exact eF hcell (.inl rfl) (PySem.mem_of_lookup q)
        · exact eF hcell (.inr rfl) (PySem.mem_of_lookup q)
      exact clfree _ hm rfl
    · show b≠s3.heap.objs.size
      rw[hs3];exact Nat.ne_of_lt (lt3 b hb)
    · exact (f3 b hb).2.2.2.2.1 x c (clin _ _ e) z
    · rcases (f3 b hb).2.2.2.1 with z | z
      · exact I3.ok.zl b o e z
      · exact absurd (Nat.lt_of_lt_of_le (Heap.lt_size e) (Nat.le_trans I3.ok.bsz z)) (Nat.lt_irrefl _)
    · rcases List.mem_cons.mp (I3.p7 b hz) with z | z
      · exact (f3 b hb).2.1 z
      · exact (f3 b hb).2.2.1 z
  have vS:∀ c v,s3.heap.IsCell c v→h4.IsCell c v:=fun c v ⟨o,ho,hd⟩=>⟨o,k4 c o ho,hd⟩
  have J0:Inv (a8 X scope Nc cl s3.heap.objs.size s3 H3 fp) [] (fB σ n caps) H3 { s3 with heap:=h4,toks:=s3.toks+([]:List (Str×Value)).length }:=by
    refine ⟨okY,rfl,I3.bare,Un.kept k4,⟨_,hns,fun i x v e1 e2 e3=>?_⟩,fun x c e=>?_,I3.hok.fresh (Nat.le_refl _),fun x c e=>I3.ir x c (clin _ _ e),(fun p hp=>(by cases hp)),I3.hok.kept k4,?_⟩
    · obtain ⟨j,k,rfl,ej,ek⟩:=gu e2
      obtain ⟨x',n1,n2,n3⟩:=hcap j k ej
      have e1':Nc[n+j]? = some x:=e1
      rw[n1] at e1';cases e1'
      have hmem:(x,NameKind.free)∈scope.names:=PySem.mem_of_lookup n3
      have hcellx:X.env.kindOf x=some .cell:=hfree _ hmem rfl
      obtain ⟨m,hn,hl⟩:=I3.loc
      obtain ⟨u,ru,lk⟩:=hl k x v n2 ek (.inr (.inl hcellx))
      refine ⟨u,ru,.inr ⟨.inl (cH I3.ok.kind hcellx n3),?_⟩⟩
      rcases lk with ⟨q,_⟩ | ⟨_,c,ec,ic⟩
      · rw[hcellx] at q;cases q
      · obtain ⟨c',ec'⟩:=clfree _ hmem rfl
        have:=clin _ _ ec'
        rw[ec] at this;cases this
        exact ⟨c,ec',vS _ _ ic⟩
    · obtain ⟨v,q⟩:=I3.cell x c (clin _ _ e)
      exact ⟨v,vS _ _ q⟩
    · unfold fB
      show _=Nc.length
      rw[List.length_append,List.length_replicate,List.length_map,hlen]
  obtain ⟨pg,pifs,pelt⟩:=hbody cl s3.heap.objs.size s3 H3 fp
  generalize eY:a8 X scope Nc cl s3.heap.objs.size s3 H3 fp=Y at *
  have yP:Y.prog=X.prog:=by rw[← eY];rfl
  have yw:Y.w=X.w:=by rw[← eY];rfl
  have yK:Y.K=X.K:=by rw[← eY];rfl
  have yA:Y.A=X.A:=by rw[← eY];rfl
  have yx:Y.xe=fun _ _=>False:=by rw[← eY];exact hxe
  have yc:Y.calm=true:=by rw[← eY];exact hcalm
  have ye:Y.env=compEnvC scope cl s3.heap.objs.size X.env:=by rw[← eY];rfl
  have yfs:Y.fs=frs X.stack:=by rw[← eY];rfl
  have yex:Y.ex=fp:=by rw[← eY];rfl
  have ys0:Y.s₀=s3:=by rw[← eY];rfl
  have yH0:Y.H₀=H3:=by rw[← eY];rfl
  have ypn:Y.pn=[]:=by rw[← eY];rfl
  have kC:∀ {H':Hp},(∀ b∈fp,H' b=none)→∀ b∈fp,lE Y [] H' b:=fun hn b hb=>⟨hn b hb,by rw[ye];show b≠s3.heap.objs.size;rw[hs3];exact Nat.ne_of_lt (lt3 b hb),okY.zI b (by rw[yex];exact hb),.inl (by rw[yex];exact hb),
    fun x c e=>by rw[ye] at e;exact (f3 b hb).2.2.2.2.1 x c (clin _ _ e),fun p hp=>by rw[ypn] at hp;exact nomatch hp⟩
  have tn4:∀ t,tn 0 ({ s3 with heap:=h4,toks:=t }:Shared).heap:=fun t=>T.keep 0 _ _ st3 fun b hb o e=>k4 b o (by rw[hs3];exact e)
  -- the end
  have fin:∀ (s5:Shared) (H5:Hp),Inv Y [] (fB σ n caps) H5 s5→lK iy (.ref D) σ H5 E'.nx→
      compPost (model X.prog X.w) X.A (fun _ _=>False) (some (assign (.Name y py) X.env)) (fun _ s'=>SP X pins E' .next s') (.ref D) s3.heap.objs.size (.ok .next) s5:=fun s5 H5 I5 q5=>by
    obtain ⟨m,hn,_⟩:=I5.loc
    rw[ye] at hn
    have nC:∀ b o,s3.heap.get? b=some o→b≠s3.heap.objs.size:=fun b o e=>Nat.ne_of_lt (Heap.lt_size e)
    have un:=I5.base
    rw[yfs,yex,yH0,ys0] at un
    have hfreeC0:=I5.free
    rw[ye] at hfreeC0
    have hfreeC:H5 s3.heap.objs.size=none:=hfreeC0
    have hok5:=I5.hok
    rw[yP,yw] at hok5
    have I5X:Inv X pins σ H5 s5:=I3.xh (ch:=fp) (s':=s5) (by have:=I5.os;rw[ys0] at this;exact this) un hok5 I5.bare fun b hb=>⟨(f3 b hb).2.2.2.1,(f3 b hb).2.1,(f3 b hb).2.2.2.2.1,(f3 b hb).2.2.2.2.2⟩
    have fC:lE X pins H5 s3.heap.objs.size:=I3.zH (Nat.le_refl _) hfreeC
    obtain ⟨oC,gC,dC⟩:∃ oC,s5.heap.get? s3.heap.objs.size=some oC∧∀ v,oC.data≠.cell v:=by
      obtain ⟨oC,es,ep,ho,hd,_⟩:=hn
      exact ⟨oC,ho,fun v z=>by rw[hd] at z;cases z⟩
    have I5P:=I5X.pinned (fp:=[s3.heap.objs.size]) (fun b hb=>by cases List.mem_singleton.mp hb;exact fC) (fun b hb=>by cases List.mem_singleton.mp hb;exact ⟨oC,gC,dC⟩)
    have as:=pgy _ s5 σ _ (.ref D) (.ref D) E'.nx I5P rfl q5
    rw[hxe] at as
    refine thn as fun _ s6 ⟨σ6,H6,I6,n6⟩=>?_
    obtain ⟨g6,f6,_⟩:=I6.pin (s3.heap.objs.size,oC) (List.mem_append_right _ (List.mem_append_right _ (cp List.mem_cons_self gC)))
    refine ⟨m,hn.at' (fun o' e'=>by have e'':s5.heap.get? s3.heap.objs.size=some o':=e';rw[gC] at e'';cases e'';exact g6),fun h7 hs7=>⟨σ6,H6,?_,n6⟩⟩
    have I6U:=I6.fE
    have keep:∀ b o',b≠s3.heap.objs.size→s6.heap.get? b=some o'→h7.get? b=some o':=fun b o' hb e'=>(hs7.2 b hb).trans e'
    refine I6U.xh (ch:=[s3.heap.objs.size]) (s':={ s6 with heap:=h7 }) rfl ⟨fun b o' e' _ _ nx=>keep b o' (fun z=>nx (by rw[z];exact List.mem_cons_self)) e',fun b o' e' _ _ nx=>⟨o'.slots,keep b o' (fun z=>nx (by rw[z];exact List.mem_cons_self)) e'⟩,fun b o' _ w _=>w,fun b o' e' nx=>⟨o',keep b o' (fun z=>nx (by rw[z];exact List.mem_cons_self)) e'⟩,fun b ys e'=>e',fun b o' u e'=>e',fun b ps e'=>⟨#[],by simpa using e'⟩⟩ (fun b u e'=>?_) I6U.bare fun b hb=>?_
    · refine (I6U.hok b u e').lI (fun c w' hc q=>keep c w' ?_ q) (fun _ q=>q) fun _ _ q=>q
      rintro rfl
      rcases hc with z | z
      · rw[← z,f6] at e';cases e'
      · rw[f6] at z;cases z
    · cases List.mem_singleton.mp hb
      exact ⟨fC.2.2.2.1,fC.2.1,fC.2.2.2.2.1,fC.2.2.2.2.2⟩
  have loop:codeAny (model X.prog X.w) X.A (.compLoop (.ListComp elt [⟨tg,iter,ifs,0⟩] scope pos) 0 (.ref it) (.ref D) (compEnvC scope cl s3.heap.objs.size X.env)) (compPost (model X.prog X.w) X.A (fun _ _=>False) (some (assign (.Name y py) X.env)) (fun _ s'=>SP X pins E' .next s') (.ref D) s3.heap.objs.size)
      { s3 with heap:=h4,toks:=s3.toks+([]:List (Str×Value)).length }:=by
    refine mG (fun k s'=>∃ i ys H',Inv Y [] (fB σ n caps) H' s'∧tn i s'.heap∧(∀ b∈fp,H' b=none)∧W i k ys H') ?_ m0 ⟨0,[],H3,J0,tn4 _,fun b hb=>(f3 b hb).1,w0⟩
    rintro k s5 ⟨i,ys,H5,I5,st5,fr5,w5⟩
    rcases turn i k ys H5 w5 with ⟨stop,q⟩ | ⟨go,N,hN,step⟩
    · have d:=T.done Y yP yw yK yc i [] s5 _ H5 (fun _ _=>False) I5 (kC fr5) st5 stop
      rw[yA] at d
      refine thn d fun r s6 ⟨hr,I6⟩=>?_
      subst hr
      exact fin s6 H5 I6 q
    · have d:=T.item Y yP yw yK yc i [] s5 _ H5 (fun _ _=>False) I5 (kC fr5) st5 go
      rw[yA] at d
      refine thn d fun r s6 ⟨u,hr,h6⟩=>?_
      subst hr
      refine thn h6 fun _ s7 ⟨x,H7,I7,r7,y7,st7,fr7⟩=>?_
      have I7':=I7.pinned (kC fr7) (T.obj _ _ st7)
      have a:=pg _ s7 _ H7 x u _ I7' r7 (step x H7 y7)
      rw[yP,yw,yA,yx,ye] at a
      refine thn a fun _ s8 ⟨σ8,H8,I8,wk,q8⟩=>?_
      have b:=pifs _ s8 σ8 H8 _ I8 q8
      rw[yP,yw,yA,yx,ye] at b
      have again:∀ {s9:Shared} {ys9:List V} {H9:Hp},Inv Y ([]++ky fp s7.heap) σ8 H9 s9→N ys9 H9→∃ m,m < k∧∃ i ys H',Inv Y [] (fB σ n caps) H' s9∧tn i s9.heap∧(∀ b∈fp,H' b=none)∧W i m ys H':=fun {s9 ys9 H9} I9 n9=>by
        obtain ⟨m',hm,w9⟩:=hN ys9 H9 n9
        have hp:∀ b∈fp,∀ o,s7.heap.get? b=some o→s9.heap.get? b=some o∧H9 b=none:=fun b hb o e=>
          ⟨(I9.pin (b,o) (List.mem_append_right _ (List.mem_append_right _ (cp hb e)))).1,(I9.pin (b,o) (List.mem_append_right _ (List.mem_append_right _ (cp hb e)))).2.1⟩
        refine ⟨m',hm,i+1,ys9,H9,I9.fE.weak wk.1 wk.2,T.keep _ _ _ st7 fun b hb o e=>(hp b hb o e).1,fun b hb=>?_,w9⟩
        obtain ⟨o,e,_⟩:=T.obj _ _ st7 b hb
        exact (hp b hb o e).2
      refine thn b fun ok s9 ⟨H9,I9,q9⟩=>?_
      cases ok with
      | false=>
        rw[if_neg Bool.false_ne_true] at q9 ⊢
        exact again I9 q9
      | true=>
        rw[if_pos rfl] at q9 ⊢
        have c:=pelt _ s9 σ8 H9 _ I9 q9
        rw[yP,yw,yA,yx,ye] at c
        refine thn c fun v s10 ⟨y,H10,I10,r10,zs,ez,lz,n10⟩=>?_
        have d:=jZ (X:=Y) _ s10 σ8 H10 (.ref D) [y] (.ref D) [v] (fun _ H'=>N (zs++[y]) H') I10 rfl (.cons r10 .nil) ⟨D,zs,y,rfl,rfl,ez,lz,n10⟩
        rw[yP,yw,yA,yx] at d
        exact thn d fun _ s11 ⟨_,H11,I11,_,q11⟩=>again I11 q11
  refine codeAny_compStart_list loop ?_
  exact T.self X.A 0 _ _ _ (tn4 _) loop
theorem CB {K:PySem.W.Frag}{wi:TI}{It':ATr}{G:GTr}{Tt:TTr}{Te:ETr}{n:Nat}{caps:List Nat}(si:Om K wi It'):Sim K (sV wi (lB K n G) (liftT K Tt) (lD K Te) n caps) (ua It' G Tt Te n caps):=by
  intro σ H ρ μ Q Q' rl h k
  refine si σ H ρ μ _ _ rl h fun J H1 ds μ1 t1 m1 Y h1 D hD=>?_
  have hp:=h1 D (m1.free hD)
  have tD:Tk H1 (L2.upd H1 D (.lst [])):=.new hD
  have mD:bJ K (L2.upd H1 D (.lst [])) (up μ1 D (.lst [])):=fun a o e=>by
    by_cases ha:a=D
    · subst ha
      rw[aG] at e;cases e
      exact ⟨[],aM,.nil⟩
    · rw[aU ha] at e
      exact c5 m1 hD a o e
  refine ⟨fun i m ys H2=>m=ds.length - i∧i≤ds.length∧Tk H1 H2∧∃ μ2,bJ K H2 μ2∧fR D G Tt Te (fo ρ n caps) (fun μ'=>Q (.obj D) μ') (ds.drop i) μ2,
    ⟨ds.length,by simp,Nat.zero_le _,tD,_,mD,by simpa using hp⟩,?_⟩
  rintro i m ys H2 ⟨rfl,hi,t12,μ2,m2,h2⟩
  by_cases hlt:i < ds.length
  · refine .inr ⟨Y.go i H2 t12 hlt,fun ys' H'=>Tk H1 H'∧∃ μ',bJ K H' μ'∧fR D G Tt Te (fo ρ n caps) (fun μ'=>Q (.obj D) μ') (ds.drop (i+1)) μ',fun ys' H' ⟨t',μ',m',h'⟩=>⟨ds.length - (i+1),by omega,rfl,hlt,t',μ',m',h'⟩,fun x H3 y=>?_⟩
    obtain ⟨t23,⟨d,ed,pd⟩,mk⟩:=Y.yld i H2 x H3 t12 hlt y
    have e:ds.drop i=d::ds.drop (i+1):=by
      refine (List.drop_eq_getElem_cons hlt).trans ?_
      congr 1
      rw[List.getElem?_eq_getElem hlt] at ed
      exact Option.some.inj ed
    rw[e] at h2
    have t13:=t12.trans t23
    have r3:Rl K (fB σ n caps) H3 (fo ρ n caps) μ2:=oP (rl.go (t1.trans t13) (mk _ m2)) n caps
    refine ⟨_,_,d,_,r3,pd,h2,fun σ4 H4 ρ4 μ4 t4 r4 kp h4=>⟨⟨kp.1.symm,fun j v ej=>?_⟩,_,_,_,r4,h4,fun b H5 μ5 t5 m5 h5=>?_⟩⟩
    · by_cases hj:n≤j
      · rw[kp.2 j hj];exact ej
      · obtain ⟨j',k',e1,_⟩:=gu ej
        omega
    · have t15:=t13.trans (t4.trans t5)
      cases b with
      | false=>exact pW ⟨t15,μ5,m5,h5⟩
      | true=>
        refine pG ⟨_,_,_,r4.go t5 m5,h5,fun v H6 d6 μ6 t6 m6 p6 h6=>?_⟩
        obtain ⟨zs,ez,lz,h7⟩:=bK h6
        obtain ⟨xs,ex,lx⟩:=m6 D _ ez
        have t67:Tk H6 (L2.upd H6 D (.lst (xs++[v]))):=.upd (fun ys z=>by rw[ex] at z;cases z) fun o' u z=>by rw[ex] at z;cases z
        refine ⟨xs,ex,by rw[lx.length];exact Nat.lt_of_lt_of_le lz (by decide),(t15.trans t6).trans t67,up μ6 D (.lst (zs++[d6])),fun a o ea=>?_,h7⟩
        by_cases ha:a=D
        · subst ha
          rw[aG] at ea;cases ea
          exact ⟨_,aM,(lx.append (.cons p6 .nil)).mono t67⟩
        · rw[aU ha] at ea
          exact (m6 a _ ea).ne t67 ha
  · have e:i=ds.length:=by omega
    subst e
    rw[List.drop_length] at h2
    exact .inl ⟨Y.stop _ H2 t12 (Nat.le_refl _),k _ _ _ μ2 (t1.trans t12) m2 (.obj _) h2⟩
theorem FK {X:Cx}{tg elt iter:Expr}{Te:ETr}{Tt:TTr}{pos spos py:Pos}{y:Str}{It':ATr}{G:GTr}{ifs:List Expr}{scope fsc:Scope}(iy:Nat)(hN:X.N.Nodup)(XN Nc:List Str)(n:Nat)(caps:List Nat)(hxe:X.xe=fun _ _=>False)(hcalm:X.calm=true)(hi:LI X tg iter It')
    (hbody:∀ (cl:List (Str×Addr)) (C:Addr) (s₀:Shared) (H₀:Hp) (ex:List Addr),LGc (a8 X scope Nc cl C s₀ H₀ ex) n tg G∧xH (a8 X scope Nc cl C s₀ H₀ ex) ifs Tt∧LE (a8 X scope Nc cl C s₀ H₀ ex) elt Te)
    (hsc:X.env.scope=fsc) (hXN:X.N=XN) (hok:gO fsc.names XN scope Nc n caps=true)
    (hiy:X.N[iy]? = some y:=by rfl) (hx:Loc X.env.scope y:=by first | exact Or.inl rfl | exact Or.inr rfl) (hf:X.fn y=true∨X.env.scope.names.lookup y=some .local:=by first | exact .inl rfl | exact .inr rfl | assumption)
    (hsw:swapsWith (.ListComp elt [⟨tg,iter,ifs,0⟩] scope pos) (some (.Name y py)) spos.line X.env=pure true:=by rfl)
    (hs:∀ x,foldedSetIterable iter X.env x=pure x:=by intro _;rfl) :
    LS X (.Assign [.Name y py] (.ListComp elt [⟨tg,iter,ifs,0⟩] scope pos) spos) (aN (ua It' G Tt Te n caps) (aw iy)):=by
  unfold gO at hok
  simp only[Bool.and_eq_true,List.all_eq_true] at hok
  obtain ⟨⟨⟨h1,h2⟩,h3⟩,h4⟩:=hok
  obtain ⟨wi,pi,si⟩:=hi.ex
  refine ⟨_,E6 (g:=lB X.K n G) (tt:=liftT X.K Tt) (te:=lD X.K Te) hxe hcalm pi (fun cl C s₀ H₀ ex=>let ⟨h1,h2,h3⟩:=hbody cl C s₀ H₀ ex;⟨h1.pe,h2.pe,h3.pe⟩) (fun y hy hf=>?_) (fun y hy hf=>?_) (by simpa using h2) (fun y hy hf=>?_) (by simpa using h3) (fun j k hj=>?_) (iz hN hiy hx hf) hsw hs,fun σ H ρ μ E E' rl h k=>CB si σ H ρ μ _ _ rl h fun v H' d μ' t' m' p' h'=>g9 iy σ H' ρ μ' v d _ _ (rl.go t' m') p' h' (k.go t').nx⟩
  · have:=(h1 y hy).1.1
    show X.env.scope.names.lookup y.1=_
    rw[hsc]
    simpa[hf] using this
  · have:=(h1 y hy).1.2
    simp[hf] at this
  · have:=(h1 y hy).2
    simpa[hf] using this
  · have hl:j < caps.length:=(List.getElem?_eq_some_iff.mp hj).1
    have:=h4 j (List.mem_range.mpr hl)
    rw[hj] at this
    dsimp only at this
    rw[hXN]
    cases e:XN[k]? with
    | none=>rw[e] at this;cases this
    | some x=>
      rw[e] at this
      dsimp only at this
      rw[Bool.and_eq_true] at this
      exact ⟨x,by simpa using this.1,rfl,by simpa using this.2⟩
section
variable {X:Cx} {o i:Expr} {To Ti:ETr} {apos cpos:Pos}
end
end
section
open PySem PySem.Spec PyProof.Rows L2
section
variable {X:Cx} {o i:Expr} {To Ti:ETr} {apos cpos:Pos}
theorem Ac (l:Addr)(its:Array Value)(n:Nat)(q:Addr)(its2:Array Value)(n2:Nat)(dd:Option Addr)(sl:Array (Option Value))(h0:¬ (!its.isEmpty&&Builtin.List.listTooLong (its.size+its2.size))=true)(h1:its.size≤sizeLine)(h2:its.size+its2.size≤sizeLine+1) :
    Meets (Builtin.«list.extend» ⟨[.ref l,.ref q],[]⟩) (fun _ R s=>s.heap.get? l=some { cls:=.type "list", dict:=none,data:=.seq its n,slots:=#[] }∧s.heap.get? q=some { cls:=.type "tuple", dict:=dd,data:=.seq its2 n2,slots:=sl }∧
      R (.ok (.ret Value.none)) { s with heap:=s.heap.update l (Obj.mapSeq fun x=>x++its2) }):=
  .of_wp fun prog w A R s h=>by
    rcases s with ⟨hp,g,d,tk,os⟩
    obtain ⟨hl,hb,h⟩:=h
    have z1:=PySem.AutoSeq1.idx_int
    have z2:=PySem.AutoSeq1.sub_tuple_tuple
    have z3:=PySem.AutoSeq1.sub_list_list
    have z4:=PySem.AutoSeq1.sub_tuple_list
    have z5:=PySem.AutoSeq1.sub_list_tuple
    have hz':(its++its2).size≤sizeLine+1:=by rw[Array.size_append];omega
    wp_walk using (wpAny_updateSeq hl rfl (hz:=h1) (_hz':=hz')),wpAny_loadPart' hl,wpAny_loadPart' hb
    exact ⟨_,rfl,h⟩
def QT (K:PySem.W.Frag):V→List V→Hp→VK→Prop:=fun x vs H Q=>∃ l b xs zs,x=.ref l∧vs=[.ref b]∧H l=some (.lst xs)∧(SqL K H b zs∨SqT K H b zs)∧xs.length+zs.length≤sizeLine∧Q .non (L2.upd H l (.lst (xs++zs)))
theorem Lh:MtM X "list.extend" (QT X.K):=by
  intro pins s σ H x vs v us Q I rx rv h
  obtain ⟨l,q,xs,zs,rfl,rfl,hH,hB,hz,qq⟩:=h
  rcases hB with hB | hB
  · exact PM pins s σ H _ _ v us Q I rx rv ⟨l,q,xs,zs,rfl,rfl,hH,hB,hz,qq⟩
  cases (show v=Value.ref l from rx)
  obtain ⟨u,rfl,ru⟩:=rv.one
  cases (show u=Value.ref q from ru)
  obtain ⟨z,its,n,r,hl,e⟩:=I.LC hH
  obtain ⟨its2,r2,⟨o,e2,c2,n2,dat2⟩,_⟩:=I.tuple hB
  have e2':s.heap.get? q=some ⟨.type "tuple", o.dict,.seq its2.toArray n2,o.slots⟩:=by
    rw[e2];obtain ⟨c',dd,dt,sl⟩:=o;simp only at c2 dat2;subst c2 dat2;rfl
  have hl2:=r2.length
  have hs2:its.toArray.size+its2.toArray.size≤sizeLine:=by rw[List.size_toArray,List.size_toArray];omega
  have GI:¬ (!its.toArray.isEmpty&&Builtin.List.listTooLong (its.toArray.size+its2.toArray.size))=true:=by
    rw[xl hs2,Bool.and_false];decide
  refine call_meets F.slot_list_extend ⟨_,e,rfl⟩ F.entry_list_extend (F.args_list_extend_2 _ _) (Ac l its.toArray n q its2.toArray n2 o.dict o.slots GI (by omega) (by omega)) ⟨e,e2',?_⟩
  refine ⟨.non,_,I.Ly (its':=its++its2) hH e (by simp) (r.append r2) ?_,rfl,qq⟩
  rw[List.length_append];omega
def vX (To Ti:ETr):ETr:=fun ρ μ Q=>To ρ μ fun x μ1=>kObj x fun a=>kL μ1 a fun _=>Ti ρ μ1 fun y μ2=>CC μ2 y fun es=>kL μ2 a fun ds=>ds.length+es.length≤1000000∧Q .non (up μ2 a (.lst (ds++es)))
theorem FE {K:PySem.W.Frag}{H:Hp}{μ:Mu}{x:V}{dx:D}{f:List D→Prop}(m:bJ K H μ)(p:Dp K H x dx)(h:CC μ dx f):∃ q xs ds,x=.ref q∧(SqL K H q xs∨SqT K H q xs)∧DpL K H xs ds∧f ds:=by
  cases p with
  | tup sq l=>exact ⟨_,_,_,rfl,.inr sq,l,h⟩
  | ls sq l=>exact ⟨_,_,_,rfl,.inl sq.sq,l,h⟩
  | obj q=>
    obtain ⟨ds,e0,h⟩:=bK (show kL μ q _ from h)
    obtain ⟨xs,ex,l⟩:=m q _ e0
    exact ⟨q,xs,ds,rfl,.inl (SqL.of ex),l,h⟩
  | _=>exact False.elim h
theorem t8 (ho:LE X o To)(hi:LE X i Ti)
    (hbase:attributeBase o "extend" X.env (eval o X.env)=eval o X.env:=by rfl)
    (hfew:((backTo cpos (starEach [i] X.env)).all (fun x=>!x.1)&&(backToKw cpos (keywordEach [] X.env)).all (fun x=>x.1.isSome)
      && decide (([i]:List Expr).length+([]:List Keyword).length+(if ([]:List Keyword).isEmpty then 0 else 1) < 30))=true:=by rfl)
    (hline:(apos.endLine == cpos.line)=true:=by rfl) (hs:starEach [i] X.env=(false,eval i X.env)::starEach [] X.env:=by rfl) (hplain:(backTo cpos (starEach [] X.env)).any (·.1)=false:=by rfl) :
    LE X (.Call (.Attribute o "extend" apos) [i] [] cpos) (vX To Ti):=by
  obtain ⟨to,po,so⟩:=ho.ex
  obtain ⟨ti,pi,si⟩:=hi.ex
  refine ⟨_,Cn PySem.F.plainAttrs_list PySem.F.slot_list_extend PySem.F.type_list_extend Lh po (eV pi iM hs) hbase hfew hline hs hplain,fun σ H ρ μ Q Q' rl h k=>so σ H ρ μ _ _ rl h fun x H1 dx μ1 t1 m1 p1 h1=>?_⟩
  obtain ⟨q,rfl,h1⟩:=iw p1 h1
  obtain ⟨ds0,e0,h1⟩:=bK h1
  obtain ⟨xs0,ex0,_⟩:=m1 q _ e0
  refine ⟨.inl ⟨rfl,_,SqL.of ex0⟩,si σ H1 ρ μ1 _ _ (rl.go t1 m1) h1 fun y H2 dy μ2 t2 m2 p2 h2=>?_⟩
  obtain ⟨q',ys,es,rfl,sq,l',h2⟩:=FE m2 p2 h2
  obtain ⟨ds,e2,hz,h2⟩:=bK h2
  obtain ⟨xs,ex,l⟩:=m2 q _ e2
  exact ⟨q,q',xs,ys,rfl,rfl,ex,sq,by rw[l.length,l'.length];exact big hz,k _ _ _ _ ((t1.trans t2).trans (kz ex)) (Hr m2 ex (l.append l')) .non h2⟩
end
end
theorem KG (a b:ETr)(ρ:ST)(μ:Mu)(Q:DK):D3 a b ρ μ Q=a ρ μ fun x μ1=>b ρ μ1 fun y μ2=>kI x fun i=>kI y fun j=>((-4611686018427387904≤i∧i < 4611686018427387904)∧(-4611686018427387904≤j∧j < 4611686018427387904)∧(j - i).toNat≤1000000)∧Q (.tup (cx i (j - i).toNat)) μ2:=propext Iff.rfl
def MZ (x y:D)(μ:Mu)(Q:DK):Prop:=match x with
  | .ls xs=>∃ ns:List Int,xs=ns.map .int∧(ns=[]→Q y μ)∧(ns≠[]→∀ M,M∈ns→(∀ a∈ns,a≤M)→Q (.int M) μ)
  | _=>False
theorem KQ (a b:ETr)(ρ:ST)(μ:Mu)(Q:DK):B3 a b ρ μ Q=a ρ μ fun x μ1=>b ρ μ1 fun y μ2=>MZ x y μ2 Q:=propext Iff.rfl
theorem JT (a b:ETr)(ρ:ST)(μ:Mu)(Q:DK):vX a b ρ μ Q=a ρ μ fun x μ1=>kObj x fun a=>kL μ1 a fun _=>b ρ μ1 fun y μ2=>CC μ2 y fun es=>kL μ2 a fun ds=>ds.length+es.length≤1000000∧Q .non (up μ2 a (.lst (ds++es))):=propext Iff.rfl
theorem NH (μ:Mu)(ds:List D)(f:List D→Prop):CC μ (.tup ds) f=f ds:=propext Iff.rfl
theorem M1 (μ:Mu)(ds:List D)(f:List D→Prop):CC μ (.ls ds) f=f ds:=propext Iff.rfl
def ENM (vs:List D)(μ:Mu)(Q:List D→Mu→Prop):Prop:=match vs with
  | [x]=>kS x fun ds=>Q (ki ds) μ
  | _=>False
theorem JS (t:ATr)(ρ:ST)(μ:Mu)(Q:List D→Mu→Prop):FN t ρ μ Q=t ρ μ fun vs μ1=>ENM vs μ1 Q:=propext Iff.rfl
theorem Qi (x:D)(μ:Mu)(Q:List D→Mu→Prop):ENM [x] μ Q=kS x fun ds=>Q (ki ds) μ:=propext Iff.rfl
def Mp (G:GTr)(tt:TTr)(te:ETr)(ρc:ST)(ds:List D)(μ:Mu)(Q:DK):Prop:=∀ p,μ p=none→fR p G tt te ρc (fun μ'=>Q (.obj p) μ') ds (up μ p (.lst []))
theorem GZ (it:ATr)(G:GTr)(tt:TTr)(te:ETr)(n:Nat)(caps:List Nat)(ρ:ST)(μ:Mu)(Q:DK):ua it G tt te n caps ρ μ Q=it ρ μ fun ds μ1=>Mp G tt te (fo ρ n caps) ds μ1 Q:=propext Iff.rfl
theorem EW (xs:List D)(μ:Mu)(Q:DK):gS qD [.tup xs] μ Q = ∃ ns:List Int,(xs=ns.map .int∧ns.length < 64)∧∀ ns':List Int,ns'.Perm ns→ns'.Pairwise (·≤·)→Q (.ls (ns'.map .int)) μ:=propext Iff.rfl
theorem La (xs:List D)(μ:Mu)(Q:DK):gS Cj [.ls xs] μ Q = ∃ ns:List Int,xs=ns.map .int∧Q (.int ns.sum) μ:=propext Iff.rfl
theorem Rw (o:Option Int)(μ Q):rIs (cM o) .non μ Q=Q (.bl (decide (o=none))) μ:=by cases o<;>simp[rIs,cM]
def ix (ns:List Int):List Int:=ns.mergeSort (fun a b=>decide (a≤b))
theorem iT (ns:List Int):(ix ns).Perm ns:=List.mergeSort_perm ..
theorem pX (ns:List Int):(ix ns).Pairwise (·≤·):=by
  have:=List.pairwise_mergeSort (le:=fun a b:Int=>decide (a≤b)) (fun a b c h1 h2=>by simp at *;omega) (fun a b=>by simp;omega) ns
  exact this.imp fun h=>by simpa using h
theorem jw:∀ {a b:List Int},a.Perm b→a.Pairwise (·≤·)→b.Pairwise (·≤·)→a=b
  | [],b,h,_,_=>(List.nil_perm.mp h).symm
  | x::a,[],h,_,_=>absurd h (by simp)
  | x::a,y::b,h,ha,hb=>by
    have ha':=List.pairwise_cons.mp ha
    have hb':=List.pairwise_cons.mp hb
    have hx:x∈y::b:=h.mem_iff.mp List.mem_cons_self
    have hy:y∈x::a:=h.mem_iff.mpr List.mem_cons_self
    have e:x=y:=by
      rcases List.mem_cons.mp hx with e | e
      · exact e
      · rcases List.mem_cons.mp hy with e' | e'
        · exact e'.symm
        · have h1:=ha'.1 y e'
          have h2:=hb'.1 x e
          omega
    subst e
    rw[jw ((List.perm_cons x).mp h) ha'.2 hb'.2]
theorem wY {a ns:List Int}(h:a.Perm ns)(s:a.Pairwise (·≤·)):a=ix ns:=jw (h.trans (iT ns).symm) s (pX ns)
theorem mj (ns:List Int):(ix ns).length=ns.length:=(iT ns).length_eq
def own (n:Str)(ls:List Lt):List Lt:=ls.filter fun l=>decide (l.nm=n)
def St'.und (x:St')(n:Str):Int:=(x.ws.map fun w=>((own n (w.cm++w.st)).length:Int)).sum
def ik (lf:Option Int)(places:Int):Int:=match lf with
  | none=>places
  | some l=>min places l
def rgI (a:Int)(n:Nat):List Int:=(List.range n).map fun (i:Nat)=>a+(i:Int)
theorem Rh (a:Int)(n:Nat):cx a n=(rgI a n).map .int:=by unfold cx rgI;rw[List.map_map];rfl
def Ss.fill (x:Ss)(pl:Nat):Ss×List Int:=
  let c:=ik x.lf ((pl:Int) - ((x.ag.take pl).length:Int))
  (⟨x.nm,x.du,x.W,x.S,x.nx+c,x.lf.map (· - c),x.ag.drop (x.ag.take pl).length,x.lo,x.gd,x.mk',x.wt⟩,x.ag.take pl++rgI x.nx c.toNat)
def Ss.hd (x:Ss):Hd:=⟨x.gd,x.mk',x.lo.length,x.wt⟩
def Ss.rdy (g:Int)(R:RN)(x:Ss):Ss:=⟨x.nm,x.du,(R.beh g x.W x.S x.hd).1,(R.beh g x.W x.S x.hd).2,x.nx,x.lf,ix (x.ag++x.lo),[],0,0,0⟩
def Ss.bt (g:Int)(s:Sn)(x:Ss)(u:Int):Ss×List Int:=if x.du=some 0 then (x.rdy g s.rl).fill (max 0 ((s.rl.beh g x.W x.S x.hd).1 / g - u)).toNat else (x,[])
def eI (ns:List (List Int)):Nat:=(ns.map List.length).foldr max 0
def l5 (ss:List Sn)(ns:List (List Int)):List (Str×Lt):=
  (List.range (eI ns)).flatMap fun t=>(List.zip ss ns).filterMap fun p=>p.2[t]?.map fun n=>(p.1.rd.headD (Str.ofString ""),⟨p.1.nm,n,0,0,0⟩)
def sdD (x:Str×Lt):D:=.tup [.str x.1,x.2.toD]
structure Wt where
  ca:List Lt
  lo:List Lt
  ou:List Lt
  st:List Lt
  la:Str
def Wt.toD (x:Wt):D:=.tup [.tup (ltD x.ca),.tup (ltD x.lo),.tup (ltD x.ou),.tup (ltD x.st),.str x.la]
def pass (w:Wy)(ns:List Str)(k:Ws)(aV:List (Str×Lt)):Wt:=
  let ca:=k.cm++(aV.filter fun x=>decide (x.1=w.nm)).map (·.2)
  let h:=tk w k.st ca
  let t:=cV w ns h.1 k.la
  ⟨ca,h.2,t.1,t.2.1,t.2.2⟩
def j9 (ss:List Sn):List (L2.Key×D):=ss.map fun s=>(.inr s.nm,.tup (s.rd.map .str))
def road (ss:List Sn)(n:Str):List Str:=((ss.find? fun s=>decide (s.nm=n)).map Sn.rd).getD []
def eN (ss:List Sn)(l:Lt):Option Str:=(road ss l.nm)[l.hp.toNat+1]?
def vx:Option Str→D
  | none=>.non
  | some s=>.str s
structure Ev where
  wd:Str
  nm:Str
  nu:Int
  wy:Str
def Ev.toD (x:Ev):D:=.tup [.str x.wd,.str x.nm,.int x.nu,.str x.wy]
abbrev evD (xs:List Ev):List D:=xs.map Ev.toD
def evs (ss:List Sn)(w:Wy)(x:Wt):List Ev:=
  (x.ca.zipIdx.map fun p=>⟨if (p.2:Int) < (x.ca.length:Int) - x.lo.length then Str.ofString "in" else Str.ofString "lost", p.1.nm,p.1.nu,w.nm⟩) ++
  x.ou.map fun l=>⟨if eN ss l=none then Str.ofString "taken" else Str.ofString "out", l.nm,l.nu,w.nm⟩
def Lt.pS (x:Lt)(h:Int):Lt:=⟨x.nm,x.nu,x.ag+1,x.hp+h,x.mr⟩
def Ah (ss:List Sn)(w:Wy)(x:Wt)(out:List Lt):Ws:=⟨(out.filter fun l=>decide (eN ss l=some w.nm)).map (·.pS 1),x.st.map (·.pS 0),x.la⟩
def C0 (s:Sn)(d:Option Int):Option Int:=d.map fun i=>if i=0 then s.bt - 1 else i - 1
def qu (d:Int):List Int→Int
  | []=>d
  | a::r=>(a::r).tail.foldl max a
def kr (s:Sn)(x:Ss)(bC taken:List Lt):Ss:=
  let o:=own s.nm taken
  let m:=(o.map Lt.mr).sum
  ⟨x.nm,C0 s x.du,x.W,x.S,x.nx,x.lf,x.ag,ix (x.lo++(own s.nm bC).map Lt.nu),x.gd+o.length - m,x.mk'+m,max x.wt (qu 0 (o.map fun l=>l.ag - l.hp))⟩
def Pn.br (p:Pn)(st:St'):List (Ss×List Int):=List.zipWith (fun s k=>k.bt p.g s (st.und k.nm)) p.ss st.ss
def Pn.aV (p:Pn)(st:St'):List (Str×Lt):=l5 p.ss ((p.br st).map (·.2))
def Pn.cG (p:Pn)(st:St'):List Wt:=List.zipWith (fun w k=>pass w p.sn k (p.aV st)) p.ws st.ws
def Pn.bC (p:Pn)(st:St'):List Lt:=(p.cG st).flatMap Wt.lo
def Pn.out (p:Pn)(st:St'):List Lt:=(p.cG st).flatMap Wt.ou
def Pn.taken (p:Pn)(st:St'):List Lt:=(p.out st).filter fun l=>decide (eN p.ss l=none)
def Pn.step (p:Pn)(st:St'):St':=⟨List.zipWith (fun w x=>Ah p.ss w x (p.out st)) p.ws (p.cG st),List.zipWith (fun s b=>kr s b.1 (p.bC st) (p.taken st)) p.ss (p.br st)⟩
def Pn.evs (p:Pn)(st:St'):List Ev:=(p.aV st).map (fun x=>⟨Str.ofString "sent", x.2.nm,x.2.nu,x.1⟩)++(List.zipWith (fun w x=>L3.evs p.ss w x) p.ws (p.cG st)).flatten
theorem SR (x:Wt)(μ:Mu)(Q:DK):L3.rIx x.toD (.int 0) μ Q=Q (.tup (ltD x.ca)) μ:=propext Iff.rfl
theorem Ua (x:Wt)(μ:Mu)(Q:DK):L3.rIx x.toD (.int 1) μ Q=Q (.tup (ltD x.lo)) μ:=propext Iff.rfl
theorem S9 (x:Wt)(μ:Mu)(Q:DK):L3.rIx x.toD (.int 2) μ Q=Q (.tup (ltD x.ou)) μ:=propext Iff.rfl
theorem T8 (x:Wt)(μ:Mu)(Q:DK):L3.rIx x.toD (.int 3) μ Q=Q (.tup (ltD x.st)) μ:=propext Iff.rfl
theorem Sy (x:Wt)(μ:Mu)(Q:DK):L3.rIx x.toD (.int 4) μ Q=Q (.str x.la) μ:=propext Iff.rfl
theorem TY (x:Ev)(μ:Mu)(Q:DK):L3.rIx x.toD (.int 0) μ Q=Q (.str x.wd) μ:=propext Iff.rfl
theorem Tz (x:Ev)(μ:Mu)(Q:DK):L3.rIx x.toD (.int 1) μ Q=Q (.str x.nm) μ:=propext Iff.rfl
theorem Sj (x:Ev)(μ:Mu)(Q:DK):L3.rIx x.toD (.int 2) μ Q=Q (.int x.nu) μ:=propext Iff.rfl
theorem TV (x:Ev)(μ:Mu)(Q:DK):L3.rIx x.toD (.int 3) μ Q=Q (.str x.wy) μ:=propext Iff.rfl
theorem R9 (i0 i1:Nat)(x:Str×Lt)(ρ:ST)(μ:Mu)(k:ST→Mu→Prop):fL [i0,i1] (sdD x) ρ μ k=fL [i0,i1] (.tup [.str x.1,x.2.toD]) ρ μ k:=propext Iff.rfl
def RN.sh1 (R:RN)(g S:Int)(h:Hd):Int:=if R.idle h then S else R.shr g S h
theorem Kg (R:RN)(g W S:Int)(h:Hd):(R.beh g W S h).2=R.sh1 g S h:=by
  unfold RN.beh RN.sh1;split<;>rfl
theorem Pk {R:RN}(k:R.Ok){g S:Int}{h:Hd}(H:h.Ok)(g0:0 < g)(S0:0≤S)(S1:S≤g):0≤R.sh1 g S h∧R.sh1 g S h≤g:=by
  unfold RN.sh1
  split
  · exact ⟨S0,S1⟩
  · rename_i hn;exact EO k H hn g0 S0 S1
theorem JI {R:RN}(K:R.Ok){g:Int}(g0:0 < g)(x:Int):g≤R.clip g x∧R.clip g x≤R.cap g:=by
  have c2:=E2 K (g:=g) g0
  unfold RN.clip;omega
def RL:=Jn @KG <| Jn @KQ <| Jn @JT <| Jn @NH <| Jn @M1 <| Jn @JS <| Jn @Qi <| Jn @GZ <| Jn @EW <| Jn @La <| Jn @Rw <| Jn @SR <| Jn @Ua <| Jn @S9 <| Jn @T8 <| Jn @Sy <| Jn @TY <| Jn @Tz <| Jn @Sj <| Jn @TV <| Jn @R9 <| @Qz
local macro_rules | `(tactic| walk_at "go")=>`(tactic| try simp only[↓RL,CO,↓wF,↓xu,↓wj,↓vm,↓xq,↓xY,↓jW,↓iA,cu,bU,cv,cq,cD,cB,cQ,cO,bT,cE,cw,cz,cF,cN,cy,cT,cC,cR,cA,cS,iP,uu,tM,fo,List.map_cons,List.map_nil,List.replicate,List.cons_append,List.nil_append,lk,DP,Ao,DW,DC,gq,sR,nD,tH,sS,mh,l8,jX,jS,j5,jY,true_and,and_true,and_self,Bool.not_true,Bool.not_false,decide_true,decide_false,Bool.or_true,Bool.or_false,Bool.true_or,Bool.false_or,Bool.and_false,Bool.false_and,Bool.and_true,Bool.true_and,Int.reduceToNat,Int.reducePow,Int.reduceNeg,Int.reduceSub,Int.reduceAdd,Int.reduceMul,Int.reduceEq,Int.reduceLT,Int.reduceLE,Int.reduceBEq,hX,fZ,fS,fW,f9,gj,fY,gi,if_true,if_false,Bool.false_eq_true,reduceCtorEq,decide_eq_true_eq])
theorem fi {α β:Type}(p:α→Prop) [DecidablePred p] (f:α→β):∀ xs:List α,xs.filterMap (fun x=>if p x then some (f x) else none)=(xs.filter fun x=>decide (p x)).map f
  | []=>rfl
  | x::r=>by by_cases h:p x<;>simp[h,fi p f r]
theorem GH {μ:Mu}{Q:DK}(ls:List Lt)(n:Str)(hl:ls.length≤900000)(ok:∀ x∈ls,PyData.strOk x.nm=true)(hn:PyData.strOk n=true)(k:Q (.ls (ltD (own n ls))) μ) :
    rK (aw 0) (TB (aj rEq (aj rIx (ah 0) (TC (.int 0))) (ah 1))) (ah 0) [none,some (.str n)] (ltD ls) μ Q:=by
  refine lC ls Lt.toD (fun x=>if x.nm=n then some x.toD else none) rfl (by omega) (fun x hx μ' _ N nn=>?_) ?_
  · walk_at "go"
    refine ⟨⟨ok x hx,hn⟩,kif (fun h=>?_) (fun h=>?_)⟩
    · rw[if_pos h] at nn;exact nn
    · rw[if_neg h] at nn;exact nn
  · rw[fi (fun x:Lt=>x.nm=n) Lt.toD];exact k
def Qx (ls:List Lt):Prop:=∀ x∈ls,PyData.strOk x.nm=true
structure Ws.Ok (w:Ws):Prop where
  n:Qx (w.cm++w.st)
  l:w.cm.length+w.st.length≤900000
def dz:FSp:=fun ds μ Q=>match ds with
  | [d,.str n]=>∃ (g:Int) (x:St'),(d=x.toD g∧(∀ w∈x.ws,w.Ok)∧PyData.strOk n=true)∧Q (.int (x.und n)) μ
  | _=>False
theorem rZ:∀ ds μ Q,dz ds μ Q→ds.length=2:=by
  unfold dz
  walk_at "ln"
def nM:STr:=aA (aN (TC (.int 0)) (aw 2)) (aA (j7 (dH (aj L3.rIx (ah 0) (TC (.int 0)))) (aw 3) (LD (fun m n=>m+n) 2 (aq c7 (af (bE (dH (aj aP (aj L3.rIx (ah 3) (TC (.int 0))) (aj L3.rIx (ah 3) (TC (.int 1))))) (aw 0) (TB (aj rEq (aj L3.rIx (ah 0) (TC (.int 0))) (ah 1))) (ah 0) 1 [1]) (ar))))) (aW (ah 2)))
theorem ui:∀ ds μ Q,dz ds μ Q→nM { nx:=fun _ μ'=>RT Q .non μ',rt:=RT Q } (ini 4 ds) μ:=by
  intro ds μ Q h
  unfold dz at h
  split at h
  case h_2=>exact h.elim
  rename_i d n
  walk_at "ini"
  unfold nM
  walk_at "go"
  obtain ⟨g,x,⟨rfl,hw,hn⟩,k⟩:=h
  walk_at "go"
  refine cW (fun r ρ μ'=>∃ (a c:List Ws) (v3:Option D),r=wsD c∧ρ=[some (x.toD g),some (.str n),some (.int (a.map fun w=>((own n (w.cm++w.st)).length:Int)).sum),v3]∧μ'=μ∧a++c=x.ws) ?_ ?_ _ _ _ ⟨[],x.ws,_,rfl,rfl,rfl,rfl⟩
  · rintro ρ μ' ⟨a,c,v3,er,rfl,rfl,e⟩
    have:c=[]:=by cases c with | nil=>rfl | cons=>cases er
    subst this
    rw[List.append_nil] at e
    subst e
    walk_at "go"
    exact ⟨_,.refl _,k⟩
  · rintro d r ρ μ' N ⟨a,c,v3,er,rfl,rfl,e⟩ hN
    cases c with
    | nil=>cases er
    | cons w c=>
    cases er
    have ho:=hw w (by rw[← e];simp)
    walk_at "go"
    have hl:=ho.l
    refine ⟨by simp;omega,?_⟩
    rw[← List.map_append]
    refine GH (w.cm++w.st) n (by simp;omega) ho.n hn ?_
    walk_at "go"
    refine hN _ _ ⟨a++[w],c,some w.toD,rfl,?_,rfl,by rw[← e];simp⟩
    simp
def eE:FSp:=fun ds μ Q=>match ds with
  | [d,.int n]=>∃ (g:Int) (x:Ss),d=x.toD g∧Q (.int (ik x.lf n)) μ
  | _=>False
theorem uI:∀ ds μ Q,eE ds μ Q→ds.length=2:=by
  unfold eE
  walk_at "ln"
def qU:STr:=aW (l6 (TB (aj rIs (aj L3.rIx (ah 0) (TC (.int 5))) (TC .non))) (ah 1) (aq tq (af (ah 1) (af (aj L3.rIx (ah 0) (TC (.int 5))) (ar)))))
theorem wN:∀ ds μ Q,eE ds μ Q→qU { nx:=fun _ μ'=>RT Q .non μ',rt:=RT Q } (ini 2 ds) μ:=by
  intro ds μ Q h
  unfold eE at h
  split at h
  case h_2=>exact h.elim
  rename_i d n
  walk_at "ini"
  unfold qU
  walk_at "go"
  obtain ⟨g,x,rfl,k⟩:=h
  walk_at "go"
  unfold ik at k
  cases e:x.lf with
  | none=>rw[e] at k;exact Bl (by simp) ⟨_,.refl _,k⟩
  | some l=>
    rw[e] at k
    refine Hk (by simp) ?_
    show gS tq [.int n,.int l] μ _
    walk_at "go"
    exact ⟨_,.refl _,k⟩
theorem oI (g:Int)(x:Ss):cutD [.str x.nm,cM x.du,dR x.W g,dR x.S g,.int x.nx,cM x.lf,.tup (cI x.ag),.tup (cI x.lo),.int x.gd,.int x.mk',.int x.wt] none (some 4)=[.str x.nm,cM x.du,dR x.W g,dR x.S g]:=rfl
theorem Lu (g:Int)(x:Ss):cutD [.str x.nm,cM x.du,dR x.W g,dR x.S g,.int x.nx,cM x.lf,.tup (cI x.ag),.tup (cI x.lo),.int x.gd,.int x.mk',.int x.wt] (some 7) none=[.tup (cI x.lo),.int x.gd,.int x.mk',.int x.wt]:=rfl
theorem xT (g:Int)(x:Ss)(lo hi:Option Int)(μ:Mu)(Q:DK):rSl (x.toD g) lo hi μ Q=Q (.tup (cutD [.str x.nm,cM x.du,dR x.W g,dR x.S g,.int x.nx,cM x.lf,.tup (cI x.ag),.tup (cI x.lo),.int x.gd,.int x.mk',.int x.wt] lo hi)) μ:=propext Iff.rfl
def eK:FSp:=fun ds μ Q=>match ds with
  | [d,.int n]=>∃ (g:Int) (x:Ss) (m:Nat),(d=x.toD g∧n=m∧m≤1000∧(-4000000000000000000≤x.nx∧x.nx≤4000000000000000000)∧x.ag.length≤1000∧(∀ l,x.lf=some l→0≤l))∧Q (.tup [(x.fill m).1.toD g,.tup (cI (x.fill m).2)]) μ
  | _=>False
theorem tX:∀ ds μ Q,eK ds μ Q→ds.length=2:=by
  unfold eK
  walk_at "ln"
def qg:STr:=aA (aN (TSl (aj L3.rIx (ah 0) (TC (.int 6))) (ONo) (i3 (ah 1))) (aw 2)) (aA (aN (aq eE (af (ah 0) (af (aj j8 (ah 1) (aq c7 (af (ah 2) (ar)))) (ar)))) (aw 3)) (aA (aN (aj L3.rIx (ah 0) (TC (.int 4))) (aw 4)) (aA (aN (l6 (TB (aj rIs (aj L3.rIx (ah 0) (TC (.int 5))) (TC .non))) (TC .non) (aj j8 (aj L3.rIx (ah 0) (TC (.int 5))) (ah 3))) (aw 5)) (aA (aN (aj aP (aj aP (TSl (ah 0) (ONo) (i3 (TC (.int 4)))) (bc (af (aj aP (ah 4) (ah 3)) (af (ah 5) (af (TSl (aj L3.rIx (ah 0) (TC (.int 6))) (i3 (aq c7 (af (ah 2) (ar)))) (ONo)) (ar)))))) (TSl (ah 0) (i3 (TC (.int 7))) (ONo))) (aw 6)) (aW (bc (af (ah 6) (af (aj aP (ah 2) (D3 (ah 4) (aj aP (ah 4) (ah 3)))) (ar)))))))))
theorem wX:∀ ds μ Q,eK ds μ Q→qg { nx:=fun _ μ'=>RT Q .non μ',rt:=RT Q } (ini 7 ds) μ:=by
  intro ds μ Q h
  unfold eK at h
  split at h
  case h_2=>exact h.elim
  rename_i d n
  walk_at "ini"
  unfold qg
  walk_at "go"
  obtain ⟨g,x,m,⟨rfl,rfl,hm,⟨n0,n1⟩,ha,hl⟩,k⟩:=h
  simp only[↓xT]
  have c1:cutD (cI x.ag) none (some (m:Int))=cI (x.ag.take m):=by rw[Bo];exact List.map_take.symm
  have c2:∀ L:Nat,cutD (cI x.ag) (some (L:Int)) none=cI (x.ag.drop L):=fun L=>by rw[sA];exact List.map_drop.symm
  walk_at "go"
  simp only[c1,oI,Lu,List.length_map,c2]
  refine ⟨g,x,rfl,?_⟩
  have tl:(x.ag.take m).length≤m:=by simp;omega
  have e1:(x.fill m).1.toD g=.tup ([.str x.nm,cM x.du,dR x.W g,dR x.S g]++[.int (x.nx+ik x.lf ((m:Int) - ((x.ag.take m).length:Int))),cM (x.lf.map (· - ik x.lf ((m:Int) - ((x.ag.take m).length:Int)))),.tup (cI (x.ag.drop (x.ag.take m).length))]++[.tup (cI x.lo),.int x.gd,.int x.mk',.int x.wt]):=rfl
  have e2:cI (x.fill m).2=cI (x.ag.take m)++cx x.nx (ik x.lf ((m:Int) - ((x.ag.take m).length:Int))).toNat:=by rw[Rh,← List.map_append];rfl
  rw[e1,e2] at k
  have c0:0≤ik x.lf ((m:Int) - ((x.ag.take m).length:Int))∧ik x.lf ((m:Int) - ((x.ag.take m).length:Int))≤1000:=by
    unfold ik
    cases e:x.lf with
    | none=>simp only;omega
    | some l=>have:=hl l e;simp only;omega
  generalize ik x.lf ((m:Int) - ((x.ag.take m).length:Int))=c at *
  have e3:(x.nx+c - x.nx).toNat=c.toNat:=by congr 1;omega
  walk_at "go"
  rw[e3]
  cases e:x.lf with
  | none=>
    rw[e] at k
    refine Bl rfl ⟨by simp,by simp,⟨⟨by omega,by omega⟩,⟨by omega,by omega⟩,by omega⟩,?_,_,.refl _,k⟩
    rw[c9];omega
  | some l=>
    rw[e] at k
    refine Hk nofun ?_
    walk_at "go"
    refine ⟨by simp,by simp,⟨⟨by omega,by omega⟩,⟨by omega,by omega⟩,by omega⟩,?_,_,.refl _,k⟩
    rw[c9];omega
structure Ss.Ok (g:Int) (R:RN) (x:Ss):Prop where
  n:PyData.strOk x.nm=true
  w0:g≤x.W
  w1:x.W≤R.cap g
  s0:0≤x.S
  s1:x.S≤g
  h:x.hd.Ok
  n0:-4000000000000000000≤x.nx
  n1:x.nx≤4000000000000000000
  a:x.ag.length+x.lo.length≤60
  l:∀ i,x.lf=some i→0≤i
theorem Rm (st:St')(n:Str):0≤st.und n:=by
  unfold St'.und
  generalize st.ws=l
  induction l with
  | nil=>simp
  | cons a l ih=>simp only[List.map_cons,List.sum_cons];omega
theorem Kj (o:Option Int):eqD (cM o) (.int 0)=decide (o=some 0):=by cases o<;>simp[cM,eqD]
theorem Iy {R:RN}(K:R.Ok){g W S:Int}(g0:0 < g)(h:Hd)(w0:g≤W)(w1:W≤R.cap g):g≤(R.beh g W S h).1∧(R.beh g W S h).1≤R.cap g:=by
  unfold RN.beh
  split
  · exact ⟨w0,w1⟩
  · exact JI K g0 _
def gk:FSp:=fun ds μ Q=>match ds with
  | [.int g,sd,kd,td]=>∃ (s:Sn) (x:Ss) (st:St'),((sd=s.toD∧kd=x.toD g∧td=st.toD g)∧s.rl.Ok∧Gd g∧x.Ok g s.rl∧∀ w∈st.ws,w.Ok)∧Q (.tup [(x.bt g s (st.und x.nm)).1.toD g,.tup (cI (x.bt g s (st.und x.nm)).2)]) μ
  | _=>False
theorem y3:∀ ds μ Q,gk ds μ Q→ds.length=4:=by
  unfold gk
  walk_at "ln"
def vJ:STr:=aA (bR (TB (aj rNe (aj L3.rIx (ah 2) (TC (.int 1))) (TC (.int 0)))) (aW (bc (af (ah 2) (af (bc (ar)) (ar))))) (ba)) (aA (aN (bc (af (aj L3.rIx (ah 2) (TC (.int 8))) (af (aj L3.rIx (ah 2) (TC (.int 9))) (af (aq c7 (af (aj L3.rIx (ah 2) (TC (.int 7))) (ar))) (af (aj L3.rIx (ah 2) (TC (.int 10))) (ar)))))) (aw 4)) (aA (aN (aq eG (af (aj L3.rIx (ah 1) (TC (.int 5))) (af (ah 0) (af (aj L3.rIx (ah 2) (TC (.int 2))) (af (aj L3.rIx (ah 2) (TC (.int 3))) (af (ah 4) (ar))))))) (aw 5)) (aA (aN (aq bh (af (aq qD (af (aj aP (aj L3.rIx (ah 2) (TC (.int 6))) (aj L3.rIx (ah 2) (TC (.int 7)))) (ar))) (ar))) (aw 6)) (aA (aN (bc (af (aj L3.rIx (ah 2) (TC (.int 0))) (af (aj L3.rIx (ah 2) (TC (.int 1))) (af (aj L3.rIx (ah 5) (TC (.int 0))) (af (aj L3.rIx (ah 5) (TC (.int 1))) (af (aj L3.rIx (ah 2) (TC (.int 4))) (af (aj L3.rIx (ah 2) (TC (.int 5))) (af (ah 6) (af (bc (ar)) (af (TC (.int 0)) (af (TC (.int 0)) (af (TC (.int 0)) (ar))))))))))))) (aw 7)) (aW (aq eK (af (ah 7) (af (aq sM (af (TC (.int 0)) (af (aj j8 (aq eM (af (aj L3.rIx (ah 5) (TC (.int 0))) (ar))) (aq dz (af (ah 3) (af (aj L3.rIx (ah 2) (TC (.int 0))) (ar))))) (ar)))) (ar)))))))))
theorem Ds:∀ ds μ Q,gk ds μ Q→vJ { nx:=fun _ μ'=>RT Q .non μ',rt:=RT Q } (ini 8 ds) μ:=by
  intro ds μ Q h
  unfold gk at h
  split at h
  case h_2=>exact h.elim
  rename_i g sd kd td
  walk_at "ini"
  unfold vJ
  walk_at "go"
  obtain ⟨s,x,st,⟨⟨rfl,rfl,rfl⟩,K,G,X,hw⟩,k⟩:=h
  obtain ⟨g0,g1⟩:=id G
  have gp:0 < g:=by omega
  walk_at "go"
  refine ⟨by cases x.du<;>rfl,?_⟩
  rw[Kj]
  unfold Ss.bt at k
  refine TR (fun hd=>?_) (fun hd=>?_)
  · rw[if_neg hd] at k
    exact ⟨_,.refl _,k⟩
  rw[if_pos hd] at k
  have cl:=Gx K gp
  have xa:=X.a;have w1:=X.w1;have w0:=X.w0
  rw[List.length_map]
  refine ⟨s.rl,x.W,x.S,x.hd,⟨⟨rfl,rfl⟩,K,X.h,G,⟨NY _ gp,.of (by omega) (by omega)⟩,NY _ gp,⟨X.s0,X.s1⟩⟩,fun w z Vw Vz=>?_⟩
  have bi:=Iy K gp x.hd (S:=x.S) w0 w1
  have e1:=D6 Vw
  have e2:=D6 Vz
  walk_at "go"
  refine ⟨by simp;omega,x.ag++x.lo,⟨by rw[List.map_append],by simp;omega⟩,fun ns' pm so=>?_⟩
  have e3:=wY pm so
  walk_at "go"
  refine ⟨_,_,⟨Vw,.of (by omega) (by omega)⟩,?_⟩
  walk_at "go"
  refine ⟨g,st,⟨rfl,hw,X.n⟩,?_⟩
  walk_at "go"
  have u0:=Rm st x.nm
  have d60:(s.rl.beh g x.W x.S x.hd).1 / g≤60:=Int.ediv_le_of_le_mul gp (by omega)
  have hm:max 0 ((s.rl.beh g x.W x.S x.hd).1 / g - st.und x.nm)=((max 0 ((s.rl.beh g x.W x.S x.hd).1 / g - st.und x.nm)).toNat:Int):=by omega
  rw[hm,e1,e2,e3]
  refine ⟨g,x.rdy g s.rl,_,⟨rfl,rfl,by omega,⟨X.n0,X.n1⟩,?_,X.l⟩,⟨_,.refl _,k⟩⟩
  show (ix (x.ag++x.lo)).length≤1000
  rw[mj,List.length_append];omega
theorem Lk {ns:List (List Int)}{n:List Int}(h:n∈ns):n.length≤eI ns:=by
  unfold eI
  induction ns with
  | nil=>cases h
  | cons a r ih=>
    rcases List.mem_cons.mp h with rfl | h
    · simp only[List.map_cons,List.foldr_cons];omega
    · have:=ih h;simp only[List.map_cons,List.foldr_cons];omega
theorem BE {ns:List (List Int)}{k:Nat}(h:∀ n∈ns,n.length≤k):eI ns≤k:=by
  unfold eI
  induction ns with
  | nil=>simp
  | cons a r ih=>
    have h1:=h a List.mem_cons_self
    have h2:=ih fun n hn=>h n (List.mem_cons_of_mem _ hn)
    simp only[List.map_cons,List.foldr_cons];omega
theorem IW {ns:List (List Int)}{M:Int}(h:M∈ns.map fun n=>(n.length:Int))(g:∀ a∈ns.map fun n=>(n.length:Int),a≤M):M=eI ns:=by
  obtain ⟨n,hn,rfl⟩:=List.mem_map.mp h
  have h1:=Lk hn
  have h2:eI ns≤n.length:=BE fun m hm=>by have:=g _ (List.mem_map.mpr ⟨m,hm,rfl⟩);omega
  omega
def ff (t:Nat)(p:Sn×List Int):Option (Str×Lt):=p.2[t]?.map fun n=>(p.1.rd.headD (Str.ofString ""),⟨p.1.nm,n,0,0,0⟩)
theorem qO (ss:List Sn)(ns:List (List Int)):l5 ss ns=(List.range (eI ns)).flatMap fun t=>(List.zip ss ns).filterMap (ff t):=rfl
abbrev nsD (ns:List (List Int)):List D:=ns.map fun n=>.tup (cI n)
def bQ:FSp:=fun ds μ Q=>match ds with
  | [sd,.ls nd]=>∃ (ss:List Sn) (ns:List (List Int)),((sd=.tup (snD ss)∧nd=nsD ns)∧ss.length≤100∧ns.length≤100∧(∀ n∈ns,n.length≤1000)∧∀ s∈ss,s.rd≠[])∧Q (.ls ((l5 ss ns).map sdD)) μ
  | _=>False
theorem F8 {ns:List (List Int)}{μ:Mu}{Q:DK}(k:Q (.int (eI ns:Nat)) μ):MZ (.ls (ns.map fun n=>.int (n.length:Int))) (.int 0) μ Q:=by
  refine ⟨ns.map fun n=>(n.length:Int),by rw[List.map_map];rfl,fun e=>?_,fun _ M h1 h2=>by rw[IW h1 h2];exact k⟩
  rw[List.map_eq_nil_iff.mp e] at k
  exact k
theorem CJ (ss:List Sn)(ns:List (List Int)):List.zipWith (fun d e=>D.tup [d,e]) (snD ss) (nsD ns)=(List.zip ss ns).map fun p=>.tup [p.1.toD,.tup (cI p.2)]:=by
  simp only[snD,nsD,List.zip,List.zipWith_map,List.map_zipWith]
theorem lT:∀ ds μ Q,bQ ds μ Q→ds.length=2:=by
  unfold bQ
  walk_at "ln"
def i9:STr:=aA (aN (lY (ar)) (aw 2)) (aA (j7 (fV (B3 (bE (dH (ah 1)) (aw 0) (dm) (aq c7 (af (ah 0) (ar))) 1 []) (TC (.int 0)))) (aw 3) (j7 (ke (af (ah 0) (af (ah 1) (ar)))) (fL [4,5]) (bR (TB (aj rLt (ah 3) (aq c7 (af (ah 5) (ar))))) (fG (lR (ah 2) (bc (af (aj L3.rIx (aj L3.rIx (ah 4) (TC (.int 1))) (TC (.int 0))) (af (bc (af (aj L3.rIx (ah 4) (TC (.int 0))) (af (aj L3.rIx (ah 5) (ah 3)) (af (TC (.int 0)) (af (TC (.int 0)) (af (TC (.int 0)) (ar))))))) (ar)))))) (ba)))) (aW (uK (ah 2))))
theorem mE:∀ ds μ Q,bQ ds μ Q→i9 { nx:=fun _ μ'=>RT Q .non μ',rt:=RT Q } (ini 6 ds) μ:=by
  intro ds μ Q h
  unfold bQ at h
  split at h
  case h_2=>exact h.elim
  rename_i sd nd
  walk_at "ini"
  unfold i9
  walk_at "go"
  obtain ⟨ss,ns,⟨⟨rfl,rfl⟩,hs,hn,h1000,hrd⟩,k⟩:=h
  intro p hp
  walk_at "go"
  refine bw ns (fun n=>.tup (cI n)) (fun n=>.int (n.length:Int)) rfl (by omega) (fun n hn μ' _ N nn=>?_) ?_
  · walk_at "go"
    rw[List.length_map]
    exact nn
  have m1:eI ns≤1000:=BE h1000
  walk_at "go"
  refine F8 ?_
  walk_at "go"
  refine ⟨⟨by omega,by omega⟩,?_⟩
  rw[show ((eI ns:Int)).toNat=eI ns from rfl]
  refine cW (fun r ρ μ'=>∃ (t:Nat) (acc:List (Str×Lt)) (v3 v4 v5:Option D),r=cx t (eI ns - t)∧t≤eI ns∧ρ=[some (.tup (snD ss)),some (.ls (nsD ns)),some (.obj p),v3,v4,v5]∧acc=(List.range t).flatMap (fun t=>(List.zip ss ns).filterMap (ff t))∧acc.length≤t*100∧μ'=up μ p (.lst (acc.map sdD))) ?_ ?_ _ _ _ ⟨0,[],_,_,_,rfl,by omega,rfl,rfl,by simp,rfl⟩
  · rintro ρ μ' ⟨t,acc,v3,v4,v5,er,ht,rfl,rfl,_,rfl⟩
    have et:t=eI ns:=by
      cases e:eI ns - t with
      | zero=>omega
      | succ n=>rw[e,nq] at er;cases er
    subst et
    walk_at "go"
    rw[← qO,pJ hp]
    exact ⟨_,.refl _,k⟩
  · rintro d r ρ μ' N ⟨t,acc,v3,v4,v5,er,ht,rfl,ea,la,rfl⟩ hN
    cases e:eI ns - t with
    | zero=>rw[e] at er;cases er
    | succ n=>
    rw[e,nq] at er
    cases er
    walk_at "go"
    rw[CJ]
    have lz:(List.zip ss ns).length≤100:=by simp;omega
    refine cW (fun r ρ μ'=>∃ (a c:List (Sn×List Int)) (v4 v5:Option D),r=c.map (fun p=>.tup [p.1.toD,.tup (cI p.2)])∧a++c=List.zip ss ns∧ρ=[some (.tup (snD ss)),some (.ls (nsD ns)),some (.obj p),some (.int t),v4,v5]∧μ'=up μ p (.lst ((acc++a.filterMap (ff t)).map sdD))) ?_ ?_ _ _ _ ⟨[],List.zip ss ns,_,_,rfl,rfl,rfl,by simp⟩
    · rintro ρ μ' ⟨a,c,v4,v5,er,ez,rfl,rfl⟩
      have:c=[]:=by cases c with | nil=>rfl | cons=>cases er
      subst this
      rw[List.append_nil] at ez
      subst ez
      refine hN _ _ ⟨t+1,_,_,_,_,?_,by omega,rfl,?_,?_,rfl⟩
      · congr 1
        · omega
      · rw[List.range_succ,List.flatMap_append,← ea];simp
      · have:=List.length_filterMap_le (ff t) (List.zip ss ns)
        rw[List.length_append];omega
    · rintro d r ρ μ' N ⟨a,c,v4,v5,er,ez,rfl,rfl⟩ hN
      cases c with
      | nil=>cases er
      | cons x c=>
      cases er
      obtain ⟨s,own⟩:=x
      have hx:(s,own)∈List.zip ss ns:=by rw[← ez];simp
      have hs':s∈ss:=(List.of_mem_zip hx).1
      walk_at "go"
      rw[List.length_map]
      obtain ⟨fw,rw',erd⟩:∃ fw rw',s.rd=fw::rw':=by
        cases e:s.rd with
        | nil=>exact absurd e (hrd s hs')
        | cons a b=>exact ⟨a,b,rfl⟩
      refine kif (fun hc=>?_) (fun hc=>?_)
      · have hc':t < own.length:=by omega
        have g1:(List.map D.str s.rd)[0]? = some (.str fw):=by rw[erd];rfl
        have g2:atD (cI own) (t:Int)=some (.int own[t]):=by rw[cf];simp[hc']
        have la':=List.length_filterMap_le (ff t) a
        have az:a.length≤100:=by have:=congrArg List.length ez;simp at this;omega
        walk_at "go"
        rw[yg,g1]
        walk_at "go"
        rw[g2]
        walk_at "go"
        refine ⟨by simp;omega,hN _ _ ⟨a++[(s,own)],c,_,_,rfl,by rw[← ez];simp,rfl,?_⟩⟩
        have e3:ff t (s,own)=some (fw,⟨s.nm,own[t],0,0,0⟩):=by unfold ff;simp[hc',erd]
        rw[List.filterMap_append,show [(s,own)].filterMap (ff t)=[(fw,⟨s.nm,own[t],0,0,0⟩)] by simp[e3]]
        simp[sdD,Lt.toD]
      · have e3:ff t (s,own)=none:=by unfold ff;simp;omega
        refine hN _ _ ⟨a++[(s,own)],c,_,_,rfl,by rw[← ez];simp,rfl,?_⟩
        rw[List.filterMap_append,show [(s,own)].filterMap (ff t)=[] by simp[e3],List.append_nil]
def gn:FSp:=fun ds μ Q=>match ds with
  | [wd,.tup nd,kd,.ls sd]=>∃ (w:Wy) (ns:List Str) (k:Ws) (aV:List (Str×Lt)),((wd=w.toD∧nd=ns.map .str∧kd=k.toD∧sd=aV.map sdD)∧(PyData.strOk w.nm=true∧∀ x∈aV,PyData.strOk x.1=true)∧0≤w.pc∧(∀ n∈ns,PyData.strOk n=true)∧(∀ l∈k.cm++k.st++aV.map (·.2),l.nm∈ns)∧k.cm.length+k.st.length+aV.length≤900000∧ns.length≤900000)∧Q (pass w ns k aV).toD μ
  | _=>False
theorem DJ {μ:Mu}{Q:DK}(aV:List (Str×Lt)){w:Wy}(hl:aV.length≤900000)(ok:∀ x∈aV,PyData.strOk x.1=true)(hn:PyData.strOk w.nm=true)(k:Q (.ls (ltD ((aV.filter fun x=>decide (x.1=w.nm)).map (·.2)))) μ) :
    rK (fL [0,1]) (TB (aj rEq (ah 0) (aj rIx (ah 2) (TC (.int 0))))) (ah 1) [none,none,some w.toD] (aV.map sdD) μ Q:=by
  refine lC aV sdD (fun x=>if x.1=w.nm then some x.2.toD else none) rfl (by omega) (fun x hx μ' _ N nn=>?_) ?_
  · walk_at "go"
    refine ⟨⟨ok x hx,hn⟩,kif (fun h=>?_) (fun h=>?_)⟩
    · rw[if_pos h] at nn;exact nn
    · rw[if_neg h] at nn;exact nn
  · rw[fi (fun x:Str×Lt=>x.1=w.nm) (fun x=>x.2.toD)];unfold ltD at k;rw[List.map_map] at k;exact k
theorem y9:∀ ds μ Q,gn ds μ Q→ds.length=4:=by
  unfold gn
  walk_at "ln"
def vQ:STr:=aA (aN (aj aP (aj L3.rIx (ah 2) (TC (.int 0))) (aq bh (af (bE (dH (ah 3)) (fL [0,1]) (TB (aj rEq (ah 0) (aj L3.rIx (ah 2) (TC (.int 0))))) (ah 1) 2 [0]) (ar)))) (aw 4)) (aA (aN (aq eC (af (ah 0) (af (aj L3.rIx (ah 2) (TC (.int 1))) (af (ah 4) (ar))))) (aw 5)) (aA (aN (aq fq (af (ah 0) (af (ah 1) (af (aj L3.rIx (ah 5) (TC (.int 0))) (af (aj L3.rIx (ah 2) (TC (.int 2))) (ar)))))) (aw 6)) (aW (bc (af (ah 4) (af (aj L3.rIx (ah 5) (TC (.int 1))) (af (aj L3.rIx (ah 6) (TC (.int 0))) (af (aj L3.rIx (ah 6) (TC (.int 1))) (af (aj L3.rIx (ah 6) (TC (.int 2))) (ar))))))))))
theorem Cw:∀ ds μ Q,gn ds μ Q→vQ { nx:=fun _ μ'=>RT Q .non μ',rt:=RT Q } (ini 7 ds) μ:=by
  intro ds μ Q h
  unfold gn at h
  split at h
  case h_2=>exact h.elim
  rename_i wd nd kd sd
  walk_at "ini"
  unfold vQ
  walk_at "go"
  obtain ⟨w,ns,x,aV,⟨⟨rfl,rfl,rfl,rfl⟩,⟨hw,hs⟩,pc,hn,hl,len,len2⟩,k⟩:=h
  walk_at "go"
  refine DJ aV (by omega) hs hw ?_
  walk_at "go"
  have lf:=List.length_filter_le (fun x:Str×Lt=>decide (x.1=w.nm)) aV
  refine ⟨by simp only[List.length_map];omega,?_⟩
  rw[← List.map_append]
  generalize hca:x.cm++(aV.filter fun x=>decide (x.1=w.nm)).map (·.2)=ca
  have lca:ca.length≤x.cm.length+aV.length:=by rw[← hca];simp only[List.length_append,List.length_map];omega
  have nca:∀ l∈ca,l.nm∈ns:=fun l h=>by
    rw[← hca] at h
    rcases List.mem_append.mp h with h | h
    · exact hl l (by simp[h])
    · obtain ⟨y,hy,rfl⟩:=List.mem_map.mp h
      exact hl y.2 (List.mem_append_right _ (List.mem_map.mpr ⟨y,(List.mem_filter.mp hy).1,rfl⟩))
  refine ⟨w,x.st,ca,⟨rfl,rfl,rfl,by omega⟩,?_⟩
  walk_at "go"
  have ln:=AR w ca x.st []
  have nn:=Fe w (fun n=>n∈ns) ca x.st [] (fun l h=>hl l (by simp[h])) (fun l h=>nomatch h) nca
  refine ⟨w,ns,(tk w x.st ca).1,⟨rfl,fun _=>⟨.inl rfl,hn,nn.1,len2⟩,rfl,?_,pc⟩,?_⟩
  · unfold tk;simp only[List.length_nil] at ln;omega
  · walk_at "go"
    subst hca
    exact ⟨_,.refl _,k⟩
theorem HJ {ss:List Sn}{n:Str}(h:n∈ss.map Sn.nm):bN (j9 ss) (.inr n)=some (.tup ((road ss n).map .str)):=by
  unfold bN j9 road
  induction ss with
  | nil=>cases h
  | cons s r ih=>
    by_cases e:s.nm=n
    · simp[e]
    · have h':n∈r.map Sn.nm:=by
        rcases List.mem_cons.mp h with z | z
        · exact absurd z.symm e
        · exact z
      have:=ih h'
      simp only[List.map_cons,List.find?_cons]
      have e1:decide ((Sum.inr s.nm:L2.Key)=Sum.inr n)=false:=by simp[e]
      have e2:decide (s.nm=n)=false:=by simp[e]
      rw[e1,e2]
      exact this
def bP:FSp:=fun ds μ Q=>match ds with
  | [.obj r,ld]=>∃ (ss:List Sn) (l:Lt),(ld=l.toD∧μ r=some (.dct (j9 ss))∧l.nm∈ss.map Sn.nm∧0≤l.hp)∧Q (vx (eN ss l)) μ
  | _=>False
theorem pP:∀ ds μ Q,bP ds μ Q→ds.length=2:=by
  unfold bP
  walk_at "ln"
def lF:STr:=aA (aN (bD (ah 0) (aj L3.rIx (ah 1) (TC (.int 0)))) (aw 2)) (aW (l6 (TB (aj rLt (aj aP (aj L3.rIx (ah 1) (TC (.int 3))) (TC (.int 1))) (aq c7 (af (ah 2) (ar))))) (aj L3.rIx (ah 2) (aj aP (aj L3.rIx (ah 1) (TC (.int 3))) (TC (.int 1)))) (TC .non)))
theorem rV:∀ ds μ Q,bP ds μ Q→lF { nx:=fun _ μ'=>RT Q .non μ',rt:=RT Q } (ini 3 ds) μ:=by
  intro ds μ Q h
  unfold bP at h
  split at h
  case h_2=>exact h.elim
  rename_i r ld
  walk_at "ini"
  unfold lF
  walk_at "go"
  obtain ⟨ss,l,⟨rfl,er,hl,h0⟩,k⟩:=h
  walk_at "go"
  refine vB er (Mg (HJ hl) ?_)
  obtain ⟨h,eh⟩:=Int.eq_ofNat_of_zero_le h0
  have e1:eN ss l=(road ss l.nm)[h+1]?:=by unfold eN;rw[eh];rfl
  rw[e1] at k
  walk_at "go"
  rw[List.length_map]
  refine kif (fun hc=>?_) (fun hc=>?_)
  · have hc':h+1 < (road ss l.nm).length:=by omega
    rw[List.getElem?_eq_getElem hc'] at k
    refine Mg (d:=.str (road ss l.nm)[h+1]) ?_ ⟨_,.refl _,k⟩
    rw[eh,show ((h:Int)+1)=((h+1:Nat):Int) by omega,cf]
    simp[hc']
  · rw[List.getElem?_eq_none (by omega)] at k
    exact ⟨_,.refl _,k⟩
theorem K4 (ls:List Lt):ki (ltD ls)=ls.zipIdx.map fun p=>.tup [.int (p.2:Nat),p.1.toD]:=by
  refine List.ext_getElem? fun i=>?_
  rw[tF]
  simp[List.getElem?_zipIdx]
  cases ls[i]? <;> rfl
theorem A5 (o:Option Str)(μ:Mu)(Q:DK):rIs (vx o) .non μ Q=Q (.bl (decide (o=none))) μ:=by cases o<;>simp[rIs,vx]
def evA (w:Wy)(n:Int)(p:Lt×Nat):Ev:=⟨if (p.2:Int) < n then Str.ofString "in" else Str.ofString "lost", p.1.nm,p.1.nu,w.nm⟩
def evB (ss:List Sn)(w:Wy)(l:Lt):Ev:=⟨if eN ss l=none then Str.ofString "taken" else Str.ofString "out", l.nm,l.nu,w.nm⟩
theorem Ow (ss:List Sn)(w:Wy)(x:Wt):evs ss w x=x.ca.zipIdx.map (evA w ((x.ca.length:Int) - x.lo.length))++x.ou.map (evB ss w):=rfl
def dr:FSp:=fun ds μ Q=>match ds with
  | [wd,.obj r,td]=>∃ (w:Wy) (ss:List Sn) (x:Wt),((wd=w.toD∧td=x.toD)∧μ r=some (.dct (j9 ss))∧(∀ l∈x.ou,l.nm∈ss.map Sn.nm∧0≤l.hp)∧x.ca.length+x.ou.length≤900000)∧Q (.ls (evD (evs ss w x))) μ
  | _=>False
theorem rS:∀ ds μ Q,dr ds μ Q→ds.length=3:=by
  unfold dr
  walk_at "ln"
def mW:STr:=aA (aN (lY (ar)) (aw 3)) (aA (j7 (FN (af (aj L3.rIx (ah 2) (TC (.int 0))) (ar))) (fL [4,5]) (aA (aN (l6 (TB (aj rLt (ah 4) (aj j8 (aq c7 (af (aj L3.rIx (ah 2) (TC (.int 0))) (ar))) (aq c7 (af (aj L3.rIx (ah 2) (TC (.int 1))) (ar)))))) (TC (.str "in")) (TC (.str "lost"))) (aw 6)) (fG (lR (ah 3) (bc (af (ah 6) (af (aj L3.rIx (ah 5) (TC (.int 0))) (af (aj L3.rIx (ah 5) (TC (.int 1))) (af (aj L3.rIx (ah 0) (TC (.int 0))) (ar)))))))))) (aA (j7 (dH (aj L3.rIx (ah 2) (TC (.int 2)))) (aw 5) (aA (aN (l6 (TB (aj rIs (aq bP (af (ah 1) (af (ah 5) (ar)))) (TC .non))) (TC (.str "taken")) (TC (.str "out"))) (aw 6)) (fG (lR (ah 3) (bc (af (ah 6) (af (aj L3.rIx (ah 5) (TC (.int 0))) (af (aj L3.rIx (ah 5) (TC (.int 1))) (af (aj L3.rIx (ah 0) (TC (.int 0))) (ar)))))))))) (aW (uK (ah 3)))))
theorem uA:∀ ds μ Q,dr ds μ Q→mW { nx:=fun _ μ'=>RT Q .non μ',rt:=RT Q } (ini 7 ds) μ:=by
  intro ds μ Q h
  unfold dr at h
  split at h
  case h_2=>exact h.elim
  rename_i wd r td
  walk_at "ini"
  unfold mW
  walk_at "go"
  obtain ⟨w,ss,x,⟨⟨rfl,rfl⟩,er,ho,hl⟩,k⟩:=h
  intro p hp
  have npr:r≠p:=fun z=>by rw[z,hp] at er;cases er
  walk_at "go"
  rw[K4]
  refine cW (fun rr ρ μ'=>∃ (a c:List (Lt×Nat)) (v4 v5 v6:Option D),rr=c.map (fun p=>.tup [.int (p.2:Nat),p.1.toD])∧a++c=x.ca.zipIdx∧ρ=[some w.toD,some (.obj r),some x.toD,some (.obj p),v4,v5,v6]∧μ'=up μ p (.lst (evD (a.map (evA w ((x.ca.length:Int) - x.lo.length)))))) ?_ ?_ _ _ _ ⟨[],x.ca.zipIdx,_,_,_,rfl,rfl,rfl,rfl⟩
  · rintro ρ μ' ⟨a,c,v4,v5,v6,er',ez,rfl,rfl⟩
    have:c=[]:=by cases c with | nil=>rfl | cons=>cases er'
    subst this
    rw[List.append_nil] at ez
    subst ez
    walk_at "go"
    refine cW (fun rr ρ μ'=>∃ (a c:List Lt) (v4 v5 v6:Option D),rr=ltD c∧a++c=x.ou∧ρ=[some w.toD,some (.obj r),some x.toD,some (.obj p),v4,v5,v6]∧μ'=up μ p (.lst (evD (x.ca.zipIdx.map (evA w ((x.ca.length:Int) - x.lo.length))++a.map (evB ss w))))) ?_ ?_ _ _ _ ⟨[],x.ou,_,_,_,rfl,rfl,rfl,by simp⟩
    · rintro ρ μ' ⟨a,c,v4,v5,v6,er',ez,rfl,rfl⟩
      have:c=[]:=by cases c with | nil=>rfl | cons=>cases er'
      subst this
      rw[List.append_nil] at ez
      subst ez
      walk_at "go"
      rw[pJ hp,← Ow]
      exact ⟨_,.refl _,k⟩
    · rintro d rr ρ μ' N ⟨a,c,v4,v5,v6,er',ez,rfl,rfl⟩ hN
      cases c with
      | nil=>cases er'
      | cons l c=>
      cases er'
      have hl':=ho l (by rw[← ez];simp)
      have la:a.length≤x.ou.length:=by rw[← ez];simp
      walk_at "go"
      refine ⟨ss,l,⟨rfl,by rw[aU npr];exact er,hl'.1,hl'.2⟩,?_⟩
      walk_at "go"
      rw[A5]
      walk_at "go"
      have fin:∀ wd,wd=(if eN ss l=none then Str.ofString "taken" else Str.ofString "out")→(evD (x.ca.zipIdx.map (evA w ((x.ca.length:Int) - x.lo.length))++a.map (evB ss w))).length < 1000000∧N [some w.toD,some (.obj r),some x.toD,some (.obj p),v4,some l.toD,some (.str wd)] (up μ p (.lst (evD (x.ca.zipIdx.map (evA w ((x.ca.length:Int) - x.lo.length))++a.map (evB ss w))++[.tup [.str wd,.str l.nm,.int l.nu,.str w.nm]]))):=fun wd e=>by
        refine ⟨by simp;omega,hN _ _ ⟨a++[l],c,_,_,_,rfl,by rw[← ez];simp,rfl,?_⟩⟩
        simp[evB,Ev.toD,e]
      refine kif (fun h=>?_) (fun h=>?_)
      · walk_at "go"
        exact fin _ (by rw[if_pos h])
      · walk_at "go"
        exact fin _ (by rw[if_neg h])
  · rintro d rr ρ μ' N ⟨a,c,v4,v5,v6,er',ez,rfl,rfl⟩ hN
    cases c with
    | nil=>cases er'
    | cons y c=>
    cases er'
    obtain ⟨l,i⟩:=y
    have la:a.length≤x.ca.length:=by have:=congrArg List.length ez;simp at this;omega
    walk_at "go"
    simp only[List.length_map]
    have fin:∀ wd,wd=(if (i:Int) < (x.ca.length:Int) - x.lo.length then Str.ofString "in" else Str.ofString "lost")→(evD (a.map (evA w ((x.ca.length:Int) - x.lo.length)))).length < 1000000∧N [some w.toD,some (.obj r),some x.toD,some (.obj p),some (.int i),some l.toD,some (.str wd)] (up μ p (.lst (evD (a.map (evA w ((x.ca.length:Int) - x.lo.length)))++[.tup [.str wd,.str l.nm,.int l.nu,.str w.nm]]))):=fun wd e=>by
      refine ⟨by simp;omega,hN _ _ ⟨a++[(l,i)],c,_,_,_,rfl,by rw[← ez];simp,rfl,?_⟩⟩
      simp[evA,Ev.toD,e]
    refine kif (fun h=>?_) (fun h=>?_)
    · walk_at "go"
      have:=fin _ (by rw[if_pos h])
      simpa using this
    · walk_at "go"
      have:=fin _ (by rw[if_neg h])
      simpa using this
def iE:FSp:=fun ds μ Q=>match ds with
  | [ld,.int h]=>∃ l:Lt,ld=l.toD∧Q (l.pS h).toD μ
  | _=>False
theorem Hq:∀ ds μ Q,iE ds μ Q→ds.length=2:=by
  unfold iE
  walk_at "ln"
def HV:STr:=aW (bc (af (aj L3.rIx (ah 0) (TC (.int 0))) (af (aj L3.rIx (ah 0) (TC (.int 1))) (af (aj aP (aj L3.rIx (ah 0) (TC (.int 2))) (TC (.int 1))) (af (aj aP (aj L3.rIx (ah 0) (TC (.int 3))) (ah 1)) (af (aj L3.rIx (ah 0) (TC (.int 4))) (ar)))))))
theorem Je:∀ ds μ Q,iE ds μ Q→HV { nx:=fun _ μ'=>RT Q .non μ',rt:=RT Q } (ini 2 ds) μ:=by
  intro ds μ Q h
  unfold iE at h
  split at h
  case h_2=>exact h.elim
  rename_i ld h0
  walk_at "ini"
  unfold HV
  walk_at "go"
  obtain ⟨l,rfl,k⟩:=h
  walk_at "go"
  exact ⟨_,.refl _,k⟩
theorem JW (o:Option Str)(n:Str):eqD (vx o) (.str n)=decide (o=some n):=by cases o<;>simp[vx,eqD]
theorem Kr (o:Option Str)(h:∀ n,o=some n→PyData.strOk n=true):okD 40 (vx o)=true:=by
  cases o with
  | none=>rfl
  | some n=>simpa[vx,okD] using h n rfl
def dA:FSp:=fun ds μ Q=>match ds with
  | [wd,.obj r,td,.obj o]=>∃ (w:Wy) (ss:List Sn) (x:Wt) (out:List Lt),((wd=w.toD∧td=x.toD)∧(μ r=some (.dct (j9 ss))∧μ o=some (.lst (ltD out)))∧(∀ l∈out,l.nm∈ss.map Sn.nm∧0≤l.hp)∧(PyData.strOk w.nm=true∧∀ s∈ss,∀ n∈s.rd,PyData.strOk n=true)∧out.length≤900000∧x.st.length≤900000)∧Q (Ah ss w x out).toD μ
  | _=>False
theorem Lp {ss:List Sn}(h:∀ s∈ss,∀ n∈s.rd,PyData.strOk n=true){l:Lt}{n:Str}(e:eN ss l=some n):PyData.strOk n=true:=by
  unfold eN road at e
  cases f:ss.find? fun s=>decide (s.nm=l.nm) with
  | none=>rw[f] at e;simp at e
  | some s=>
    rw[f] at e
    exact h s (List.mem_of_find?_eq_some f) n (List.mem_of_getElem? e)
theorem r9:∀ ds μ Q,dA ds μ Q→ds.length=4:=by
  unfold dA
  walk_at "ln"
def mR:STr:=aA (aN (jx (ah 3) (aw 0) (TB (aj rEq (aq bP (af (ah 1) (af (ah 0) (ar)))) (aj L3.rIx (ah 2) (TC (.int 0))))) (aq iE (af (ah 0) (af (TC (.int 1)) (ar)))) 1 [1,0]) (aw 4)) (aW (bc (af (aq bh (af (ah 4) (ar))) (af (aq bh (af (bE (dH (aj L3.rIx (ah 2) (TC (.int 3)))) (aw 0) (dm) (aq iE (af (ah 0) (af (TC (.int 0)) (ar)))) 1 []) (ar))) (af (aj L3.rIx (ah 2) (TC (.int 4))) (ar))))))
theorem uE:∀ ds μ Q,dA ds μ Q→mR { nx:=fun _ μ'=>RT Q .non μ',rt:=RT Q } (ini 5 ds) μ:=by
  intro ds μ Q h
  unfold dA at h
  split at h
  case h_2=>exact h.elim
  rename_i wd r td o
  walk_at "ini"
  unfold mR
  walk_at "go"
  obtain ⟨w,ss,x,out,⟨⟨rfl,rfl⟩,⟨er,eo⟩,ho,⟨hw,hs⟩,l1,l2⟩,k⟩:=h
  refine bo eo ?_
  refine ml out Lt.toD (fun l=>if eN ss l=some w.nm then some (l.pS 1).toD else none) rfl eo (by omega) (fun l hl μ' sb N nn=>?_) ?_
  · walk_at "go"
    refine ⟨ss,l,⟨rfl,sb _ _ er,(ho l hl).1,(ho l hl).2⟩,?_⟩
    walk_at "go"
    rw[JW]
    refine ⟨⟨Kr _ fun n e=>Lp hs e,hw⟩,kif (fun h=>?_) (fun h=>?_)⟩
    · rw[if_pos h] at nn
      exact ⟨l,rfl,nn⟩
    · rw[if_neg h] at nn;exact nn
  · rw[fi (fun l:Lt=>eN ss l=some w.nm) (fun l=>(l.pS 1).toD)]
    walk_at "go"
    refine bw x.st Lt.toD (fun l=>(l.pS 0).toD) rfl (by omega) (fun l hl μ' sb N nn=>?_) ?_
    · walk_at "go"
      exact ⟨l,rfl,nn⟩
    · walk_at "go"
      refine ⟨_,.refl _,?_⟩
      unfold Ah Ws.toD ltD at k
      simp only[List.map_map] at k
      exact k
def dE:FSp:=fun ds μ Q=>match ds with
  | [sd,d]=>∃ (s:Sn) (o:Option Int),(sd=s.toD∧d=cM o)∧Q (cM (C0 s o)) μ
  | _=>False
theorem sk:∀ ds μ Q,dE ds μ Q→ds.length=2:=by
  unfold dE
  walk_at "ln"
def nJ:STr:=aA (bR (TB (aj rIs (ah 1) (TC .non))) (aW (TC .non)) (ba)) (aW (l6 (TB (aj rEq (ah 1) (TC (.int 0)))) (aj j8 (aj L3.rIx (ah 0) (TC (.int 2))) (TC (.int 1))) (aj j8 (ah 1) (TC (.int 1)))))
theorem uc:∀ ds μ Q,dE ds μ Q→nJ { nx:=fun _ μ'=>RT Q .non μ',rt:=RT Q } (ini 2 ds) μ:=by
  intro ds μ Q h
  unfold dE at h
  split at h
  case h_2=>exact h.elim
  rename_i sd d
  walk_at "ini"
  unfold nJ
  obtain ⟨s,o,⟨rfl,rfl⟩,k⟩:=h
  cases o with
  | none=>
    simp only[cM]
    walk_at "go"
    exact ⟨_,.refl _,k⟩
  | some i=>
    simp only[cM]
    walk_at "go"
    by_cases h:i=0
    · refine Bl h ⟨_,.refl _,?_⟩
      have e:C0 s (some i)=some (s.bt - 1):=by simp[C0,h]
      rw[e] at k;exact k
    · refine Hk h ⟨_,.refl _,?_⟩
      have e:C0 s (some i)=some (i - 1):=by simp[C0,h]
      rw[e] at k;exact k
theorem xF {d M:Int}{ns:List Int}(ne:ns≠[])(h:M∈ns)(g:∀ a∈ns,a≤M):qu d ns=M:=by
  have key:∀ (l:List Int) (a:Int),(∀ b∈a::l,b≤M)→M∈a::l→l.foldl max a=M:=by
    intro l
    induction l with
    | nil=>intro a h1 h2;simp at h2;exact h2.symm
    | cons b l ih=>
      intro a h1 h2
      rw[List.foldl_cons]
      refine ih (max a b) (fun c hc=>?_) ?_
      · rcases List.mem_cons.mp hc with rfl | hc
        · have:=h1 a (by simp);have:=h1 b (by simp);omega
        · exact h1 c (by simp[hc])
      · have ha:=h1 a (by simp);have hb:=h1 b (by simp)
        rcases List.mem_cons.mp h2 with e | h2
        · have:max a b=M:=by omega
          rw[this];simp
        · rcases List.mem_cons.mp h2 with e | h2
          · have:max a b=M:=by omega
            rw[this];simp
          · simp[h2]
  cases ns with
  | nil=>exact absurd rfl ne
  | cons a l=>exact key l a g h
theorem O1 {ns:List Int}{μ:Mu}{Q:DK}(k:Q (.int (qu 0 ns)) μ):MZ (.ls (ns.map .int)) (.int 0) μ Q:=by
  refine ⟨ns,rfl,fun e=>?_,fun ne M h1 h2=>by rw[xF ne h1 h2] at k;exact k⟩
  rw[e] at k;exact k
theorem IC (g:Int)(x:Ss):cutD [.str x.nm,cM x.du,dR x.W g,dR x.S g,.int x.nx,cM x.lf,.tup (cI x.ag),.tup (cI x.lo),.int x.gd,.int x.mk',.int x.wt] (some 2) (some 7)=[dR x.W g,dR x.S g,.int x.nx,cM x.lf,.tup (cI x.ag)]:=rfl
def b7:FSp:=fun ds μ Q=>match ds with
  | [sd,kd,.obj lo,.ls tk]=>∃ (g:Int) (s:Sn) (x:Ss) (bC taken:List Lt),((sd=s.toD∧kd=x.toD g∧tk=ltD taken)∧μ lo=some (.lst (ltD bC))∧(PyData.strOk s.nm=true∧(∀ l∈bC,PyData.strOk l.nm=true)∧∀ l∈taken,PyData.strOk l.nm=true)∧(bC.length≤900000∧taken.length≤900000)∧x.lo.length+(own s.nm bC).length < 64)∧Q ((kr s x bC taken).toD g) μ
  | _=>False
theorem ma:∀ ds μ Q,b7 ds μ Q→ds.length=4:=by
  unfold b7
  walk_at "ln"
def jD:STr:=aA (aN (jx (ah 2) (aw 0) (TB (aj rEq (aj L3.rIx (ah 0) (TC (.int 0))) (aj L3.rIx (ah 1) (TC (.int 0))))) (aj L3.rIx (ah 0) (TC (.int 1))) 1 [0]) (aw 4)) (aA (aN (bE (dH (ah 3)) (aw 0) (TB (aj rEq (aj L3.rIx (ah 0) (TC (.int 0))) (aj L3.rIx (ah 1) (TC (.int 0))))) (ah 0) 1 [0]) (aw 5)) (aA (aN (aq Cj (af (bE (dH (ah 5)) (aw 0) (dm) (aj L3.rIx (ah 0) (TC (.int 4))) 1 []) (ar))) (aw 6)) (aA (aN (B3 (bE (dH (ah 5)) (aw 0) (dm) (aj j8 (aj L3.rIx (ah 0) (TC (.int 2))) (aj L3.rIx (ah 0) (TC (.int 3)))) 1 []) (TC (.int 0))) (aw 7)) (aA (aN (bc (af (aj j8 (aj aP (aj L3.rIx (ah 1) (TC (.int 8))) (aq c7 (af (ah 5) (ar)))) (ah 6)) (af (aj aP (aj L3.rIx (ah 1) (TC (.int 9))) (ah 6)) (af (aq sM (af (aj L3.rIx (ah 1) (TC (.int 10))) (af (ah 7) (ar)))) (ar))))) (aw 8)) (aA (aN (bc (af (aj L3.rIx (ah 1) (TC (.int 0))) (af (aq dE (af (ah 0) (af (aj L3.rIx (ah 1) (TC (.int 1))) (ar)))) (ar)))) (aw 9)) (aW (aj aP (aj aP (aj aP (ah 9) (TSl (ah 1) (i3 (TC (.int 2))) (i3 (TC (.int 7))))) (bc (af (aq bh (af (aq qD (af (aj aP (aj L3.rIx (ah 1) (TC (.int 7))) (aq bh (af (ah 4) (ar)))) (ar))) (ar))) (ar)))) (ah 8))))))))
theorem oa:∀ ds μ Q,b7 ds μ Q→jD { nx:=fun _ μ'=>RT Q .non μ',rt:=RT Q } (ini 10 ds) μ:=by
  intro ds μ Q h
  unfold b7 at h
  split at h
  case h_2=>exact h.elim
  rename_i sd kd lo tk
  walk_at "ini"
  unfold jD
  walk_at "go"
  obtain ⟨g,s,x,bC,taken,⟨⟨rfl,rfl,rfl⟩,el,⟨hn,h1,h2⟩,⟨l1,l2⟩,h64⟩,k⟩:=h
  refine bo el ?_
  refine ml bC Lt.toD (fun l=>if l.nm=s.nm then some (.int l.nu) else none) rfl el (by omega) (fun l hl μ' sb N nn=>?_) ?_
  · walk_at "go"
    refine ⟨⟨h1 l hl,hn⟩,kif (fun h=>?_) (fun h=>?_)⟩
    · rw[if_pos h] at nn;exact nn
    · rw[if_neg h] at nn;exact nn
  rw[fi (fun l:Lt=>l.nm=s.nm) (fun l=>D.int l.nu)]
  walk_at "go"
  refine lC taken Lt.toD (fun l=>if l.nm=s.nm then some l.toD else none) rfl (by omega) (fun l hl μ' sb N nn=>?_) ?_
  · walk_at "go"
    refine ⟨⟨h2 l hl,hn⟩,kif (fun h=>?_) (fun h=>?_)⟩
    · rw[if_pos h] at nn;exact nn
    · rw[if_neg h] at nn;exact nn
  rw[fi (fun l:Lt=>l.nm=s.nm) Lt.toD]
  have lo2:=List.length_filter_le (fun l:Lt=>decide (l.nm=s.nm)) taken
  walk_at "go"
  refine bw (own s.nm taken) Lt.toD (fun l=>.int l.mr) rfl (by unfold own;omega) (fun l hl μ' sb N nn=>?_) ?_
  · walk_at "go"
    exact nn
  walk_at "go"
  refine ⟨(own s.nm taken).map Lt.mr,by rw[List.map_map];rfl,?_⟩
  walk_at "go"
  refine bw (own s.nm taken) Lt.toD (fun l=>.int (l.ag - l.hp)) rfl (by unfold own;omega) (fun l hl μ' sb N nn=>?_) ?_
  · walk_at "go"
    exact nn
  walk_at "go"
  rw[show (own s.nm taken).map (fun l=>D.int (l.ag - l.hp))=((own s.nm taken).map fun l=>l.ag - l.hp).map .int by rw[List.map_map];rfl]
  refine O1 ?_
  simp only[↓xT]
  walk_at "go"
  simp only[IC]
  refine ⟨s,x.du,⟨rfl,rfl⟩,?_⟩
  unfold own at h64
  have eo:(List.filter (fun x:Lt=>decide (x.nm=s.nm)) bC).map (fun l=>D.int l.nu)=((own s.nm bC).map Lt.nu).map .int:=by unfold own;rw[List.map_map];rfl
  refine ⟨by simp,by simp only[List.length_map];omega,x.lo++(own s.nm bC).map Lt.nu,⟨by rw[eo,List.map_append],by unfold own;rw[List.length_append,List.length_map];exact h64⟩,fun ns' pm so=>?_⟩
  rw[wY pm so]
  refine ⟨by simp,by simp,_,.refl _,?_⟩
  have e:(kr s x bC taken).toD g=_:=rfl
  unfold kr Ss.toD own at k
  simp only[List.length_map]
  exact k
theorem HI {kvs:List (L2.Key×D)}{k:L2.Key}{d:D}(h:k ∉ kvs.map (·.1)):putD kvs k d=kvs++[(k,d)]:=by
  unfold putD
  refine if_neg fun z=>?_
  obtain ⟨x,hx,e⟩:=List.any_eq_true.mp z
  exact h (List.mem_map.mpr ⟨x,hx,by simpa using e⟩)
theorem mP:∀ (more kvs:List (L2.Key×D)),((kvs++more).map (·.1)).Nodup→iZ kvs more=kvs++more
  | [],kvs,_=>by simp[iZ]
  | (k,d)::r,kvs,h=>by
    have h1:k ∉ kvs.map (·.1):=fun z=>by
      rw[List.map_append,List.map_cons,List.nodup_append] at h
      exact h.2.2 k z k (by simp) rfl
    show iZ (putD kvs k d) r=_
    rw[HI h1,mP r _ (by simpa using h)]
    simp
theorem Dt {ss:List Sn}(h:(ss.map Sn.nm).Nodup):iZ [] (j9 ss)=j9 ss:=by
  refine mP _ [] ?_
  rw[List.nil_append]
  unfold j9
  rw[List.map_map]
  have:(ss.map ((fun x:L2.Key×D=>x.1) ∘ fun s=>((.inr s.nm,.tup (s.rd.map .str)):L2.Key×D)))=(ss.map Sn.nm).map Sum.inr:=by rw[List.map_map];rfl
  rw[this]
  exact List.Pairwise.map _ (fun a b (hab:a≠b) (z:Sum.inr a=Sum.inr b)=>hab (Sum.inr.inj z)) h
theorem xJ {α β:Type}(f:α→D)(g:β→D)(xs:List α)(ys:List β):List.zipWith (fun d e=>D.tup [d,e]) (xs.map f) (ys.map g)=(List.zip xs ys).map fun y=>.tup [f y.1,g y.2]:=by
  simp only[List.zip,List.zipWith_map,List.map_zipWith]
theorem AU {α:Type}{G:GTr}{te:ETr}{ρc:ST}{ds:List D}{μ:Mu}{Q:DK}(xs:List α)(t:α→D)(h:α→D)(hds:ds=xs.map t)(hl:xs.length≤999999)
    (step:∀ x∈xs,∀ μ',Sub μ μ'→∀ (N:DK),N (h x) μ'→G (t x) ρc μ' fun ρ1 μ1=>te ρ1 μ1 N)
    (k:∀ p,μ p=none→Q (.obj p) (up μ p (.lst (xs.map h)))):Mp G dm te ρc ds μ Q:=by
  subst hds
  intro p hp
  suffices go:∀ (r done:List α),done++r=xs→fR p G dm te ρc (fun μ'=>Q (.obj p) μ') (r.map t) (up μ p (.lst (done.map h))) from go xs [] rfl
  intro r
  induction r with
  | nil=>
    intro done e
    rw[List.append_nil] at e;subst e
    exact k p hp
  | cons d r ih=>
    intro done e
    have hd:d∈xs:=by rw[← e];simp
    have lf:(done.map h).length < 1000000:=by
      have:=congrArg List.length e
      simp at this ⊢;omega
    refine step d hd _ (Sub.new hp) _ (bo aG ⟨lf,?_⟩)
    rw[hX]
    have:=ih (done++[d]) (by rw[← e];simp)
    rw[List.map_append] at this
    exact this
theorem uM {β:Type}(f:Wt→List β)(zs:List (Wy×Wt)):(zs.flatMap fun y=>f y.2)=(zs.map (·.2)).flatMap f:=by rw[List.flatMap_map]
def btD (g:Int)(b:Ss×List Int):D:=.tup [b.1.toD g,.tup (cI b.2)]
theorem c6 {α β γ:Type}(f:α→β→γ)(xs:List α)(ys:List β):List.zipWith f xs ys=(List.zip xs ys).map fun p=>f p.1 p.2:=by
  simp[List.zip,List.map_zipWith]
structure vi (p:Pn) (st:St'):Prop where
  g:Gd p.g
  sd:p.sn.Nodup
  sl:p.ss.length≤100
  wl:p.ws.length≤100
  sn:∀ n∈p.sn,PyData.strOk n=true
  rl:∀ s∈p.ss,s.rl.Ok∧s.rd≠[]∧∀ n∈s.rd,PyData.strOk n=true
  wy:∀ w∈p.ws,PyData.strOk w.nm=true∧0≤w.pc
  ws:∀ w∈st.ws,w.Ok
  ss:∀ y∈List.zip p.ss st.ss,y.2.Ok p.g y.1.rl
  nb:∀ b∈p.br st,b.2.length≤1000
  se:∀ x∈p.aV st,PyData.strOk x.1=true∧x.2.nm∈p.sn
  sz:(p.aV st).length≤100000
  wz:∀ w∈st.ws,(∀ l∈w.cm++w.st,l.nm∈p.sn)∧w.cm.length+w.st.length≤700000
  go:∀ x∈p.cG st,x.ca.length+x.ou.length≤900000∧x.st.length≤900000
  ou:∀ l∈p.out st,l.nm∈p.sn∧0≤l.hp
  lo:∀ l∈p.bC st,l.nm∈p.sn
  oz:(p.out st).length≤900000
  lz:(p.bC st).length≤900000
  ez:(p.evs st).length≤900000
  lt:∀ y∈List.zip p.ss (p.br st),y.2.1.lo.length+(own y.1.nm (p.bC st)).length < 64
def dg:FSp:=fun ds μ Q=>match ds with
  | [pd,sd]=>∃ (p:Pn) (st:St'),((pd=p.toD∧sd=st.toD p.g)∧vi p st)∧Q (.tup [(p.step st).toD p.g,.ls (evD (p.evs st))]) μ
  | _=>False
theorem wJ:∀ ds μ Q,dg ds μ Q→ds.length=2:=by
  unfold dg
  walk_at "ln"
def sN:STr:=aA (aN (aj L3.rIx (ah 0) (TC (.int 2))) (aw 2)) (aA (aN (aq bh (af (bE (dH (ah 2)) (aw 0) (dm) (aj L3.rIx (ah 0) (TC (.int 0))) 1 []) (ar))) (aw 3)) (aA (aN (aq xp (af (bE (dH (ah 2)) (aw 0) (dm) (bc (af (aj L3.rIx (ah 0) (TC (.int 0))) (af (aj L3.rIx (ah 0) (TC (.int 1))) (ar)))) 1 []) (ar))) (aw 4)) (aA (aN (bE (ke (af (ah 2) (af (aj L3.rIx (ah 1) (TC (.int 1))) (ar)))) (fL [0,1]) (dm) (aq gk (af (aj L3.rIx (ah 3) (TC (.int 0))) (af (ah 0) (af (ah 1) (af (ah 2) (ar)))))) 2 [1,0]) (aw 5)) (aA (aN (aq bQ (af (ah 2) (af (bE (dH (ah 5)) (fL [0,1]) (dm) (ah 1) 2 []) (ar)))) (aw 6)) (aA (aN (bE (ke (af (aj L3.rIx (ah 0) (TC (.int 1))) (af (aj L3.rIx (ah 1) (TC (.int 0))) (ar)))) (fL [0,1]) (dm) (aq gn (af (ah 0) (af (ah 2) (af (ah 1) (af (ah 3) (ar)))))) 2 [3,6]) (aw 7)) (aA (aN (ua (dH (ah 6)) (fL [0,1]) (dm) (bc (af (TC (.str "sent")) (af (aj L3.rIx (ah 1) (TC (.int 0))) (af (aj L3.rIx (ah 1) (TC (.int 1))) (af (ah 0) (ar)))))) 2 []) (aw 8)) (aA (aN (lY (ar)) (aw 9)) (aA (aN (lY (ar)) (aw 10)) (aA (j7 (ke (af (aj L3.rIx (ah 0) (TC (.int 1))) (af (ah 7) (ar)))) (fL [11,12]) (aA (fG (vX (ah 8) (aq dr (af (ah 11) (af (ah 4) (af (ah 12) (ar))))))) (aA (fG (vX (ah 9) (aj L3.rIx (ah 12) (TC (.int 1))))) (fG (vX (ah 10) (aj L3.rIx (ah 12) (TC (.int 2)))))))) (aA (aN (jx (ah 10) (aw 0) (TB (aj rIs (aq bP (af (ah 1) (af (ah 0) (ar)))) (TC .non))) (ah 0) 1 [4]) (aw 13)) (aA (aN (bE (ke (af (aj L3.rIx (ah 0) (TC (.int 1))) (af (ah 7) (ar)))) (fL [0,1]) (dm) (aq dA (af (ah 0) (af (ah 2) (af (ah 1) (af (ah 3) (ar)))))) 2 [4,10]) (aw 14)) (aA (aN (bE (ke (af (ah 2) (af (ah 5) (ar)))) (fL [0,1]) (dm) (aq b7 (af (ah 0) (af (aj L3.rIx (ah 1) (TC (.int 0))) (af (ah 2) (af (ah 3) (ar)))))) 2 [9,13]) (aw 15)) (aW (bc (af (bc (af (aq bh (af (ah 14) (ar))) (af (aq bh (af (ah 15) (ar))) (ar)))) (af (uK (ah 8)) (ar)))))))))))))))))
theorem A1:∀ ds μ Q,dg ds μ Q→sN { nx:=fun _ μ'=>RT Q .non μ',rt:=RT Q } (ini 16 ds) μ:=by
  intro ds μ Q h
  unfold dg at h
  split at h
  case h_2=>exact h.elim
  rename_i pd sd
  walk_at "ini"
  unfold sN
  walk_at "go"
  obtain ⟨p,st,⟨⟨rfl,rfl⟩,R⟩,k⟩:=h
  have sl:=R.sl
  walk_at "go"
  refine bw p.ss Sn.toD (fun s=>.str s.nm) rfl (by omega) (fun s hs μ' sb N nn=>?_) ?_
  · walk_at "go"
    exact nn
  walk_at "go"
  refine bw p.ss Sn.toD (fun s=>.tup [.str s.nm,.tup (s.rd.map .str)]) rfl (by omega) (fun s hs μ' sb N nn=>?_) ?_
  · walk_at "go"
    exact nn
  walk_at "go"
  refine ⟨j9 p.ss,by unfold j9;rw[List.map_map];rfl,by unfold j9;rw[List.length_map];omega,fun r hr=>?_⟩
  rw[Dt R.sd]
  walk_at "go"
  rw[xJ]
  have lz:∀ {α β:Type} (xs:List α) (ys:List β),(List.zip xs ys).length≤xs.length:=fun xs ys=>by simp;omega
  refine bw (List.zip p.ss st.ss) (fun y=>.tup [y.1.toD,y.2.toD p.g]) (fun y=>btD p.g (y.2.bt p.g y.1 (st.und y.2.nm))) rfl (by have:=lz p.ss st.ss;omega) (fun y hy μ' sb N nn=>?_) ?_
  · walk_at "go"
    exact ⟨y.1,y.2,st,⟨⟨rfl,rfl,rfl⟩,(R.rl _ (List.of_mem_zip hy).1).1,R.g,R.ss y hy,R.ws⟩,nn⟩
  have eb:(List.zip p.ss st.ss).map (fun y=>btD p.g (y.2.bt p.g y.1 (st.und y.2.nm)))=(p.br st).map (btD p.g):=by unfold Pn.br;rw[c6,List.map_map];rfl
  have lb:(p.br st).length≤100:=by unfold Pn.br;rw[List.length_zipWith];omega
  rw[eb]
  walk_at "go"
  refine bw (p.br st) (btD p.g) (fun b=>.tup (cI b.2)) rfl (by omega) (fun b hb μ' sb N nn=>?_) ?_
  · unfold btD
    walk_at "go"
    exact nn
  walk_at "go"
  refine ⟨p.ss,(p.br st).map (·.2),⟨⟨rfl,by unfold nsD;rw[List.map_map];rfl⟩,sl,by rw[List.length_map];exact lb,fun n hn=>?_,fun s hs=>(R.rl s hs).2.1⟩,?_⟩
  · obtain ⟨b,hb,rfl⟩:=List.mem_map.mp hn
    exact R.nb b hb
  rw[show l5 p.ss ((p.br st).map (·.2))=p.aV st from rfl]
  have sz:=R.sz
  have wl:=R.wl
  walk_at "go"
  rw[xJ]
  refine bw (List.zip p.ws st.ws) (fun y=>.tup [y.1.toD,y.2.toD]) (fun y=>(pass y.1 p.sn y.2 (p.aV st)).toD) rfl (by have:=lz p.ws st.ws;omega) (fun y hy μ' sb N nn=>?_) ?_
  · walk_at "go"
    have hw:=R.wy _ (List.of_mem_zip hy).1
    have hk:=R.wz _ (List.of_mem_zip hy).2
    have len2:p.sn.length≤900000:=by unfold Pn.sn;rw[List.length_map];omega
    refine ⟨y.1,p.sn,y.2,p.aV st,⟨⟨rfl,by unfold Pn.sn;rw[List.map_map];rfl,rfl,rfl⟩,⟨hw.1,fun x hx=>(R.se x hx).1⟩,hw.2,R.sn,fun l hl=>?_,by have:=hk.2;omega,len2⟩,nn⟩
    rcases List.mem_append.mp hl with hl | hl
    · exact hk.1 l hl
    · obtain ⟨x,hx,rfl⟩:=List.mem_map.mp hl
      exact (R.se x hx).2
  have ew:(List.zip p.ws st.ws).map (fun y=>(pass y.1 p.sn y.2 (p.aV st)).toD)=(p.cG st).map Wt.toD:=by unfold Pn.cG;rw[c6,List.map_map];rfl
  rw[ew]
  walk_at "go"
  refine AU (p.aV st) sdD (fun x=>(⟨Str.ofString "sent", x.2.nm,x.2.nu,x.1⟩:Ev).toD) rfl (by omega) (fun x hx μ' sb N nn=>?_) (fun e he=>?_)
  · walk_at "go"
    exact nn
  walk_at "go"
  intro l hl o ho
  walk_at "go"
  rw[xJ]
  have er0:up μ r (.dct (j9 p.ss)) r=some (.dct (j9 p.ss)):=aG
  generalize hμr:up μ r (.dct (j9 p.ss))=μr at *
  have nre:r≠e:=fun z=>by rw[← z,er0] at he;cases he
  have nel:e≠l:=fun z=>by rw[← z,aG] at hl;cases hl
  have nlo:l≠o:=fun z=>by rw[← z,aG] at ho;cases ho
  have hl':μr l=none:=by rw[aU (Ne.symm nel)] at hl;exact hl
  have ho1:up μr e (.lst ((p.aV st).map fun x=>(⟨Str.ofString "sent", x.2.nm,x.2.nu,x.1⟩:Ev).toD)) o=none:=by rw[aU (Ne.symm nlo)] at ho;exact ho
  have neo:e≠o:=fun z=>by rw[← z,aG] at ho1;cases ho1
  have ho':μr o=none:=by rw[aU (Ne.symm neo)] at ho1;exact ho1
  have nrl:r≠l:=fun z=>by rw[← z,er0] at hl';cases hl'
  have nro:r≠o:=fun z=>by rw[← z,er0] at ho';cases ho'
  have og:=R.go;have oe:=R.ez;have oz:=R.oz;have olz:=R.lz
  have RY:∀ {a},a∈List.zip p.ws (p.cG st)→a.2∈p.cG st:=fun h=>(List.of_mem_zip h).2
  have lw:(p.cG st).length≤p.ws.length:=by unfold Pn.cG;rw[List.length_zipWith];omega
  have zw:(List.zip p.ws (p.cG st)).map (·.2)=p.cG st:=by
    rw[List.map_snd_zip];exact lw
  refine cW (fun rr ρ μ'=>∃ (a c:List (Wy×Wt)) (v11 v12 v13 v14 v15:Option D),rr=c.map (fun y=>.tup [y.1.toD,y.2.toD])∧a++c=List.zip p.ws (p.cG st)∧
    ρ=[some p.toD,some (st.toD p.g),some (.tup (snD p.ss)),some (.tup (p.ss.map fun s=>.str s.nm)),some (.obj r),some (.ls ((p.br st).map (btD p.g))),some (.ls ((p.aV st).map sdD)),some (.ls ((p.cG st).map Wt.toD)),some (.obj e),some (.obj l),some (.obj o),v11,v12,v13,v14,v15]∧
    (μ' e=some (.lst (evD ((p.aV st).map (fun x=>⟨Str.ofString "sent", x.2.nm,x.2.nu,x.1⟩)++a.flatMap fun y=>evs p.ss y.1 y.2)))∧μ' l=some (.lst (ltD (a.flatMap fun y=>y.2.lo)))∧μ' o=some (.lst (ltD (a.flatMap fun y=>y.2.ou))))∧∀ b,b≠e→b≠l→b≠o→μ' b=μr b) ?_ ?_ _ _ _
    ⟨[],List.zip p.ws (p.cG st),_,_,_,_,_,rfl,rfl,rfl,⟨?_,?_,?_⟩,fun b h1 h2 h3=>?_⟩
  rotate_left 2
  · rw[aU neo,aU nel,aG];simp
  · rw[aU nlo,aG];rfl
  · rw[aG];rfl
  · rw[aU h3,aU h2,aU h1]
  · rintro ρ μ' ⟨a,c,v11,v12,v13,v14,v15,er',ez,rfl,⟨ee,el,eo⟩,eq⟩
    have:c=[]:=by cases c with | nil=>rfl | cons=>cases er'
    subst this
    rw[List.append_nil] at ez
    subst ez
    have el':μ' l=some (.lst (ltD (p.bC st))):=by rw[el,uM,zw];rfl
    have eo':μ' o=some (.lst (ltD (p.out st))):=by rw[eo,uM,zw];rfl
    have ee':μ' e=some (.lst (evD (p.evs st))):=by rw[ee];unfold Pn.evs;rw[c6];congr 3
    have er1:μ' r=some (.dct (j9 p.ss)):=by rw[eq r nre nrl nro];exact er0
    have hnm:∀ {n},n∈p.sn→n∈p.ss.map Sn.nm:=fun h=>h
    walk_at "go"
    refine bo eo' ?_
    refine ml (p.out st) Lt.toD (fun l=>if eN p.ss l=none then some l.toD else none) rfl eo' (by omega) (fun y hy μ2 sb N nn=>?_) ?_
    · walk_at "go"
      refine ⟨p.ss,y,⟨rfl,sb _ _ er1,hnm (R.ou y hy).1,(R.ou y hy).2⟩,?_⟩
      show rIs (vx (eN p.ss y)) .non μ2 _
      rw[A5]
      walk_at "go"
      refine kif (fun h=>?_) (fun h=>?_)
      · rw[if_pos h] at nn;exact nn
      · rw[if_neg h] at nn;exact nn
    rw[fi (fun l:Lt=>eN p.ss l=none) Lt.toD]
    rw[show (p.out st).filter (fun l=>decide (eN p.ss l=none))=p.taken st from rfl]
    walk_at "go"
    rw[xJ]
    refine bw (List.zip p.ws (p.cG st)) (fun y=>.tup [y.1.toD,y.2.toD]) (fun y=>(Ah p.ss y.1 y.2 (p.out st)).toD) rfl (by have:=lz p.ws (p.cG st);omega) (fun y hy μ2 sb N nn=>?_) ?_
    · walk_at "go"
      have h1:=R.wy _ (List.of_mem_zip hy).1
      exact ⟨y.1,p.ss,y.2,p.out st,⟨⟨rfl,rfl⟩,⟨sb _ _ er1,sb _ _ eo'⟩,fun x hx=>⟨hnm (R.ou x hx).1,(R.ou x hx).2⟩,⟨h1.1,fun s hs=>(R.rl s hs).2.2⟩,R.oz,(R.go _ (RY hy)).2⟩,nn⟩
    have e1:(List.zip p.ws (p.cG st)).map (fun y=>(Ah p.ss y.1 y.2 (p.out st)).toD)=wsD (p.step st).ws:=by unfold Pn.step wsD;simp only;rw[c6,List.map_map];rfl
    rw[e1]
    walk_at "go"
    rw[xJ]
    have lt1:(p.taken st).length≤900000:=by have:=List.length_filter_le (fun l:Lt=>decide (eN p.ss l=none)) (p.out st);unfold Pn.taken;omega
    refine bw (List.zip p.ss (p.br st)) (fun y=>.tup [y.1.toD,btD p.g y.2]) (fun y=>(kr y.1 y.2.1 (p.bC st) (p.taken st)).toD p.g) rfl (by have:=lz p.ss (p.br st);omega) (fun y hy μ2 sb N nn=>?_) ?_
    · unfold btD
      walk_at "go"
      have hs:=(List.of_mem_zip hy).1
      refine ⟨p.g,y.1,y.2.1,p.bC st,p.taken st,⟨⟨rfl,rfl,rfl⟩,sb _ _ el',⟨R.sn _ (List.mem_map.mpr ⟨_,hs,rfl⟩),fun x hx=>R.sn _ (R.lo x hx),fun x hx=>R.sn _ (R.ou x (List.mem_filter.mp hx).1).1⟩,⟨R.lz,lt1⟩,R.lt y hy⟩,nn⟩
    have e2:(List.zip p.ss (p.br st)).map (fun y=>(kr y.1 y.2.1 (p.bC st) (p.taken st)).toD p.g)=ssD p.g (p.step st).ss:=by unfold Pn.step ssD;simp only;rw[c6,List.map_map];rfl
    rw[e2]
    walk_at "go"
    refine bo ee' ?_
    refine ⟨μ,fun b ob hb=>?_,k⟩
    have nb:∀ z,μr z=none→b≠z:=fun z hz w=>by
      rw[w] at hb
      rw[← hμr] at hz
      by_cases hzr:z=r
      · rw[hzr,hr] at hb;cases hb
      · rw[aU hzr,hb] at hz;cases hz
    have n1:=nb e he
    have n2:=nb l hl'
    have n3:=nb o ho'
    unfold dn
    rw[if_neg n1,eq b n1 n2 n3,← hμr,aU (fun w=>by rw[w,hr] at hb;cases hb)]
    exact hb
  · rintro d rr ρ μ' N ⟨a,c,v11,v12,v13,v14,v15,er',ez,rfl,⟨ee,el,eo⟩,eq⟩ hN
    cases c with
    | nil=>cases er'
    | cons y c=>
    cases er'
    have hy:y∈List.zip p.ws (p.cG st):=by rw[← ez];simp
    have hyw:=RY hy
    have er1:μ' r=some (.dct (j9 p.ss)):=by rw[eq r nre nrl nro];exact er0
    walk_at "go"
    refine bo ee ?_
    have hou:∀ x∈y.2.ou,x.nm∈p.ss.map Sn.nm∧0≤x.hp:=fun x hx=>R.ou x (List.mem_flatMap.mpr ⟨_,hyw,hx⟩)
    refine ⟨y.1,p.ss,y.2,⟨⟨rfl,rfl⟩,er1,hou,(og _ hyw).1⟩,?_⟩
    walk_at "go"
    have za:a++y::c=List.zip p.ws (p.cG st):=ez
    have le1:(evD ((p.aV st).map (fun x=>⟨Str.ofString "sent", x.2.nm,x.2.nu,x.1⟩)++a.flatMap fun y=>evs p.ss y.1 y.2)).length+(evD (evs p.ss y.1 y.2)).length≤1000000:=by
      have:(p.evs st).length=(p.aV st).length+((a++y::c).flatMap fun y=>evs p.ss y.1 y.2).length:=by
        unfold Pn.evs;rw[c6,za,List.length_append,List.length_map];rfl
      rw[List.flatMap_append,List.flatMap_cons,List.length_append,List.length_append] at this
      simp only[List.length_map,List.length_append];omega
    have ll1:(ltD (a.flatMap fun y=>y.2.lo)).length+(ltD y.2.lo).length≤1000000:=by
      have:(p.bC st).length=((a++y::c).flatMap fun y=>y.2.lo).length:=by unfold Pn.bC;rw[za,uM,zw]
      rw[List.flatMap_append,List.flatMap_cons,List.length_append,List.length_append] at this
      simp only[List.length_map];omega
    have lo1:(ltD (a.flatMap fun y=>y.2.ou)).length+(ltD y.2.ou).length≤1000000:=by
      have:(p.out st).length=((a++y::c).flatMap fun y=>y.2.ou).length:=by unfold Pn.out;rw[za,uM,zw]
      rw[List.flatMap_append,List.flatMap_cons,List.length_append,List.length_append] at this
      simp only[List.length_map];omega
    refine bo ee ⟨le1,?_⟩
    walk_at "go"
    refine bo (by rw[aU (Ne.symm nel)];exact el) (bo (by rw[aU (Ne.symm nel)];exact el) ⟨ll1,?_⟩)
    walk_at "go"
    refine bo (by rw[aU (Ne.symm nlo),aU (Ne.symm neo)];exact eo) (bo (by rw[aU (Ne.symm nlo),aU (Ne.symm neo)];exact eo) ⟨lo1,?_⟩)
    refine hN _ _ ⟨a++[y],c,_,_,_,_,_,rfl,by rw[← ez];simp,rfl,⟨?_,?_,?_⟩,fun b h1 h2 h3=>?_⟩
    · rw[aU neo,aU nel,aG,List.flatMap_append];simp
    · rw[aU nlo,aG,List.flatMap_append];simp
    · rw[aG,List.flatMap_append];simp
    · rw[aU h3,aU h2,aU h1,eq b h1 h2 h3]
theorem pM {α:Type}{f g:α→Nat}:∀ {l:List α},(∀ x∈l,f x≤g x)→(l.map f).sum≤(l.map g).sum
  | [],_=>Nat.le_refl _
  | a::r,h=>by
    have h1:=h a List.mem_cons_self
    have h2:=pM (l:=r) fun x hx=>h x (List.mem_cons_of_mem _ hx)
    simp only[List.map_cons,List.sum_cons];omega
theorem b9 {α:Type}(f g:α→Nat):∀ l:List α,(l.map fun x=>f x+g x).sum=(l.map f).sum+(l.map g).sum
  | []=>rfl
  | a::r=>by have:=b9 f g r;simp only[List.map_cons,List.sum_cons];omega
theorem j4 {α:Type}{f:α→Nat}{k:Nat}:∀ {l:List α},(∀ x∈l,f x≤k)→(l.map f).sum≤l.length*k
  | [],_=>by simp
  | a::r,h=>by
    have h1:=h a List.mem_cons_self
    have h2:=j4 (l:=r) fun x hx=>h x (List.mem_cons_of_mem _ hx)
    simp only[List.map_cons,List.sum_cons,List.length_cons,Nat.succ_mul];omega
theorem kG {α:Type}{f:α→Nat}:∀ {l:List α} {x:α},x∈l→f x≤(l.map f).sum
  | a::r,x,h=>by
    simp only[List.map_cons,List.sum_cons]
    rcases List.mem_cons.mp h with rfl | h
    · omega
    · have:=kG (f:=f) h;omega
theorem l9 {κ:Type} [DecidableEq κ] (a:κ):∀ {ks:List κ},ks.Nodup→(ks.map fun k=>if a=k then 1 else 0).sum≤1
  | [],_=>by simp
  | k::r,h=>by
    have h':=List.nodup_cons.mp h
    simp only[List.map_cons,List.sum_cons]
    by_cases e:a=k
    · have:(r.map fun k=>if a=k then 1 else 0).sum=0:=by
        have:∀ l:List κ,a ∉ l→(l.map fun k=>if a=k then 1 else 0).sum=0:=by
          intro l
          induction l with
          | nil=>intro _;rfl
          | cons b l ih=>
            intro hl
            simp only[List.mem_cons,not_or] at hl
            simp[hl.1,ih hl.2]
        exact this r (by rw[e];exact h'.1)
      rw[if_pos e,this];exact Nat.le_refl 1
    · rw[if_neg e];have:=l9 a h'.2;omega
theorem split_le {α κ:Type} [DecidableEq κ] (f:α→κ){ks:List κ}(nd:ks.Nodup):∀ xs:List α,(ks.map fun k=>(xs.filter fun x=>decide (f x=k)).length).sum≤xs.length
  | []=>by
    have:∀ l:List κ,(l.map fun _=>0).sum=0:=fun l=>by induction l<;>simp_all
    simpa using this ks
  | x::r=>by
    have h1:=split_le f nd r
    have h2:=l9 (f x) nd
    have e:(ks.map fun k=>((x::r).filter fun x=>decide (f x=k)).length)=ks.map fun k=>(if f x=k then 1 else 0)+(r.filter fun x=>decide (f x=k)).length:=by
      refine List.map_congr_left fun k _=>?_
      by_cases z:f x=k<;>simp[z];omega
    rw[e,b9,List.length_cons];omega
theorem zr (ns:List Str):∀ ls:List Lt,(∀ l∈ls,l.nm∈ns)→ls.length≤(ns.map fun n=>(own n ls).length).sum
  | [],_=>by simp
  | x::r,h=>by
    have h1:=zr ns r fun l hl=>h l (List.mem_cons_of_mem _ hl)
    have hx:=h x List.mem_cons_self
    have e:(ns.map fun n=>(own n (x::r)).length)=ns.map fun n=>(if x.nm=n then 1 else 0)+(own n r).length:=by
      refine List.map_congr_left fun k _=>?_
      unfold own
      by_cases z:x.nm=k<;>simp[z];omega
    have h2:1≤(ns.map fun n=>if x.nm=n then 1 else 0).sum:=by
      have:=kG (f:=fun n=>if x.nm=n then 1 else 0) hx
      simpa using this
    rw[e,b9,List.length_cons];omega
theorem uk (n:Str)(ls:List Lt):(own n ls).length=(ls.map Lt.nm).count n:=by
  unfold own
  induction ls with
  | nil=>rfl
  | cons x r ih=>by_cases z:x.nm=n<;>simp[z,ih]
theorem oQ (n:Str)(a b:List Lt):(own n (a++b)).length=(own n a).length+(own n b).length:=by unfold own;simp
theorem o5:∀ {l:List Lt} {i:Nat} (h:i < l.length),([l[i]]++l.eraseIdx i).Perm l
  | x::r,0,_=>.refl _
  | x::r,i+1,h=>by
    have:=o5 (l:=r) (i:=i) (by simpa using h)
    simp only[List.getElem_cons_succ,List.eraseIdx_cons_succ]
    exact (List.Perm.swap x _ _).trans (this.cons x)
theorem qx (ws:List Str)(p:Int):∀ (f:Nat) (st out:List Lt) (l:Str),((da ws p f st out l).1++(da ws p f st out l).2.1).Perm (out++st)
  | 0,st,out,l=>.refl _
  | f+1,st,out,l=>by
    unfold da
    split
    · split
      · rename_i n _
        split
        · rename_i x e
          refine (qx ws p f _ _ _).trans ?_
          obtain ⟨hi,rfl⟩:=List.getElem?_eq_some_iff.mp e
          rw[List.append_assoc]
          exact List.Perm.append_left _ (o5 hi)
        · exact .refl _
      · exact .refl _
    · exact .refl _
theorem jm (w:Wy)(ws:List Str)(st:List Lt)(l:Str):((cV w ws st l).1++(cV w ws st l).2.1).Perm st:=by
  unfold cV
  split
  · exact qx ..
  · simp only[List.take_append_drop];exact .refl _
theorem oK (w:Wy):∀ (ys a b:List Lt),(((ys.foldl (bW w) (a,b)).1++(ys.foldl (bW w) (a,b)).2).map Lt.nm).Perm ((a++b++ys).map Lt.nm)
  | [],a,b=>by simp
  | y::r,a,b=>by
    rw[List.foldl_cons]
    by_cases h:w.rm≤(a.length:Int)
    · rw[oO h]
      refine (oK w r a (b++[y])).trans (by simp)
    · rw[BR h]
      refine (oK w r (a++[nR w y a.length]) b).trans ?_
      simp only[List.map_append,List.map_cons,List.map_nil,BG,List.append_assoc]
      refine List.Perm.append_left _ ?_
      exact (List.perm_middle (l₁:=List.map Lt.nm b)).symm
def Lt.In (sn:List Str)(l:Lt):Prop:=l.nm∈sn∧0≤l.hp∧0≤l.mr∧l.mr≤1
theorem Kw {sn:List Str}{w:Wy}{x:Lt}(n:Nat)(h:x.In sn):(nR w x n).In sn:=by
  unfold nR
  split
  · exact h
  · split
    · exact h
    · exact ⟨h.1,h.2.1,(show (0:Int)≤1 by decide),Int.le_refl 1⟩
theorem AE {sn:List Str}(w:Wy):∀ (ys a b:List Lt),(∀ l∈a,l.In sn)→(∀ l∈b,l.In sn)→(∀ l∈ys,l.In sn)→(∀ l∈(ys.foldl (bW w) (a,b)).1,l.In sn)∧∀ l∈(ys.foldl (bW w) (a,b)).2,l.In sn
  | [],a,b,h1,h2,_=>⟨h1,h2⟩
  | y::r,a,b,h1,h2,h3=>by
    rw[List.foldl_cons]
    have hy:=h3 y List.mem_cons_self
    have hr:∀ l∈r,l.In sn:=fun l hl=>h3 l (List.mem_cons_of_mem _ hl)
    by_cases h:w.rm≤(a.length:Int)
    · rw[oO h]
      refine AE w r a (b++[y]) h1 (fun l hl=>?_) hr
      rcases List.mem_append.mp hl with hl | hl
      · exact h2 l hl
      · rw[List.mem_singleton.mp hl];exact hy
    · rw[BR h]
      refine AE w r _ b (fun l hl=>?_) h2 hr
      rcases List.mem_append.mp hl with hl | hl
      · exact h1 l hl
      · rw[List.mem_singleton.mp hl];exact Kw _ hy
theorem DY (w:Wy)(ns:List Str)(k:Ws)(aV:List (Str×Lt))(n:Str):(own n (pass w ns k aV).lo).length+(own n (pass w ns k aV).ou).length+(own n (pass w ns k aV).st).length=(own n (pass w ns k aV).ca).length+(own n k.st).length:=by
  have h1:=(oK w (pass w ns k aV).ca k.st []).count_eq n
  have h2:=((jm w ns (tk w k.st (pass w ns k aV).ca).1 k.la).map Lt.nm).count_eq n
  simp only[List.map_append,List.count_append,← uk] at h1 h2
  have e1:(pass w ns k aV).lo=(tk w k.st (pass w ns k aV).ca).2:=rfl
  have e2:(pass w ns k aV).ou=(cV w ns (tk w k.st (pass w ns k aV).ca).1 k.la).1:=rfl
  have e3:(pass w ns k aV).st=(cV w ns (tk w k.st (pass w ns k aV).ca).1 k.la).2.1:=rfl
  rw[e1,e2,e3]
  unfold tk at *
  have:(own n ([]:List Lt)).length=0:=rfl
  omega
theorem FU (w:Wy)(ns:List Str)(k:Ws)(aV:List (Str×Lt)):(pass w ns k aV).lo.length+(pass w ns k aV).ou.length+(pass w ns k aV).st.length=(pass w ns k aV).ca.length+k.st.length:=by
  have h1:=(oK w (pass w ns k aV).ca k.st []).length_eq
  have h2:=(jm w ns (tk w k.st (pass w ns k aV).ca).1 k.la).length_eq
  simp only[List.length_map,List.length_append,List.length_nil] at h1 h2
  have e1:(pass w ns k aV).lo=(tk w k.st (pass w ns k aV).ca).2:=rfl
  have e2:(pass w ns k aV).ou=(cV w ns (tk w k.st (pass w ns k aV).ca).1 k.la).1:=rfl
  have e3:(pass w ns k aV).st=(cV w ns (tk w k.st (pass w ns k aV).ca).1 k.la).2.1:=rfl
  rw[e1,e2,e3]
  unfold tk at *
  omega
theorem K7 {sn:List Str}{w:Wy}{ns:List Str}{k:Ws}{aV:List (Str×Lt)}(hk:∀ l∈k.cm++k.st,l.In sn)(hs:∀ x∈aV,x.2.In sn):(∀ l∈(pass w ns k aV).ca,l.In sn)∧(∀ l∈(pass w ns k aV).lo,l.In sn)∧(∀ l∈(pass w ns k aV).ou,l.In sn)∧∀ l∈(pass w ns k aV).st,l.In sn:=by
  have hca:∀ l∈(pass w ns k aV).ca,l.In sn:=fun l hl=>by
    rcases List.mem_append.mp (show l∈k.cm++(aV.filter fun x=>decide (x.1=w.nm)).map (·.2) from hl) with hl | hl
    · exact hk l (by simp[hl])
    · obtain ⟨x,hx,rfl⟩:=List.mem_map.mp hl
      exact hs x (List.mem_filter.mp hx).1
  have ht:=AE w (pass w ns k aV).ca k.st [] (fun l hl=>hk l (by simp[hl])) (fun l hl=>nomatch hl) hca
  have hp:=jm w ns (tk w k.st (pass w ns k aV).ca).1 k.la
  refine ⟨hca,ht.2,fun l hl=>ht.1 l (hp.mem_iff.mp (List.mem_append_left _ hl)),fun l hl=>ht.1 l (hp.mem_iff.mp (List.mem_append_right _ hl))⟩
theorem LV {lf:Option Int}{k:Int}(k0:0≤k)(hl:∀ i,lf=some i→0≤i):0≤ik lf k∧ik lf k≤k∧∀ i,lf.map (· - ik lf k)=some i→0≤i:=by
  cases lf with
  | none=>exact ⟨k0,Int.le_refl _,fun i h=>by cases h⟩
  | some l=>
    have:=hl l rfl
    refine ⟨?_,?_,fun i h=>?_⟩
    · show 0≤min k l;omega
    · show min k l≤k;omega
    · have e:l - min k l=i:=by simpa[ik] using h
      omega
theorem LP (a:Int)(n:Nat):(rgI a n).length=n:=by unfold rgI;simp
structure Fills (x:Ss) (pl:Nat) (b:Ss×List Int):Prop where
  same:b.1.nm=x.nm∧b.1.du=x.du∧b.1.W=x.W∧b.1.S=x.S∧b.1.lo=x.lo∧b.1.gd=x.gd∧b.1.mk'=x.mk'∧b.1.wt=x.wt
  few:b.2.length≤pl
  all:b.1.ag.length+b.2.length≤max x.ag.length pl
  n0:x.nx≤b.1.nx
  n1:b.1.nx≤x.nx+pl
  l:∀ i,b.1.lf=some i→0≤i
theorem J3 {x:Ss}(pl:Nat)(hl:∀ i,x.lf=some i→0≤i):Fills x pl (x.fill pl):=by
  have tl:(x.ag.take pl).length=min pl x.ag.length:=List.length_take
  obtain ⟨c0,c1,c2⟩:=LV (lf:=x.lf) (k:=(pl:Int) - ((x.ag.take pl).length:Int)) (by omega) hl
  have e1:(x.fill pl).1.ag.length=x.ag.length - (x.ag.take pl).length:=by show (x.ag.drop _).length=_;rw[List.length_drop]
  have e2:(x.fill pl).2.length=(x.ag.take pl).length+(ik x.lf ((pl:Int) - ((x.ag.take pl).length:Int))).toNat:=by show (x.ag.take pl++rgI _ _).length=_;rw[List.length_append,LP]
  have e3:(x.fill pl).1.nx=x.nx+ik x.lf ((pl:Int) - ((x.ag.take pl).length:Int)):=rfl
  refine ⟨⟨rfl,rfl,rfl,rfl,rfl,rfl,rfl,rfl⟩,by omega,by omega,by omega,by omega,c2⟩
structure SsI (g:Int) (R:RN) (n:Nat) (x:Ss):Prop where
  w0:g≤x.W
  w1:x.W≤R.cap g
  s0:0≤x.S
  s1:x.S≤g
  g0:0≤x.gd
  g1:x.gd≤60*n
  m0:0≤x.mk'
  m1:x.mk'≤60*n
  t0:0≤x.wt
  n0:0≤x.nx
  n1:x.nx≤60*n
  l:∀ i,x.lf=some i→0≤i
theorem SsI.ok {g:Int}{R:RN}{n:Nat}{x:Ss}(h:SsI g R n x)(hn:n≤10000)(nm:PyData.strOk x.nm=true)(a:x.ag.length+x.lo.length≤60):x.Ok g R:=by
  have:=h.g1;have:=h.m1;have:=h.n1
  exact ⟨nm,h.w0,h.w1,h.s0,h.s1,⟨h.g0,(show x.gd≤1000000 by omega),h.m0,(show x.mk'≤1000000 by omega),(show (0:Int)≤(x.lo.length:Int) by omega),(show (x.lo.length:Int)≤1000000 by omega),h.t0⟩,by have:=h.n0;omega,by omega,a,h.l⟩
structure B2 (g:Int) (R:RN) (n:Nat) (u:Int) (x:Ss) (b:Ss×List Int):Prop where
  nm:b.1.nm=x.nm
  i:SsI g R (n+1) b.1
  g:b.1.gd≤60*n
  m:b.1.mk'≤60*n
  few:b.2.length≤60
  all:u+(b.2.length:Int)+(b.1.ag.length:Int)+(b.1.lo.length:Int)≤60
theorem Q6 {p:Int}{s:Sn}{n:Nat}{x:Ss}{u:Int}(K:s.rl.Ok)(g0:0 < p)(h:SsI p s.rl n x)(hd:x.hd.Ok)(u0:0≤u)(a:u+(x.ag.length:Int)+(x.lo.length:Int)≤60):B2 p s.rl n u x (x.bt p s u):=by
  unfold Ss.bt
  have i:=h
  split
  · have bi:=Iy K g0 x.hd (S:=x.S) h.w0 h.w1
    have bs:=Pk K hd g0 h.s0 h.s1
    rw[← Kg s.rl p x.W x.S x.hd] at bs
    have cl:=Gx K g0
    have d60:(s.rl.beh p x.W x.S x.hd).1 / p≤60:=Int.ediv_le_of_le_mul g0 (by omega)
    generalize hpl:(max 0 ((s.rl.beh p x.W x.S x.hd).1 / p - u)).toNat=pl
    have F:=J3 (x:=x.rdy p s.rl) pl h.l
    have la:(x.rdy p s.rl).ag.length=x.ag.length+x.lo.length:=by show (ix _).length=_;rw[mj,List.length_append]
    obtain ⟨e1,e2,e3,e4,e5,e6,e7,e8⟩:=F.same
    have f1:=F.few;have f2:=F.all;have f3:=F.n0;have f4:=F.n1
    have ex:(x.rdy p s.rl).nx=x.nx:=rfl
    have elo:((x.rdy p s.rl).fill pl).1.lo.length=0:=by rw[e5];rfl
    have:=h.n0;have:=h.n1
    have z6:((x.rdy p s.rl).fill pl).1.gd=0:=e6
    have z7:((x.rdy p s.rl).fill pl).1.mk'=0:=e7
    have z8:((x.rdy p s.rl).fill pl).1.wt=0:=e8
    refine ⟨e1,⟨?_,?_,?_,?_,by omega,by omega,by omega,by omega,by omega,by omega,by omega,F.l⟩,by omega,by omega,by omega,by omega⟩
    · rw[e3];exact bi.1
    · rw[e3];exact bi.2
    · rw[e4];exact bs.1
    · rw[e4];exact bs.2
  · have:=h.g1;have:=h.m1;have:=h.n1
    exact ⟨rfl,⟨h.w0,h.w1,h.s0,h.s1,h.g0,(show x.gd≤60*((n+1:Nat):Int) by omega),h.m0,(show x.mk'≤60*((n+1:Nat):Int) by omega),h.t0,h.n0,(show x.nx≤60*((n+1:Nat):Int) by omega),h.l⟩,h.g1,h.m1,by simp,by simpa using a⟩
theorem Gy {ss:List Sn}{ns:List (List Int)}{x:Str×Lt}(h:x∈l5 ss ns):∃ s∈ss,∃ n,x=(s.rd.headD (Str.ofString ""),⟨s.nm,n,0,0,0⟩):=by
  rw[qO] at h
  obtain ⟨t,_,h⟩:=List.mem_flatMap.mp h
  obtain ⟨y,hy,e⟩:=List.mem_filterMap.mp h
  unfold ff at e
  cases q:y.2[t]? with
  | none=>rw[q] at e;cases e
  | some n=>
    rw[q] at e
    cases e
    exact ⟨y.1,(List.of_mem_zip hy).1,n,rfl⟩
theorem xO (n:Str)(t:Nat):∀ zs:List (Sn×List Int),(own n ((zs.filterMap (ff t)).map (·.2))).length≤(zs.map fun y=>if n=y.1.nm then 1 else 0).sum
  | []=>by simp[own]
  | y::r=>by
    have ih:=xO n t r
    simp only[List.map_cons,List.sum_cons]
    cases e:ff t y with
    | none=>rw[List.filterMap_cons_none e];omega
    | some z=>
      rw[List.filterMap_cons_some e,List.map_cons]
      have ez:z.2.nm=y.1.nm:=by
        unfold ff at e
        cases q:y.2[t]? with
        | none=>rw[q] at e;cases e
        | some k=>rw[q] at e;cases e;rfl
      unfold own at *
      by_cases h:n=y.1.nm
      · rw[if_pos h]
        rw[List.filter_cons]
        split
        · rw[List.length_cons];omega
        · omega
      · rw[if_neg h,List.filter_cons_of_neg (by rw[ez];simp;exact fun z=>h z.symm)];omega
theorem tj (n:Str)(t L:Nat)(hL:L≤t):∀ zs:List (Sn×List Int),(∀ y∈zs,y.1.nm=n→y.2.length≤L)→(own n ((zs.filterMap (ff t)).map (·.2))).length=0
  | [],_=>rfl
  | y::r,h=>by
    have ih:=tj n t L hL r fun y hy=>h y (List.mem_cons_of_mem _ hy)
    cases e:ff t y with
    | none=>rw[List.filterMap_cons_none e];exact ih
    | some z=>
      rw[List.filterMap_cons_some e,List.map_cons]
      unfold ff at e
      cases q:y.2[t]? with
      | none=>rw[q] at e;cases e
      | some k=>
        rw[q] at e;cases e
        have hlt:=(List.getElem?_eq_some_iff.mp q).1
        have ne:¬ y.1.nm=n:=fun z=>by have:=h y List.mem_cons_self z;omega
        unfold own at *
        rw[List.filter_cons_of_neg (by simpa using ne)]
        exact ih
theorem kW {α:Type}(n:Str)(f:α→List Lt):∀ xs:List α,(own n (xs.flatMap f)).length=(xs.map fun x=>(own n (f x)).length).sum
  | []=>rfl
  | x::r=>by rw[List.flatMap_cons,oQ,kW n f r];rfl
theorem KL (L:Nat):∀ M:Nat,((List.range M).map fun t=>if t < L then 1 else 0).sum≤L
  | 0=>by simp
  | M+1=>by
    have key:∀ M:Nat,((List.range M).map fun t=>if t < L then 1 else 0).sum=min M L:=by
      intro M
      induction M with
      | zero=>simp
      | succ M ih=>
        rw[List.range_succ,List.map_append,List.sum_append,ih]
        simp only[List.map_cons,List.map_nil,List.sum_cons,List.sum_nil]
        split<;>omega
    rw[key];omega
theorem Bt {α β:Type}:∀ (xs:List α) (ys:List β),((List.zip xs ys).map (·.1)) <+: xs
  | [],_=>by simp
  | x::r,[]=>by simp
  | x::r,y::s=>by simpa using Bt r s
theorem HH {ss:List Sn}{ns:List (List Int)}(nd:(ss.map Sn.nm).Nodup)(n:Str)(L:Nat)(h:∀ y∈List.zip ss ns,y.1.nm=n→y.2.length≤L):(own n ((l5 ss ns).map (·.2))).length≤L:=by
  rw[qO,List.map_flatMap,kW]
  refine Nat.le_trans (pM (g:=fun t=>if t < L then 1 else 0) fun t _=>?_) (KL L _)
  split
  · refine Nat.le_trans (xO n t _) ?_
    have e:((List.zip ss ns).map fun y=>if n=y.1.nm then 1 else 0)=((List.zip ss ns).map (·.1.nm)).map fun k=>if n=k then 1 else 0:=by rw[List.map_map];rfl
    rw[e]
    refine l9 n ?_
    have e2:(List.zip ss ns).map (·.1.nm)=((List.zip ss ns).map (·.1)).map Sn.nm:=by rw[List.map_map];rfl
    rw[e2]
    exact nd.sublist (((Bt ss ns).sublist).map Sn.nm)
  · rw[tj n t L (by omega) _ h];exact Nat.le_refl 0
def St'.jk (x:St')(n:Str):Nat:=(x.ws.map fun w=>(own n (w.cm++w.st)).length).sum
theorem Qa (x:St')(n:Str):x.und n=(x.jk n:Int):=by
  unfold St'.und St'.jk
  induction x.ws with
  | nil=>rfl
  | cons a l ih=>simp only[List.map_cons,List.sum_cons,ih];omega
structure dB (p:Pn) (m:Int) (n:Nat) (st:St'):Prop where
  K:p.Ok m
  lw:st.ws.length=p.ws.length
  nm:st.ss.map Ss.nm=p.sn
  lt:∀ w∈st.ws,∀ l∈w.cm++w.st,l.In p.sn
  ss:∀ y∈List.zip p.ss st.ss,SsI p.g y.1.rl n y.2
  cn:∀ x∈st.ss,(st.jk x.nm:Int)+(x.ag.length:Int)+(x.lo.length:Int)≤60
theorem C1 {ns:List Str}(h:ns.Pairwise fun a b=>ltS a b=true):ns.Nodup:=h.imp fun {a b} h e=>by
  subst e
  have:¬ a.cps.toList < a.cps.toList:=List.lt_irrefl _
  simp[ltS,this] at h
theorem p9 {α β:Type}{f:α→List β}{k:Nat}{l:List α}(h:∀ x∈l,(f x).length≤k):(l.flatMap f).length≤l.length*k:=by
  rw[List.length_flatMap];exact j4 h
theorem mQ {α β:Type}{f:α→β}{a b:α}:∀ {l:List α},(l.map f).Nodup→a∈l→b∈l→f a=f b→a=b
  | x::r,h,ha,hb,e=>by
    have h':=List.nodup_cons.mp h
    rcases List.mem_cons.mp ha with ea | ha
    · rcases List.mem_cons.mp hb with eb | hb
      · rw[ea,eb]
      · exact absurd (List.mem_map.mpr ⟨b,hb,by rw[← e,ea]⟩:f x∈r.map f) h'.1
    · rcases List.mem_cons.mp hb with eb | hb
      · exact absurd (List.mem_map.mpr ⟨a,ha,by rw[e,eb]⟩:f x∈r.map f) h'.1
      · exact mQ h'.2 ha hb e
section
variable {p:Pn} {m:Int} {n:Nat} {st:St'} (I:dB p m n st)
include I
theorem dB.sd:p.sn.Nodup:=C1 I.K.sd
theorem dB.ls:st.ss.length=p.ss.length:=by have:=congrArg List.length I.nm;simpa using this
theorem dB.znm {y:Sn×Ss}(h:y∈List.zip p.ss st.ss):y.2.nm=y.1.nm:=by
  obtain ⟨i,hi,e⟩:=List.getElem_of_mem h
  have h1:i < p.ss.length:=by simp at hi;omega
  have h2:i < st.ss.length:=by simp at hi;omega
  have e1:=congrArg (fun l=>l[i]?) I.nm
  simp[h1,h2] at e1
  rw[← e]
  simpa using e1
theorem dB.snm {a:Str}(h:a∈p.sn):∃ x∈st.ss,x.nm=a:=by rw[← I.nm] at h;obtain ⟨x,hx,e⟩:=List.mem_map.mp h;exact ⟨x,hx,e⟩
theorem dB.Qf {a:Str}(h:a∈p.sn):st.jk a≤60:=by
  obtain ⟨x,hx,rfl⟩:=I.snm h
  have:=I.cn x hx;omega
theorem dB.snl:p.sn.length≤8:=by unfold Pn.sn;rw[List.length_map];exact I.K.s1
theorem dB.II {w:Ws}(h:w∈st.ws):w.cm.length+w.st.length≤480:=by
  have h1:=zr p.sn (w.cm++w.st) fun l hl=>(I.lt w h l hl).1
  have h2:(p.sn.map fun a=>(own a (w.cm++w.st)).length).sum≤p.sn.length*60:=j4 fun a ha=>by
    have:=I.Qf ha
    have:=kG (f:=fun w:Ws=>(own a (w.cm++w.st)).length) h
    unfold St'.jk at *;omega
  have:=I.snl
  rw[List.length_append] at h1;omega
theorem dB.sok {a:Str}(h:a∈p.sn):PyData.strOk a=true:=by
  obtain ⟨s,hs,rfl⟩:=List.mem_map.mp h
  exact (I.K.s s hs).n
theorem dB.xok (hn:n≤10000){y:Sn×Ss}(h:y∈List.zip p.ss st.ss):y.2.Ok p.g y.1.rl:=by
  have hx:=(List.of_mem_zip h).2
  have c:=I.cn _ hx
  refine (I.ss y h).ok hn (I.sok ?_) (by omega)
  rw[I.znm h];exact List.mem_map.mpr ⟨_,(List.of_mem_zip h).1,rfl⟩
theorem dB.bt (hn:n≤10000){y:Sn×Ss}(h:y∈List.zip p.ss st.ss):B2 p.g y.1.rl n (st.jk y.2.nm) y.2 (y.2.bt p.g y.1 (st.und y.2.nm)):=by
  have hx:=(List.of_mem_zip h).2
  have hs:=(List.of_mem_zip h).1
  have c:=I.cn _ hx
  rw[Qa]
  exact Q6 (I.K.s _ hs).k (by have:=I.K.g.1;omega) (I.ss y h) (I.xok hn h).h (by omega) c
theorem dB.S3 (hn:n≤10000){b:Ss×List Int}(h:b∈p.br st):∃ y∈List.zip p.ss st.ss,b=y.2.bt p.g y.1 (st.und y.2.nm)∧B2 p.g y.1.rl n (st.jk y.2.nm) y.2 b:=by
  unfold Pn.br at h
  rw[c6] at h
  obtain ⟨y,hy,rfl⟩:=List.mem_map.mp h
  exact ⟨y,hy,rfl,I.bt hn hy⟩
theorem dB.nb (hn:n≤10000){b:Ss×List Int}(h:b∈p.br st):b.2.length≤60:=by obtain ⟨y,_,_,B⟩:=I.S3 hn h;exact B.few
theorem dB.zb {y:Sn×(Ss×List Int)}(h:y∈List.zip p.ss (p.br st)):∃ x,(y.1,x)∈List.zip p.ss st.ss∧y.2=x.bt p.g y.1 (st.und x.nm):=by
  obtain ⟨i,hi,e⟩:=List.getElem_of_mem h
  have h1:i < p.ss.length:=by simp at hi;omega
  have h2:i < st.ss.length:=by have:=I.ls;omega
  refine ⟨st.ss[i],?_,?_⟩
  · have:i < (List.zip p.ss st.ss).length:=by simp;omega
    have hm:=List.getElem_mem this
    rw[List.getElem_zip] at hm
    rw[← e];simpa using hm
  · rw[← e]
    simp[Pn.br]
theorem dB.zs {y:Sn×List Int}(h:y∈List.zip p.ss ((p.br st).map (·.2))):∃ b,(y.1,b)∈List.zip p.ss (p.br st)∧y.2=b.2:=by
  rw[List.zip_map_right] at h
  obtain ⟨z,hz,rfl⟩:=List.mem_map.mp h
  exact ⟨z.2,hz,rfl⟩
theorem dB.Mc (hn:n≤10000){x:Ss}{s:Sn}(h:(s,x)∈List.zip p.ss st.ss):(own s.nm ((p.aV st).map (·.2))).length≤(x.bt p.g s (st.und x.nm)).2.length:=by
  refine HH I.sd s.nm _ fun y hy e=>?_
  obtain ⟨b,hb,e2⟩:=I.zs hy
  obtain ⟨x',hx',e3⟩:=I.zb hb
  have e3':b=x'.bt p.g y.1 (st.und x'.nm):=e3
  have es:y.1=s:=mQ (f:=Sn.nm) I.sd (List.of_mem_zip hx').1 (List.of_mem_zip h).1 e
  have ex:x'=x:=by
    refine mQ (f:=Ss.nm) (by rw[I.nm];exact I.sd) (List.of_mem_zip hx').2 (List.of_mem_zip h).2 ?_
    have n1:x'.nm=y.1.nm:=I.znm hx'
    have n2:x.nm=s.nm:=I.znm h
    rw[n1,n2];exact e
  rw[e2,e3',es,ex]
  exact Nat.le_refl _
theorem dB.Sv {s:Sn}(h:s∈p.ss):∃ x,(s,x)∈List.zip p.ss st.ss:=by
  obtain ⟨i,hi,e⟩:=List.getElem_of_mem h
  have h2:i < st.ss.length:=by have:=I.ls;omega
  have:i < (List.zip p.ss st.ss).length:=by simp;omega
  have hm:=List.getElem_mem this
  rw[List.getElem_zip] at hm
  exact ⟨_,by rw[← e];exact hm⟩
theorem dB.uz {x:Str×Lt}(h:x∈p.aV st):x.2.In p.sn∧PyData.strOk x.1=true:=by
  obtain ⟨s,hs,k,rfl⟩:=Gy h
  have hk:=I.K.s s hs
  refine ⟨⟨List.mem_map.mpr ⟨s,hs,rfl⟩,Int.le_refl 0,Int.le_refl 0,(show (0:Int)≤1 by decide)⟩,?_⟩
  cases e:s.rd with
  | nil=>exact absurd e hk.r0
  | cons a r=>
    have:a∈p.wn:=hk.r.subset (by rw[e];simp)
    obtain ⟨w,hw,rfl⟩:=List.mem_map.mp this
    exact (I.K.w w hw).n
theorem dB.Ma (hn:n≤10000):(p.aV st).length≤480:=by
  have h1:=zr p.sn ((p.aV st).map (·.2)) fun l hl=>by obtain ⟨x,hx,rfl⟩:=List.mem_map.mp hl;exact (I.uz hx).1.1
  have h2:(p.sn.map fun a=>(own a ((p.aV st).map (·.2))).length).sum≤p.sn.length*60:=j4 fun a ha=>by
    obtain ⟨s,hs,rfl⟩:=List.mem_map.mp ha
    obtain ⟨x,hx⟩:=I.Sv hs
    exact Nat.le_trans (I.Mc hn hx) (I.bt hn hx).few
  have:=I.snl
  rw[List.length_map] at h1;omega
theorem dB.Gm {x:Wt}(h:x∈p.cG st):∃ y∈List.zip p.ws st.ws,x=pass y.1 p.sn y.2 (p.aV st):=by
  unfold Pn.cG at h
  rw[c6] at h
  obtain ⟨y,hy,rfl⟩:=List.mem_map.mp h
  exact ⟨y,hy,rfl⟩
theorem dB.zV {x:Wt}(h:x∈p.cG st):(∀ l∈x.ca,l.In p.sn)∧(∀ l∈x.lo,l.In p.sn)∧(∀ l∈x.ou,l.In p.sn)∧∀ l∈x.st,l.In p.sn:=by
  obtain ⟨y,hy,rfl⟩:=I.Gm h
  exact K7 (I.lt _ (List.of_mem_zip hy).2) fun x hx=>(I.uz hx).1
theorem dB.A7 (hn:n≤10000){x:Wt}(h:x∈p.cG st):x.ca.length≤960∧x.lo.length+x.ou.length+x.st.length≤1440:=by
  obtain ⟨y,hy,rfl⟩:=I.Gm h
  have h1:=I.II (List.of_mem_zip hy).2
  have h2:=I.Ma hn
  have h3:=FU y.1 p.sn y.2 (p.aV st)
  have h4:(pass y.1 p.sn y.2 (p.aV st)).ca.length≤y.2.cm.length+(p.aV st).length:=by
    show (y.2.cm++((p.aV st).filter fun x=>decide (x.1=y.1.nm)).map (·.2)).length≤_
    rw[List.length_append,List.length_map]
    have:=List.length_filter_le (fun x:Str×Lt=>decide (x.1=y.1.nm)) (p.aV st)
    omega
  omega
theorem dB.wl:(p.cG st).length≤6:=by unfold Pn.cG;rw[List.length_zipWith];have:=I.K.w1;omega
end
theorem DB {α:Type}(a b:α→Bool)(l:List α):(l.filter a).filter b=(l.filter b).filter a:=by
  rw[List.filter_filter,List.filter_filter];congr 1;funext x;exact Bool.and_comm ..
theorem JH (n:Str)(q:Str×Lt→Bool)(l:List (Str×Lt)):(own n ((l.filter q).map (·.2))).length=((l.filter fun x=>decide (x.2.nm=n)).filter q).length:=by
  unfold own
  rw[List.filter_map,List.length_map,← DB]
  rfl
theorem vZ (n:Str)(h:Int)(l:List Lt):(own n (l.map (·.pS h))).length=(own n l).length:=by
  rw[uk,uk,List.map_map];rfl
theorem pB {α β γ:Type}(P:α×β→γ):∀ (xs:List α) (ys:List β),List.zip xs ((List.zip xs ys).map P)=(List.zip xs ys).map fun y=>(y.1,P y)
  | [],_=>by simp
  | x::r,[]=>by simp
  | x::r,y::s=>by simp[pB P r s]
theorem u4 {α β:Type}:∀ {xs:List α} {ys:List β},xs.length≤ys.length→(List.zip xs ys).map (·.1)=xs
  | [],_,_=>by simp
  | x::r,[],h=>by simp at h
  | x::r,y::s,h=>by simp[u4 (xs:=r) (ys:=s) (by simpa using h)]
theorem Bv {α β:Type}:∀ {xs:List α} {ys:List β},ys.length≤xs.length→(List.zip xs ys).map (·.2)=ys
  | _,[],_=>by simp
  | [],y::s,h=>by simp at h
  | x::r,y::s,h=>by simp[Bv (xs:=r) (ys:=s) (by simpa using h)]
theorem CT (q:Lt→Bool)(n:Str)(l:List Lt):(own n (l.filter q)).length+(own n (l.filter fun x=>!q x)).length=(own n l).length:=by
  unfold own
  induction l with
  | nil=>rfl
  | cons x r ih=>by_cases h1:q x<;>by_cases h2:x.nm=n<;>simp[h1,h2] at ih ⊢ <;> omega
theorem GX {p:Pn}{st:St'}(nd:p.wn.Nodup)(lw:st.ws.length=p.ws.length)(a:Str) :
    (p.step st).jk a+(own a (p.taken st)).length+(own a (p.bC st)).length≤st.jk a+(own a ((p.aV st).map (·.2))).length:=by
  generalize hZ:List.zip p.ws st.ws=Z
  have z1:Z.map (·.1)=p.ws:=by rw[← hZ];exact u4 (by omega)
  have z2:Z.map (·.2)=st.ws:=by rw[← hZ];exact Bv (by omega)
  let P:Wy×Ws→Wt:=fun y=>pass y.1 p.sn y.2 (p.aV st)
  have ew:p.cG st=Z.map P:=by unfold Pn.cG;rw[c6,hZ]
  have el:(own a (p.bC st)).length=(Z.map fun y=>(own a (P y).lo).length).sum:=by unfold Pn.bC;rw[kW,ew,List.map_map];rfl
  have eo:(own a (p.out st)).length=(Z.map fun y=>(own a (P y).ou).length).sum:=by unfold Pn.out;rw[kW,ew,List.map_map];rfl
  have e3:(Z.map fun y=>(own a (P y).lo).length).sum+(Z.map fun y=>(own a (P y).ou).length).sum+(Z.map fun y=>(own a (P y).st).length).sum=(Z.map fun y=>(own a (P y).ca).length).sum+(Z.map fun y=>(own a y.2.st).length).sum:=by
    rw[← b9,← b9,← b9]
    congr 1
    exact List.map_congr_left fun y _=>DY y.1 p.sn y.2 (p.aV st) a
  have e4:(Z.map fun y=>(own a (P y).ca).length).sum≤(Z.map fun y=>(own a y.2.cm).length).sum+(own a ((p.aV st).map (·.2))).length:=by
    have:(Z.map fun y=>(own a (P y).ca).length)=Z.map fun y=>(own a y.2.cm).length+(((p.aV st).filter fun x=>decide (x.2.nm=a)).filter fun x=>decide (x.1=y.1.nm)).length:=by
      refine List.map_congr_left fun y _=>?_
      show (own a (y.2.cm++((p.aV st).filter fun x=>decide (x.1=y.1.nm)).map (·.2))).length=_
      rw[oQ,JH]
    rw[this,b9]
    have h2:=split_le (f:=fun x:Str×Lt=>x.1) nd ((p.aV st).filter fun x=>decide (x.2.nm=a))
    have h3:(Z.map fun y=>(((p.aV st).filter fun x=>decide (x.2.nm=a)).filter fun x=>decide (x.1=y.1.nm)).length)=(p.wn.map fun k=>(((p.aV st).filter fun x=>decide (x.2.nm=a)).filter fun x=>decide (x.1=k)).length):=by
      unfold Pn.wn;rw[← z1,List.map_map,List.map_map];rfl
    rw[h3]
    have h4:(own a ((p.aV st).map (·.2))).length=((p.aV st).filter fun x=>decide (x.2.nm=a)).length:=by
      unfold own;rw[List.filter_map,List.length_map];rfl
    omega
  have e5:st.jk a=(Z.map fun y=>(own a y.2.cm).length).sum+(Z.map fun y=>(own a y.2.st).length).sum:=by
    unfold St'.jk
    rw[← z2,List.map_map,← b9]
    congr 1
    exact List.map_congr_left fun y _=>oQ ..
  have e6:(p.step st).jk a=(Z.map fun y=>(own a ((p.out st).filter fun l=>decide (eN p.ss l=some y.1.nm))).length).sum+(Z.map fun y=>(own a (P y).st).length).sum:=by
    unfold St'.jk Pn.step
    simp only
    rw[c6,ew,← hZ,pB,hZ,List.map_map,List.map_map,← b9]
    congr 1
    refine List.map_congr_left fun y _=>?_
    show (own a (((p.out st).filter fun l=>decide (eN p.ss l=some y.1.nm)).map (·.pS 1)++(P y).st.map (·.pS 0))).length=_
    rw[oQ,vZ,vZ]
  have e7:(Z.map fun y=>(own a ((p.out st).filter fun l=>decide (eN p.ss l=some y.1.nm))).length).sum≤(own a ((p.out st).filter fun l=>!decide (eN p.ss l=none))).length:=by
    have nd2:(p.wn.map some).Nodup:=List.Pairwise.map _ (fun a b (h:a≠b) (z:some a=some b)=>h (Option.some.inj z)) nd
    have h2:=split_le (f:=eN p.ss) nd2 (own a ((p.out st).filter fun l=>!decide (eN p.ss l=none)))
    rw[List.map_map] at h2
    have h3:(Z.map fun y=>(own a ((p.out st).filter fun l=>decide (eN p.ss l=some y.1.nm))).length)=p.wn.map ((fun k=>((own a ((p.out st).filter fun l=>!decide (eN p.ss l=none))).filter fun x=>decide (eN p.ss x=k)).length) ∘ some):=by
      unfold Pn.wn
      rw[← z1,List.map_map,List.map_map]
      refine List.map_congr_left fun y _=>?_
      unfold own
      simp only[Function.comp,List.filter_filter]
      congr 2
      funext x
      by_cases h1:x.nm=a<;>cases h:eN p.ss x<;>simp[h1]
    rw[h3];exact h2
  have e8:=CT (fun l=>decide (eN p.ss l=none)) a (p.out st)
  have e9:(own a (p.taken st)).length=(own a ((p.out st).filter fun l=>decide (eN p.ss l=none))).length:=rfl
  omega
theorem tL:∀ {l:List Lt},(∀ x∈l,0≤x.mr∧x.mr≤1)→0≤(l.map Lt.mr).sum∧(l.map Lt.mr).sum≤(l.length:Int)
  | [],_=>by simp
  | x::r,h=>by
    have h1:=h x List.mem_cons_self
    have h2:=tL (l:=r) fun x hx=>h x (List.mem_cons_of_mem _ hx)
    simp only[List.map_cons,List.sum_cons,List.length_cons];omega
section
variable {p:Pn} {m:Int} {n:Nat} {st:St'} (I:dB p m n st) (hn:n≤10000)
include I
theorem dB.BV {l:Lt}(h:l∈p.out st):l.In p.sn:=by
  obtain ⟨x,hx,hl⟩:=List.mem_flatMap.mp h
  exact (I.zV hx).2.2.1 l hl
theorem dB.OL {l:Lt}(h:l∈p.bC st):l.In p.sn:=by
  obtain ⟨x,hx,hl⟩:=List.mem_flatMap.mp h
  exact (I.zV hx).2.1 l hl
include hn
theorem dB.cons {s:Sn}{b:Ss×List Int}(h:(s,b)∈List.zip p.ss (p.br st)):b.1.nm=s.nm∧SsI p.g s.rl (n+1) b.1∧b.1.gd≤60*n∧b.1.mk'≤60*n∧
    ((p.step st).jk s.nm:Int)+((own s.nm (p.taken st)).length:Int)+((own s.nm (p.bC st)).length:Int)+(b.1.ag.length:Int)+(b.1.lo.length:Int)≤60:=by
  obtain ⟨x,hx,e⟩:=I.zb h
  have e':b=x.bt p.g s (st.und x.nm):=e
  have B:B2 p.g s.rl n (st.jk x.nm) x (x.bt p.g s (st.und x.nm)):=I.bt hn hx
  have nm:x.nm=s.nm:=I.znm hx
  have c:=GX (p:=p) (st:=st) I.K.wd I.lw s.nm
  have d:(own s.nm ((p.aV st).map (·.2))).length≤(x.bt p.g s (st.und x.nm)).2.length:=I.Mc hn hx
  have a:=B.all
  rw[← e'] at B d a
  rw[nm] at a
  exact ⟨B.nm.trans nm,B.i,B.g,B.m,by omega⟩
theorem dB.rd:vi p st:=by
  have w1:=I.K.w1;have s1:=I.K.s1
  have wl:=I.wl
  have sl:=I.Ma hn
  have lo:=p9 (f:=Wt.lo) (k:=1440) (l:=p.cG st) fun x hx=>by have:=(I.A7 hn hx).2;omega
  have ou:=p9 (f:=Wt.ou) (k:=1440) (l:=p.cG st) fun x hx=>by have:=(I.A7 hn hx).2;omega
  refine ⟨I.K.g,I.sd,by omega,by omega,fun a ha=>I.sok ha,fun s hs=>⟨(I.K.s s hs).k,(I.K.s s hs).r0,fun a ha=>?_⟩,fun w hw=>⟨(I.K.w w hw).n,by have:=(I.K.w w hw).p0;omega⟩,fun w hw=>⟨fun l hl=>I.sok (I.lt w hw l hl).1,by have:=I.II hw;omega⟩,
    fun y hy=>I.xok hn hy,fun b hb=>by have:=I.nb hn hb;omega,fun x hx=>⟨(I.uz hx).2,(I.uz hx).1.1⟩,by omega,fun w hw=>⟨fun l hl=>(I.lt w hw l hl).1,by have:=I.II hw;omega⟩,fun x hx=>by have:=I.A7 hn hx;omega,
    fun l hl=>⟨(I.BV hl).1,(I.BV hl).2.1⟩,fun l hl=>(I.OL hl).1,?_,?_,?_,fun y hy=>?_⟩
  · have:a∈p.wn:=(I.K.s s hs).r.subset ha
    obtain ⟨w,hw,rfl⟩:=List.mem_map.mp this
    exact (I.K.w w hw).n
  · show ((p.cG st).flatMap Wt.ou).length≤_;omega
  · show ((p.cG st).flatMap Wt.lo).length≤_;omega
  · unfold Pn.evs
    rw[List.length_append,List.length_map,c6]
    have h2:(List.zip p.ws (p.cG st)).length≤6:=by simp;omega
    have h3:=p9 (f:=fun y:Wy×Wt=>evs p.ss y.1 y.2) (k:=2400) (l:=List.zip p.ws (p.cG st)) fun y hy=>by
      have:=I.A7 hn (List.of_mem_zip hy).2
      show (y.2.ca.zipIdx.map _++y.2.ou.map _).length≤_
      rw[List.length_append,List.length_map,List.length_map,List.length_zipIdx];omega
    rw[List.flatMap_def] at h3
    omega
  · have:=(I.cons hn (s:=y.1) (b:=y.2) hy).2.2.2.2
    omega
theorem dB.next:dB p m (n+1) (p.step st):=by
  have lwt:(p.cG st).length=p.ws.length:=by unfold Pn.cG;rw[List.length_zipWith];have:=I.lw;omega
  have lb:(p.br st).length=p.ss.length:=by unfold Pn.br;rw[List.length_zipWith];have:=I.ls;omega
  have es:(p.step st).ss=(List.zip p.ss (p.br st)).map fun y=>kr y.1 y.2.1 (p.bC st) (p.taken st):=by unfold Pn.step;simp only;rw[c6]
  have key:∀ y∈List.zip p.ss (p.br st),(kr y.1 y.2.1 (p.bC st) (p.taken st)).nm=y.1.nm:=fun y hy=>(I.cons hn (s:=y.1) (b:=y.2) hy).1
  refine ⟨I.K,?_,?_,fun w hw l hl=>?_,fun y hy=>?_,fun x hx=>?_⟩
  · unfold Pn.step;simp only;rw[List.length_zipWith];omega
  · rw[es,List.map_map]
    have:(List.zip p.ss (p.br st)).map (Ss.nm ∘ fun y=>kr y.1 y.2.1 (p.bC st) (p.taken st))=(List.zip p.ss (p.br st)).map (Sn.nm ∘ (·.1)):=List.map_congr_left fun y hy=>key y hy
    rw[this,← List.map_map,u4 (by omega)]
  · unfold Pn.step at hw
    simp only at hw
    rw[c6] at hw
    obtain ⟨y,hy,rfl⟩:=List.mem_map.mp hw
    rcases List.mem_append.mp hl with hl | hl
    · obtain ⟨z,hz,rfl⟩:=List.mem_map.mp (show l∈((p.out st).filter fun l=>decide (eN p.ss l=some y.1.nm)).map (·.pS 1) from hl)
      have h:=I.BV (List.mem_filter.mp hz).1
      exact ⟨h.1,(show 0≤z.hp+1 by have:=h.2.1;omega),h.2.2⟩
    · obtain ⟨z,hz,rfl⟩:=List.mem_map.mp (show l∈y.2.st.map (·.pS 0) from hl)
      have h:=(I.zV (List.of_mem_zip hy).2).2.2.2 z hz
      exact ⟨h.1,(show 0≤z.hp+0 by have:=h.2.1;omega),h.2.2⟩
  · rw[es,pB] at hy
    obtain ⟨z,hz,rfl⟩:=List.mem_map.mp hy
    obtain ⟨h1,h2,h3,h4,h5⟩:=I.cons hn (s:=z.1) (b:=z.2) hz
    have mk:=tL (l:=own z.1.nm (p.taken st)) fun l hl=>by
      have:=I.BV (List.mem_filter.mp (List.mem_filter.mp hl).1).1
      exact this.2.2
    have g0:=h2.g0;have m0:=h2.m0;have t0:=h2.t0
    refine ⟨h2.w0,h2.w1,h2.s0,h2.s1,?_,?_,?_,?_,?_,h2.n0,h2.n1,h2.l⟩
    · show 0≤z.2.1.gd+((own z.1.nm (p.taken st)).length:Int) - ((own z.1.nm (p.taken st)).map Lt.mr).sum;omega
    · show z.2.1.gd+((own z.1.nm (p.taken st)).length:Int) - ((own z.1.nm (p.taken st)).map Lt.mr).sum≤60*((n+1:Nat):Int);omega
    · show 0≤z.2.1.mk'+((own z.1.nm (p.taken st)).map Lt.mr).sum;omega
    · show z.2.1.mk'+((own z.1.nm (p.taken st)).map Lt.mr).sum≤60*((n+1:Nat):Int);omega
    · show 0≤max z.2.1.wt _;omega
  · rw[es] at hx
    obtain ⟨z,hz,rfl⟩:=List.mem_map.mp hx
    obtain ⟨h1,h2,h3,h4,h5⟩:=I.cons hn (s:=z.1) (b:=z.2) hz
    rw[key z hz]
    have e:(kr z.1 z.2.1 (p.bC st) (p.taken st)).lo.length=z.2.1.lo.length+(own z.1.nm (p.bC st)).length:=by
      show (ix (z.2.1.lo++(own z.1.nm (p.bC st)).map Lt.nu)).length=_
      rw[mj,List.length_append,List.length_map]
    have e2:(kr z.1 z.2.1 (p.bC st) (p.taken st)).ag=z.2.1.ag:=rfl
    rw[e,e2];omega
end
theorem Kc {p:Pn}{m:Int}(K:p.Ok m):dB p m 0 p.beg:=by
  have g1:=K.g.1
  have nm:∀ s:Sn,(Sn.beg p.g s).nm=s.nm:=fun s=>rfl
  have und:∀ a,p.beg.jk a=0:=fun a=>by
    unfold St'.jk Pn.beg
    simp only[List.map_map]
    have:∀ l:List Wy,(l.map fun _=>0).sum=0:=fun l=>by induction l<;>simp_all
    exact this p.ws
  refine ⟨K,by simp[Pn.beg],by unfold Pn.beg;simp only[List.map_map];rfl,fun w hw l hl=>?_,fun y hy=>?_,fun x hx=>?_⟩
  · unfold Pn.beg at hw
    obtain ⟨_,_,rfl⟩:=List.mem_map.mp hw
    cases hl
  · have hy':y∈List.zip p.ss (p.ss.map (Sn.beg p.g)):=hy
    rw[List.zip_map_right] at hy'
    obtain ⟨z,hz,rfl⟩:=List.mem_map.mp hy'
    have e:z.2=z.1:=by
      have:∀ (l:List Sn) (z:Sn×Sn),z∈List.zip l l→z.2=z.1:=by
        intro l
        induction l with
        | nil=>intro z hz;simp at hz
        | cons a l ih=>
          intro z hz
          rcases List.mem_cons.mp (by simpa using hz) with e | h
          · rw[e]
          · exact ih z h
      exact this _ z hz
    have hk:=K.s z.1 (List.of_mem_zip hz).1
    have R:=hk.k
    have q0:=R.w.q0;have s0:=R.t.q0
    show SsI p.g z.1.rl 0 (Sn.beg p.g z.2)
    rw[e]
    refine ⟨?_,?_,Int.le_refl 0,(show (0:Int)≤p.g by omega),Int.le_refl 0,Int.le_refl 0,Int.le_refl 0,Int.le_refl 0,Int.le_refl 0,Int.le_refl 0,Int.le_refl 0,fun i hi=>(hk.mm i hi).1⟩
    · show p.g≤z.1.rl.p*p.g / z.1.rl.q
      rw[Int.le_ediv_iff_mul_le q0]
      have:=Int.mul_le_mul_of_nonneg_right R.w.ge (show 0≤p.g by omega)
      rw[Int.one_mul,Int.mul_comm z.1.rl.q] at this
      exact this
    · show z.1.rl.p*p.g / z.1.rl.q≤z.1.rl.r*p.g / z.1.rl.s
      rw[Int.le_ediv_iff_mul_le s0]
      generalize hW:z.1.rl.p*p.g / z.1.rl.q=W
      have h1:W*z.1.rl.q≤z.1.rl.p*p.g:=by rw[← hW];exact Int.ediv_mul_le _ (by omega)
      have h2:=Int.mul_le_mul_of_nonneg_right h1 (show 0≤z.1.rl.s by omega)
      have h3:=Int.mul_le_mul_of_nonneg_right R.wt (show 0≤p.g by omega)
      refine Int.le_of_mul_le_mul_right (a:=z.1.rl.q) ?_ q0
      calc W*z.1.rl.s*z.1.rl.q=W*z.1.rl.q*z.1.rl.s:=by ac_rfl
        _≤z.1.rl.p*p.g*z.1.rl.s:=h2
        _=z.1.rl.p*z.1.rl.s*p.g:=by ac_rfl
        _≤z.1.rl.r*z.1.rl.q*p.g:=h3
        _=z.1.rl.r*p.g*z.1.rl.q:=by ac_rfl
  · have hx':x∈p.ss.map (Sn.beg p.g):=hx
    obtain ⟨s,hs,rfl⟩:=List.mem_map.mp hx'
    rw[und]
    show ((0:Nat):Int)+((0:Nat):Int)+((0:Nat):Int)≤60
    decide
def spD (is:List Nat):List (L2.Key×D):=is.map fun i:Nat=>(.inl (i:Int),.bl true)
def SM (cs:List Int)(t l u:Int)(c:Addr):List (L2.Key×D):=[(.inr (Str.ofString "cells"),.ls (cs.map .int)),(.inr (Str.ofString "turn"),.int t),(.inr (Str.ofString "left"),.int l),(.inr (Str.ofString "used"),.int u),(.inr (Str.ofString "spent"),.obj c)]
structure Pq (μ:Mu) (b c:Addr) (n:Nat):Prop where
  ne:b≠c
  ex:∃ (cs:List Int) (t l u:Int) (is:List Nat),μ b=some (.dct (SM cs t l u c))∧μ c=some (.dct (spD is))∧(0≤t∧t≤n)∧is.Nodup∧(∀ i∈is,i < cs.length)∧cs.length≤63
structure yM (b c:Addr) (n:Nat) (μ μ':Mu):Prop where
  p:Pq μ' b c n
  o:∀ a,a≠b→a≠c→μ' a=μ a
theorem Pq.mono {μ:Mu}{b c:Addr}{n m:Nat}(h:Pq μ b c n)(k:n≤m):Pq μ b c m:=by
  obtain ⟨ne,cs,t,l,u,is,e1,e2,⟨t0,t1⟩,r⟩:=h
  exact ⟨ne,cs,t,l,u,is,e1,e2,⟨t0,by omega⟩,r⟩
theorem yM.mono {μ μ':Mu}{b c:Addr}{n m:Nat}(h:yM b c n μ μ')(k:n≤m):yM b c m μ μ':=⟨h.p.mono k,h.o⟩
theorem yM.trans {b c:Addr}{μ μ1 μ2:Mu}{n m:Nat}(h:yM b c n μ μ1)(k:yM b c m μ1 μ2):yM b c m μ μ2:=⟨k.p,fun a h1 h2=>(k.o a h1 h2).trans (h.o a h1 h2)⟩
theorem Pq.nb {μ:Mu}{b c a:Addr}{n:Nat}(h:Pq μ b c n)(e:μ a=none):a≠b∧a≠c:=by
  obtain ⟨_,cs,t,l,u,is,e1,e2,_⟩:=h
  exact ⟨(fun z=>by subst z;rw[e1] at e;cases e),(fun z=>by subst z;rw[e2] at e;cases e)⟩
theorem Pq.up {μ:Mu}{b c a:Addr}{o:MO}{n:Nat}(h:Pq μ b c n)(k:a≠b∧a≠c):Pq (up μ a o) b c n:=by
  obtain ⟨ne,cs,t,l,u,is,e1,e2,r⟩:=h
  exact ⟨ne,cs,t,l,u,is,by rw[aU k.1.symm];exact e1,by rw[aU k.2.symm];exact e2,r⟩
section
variable (cs:List Int) (t l u x:Int) (c:Addr)
end
section
variable {G:GTr} {tt:TTr} {te:ETr} {ρc:ST} {ds:List D} {μ:Mu} {Q:DK} {b c:Addr} {n m:Nat}
end
def nxF (ss:List Ss)(n:Str):Int:=((ss.find? fun x=>decide (x.nm=n)).map Ss.nx).getD 0
def Lt.lw (f:Str→Int)(l:Lt):Lt:=⟨l.nm,l.nu - f l.nm,l.ag,l.hp,l.mr⟩
def Ws.lw (f:Str→Int)(w:Ws):Ws:=⟨w.cm.map (Lt.lw f),w.st.map (Lt.lw f),w.la⟩
def Ss.lk (x:Ss):Ss:=⟨x.nm,x.du,x.W,x.S,0,x.lf,x.ag.map (· - x.nx),x.lo.map (· - x.nx),x.gd,x.mk',x.wt⟩
def St'.lk (st:St'):St':=⟨st.ws.map (Ws.lw (nxF st.ss)),st.ss.map Ss.lk⟩
def Lt.mv (f:Str→Int)(l:Lt):Lt:=⟨l.nm,l.nu+f l.nm,l.ag,l.hp,l.mr⟩
def Ws.mv (f:Str→Int)(w:Ws):Ws:=⟨w.cm.map (Lt.mv f),w.st.map (Lt.mv f),w.la⟩
def Ss.mv (f:Str→Int)(x:Ss):Ss:=⟨x.nm,x.du,x.W,x.S,x.nx+f x.nm,x.lf,x.ag.map (· + f x.nm),x.lo.map (· + f x.nm),x.gd,x.mk',x.wt⟩
def St'.mv (f:Str→Int)(st:St'):St':=⟨st.ws.map (Ws.mv f),st.ss.map (Ss.mv f)⟩
structure StL (st:St'):Prop where
  nd:(st.ss.map Ss.nm).Nodup
  sn:∀ x∈st.ss,PyData.strOk x.nm=true
  lt:∀ w∈st.ws,∀ l∈w.cm++w.st,l.nm∈st.ss.map Ss.nm
  la:∀ w∈st.ws,PyData.strOk w.la=true
  z1:st.ws.length≤100∧st.ss.length≤100
  z2:∀ w∈st.ws,w.cm.length≤10000∧w.st.length≤10000
  z3:∀ x∈st.ss,x.ag.length≤10000∧x.lo.length≤10000
theorem Ml (ss:List Ss):(ss.map Ss.lk).map Ss.nm=ss.map Ss.nm:=by rw[List.map_map];rfl
theorem Mj (f:Str→Int)(ss:List Ss):(ss.map (Ss.mv f)).map Ss.nm=ss.map Ss.nm:=by rw[List.map_map];rfl
theorem StL.lk {st:St'}(h:StL st):StL st.lk:=by
  refine ⟨by show ((st.ss.map Ss.lk).map Ss.nm).Nodup;rw[Ml];exact h.nd,fun x hx=>?_,fun w hw l hl=>?_,fun w hw=>?_,?_,fun w hw=>?_,fun x hx=>?_⟩
  · obtain ⟨y,hy,rfl⟩:=List.mem_map.mp hx
    exact h.sn y hy
  · obtain ⟨v,hv,rfl⟩:=List.mem_map.mp hw
    show l.nm∈(st.ss.map Ss.lk).map Ss.nm
    rw[Ml]
    have hl:l∈v.cm.map (Lt.lw (nxF st.ss))++v.st.map (Lt.lw (nxF st.ss)):=hl
    rw[← List.map_append] at hl
    obtain ⟨k,hk,rfl⟩:=List.mem_map.mp hl
    exact h.lt v hv k hk
  · obtain ⟨v,hv,rfl⟩:=List.mem_map.mp hw
    exact h.la v hv
  · show (st.ws.map (Ws.lw (nxF st.ss))).length≤100∧(st.ss.map Ss.lk).length≤100
    rw[List.length_map,List.length_map];exact h.z1
  · obtain ⟨v,hv,rfl⟩:=List.mem_map.mp hw
    show (v.cm.map _).length≤_∧(v.st.map _).length≤_
    rw[List.length_map,List.length_map];exact h.z2 v hv
  · obtain ⟨y,hy,rfl⟩:=List.mem_map.mp hx
    show (y.ag.map _).length≤_∧(y.lo.map _).length≤_
    rw[List.length_map,List.length_map];exact h.z3 y hy
theorem StL.mv {st:St'}(f:Str→Int)(h:StL st):StL (st.mv f):=by
  refine ⟨by show ((st.ss.map (Ss.mv f)).map Ss.nm).Nodup;rw[Mj];exact h.nd,fun x hx=>?_,fun w hw l hl=>?_,fun w hw=>?_,?_,fun w hw=>?_,fun x hx=>?_⟩
  · obtain ⟨y,hy,rfl⟩:=List.mem_map.mp hx
    exact h.sn y hy
  · obtain ⟨v,hv,rfl⟩:=List.mem_map.mp hw
    show l.nm∈(st.ss.map (Ss.mv f)).map Ss.nm
    rw[Mj]
    have hl:l∈v.cm.map (Lt.mv f)++v.st.map (Lt.mv f):=hl
    rw[← List.map_append] at hl
    obtain ⟨k,hk,rfl⟩:=List.mem_map.mp hl
    exact h.lt v hv k hk
  · obtain ⟨v,hv,rfl⟩:=List.mem_map.mp hw
    exact h.la v hv
  · show (st.ws.map (Ws.mv f)).length≤100∧(st.ss.map (Ss.mv f)).length≤100
    rw[List.length_map,List.length_map];exact h.z1
  · obtain ⟨v,hv,rfl⟩:=List.mem_map.mp hw
    show (v.cm.map _).length≤_∧(v.st.map _).length≤_
    rw[List.length_map,List.length_map];exact h.z2 v hv
  · obtain ⟨y,hy,rfl⟩:=List.mem_map.mp hx
    show (y.ag.map _).length≤_∧(y.lo.map _).length≤_
    rw[List.length_map,List.length_map];exact h.z3 y hy
theorem ET (o:Option Int)(n:Nat):pl n (cM o)=true:=by cases o<;>cases n<;>rfl
theorem G6 (a b:Int)(n:Nat):pl (n+1) (dR a b)=true:=by
  unfold dR fr
  cases n<;>simp[pl,pls]
theorem Iz (ns:List Int)(h:ns.length≤999999)(n:Nat):pl (n+1) (.tup (cI ns))=true:=by
  have e:pls n (cI ns)=true:=mK fun d hd=>by
    obtain ⟨i,_,rfl⟩:=List.mem_map.mp hd
    cases n<;>rfl
  simp only[pl,List.length_map,decide_eq_true h,e];rfl
theorem FR {ls:List Lt}(h:∀ l∈ls,PyData.strOk l.nm=true)(hl:ls.length≤999999)(n:Nat):pl (n+2) (.tup (ltD ls))=true:=by
  have e:pls (n+1) (ltD ls)=true:=mK fun d hd=>by
    obtain ⟨l,hl,rfl⟩:=List.mem_map.mp hd
    have:=h l hl
    cases n<;>simp[Lt.toD,pl,pls,this]
  simp only[pl,List.length_map,decide_eq_true hl,e];rfl
theorem L7 {st:St'}(h:StL st)(g:Int):pl 5 (st.toD g)=true:=by
  have nm:∀ n∈st.ss.map Ss.nm,PyData.strOk n=true:=fun n hn=>by
    obtain ⟨x,hx,rfl⟩:=List.mem_map.mp hn
    exact h.sn x hx
  have e1:pls 3 (wsD st.ws)=true:=mK fun d hd=>by
    obtain ⟨w,hw,rfl⟩:=List.mem_map.mp hd
    have z:=h.z2 w hw
    have a:=FR (ls:=w.cm) (fun l hl=>nm _ (h.lt w hw l (List.mem_append_left _ hl))) (by omega) 0
    have b:=FR (ls:=w.st) (fun l hl=>nm _ (h.lt w hw l (List.mem_append_right _ hl))) (by omega) 0
    have c:=h.la w hw
    show (true&&(pl 2 (.tup (ltD w.cm))&&(pl 2 (.tup (ltD w.st))&&(PyData.strOk w.la&&true))))=true
    rw[a,b,c];rfl
  have e2:pls 3 (ssD g st.ss)=true:=mK fun d hd=>by
    obtain ⟨x,hx,rfl⟩:=List.mem_map.mp hd
    have z:=h.z3 x hx
    show (true&&(PyData.strOk x.nm&&(pl 2 (cM x.du)&&(pl 2 (dR x.W g)&&(pl 2 (dR x.S g)&&(true&&(pl 2 (cM x.lf)&&(pl 2 (.tup (cI x.ag))&&(pl 2 (.tup (cI x.lo))&&true)))))))))=true
    rw[h.sn x hx,ET,ET,G6,G6,Iz _ (by omega),Iz _ (by omega)];rfl
  have z:=h.z1
  show (true&&((decide ((wsD st.ws).length≤999999)&&pls 3 (wsD st.ws))&&((decide ((ssD g st.ss).length≤999999)&&pls 3 (ssD g st.ss))&&true)))=true
  rw[List.length_map,List.length_map,decide_eq_true (by omega),decide_eq_true (by omega),e1,e2];rfl
def Pn.run (p:Pn):Nat→St'
  | 0=>p.beg
  | n+1=>p.step (p.run n)
def Pn.rows (p:Pn)(n:Nat):List D:=(List.range n).map fun i=>.ls (evD (p.evs (p.run i)))
theorem Pn.j6 {p:Pn}{m:Int}(K:p.Ok m):∀ n:Nat,n≤10000→dB p m n (p.run n)
  | 0,_=>Kc K
  | n+1,h=>(p.j6 K n (by omega)).next (by omega)
theorem wH (ws:List Str)(p:Int):∀ (f:Nat) (st out:List Lt) (l:Str),(da ws p f st out l).2.2=l∨(da ws p f st out l).2.2∈ws
  | 0,_,_,_=>.inl rfl
  | f+1,st,out,l=>by
    unfold da
    split
    · split
      · rename_i n hn
        split
        · rename_i x _
          rcases wH ws p f (st.eraseIdx (at1 n st)) (out++[x]) n with e | e
          · rw[e];exact .inr (vA hn).1
          · exact .inr e
        · exact .inl rfl
      · exact .inl rfl
    · exact .inl rfl
theorem Du (w:Wy)(ws:List Str)(st:List Lt)(l:Str)(hl:PyData.strOk l=true)(hw:∀ n∈ws,PyData.strOk n=true):PyData.strOk (cV w ws st l).2.2=true:=by
  unfold cV
  split
  · rcases wH ws w.pc st.length st [] l with e | e
    · rw[e];exact hl
    · exact hw _ e
  · show PyData.strOk (Str.ofString "")=true
    decide +kernel
theorem Gj {p:Pn}{m:Int}(K:p.Ok m):∀ n:Nat,n≤10000→∀ w∈(p.run n).ws,PyData.strOk w.la=true
  | 0,_,w,hw=>by
    obtain ⟨_,_,rfl⟩:=List.mem_map.mp hw
    show PyData.strOk (Str.ofString "")=true
    decide +kernel
  | n+1,h,w,hw=>by
    have I:=p.j6 K n (by omega)
    have ih:=Gj K n (by omega)
    have hw:w∈List.zipWith (fun w x=>Ah p.ss w x (p.out (p.run n))) p.ws (p.cG (p.run n)):=hw
    rw[c6] at hw
    obtain ⟨y,hy,rfl⟩:=List.mem_map.mp hw
    show PyData.strOk y.2.la=true
    obtain ⟨z,hz,e⟩:=I.Gm (List.of_mem_zip hy).2
    rw[e]
    exact Du _ _ _ _ (ih _ (List.of_mem_zip hz).2) fun n hn=>I.sok hn
theorem J8 {p:Pn}{m:Int}(K:p.Ok m){n:Nat}(h:n≤10000):StL (p.run n):=by
  have I:=p.j6 K n h
  have s1:=K.s1
  have w1:=K.w1
  refine ⟨by rw[I.nm];exact I.sd,fun x hx=>?_,fun w hw l hl=>?_,Gj K n h,⟨by rw[I.lw];omega,by rw[I.ls];omega⟩,fun w hw=>?_,fun x hx=>?_⟩
  · exact I.sok (by rw[← I.nm];exact List.mem_map.mpr ⟨x,hx,rfl⟩)
  · rw[I.nm];exact (I.lt w hw l hl).1
  · have:=I.II hw;omega
  · have:=I.cn x hx;omega
abbrev mvS (f:Str→Int)(x:Str×Lt):Str×Lt:=(x.1,x.2.mv f)
theorem zx (f:Str→Int)(n:Str)(ls:List Lt):own n (ls.map (Lt.mv f))=(own n ls).map (Lt.mv f):=by
  unfold own
  rw[List.filter_map]
  rfl
theorem NQ (f:Str→Int)(st:St')(n:Str):(st.mv f).und n=st.und n:=by
  unfold St'.und St'.mv
  rw[List.map_map]
  congr 1
  refine List.map_congr_left fun w hw=>?_
  show ((own n ((w.cm.map (Lt.mv f))++w.st.map (Lt.mv f))).length:Int)=_
  rw[← List.map_append,zx,List.length_map]
theorem xE (c:Int)(xs:List Int):ix (xs.map (· + c))=(ix xs).map (· + c):=by
  refine jw ((iT _).trans ((iT xs).symm.map _)) (pX _) ?_
  rw[List.pairwise_map]
  exact (pX xs).imp fun h=>by omega
theorem NR (f:Str→Int)(g:Int)(R:RN)(x:Ss):(x.mv f).rdy g R=(x.rdy g R).mv f:=by
  have h:(x.mv f).hd=x.hd:=by unfold Ss.hd Ss.mv;simp
  unfold Ss.rdy
  rw[h]
  show Ss.mk _ _ _ _ _ _ (ix (x.ag.map (· + f x.nm)++x.lo.map (· + f x.nm))) [] 0 0 0=_
  rw[← List.map_append,xE]
  rfl
theorem NM (a c:Int)(n:Nat):rgI (a+c) n=(rgI a n).map (· + c):=by
  unfold rgI
  rw[List.map_map]
  refine List.map_congr_left fun i hi=>?_
  show a+c+(i:Int)=a+(i:Int)+c
  omega
abbrev mvB (f:Str→Int)(b:Ss×List Int):Ss×List Int:=(b.1.mv f,b.2.map (· + f b.1.nm))
theorem KU (f:Str→Int)(x:Ss)(m:Nat):(x.mv f).fill m=mvB f (x.fill m):=by
  unfold Ss.fill
  show (Ss.mk x.nm x.du x.W x.S (x.nx+f x.nm+ik x.lf ((m:Int) - (((x.ag.map (· + f x.nm)).take m).length:Int))) (x.lf.map (· - ik x.lf ((m:Int) - (((x.ag.map (· + f x.nm)).take m).length:Int)))) ((x.ag.map (· + f x.nm)).drop ((x.ag.map (· + f x.nm)).take m).length) _ _ _ _,(x.ag.map (· + f x.nm)).take m++rgI (x.nx+f x.nm) (ik x.lf ((m:Int) - (((x.ag.map (· + f x.nm)).take m).length:Int))).toNat)=_
  rw[← List.map_take,List.length_map,← List.map_drop,NM]
  generalize ik x.lf ((m:Int) - ((x.ag.take m).length:Int))=c
  refine Prod.ext ?_ ?_
  · show Ss.mk _ _ _ _ _ _ _ _ _ _ _=Ss.mk _ _ _ _ _ _ _ _ _ _ _
    congr 1
    show x.nx+f x.nm+c=x.nx+c+f x.nm
    omega
  · exact (List.map_append).symm
theorem R4 (f:Str→Int)(g:Int)(s:Sn)(x:Ss)(u:Int):(x.mv f).bt g s u=mvB f (x.bt g s u):=by
  have h:(x.mv f).hd=x.hd:=by unfold Ss.hd Ss.mv;simp
  unfold Ss.bt
  rw[NR,KU,h]
  show (if x.du=some 0 then _ else _)=_
  split
  · rfl
  · rfl
theorem lO (f:Str→Int)(p:Pn)(st:St'):p.br (st.mv f)=(p.br st).map (mvB f):=by
  unfold Pn.br
  show List.zipWith _ p.ss (st.ss.map (Ss.mv f))=_
  rw[List.zipWith_map_right,List.map_zipWith]
  congr 1
  funext s k
  rw[NQ]
  exact R4 f p.g s k _
theorem OJ (f:Str→Int)(w:Wy)(a b:List Lt)(y:Lt):bW w (a.map (Lt.mv f),b.map (Lt.mv f)) (y.mv f)=((bW w (a,b) y).1.map (Lt.mv f),(bW w (a,b) y).2.map (Lt.mv f)):=by
  unfold bW
  simp only[List.length_map]
  split
  · simp
  · unfold nR
    split
    · simp
    · by_cases h:(a.length:Int) < ‹Int› <;> simp[h,Lt.mv]
theorem Mm (f:Str→Int)(w:Wy):∀ (ys a b:List Lt),(ys.map (Lt.mv f)).foldl (bW w) (a.map (Lt.mv f),b.map (Lt.mv f))=((ys.foldl (bW w) (a,b)).1.map (Lt.mv f),(ys.foldl (bW w) (a,b)).2.map (Lt.mv f))
  | [],_,_=>rfl
  | y::r,a,b=>by
    rw[List.map_cons,List.foldl_cons,OJ,List.foldl_cons]
    exact Mm f w r _ _
theorem Fi {α β:Type}(f:α→β):∀ (l:List α) (i:Nat),(l.map f).eraseIdx i=(l.eraseIdx i).map f
  | [],_=>rfl
  | _::_,0=>rfl
  | a::r,i+1=>congrArg (f a::·) (Fi f r i)
theorem Mn {α β:Type}{f g:α→Option β}:∀ {l:List α},(∀ x∈l,f x=g x)→l.filterMap f=l.filterMap g
  | [],_=>rfl
  | a::r,h=>by
    rw[List.filterMap_cons,List.filterMap_cons,h a (List.mem_cons_self ..),Mn fun x hx=>h x (List.mem_cons_of_mem _ hx)]
theorem M8 (f:Str→Int)(n:Str)(st:List Lt):at1 n (st.map (Lt.mv f))=at1 n st:=by
  unfold at1
  rw[List.findIdx_map]
  rfl
theorem QL (f:Str→Int)(st:List Lt):(st.map (Lt.mv f)).map Lt.nm=st.map Lt.nm:=by rw[List.map_map];rfl
theorem xj (f:Str→Int)(ws:List Str)(p:Int):∀ (m:Nat) (st out:List Lt) (l:Str),da ws p m (st.map (Lt.mv f)) (out.map (Lt.mv f)) l=((da ws p m st out l).1.map (Lt.mv f),(da ws p m st out l).2.1.map (Lt.mv f),(da ws p m st out l).2.2)
  | 0,_,_,_=>rfl
  | m+1,st,out,l=>by
    unfold da
    rw[List.length_map,List.length_map,QL]
    split
    · split
      · rename_i n _
        rw[M8,List.getElem?_map]
        cases h:st[at1 n st]? with
        | none=>rfl
        | some x=>
          have:=xj f ws p m (st.eraseIdx (at1 n st)) (out++[x]) n
          rw[List.map_append,← Fi] at this
          exact this
      · rfl
    · rfl
theorem CY (f:Str→Int)(w:Wy)(ws:List Str)(st:List Lt)(l:Str):cV w ws (st.map (Lt.mv f)) l=((cV w ws st l).1.map (Lt.mv f),(cV w ws st l).2.1.map (Lt.mv f),(cV w ws st l).2.2):=by
  unfold cV
  split
  · rw[List.length_map]
    exact xj f ws w.pc st.length st [] l
  · rw[← List.map_take,← List.map_drop]
def Wt.mv (f:Str→Int)(x:Wt):Wt:=⟨x.ca.map (Lt.mv f),x.lo.map (Lt.mv f),x.ou.map (Lt.mv f),x.st.map (Lt.mv f),x.la⟩
theorem Kd (f:Str→Int)(w:Wy)(ns:List Str)(k:Ws)(se:List (Str×Lt)):pass w ns (k.mv f) (se.map (mvS f))=(pass w ns k se).mv f:=by
  have e:((se.map (mvS f)).filter fun x=>decide (x.1=w.nm)).map (·.2)=((se.filter fun x=>decide (x.1=w.nm)).map (·.2)).map (Lt.mv f):=by
    rw[List.filter_map,List.map_map,List.map_map]
    rfl
  unfold pass
  rw[e]
  simp only[Ws.mv,← List.map_append,tk]
  have t:=Mm f w (k.cm++(se.filter fun x=>decide (x.1=w.nm)).map (·.2)) k.st []
  rw[List.map_nil] at t
  rw[t]
  simp only[CY]
  rfl
theorem G5 (f:Str→Int)(ss:List Sn)(bs:List (Ss×List Int))(h:∀ y∈List.zip ss bs,y.2.1.nm=y.1.nm):l5 ss ((bs.map (mvB f)).map (·.2))=(l5 ss (bs.map (·.2))).map (mvS f):=by
  have e1:eI ((bs.map (mvB f)).map (·.2))=eI (bs.map (·.2)):=by
    unfold eI
    rw[List.map_map,List.map_map,List.map_map]
    congr 1
    refine List.map_congr_left fun b hb=>?_
    show (b.2.map _).length=b.2.length
    rw[List.length_map]
  unfold l5
  rw[e1,List.map_flatMap]
  congr 1
  funext t
  rw[List.map_map,List.zip_map_right,List.zip_map_right,List.filterMap_map,List.filterMap_map,List.map_filterMap]
  refine Mn fun y hy=>?_
  show ((y.2.2.map (· + f y.2.1.nm))[t]?).map _=((y.2.2[t]?).map _).map _
  rw[List.getElem?_map,Option.map_map,Option.map_map]
  rw[h y hy]
  rfl
theorem oF (f:Str→Int)(p:Pn)(st:St')(h:∀ y∈List.zip p.ss (p.br st),y.2.1.nm=y.1.nm):p.aV (st.mv f)=(p.aV st).map (mvS f):=by
  unfold Pn.aV
  rw[lO]
  exact G5 f p.ss (p.br st) h
theorem lG (f:Str→Int)(p:Pn)(st:St')(h:∀ y∈List.zip p.ss (p.br st),y.2.1.nm=y.1.nm):p.cG (st.mv f)=(p.cG st).map (Wt.mv f):=by
  unfold Pn.cG
  rw[oF f p st h]
  show List.zipWith _ p.ws (st.ws.map (Ws.mv f))=_
  rw[List.zipWith_map_right,List.map_zipWith]
  congr 1
  funext w k
  exact Kd f w p.sn k _
theorem Bf (f:Str→Int)(g:Wt→List Lt)(h:∀ x:Wt,g (x.mv f)=(g x).map (Lt.mv f))(l:List Wt):(l.map (Wt.mv f)).flatMap g=(l.flatMap g).map (Lt.mv f):=by
  rw[List.flatMap_map,List.map_flatMap]
  congr 1
  funext x
  exact h x
theorem wA (f:Str→Int)(p:Pn)(st:St')(h:∀ y∈List.zip p.ss (p.br st),y.2.1.nm=y.1.nm):p.bC (st.mv f)=(p.bC st).map (Lt.mv f)∧p.out (st.mv f)=(p.out st).map (Lt.mv f)∧p.taken (st.mv f)=(p.taken st).map (Lt.mv f):=by
  have o:p.out (st.mv f)=(p.out st).map (Lt.mv f):=by
    unfold Pn.out
    rw[lG f p st h]
    exact Bf f Wt.ou (fun _=>rfl) _
  refine ⟨?_,o,?_⟩
  · unfold Pn.bC
    rw[lG f p st h]
    exact Bf f Wt.lo (fun _=>rfl) _
  · unfold Pn.taken
    rw[o,List.filter_map]
    rfl
theorem J9 (f:Str→Int)(s:Sn)(x:Ss)(lo ta:List Lt)(h:x.nm=s.nm):kr s (x.mv f) (lo.map (Lt.mv f)) (ta.map (Lt.mv f))=(kr s x lo ta).mv f:=by
  unfold kr
  simp only[zx,List.map_map,List.length_map]
  have e:(own s.nm lo).map (Lt.nu ∘ Lt.mv f)=((own s.nm lo).map Lt.nu).map (· + f x.nm):=by
    rw[List.map_map]
    refine List.map_congr_left fun l hl=>?_
    have:l.nm=s.nm:=by simpa using (List.mem_filter.mp hl).2
    show l.nu+f l.nm=l.nu+f x.nm
    rw[this,h]
  rw[e]
  show Ss.mk _ _ _ _ _ _ _ (ix (x.lo.map (· + f x.nm)++_)) _ _ _=_
  rw[← List.map_append,xE]
  rfl
theorem KO (f:Str→Int)(p:Pn)(st:St')(h:∀ y∈List.zip p.ss (p.br st),y.2.1.nm=y.1.nm):p.step (st.mv f)=(p.step st).mv f:=by
  obtain ⟨e1,e2,e3⟩:=wA f p st h
  unfold Pn.step
  show St'.mk _ _=St'.mk _ _
  congr 1
  · rw[e2,lG f p st h,List.zipWith_map_right,List.map_zipWith]
    congr 1
    funext w x
    unfold Ah Ws.mv Wt.mv
    simp only[List.filter_map,List.map_map]
    rfl
  · rw[e1,e3,lO f p st]
    show _=(List.zipWith (fun s b=>kr s b.1 (p.bC st) (p.taken st)) p.ss (p.br st)).map (Ss.mv f)
    rw[c6,c6,List.zip_map_right,List.map_map,List.map_map]
    refine List.map_congr_left fun y hy=>?_
    exact J9 f y.1 y.2.1 _ _ (h y hy)
abbrev Ev.mv (f:Str→Int)(x:Ev):Ev:=⟨x.wd,x.nm,x.nu+f x.nm,x.wy⟩
theorem Ha (f:Str→Int)(p:Pn)(st:St')(h:∀ y∈List.zip p.ss (p.br st),y.2.1.nm=y.1.nm):p.evs (st.mv f)=(p.evs st).map (Ev.mv f):=by
  unfold Pn.evs
  rw[oF f p st h,lG f p st h,List.map_append,List.map_map,List.map_map,List.zipWith_map_right,List.map_flatten,List.map_zipWith]
  congr 1
  congr 1
  congr 1
  funext w x
  unfold evs
  rw[List.map_append,List.map_map,List.map_map]
  congr 1
  · show ((x.ca.map (Lt.mv f)).zipIdx.map _)=_
    rw[List.zipIdx_map,List.map_map]
    refine List.map_congr_left fun y hy=>?_
    simp[Wt.mv,Lt.mv,Ev.mv]
  · show (x.ou.map (Lt.mv f)).map _=_
    rw[List.map_map]
    rfl
theorem Ss.Ok.mv {g:Int}{R:RN}{x:Ss}(f:Str→Int)(h:x.Ok g R)(a:-4000000000000000000≤x.nx+f x.nm∧x.nx+f x.nm≤4000000000000000000):(x.mv f).Ok g R:=by
  have e:(x.mv f).hd=x.hd:=by unfold Ss.hd Ss.mv;simp
  exact ⟨h.n,h.w0,h.w1,h.s0,h.s1,by rw[e];exact h.h,a.1,a.2,by unfold Ss.mv;simp only[List.length_map];exact h.a,h.l⟩
theorem uT {f:Str→Int}{ls:List Lt}{P:Lt→Prop}(k:∀ l:Lt,P l→P (l.mv f))(h:∀ l∈ls,P l):∀ l∈ls.map (Lt.mv f),P l:=fun l hl=>by
  obtain ⟨y,hy,rfl⟩:=List.mem_map.mp hl
  exact k y (h y hy)
theorem Q8 {f:Str→Int}{p:Pn}{st:St'}(h:∀ y∈List.zip p.ss (p.br st),y.2.1.nm=y.1.nm)(R:vi p st)(b:∀ x∈st.ss,-4000000000000000000≤x.nx+f x.nm∧x.nx+f x.nm≤4000000000000000000):vi p (st.mv f):=by
  obtain ⟨e1,e2,e3⟩:=wA f p st h
  have wm:∀ {P:Ws→Prop},(∀ w∈st.ws,P (w.mv f))→∀ w∈(st.mv f).ws,P w:=fun k w hw=>by
    obtain ⟨y,hy,rfl⟩:=List.mem_map.mp (show w∈st.ws.map (Ws.mv f) from hw)
    exact k y hy
  have ap:∀ w:Ws,(w.mv f).cm++(w.mv f).st=(w.cm++w.st).map (Lt.mv f):=fun w=>by rw[List.map_append];rfl
  refine ⟨R.g,R.sd,R.sl,R.wl,R.sn,R.rl,R.wy,wm fun w hw=>⟨?_,?_⟩,fun y hy=>?_,fun x hx=>?_,fun x hx=>?_,?_,wm fun w hw=>⟨?_,?_⟩,fun x hx=>?_,?_,?_,?_,?_,?_,fun y hy=>?_⟩
  · rw[ap]
    exact uT (fun _=>id) (R.ws w hw).n
  · unfold Ws.mv;simp only[List.length_map];exact (R.ws w hw).l
  · obtain ⟨s,k⟩:=y
    rw[show (st.mv f).ss=st.ss.map (Ss.mv f) from rfl,List.zip_map_right] at hy
    obtain ⟨z,hz,e⟩:=List.mem_map.mp hy
    cases e
    exact (R.ss z hz).mv f (b z.2 (List.of_mem_zip (a:=z.1) (b:=z.2) hz).2)
  · rw[lO] at hx
    obtain ⟨z,hz,rfl⟩:=List.mem_map.mp hx
    show (z.2.map _).length≤_
    rw[List.length_map]
    exact R.nb z hz
  · rw[oF f p st h] at hx
    obtain ⟨z,hz,rfl⟩:=List.mem_map.mp hx
    exact R.se z hz
  · rw[oF f p st h,List.length_map];exact R.sz
  · rw[ap]
    exact uT (fun _=>id) (R.wz w hw).1
  · unfold Ws.mv;simp only[List.length_map];exact (R.wz w hw).2
  · rw[lG f p st h] at hx
    obtain ⟨z,hz,rfl⟩:=List.mem_map.mp hx
    unfold Wt.mv
    simp only[List.length_map]
    exact R.go z hz
  · rw[e2];exact uT (fun _=>id) R.ou
  · rw[e1];exact uT (fun _=>id) R.lo
  · rw[e2,List.length_map];exact R.oz
  · rw[e1,List.length_map];exact R.lz
  · rw[Ha f p st h,List.length_map];exact R.ez
  · rw[lO,List.zip_map_right] at hy
    obtain ⟨z,hz,rfl⟩:=List.mem_map.mp hy
    show (z.2.1.lo.map _).length+_ < 64
    rw[e1,zx,List.length_map,List.length_map]
    exact R.lt z hz
theorem Hg:∀ s∈[Str.ofString "sent", Str.ofString "in", Str.ofString "lost", Str.ofString "taken", Str.ofString "out"],PyData.strOk s=true:=by decide +kernel
theorem MB {p:Pn}{st:St'}(R:vi p st):∀ e∈p.evs st,PyData.strOk e.wd=true∧e.nm∈p.sn∧PyData.strOk e.wy=true:=by
  intro e he
  unfold Pn.evs at he
  rcases List.mem_append.mp he with h | h
  · obtain ⟨x,hx,rfl⟩:=List.mem_map.mp h
    have:=R.se x hx
    exact ⟨Hg _ (by simp),this.2,this.1⟩
  · rw[c6] at h
    obtain ⟨l,hl,he'⟩:=List.mem_flatten.mp h
    obtain ⟨⟨w,x⟩,hy,rfl⟩:=List.mem_map.mp hl
    have hw:=(R.wy w (List.of_mem_zip hy).1).1
    have hx:=(List.of_mem_zip hy).2
    rcases List.mem_append.mp he' with h | h
    · obtain ⟨z,hz,rfl⟩:=List.mem_map.mp h
      have hz1:z.1∈x.ca:=List.fst_mem_of_mem_zipIdx hz
      refine ⟨Hg _ (by split<;>simp),?_,hw⟩
      unfold Pn.cG at hx
      rw[c6] at hx
      obtain ⟨⟨w',k⟩,hk,rfl⟩:=List.mem_map.mp hx
      rcases List.mem_append.mp (show z.1∈k.cm++((p.aV st).filter fun x=>decide (x.1=w'.nm)).map (·.2) from hz1) with h | h
      · exact (R.wz k (List.of_mem_zip hk).2).1 _ (List.mem_append_left _ h)
      · obtain ⟨s,hs,e⟩:=List.mem_map.mp h
        rw[← e]
        exact (R.se s (List.mem_filter.mp hs).1).2
    · obtain ⟨l,hl,rfl⟩:=List.mem_map.mp h
      exact ⟨Hg _ (by split<;>simp),(R.ou l (List.mem_flatMap.mpr ⟨x,hx,hl⟩)).1,hw⟩
theorem Rn {p:Pn}{st:St'}(R:vi p st)(f:Str→Int):pl 5 (.ls (evD ((p.evs st).map (Ev.mv f))))=true:=by
  have e:pls 4 (evD ((p.evs st).map (Ev.mv f)))=true:=mK fun d hd=>by
    obtain ⟨y,hy,rfl⟩:=List.mem_map.mp hd
    obtain ⟨x,hx,rfl⟩:=List.mem_map.mp hy
    obtain ⟨a,b,c⟩:=MB R x hx
    have b:=R.sn _ b
    simp[Ev.toD,pl,pls,a,b,c]
  have z:=R.ez
  simp only[pl,List.length_map,e]
  rw[decide_eq_true (by omega)];rfl
theorem dB.nx {p:Pn}{m:Int}{n:Nat}{st:St'}(I:dB p m n st):∀ x∈st.ss,0≤x.nx∧x.nx≤60*n:=by
  intro x hx
  obtain ⟨i,hi,e⟩:=List.getElem_of_mem hx
  have h1:i < p.ss.length:=by rw[← I.ls];exact hi
  have:(p.ss[i],st.ss[i])∈List.zip p.ss st.ss:=by
    rw[← List.getElem_zip (h:=by simp;omega)];exact List.getElem_mem ..
  have h:=I.ss _ this
  rw[← e]
  exact ⟨h.n0,h.n1⟩
section
open PySem PySem.Spec PyProof.Rows L2
end
section
open PySem PySem.Spec PyProof.Rows L2
section
variable {X:Cx} {a b c d:Expr} {ta tb tc td:TE} {Ta Tb Tc Td:ETr} {pos:Pos} {o1 o2 o3:CmpOp} {r1 r2 r3:L2.R2} {R1 R2 R3:DR2}
end
end
section
open PySem PySem.Spec PyProof.Rows L2
section
variable {X:Cx} {tg a b:Expr} {Ta Tb:ETr} {pos:Pos}
end
end
section
open PySem PySem.Spec PyProof.Rows L2
end
section
open PySem PySem.Spec PyProof.Rows L2
section
variable {X:Cx} {o i:Expr} {apos cpos:Pos}
end
end
section
open PySem PySem.Spec PyProof PyProof.Rows L2
section
variable {X:Cx} {o:Expr} {apos cpos pos p:Pos} {x:Str}
end
end
section
open PySem PySem.Spec PyProof.Rows L2
end
section
open PySem PySem.Spec PyProof.Rows L2
section
variable {X:Cx} {i o:Expr} {pos:Pos} {Ti To:ETr}
end
end
section
open PySem PySem.Spec PyProof.Rows L2
def SK (K:PySem.W.Frag)(n:Nat)(t:TGs):TG:=fun v σ H Q=>∃ a xs,v=.ref a∧SqL K H a xs∧xs.length=n∧t xs σ H Q
def PN (is:List Nat):GTr:=fun d ρ μ k=>match d with
  | .ls ds=>ds.length=is.length∧k (kE ρ is ds) μ
  | _=>False
section
variable {X:Cx} {es:List Expr} {is:List Nat} {pos:Pos}
theorem Pb {k:Nat}{t:TGs}{n:Nat}(hc:X.calm=true)(h:PGs X es t)
    (hn:(assignEach es X.env).length=n:=by rfl) (hst:(assignEach es X.env).findIdx? (·.1)=none:=by rfl):PG X (.Tuple es k pos) (SK X.K n t):=by
  intro pins s σ H v u Q I r hw
  obtain ⟨a,xs,e1,hq,hl,hw⟩:=hw
  subst e1
  cases r
  obtain ⟨its,rv,ht,hz⟩:=I.list hq
  have hL:s.heap.IsList a its.toArray:=by
    obtain ⟨o,m,e,c,_,d⟩:=ht
    exact ⟨o,e,c,m,d⟩
  rw[assign_Tuple]
  refine wpAny_bind (wpAny_standAt ?_)
  unfold unpack
  rw[hn,hst,show n=its.toArray.size by simp[← hl,rv.length]]
  refine wpAny_bind (wpAny_holding (PySem.W.kun_itemsOf (I.ok.hd hc) hL fun h' hx=>?_))
  have I1:Inv X pins σ H { s with heap:=h' }:=I.kept (t':=s.toks) fun b o e=>hx b o (Nat.ne_of_lt (Heap.lt_size e)) e
  exact h pins _ σ H xs _ Q I1 (by simpa using rv) hw
theorem PH {k:Nat}(hc:X.calm=true)(h:LGs X es is)(hn:(assignEach es X.env).length=is.length:=by rfl)(hst:(assignEach es X.env).findIdx? (·.1)=none:=by rfl):LG X (.Tuple es k pos) (PN is):=by
  obtain ⟨t,pt,st⟩:=h.ex
  refine ⟨_,Pb hc pt hn hst,fun σ H ρ μ v d k k' rl p h q=>?_⟩
  cases p with
  | @ls a xs ds sq l=>exact ⟨a,xs,rfl,sq.sq,by rw[l.length];exact h.1,st σ H ρ μ xs ds k k' rl l h.1 h.2 q⟩
  | _=>exact False.elim h
end
theorem MW (i j:Nat)(a b:D)(ρ:ST)(μ:Mu)(k:ST→Mu→Prop):PN [i,j] (.ls [a,b]) ρ μ k=fL [i,j] (.tup [a,b]) ρ μ k:=propext Iff.rfl
end
end L3
namespace Kk
local macro_rules | `(tactic| walk_at "ln")=>`(tactic| (intro ds μ Q h;split at h;rfl;exact h.elim))
open PySem L3
def T3:=Jn @MW <| @RL
local macro_rules | `(tactic| walk_at "go")=>`(tactic| try simp only[↓T3,CO,↓wF,↓xu,↓wj,↓vm,↓xq,↓xY,↓jW,↓iA,cu,bU,cv,cq,cD,cB,cQ,cO,bT,cE,cw,cz,cF,cN,cy,cT,cC,cR,cA,cS,iP,uu,tM,fo,List.map_cons,List.map_nil,List.replicate,List.cons_append,List.nil_append,lk,DP,Ao,DW,DC,gq,sR,nD,tH,sS,mh,l8,jX,jS,j5,jY,true_and,and_true,and_self,Bool.not_true,Bool.not_false,decide_true,decide_false,Bool.or_true,Bool.or_false,Bool.true_or,Bool.false_or,Bool.and_false,Bool.false_and,Bool.and_true,Bool.true_and,Int.reduceToNat,Int.reducePow,Int.reduceNeg,Int.reduceSub,Int.reduceAdd,Int.reduceMul,Int.reduceEq,Int.reduceLT,Int.reduceLE,Int.reduceBEq,hX,fZ,fS,fW,f9,gj,fY,gi,if_true,if_false,Bool.false_eq_true,reduceCtorEq,decide_eq_true_eq])
local macro_rules | `(tactic| walk_at "ok")=>`(tactic| (simp only[L3.ji,L3.MulOk,L3.S64,L3.gx,L3.pC] at *;omega))
local macro_rules | `(tactic| walk_at "ini")=>`(tactic| simp only[ini,List.map,List.length,List.replicate,Nat.reduceSub,Nat.reduceAdd,Nat.sub_self,List.cons_append,List.nil_append,List.append_nil])
def my:FSp:=fun ds μ Q=>match ds with
  | [d,.int n]=>∃ (p:Pn) (m:Int) (j:Nat),(d=p.toD∧p.Ok m∧n=j∧j≤1000)∧Q (.tup [(p.run j).toD p.g,.ls (p.rows j)]) μ
  | _=>False
theorem JC:∀ ds μ Q,my ds μ Q→ds.length=2:=by
  unfold my
  walk_at "ln"
def Md:STr:=aA (aN (aq L3.h9 (af (ah 0) (ar))) (aw 2)) (aA (aN (lY (ar)) (aw 3)) (aA (j7 (fV (ah 1)) (aw 4) (aA (aN (aq L3.dg (af (ah 0) (af (ah 2) (ar)))) (aw 5)) (aA (aN (aj L3.rIx (ah 5) (TC (.int 0))) (aw 2)) (fG (lR (ah 3) (aj L3.rIx (ah 5) (TC (.int 1)))))))) (aW (bc (af (ah 2) (af (uK (ah 3)) (ar)))))))
theorem Ol:∀ ds μ Q,my ds μ Q→Md { nx:=fun _ μ'=>RT Q .non μ',rt:=RT Q } (ini 6 ds) μ:=by
  intro ds μ Q h
  unfold my at h
  split at h
  case h_2=>exact h.elim
  rename_i d n
  walk_at "ini"
  unfold Md
  walk_at "go"
  obtain ⟨p,m,j,⟨rfl,K,rfl,hj⟩,k⟩:=h
  have w1:=K.w1
  have s1:=K.s1
  refine ⟨p,⟨rfl,fun x hx=>(K.s x hx).k,K.g,by omega,by omega⟩,?_⟩
  walk_at "go"
  intro q hq
  walk_at "go"
  refine ⟨⟨by omega,by omega⟩,?_⟩
  rw[Int.toNat_natCast]
  refine cW (fun r ρ μ'=>∃ (i:Nat) (v4 v5:Option D),i+r.length=j∧ρ=[some p.toD,some (.int j),some ((p.run i).toD p.g),some (.obj q),v4,v5]∧μ'=up μ q (.lst (p.rows i))) ?_ ?_ _ _ _ ⟨0,_,_,by rw[c9];omega,rfl,rfl⟩
  · rintro ρ μ' ⟨i,v4,v5,e,rfl,rfl⟩
    have e:i=j:=by simpa using e
    subst e
    walk_at "go"
    rw[pJ hq]
    exact ⟨_,.refl _,k⟩
  · rintro d r ρ μ' N ⟨i,v4,v5,e,rfl,rfl⟩ hN
    rw[List.length_cons] at e
    have I:=p.j6 K i (by omega)
    walk_at "go"
    refine ⟨p,p.run i,⟨⟨rfl,rfl⟩,I.rd (by omega)⟩,?_⟩
    walk_at "go"
    refine ⟨by unfold Pn.rows;simp;omega,hN _ _ ⟨i+1,_,_,by omega,rfl,?_⟩⟩
    unfold Pn.rows
    rw[List.range_succ,List.map_append]
    rfl
abbrev iU:FSp:=L3.ay
def pj:STr:=aA (bR (rY (TB (aj rGt (bD (ah 0) (TC (.str "left"))) (TC (.int 0)))) (TB (aj rLt (bD (ah 0) (TC (.str "given"))) (TC (.int 60))))) (aA (lA (fun m n=>m+n) (ah 0) (TC (.str "given")) (TC (.int 1))) (aA (aN (aj lJ (bD (ah 0) (TC (.str "left"))) (ah 1)) (aw 3)) (aA (jc (ah 0) (TC (.str "left")) (aj mL (bD (ah 0) (TC (.str "left"))) (ah 1))) (aW (ah 3))))) (ba)) (aA (jc (ah 0) (TC (.str "seed")) (aq L3.gf (af (bD (ah 0) (TC (.str "seed"))) (af (bD (ah 0) (TC (.str "many"))) (ar))))) (aW (aj lJ (aj mL (bD (ah 0) (TC (.str "seed"))) (TC (.int 7))) (ah 1))))
def ya:STr:=aA (lA (fun m n=>m+n) (ah 0) (TC (.str "many")) (TC (.int 1))) (aA (bR (rY (TOr (TB (aj rEq (bD (ah 0) (TC (.str "left"))) (TC (.int 0)))) (TB (aj rEq (bD (ah 0) (TC (.str "given"))) (TC (.int 60))))) (TB (aj rLt (bD (ah 0) (TC (.str "at"))) (aq c7 (af (bD (ah 0) (TC (.str "cells"))) (ar)))))) (aA (aN (aq wV (af (aj L3.rIx (bD (ah 0) (TC (.str "cells"))) (bD (ah 0) (TC (.str "at")))) (ar))) (aw 2)) (aA (lA (fun m n=>m+n) (ah 0) (TC (.str "at")) (TC (.int 1))) (aA (jc (ah 0) (TC (.str "left")) (aj eQ (ah 2) (aq y1 (af (aj rGe (ah 2) (aj Hb (TC (.int 10)) (TC (.int 18)))) (ar))))) (aA (jc (ah 0) (TC (.str "given")) (TC (.int 0))) (jc (ah 0) (TC (.str "seed")) (aq L3.gf (af (aj aP (bD (ah 0) (TC (.str "seed"))) (ah 2)) (af (bD (ah 0) (TC (.str "many"))) (ar))))))))) (ba)) (pj))
theorem rL:∀ ds μ Q,iU ds μ Q→ds.length=2:=L3.Cz
theorem uf:∀ ds μ Q,iU ds μ Q→ya { nx:=fun _ μ'=>RT Q .non μ',rt:=RT Q } (ini 4 ds) μ:=L3.EJ
abbrev iR:FSp:=L3.gy
def o7:STr:=aA (aN (aj aP (TC (.int 1)) (aq L3.ay (af (ah 0) (af (TC (.int 5)) (ar))))) (aw 5)) (aA (aN (aq L3.bG (af (aj aP (TC (.int 1)) (aq L3.ay (af (ah 0) (af (aj eQ (TC (.int 2)) (ah 5)) (ar))))) (af (ah 5) (ar)))) (aw 6)) (aA (aN (aq L3.bG (af (aj aP (TC (.int 1)) (aq L3.ay (af (ah 0) (af (ah 5) (ar))))) (af (aj aP (ah 5) (TC (.int 1))) (ar)))) (aw 7)) (aA (bR (TB (aj rEq (ah 2) (TC (.str "still")))) (aW (bc (af (ah 2) (af (ah 3) (ar))))) (ba)) (aA (bR (TB (aj rEq (ah 2) (TC (.str "step")))) (aW (bc (af (ah 2) (af (ah 3) (af (ah 6) (af (ah 7) (af (ah 4) (ar)))))))) (ba)) (aA (bR (TB (aj rEq (ah 2) (TC (.str "swell")))) (aW (bc (af (ah 2) (af (ah 3) (af (aq L3.bG (af (aj aP (aj L3.rIx (ah 6) (TC (.int 0))) (aj L3.rIx (ah 6) (TC (.int 1)))) (af (aj L3.rIx (ah 6) (TC (.int 1))) (ar)))) (af (ah 7) (af (ah 4) (ar)))))))) (ba)) (aA (bR (TB (aj rEq (ah 2) (TC (.str "heed")))) (aW (bc (af (ah 2) (af (ah 3) (af (ah 6) (af (aq L3.bG (af (aj aP (TC (.int 1)) (aq L3.ay (af (ah 0) (af (ah 5) (ar))))) (af (ah 5) (ar)))) (af (ah 4) (ar)))))))) (ba)) (aA (aN (aq L3.ay (af (ah 0) (af (TC (.int 4)) (ar)))) (aw 8)) (aW (bc (af (ah 2) (af (ah 3) (af (ah 6) (af (ah 8) (af (aj aP (ah 8) (aq L3.ay (af (ah 0) (af (TC (.int 5)) (ar))))) (af (ah 4) (ar))))))))))))))))
def xk:STr:=aA (aN (aj L3.rIx (fT (af (TC (.str "still")) (af (TC (.str "step")) (af (TC (.str "swell")) (af (TC (.str "heed")) (af (TC (.str "calm")) (ar))))))) (aq L3.ay (af (ah 0) (af (TC (.int 5)) (ar))))) (aw 2)) (aA (oA 3 4 (af (aq L3.bM (af (ah 0) (af (TC (.int 1)) (af (ah 1) (ar))))) (af (aq L3.bM (af (ah 0) (af (TC (.int 1)) (af (ah 1) (ar))))) (ar)))) (aA (bR (TB (aj rGt (aj eQ (aj L3.rIx (ah 3) (TC (.int 0))) (aj L3.rIx (ah 4) (TC (.int 1)))) (aj eQ (aj L3.rIx (ah 4) (TC (.int 0))) (aj L3.rIx (ah 3) (TC (.int 1)))))) (oA 3 4 (af (ah 4) (af (ah 3) (ar)))) (ba)) (o7)))
theorem rX:∀ ds μ Q,iR ds μ Q→ds.length=2:=L3.Cu
theorem tW:∀ ds μ Q,iR ds μ Q→xk { nx:=fun _ μ'=>RT Q .non μ',rt:=RT Q } (ini 9 ds) μ:=L3.EU
abbrev gs:FSp:=L3.fj
def mf:STr:=aA (aN (aj L3.rIx (fT (af (TC (.int 1)) (af (TC (.int 1)) (af (TC (.int 2)) (af (TC (.int 3)) (af (aj aP (TC (.int 1)) (aq L3.ay (af (ah 0) (af (TC (.int 8)) (ar))))) (ar))))))) (aq L3.ay (af (ah 0) (af (TC (.int 5)) (ar))))) (aw 5)) (aA (aN (aj L3.rIx (fT (af (TC .non) (af (TC .non) (af (aq L3.ay (af (ah 0) (af (TC (.int 4)) (ar)))) (af (aq L3.ay (af (ah 0) (af (TC (.int 40)) (ar)))) (ar)))))) (aq L3.ay (af (ah 0) (af (TC (.int 4)) (ar))))) (aw 6)) (aW (bc (af (ah 1) (af (ah 4) (af (ah 5) (af (aj L3.rIx (fT (af (TC (.int 0)) (af (TC (.int 0)) (af (aq L3.ay (af (ah 0) (af (TC (.int 3)) (ar)))) (af (aq L3.ay (af (ah 0) (af (TC (.int 12)) (ar)))) (ar)))))) (aq L3.ay (af (ah 0) (af (TC (.int 4)) (ar))))) (af (ah 6) (af (aq L3.gy (af (ah 0) (af (ah 3) (ar)))) (ar))))))))))
def rQ:STr:=aA (aN (aq bh (af (bE (dH (ah 2)) (aw 0) (TB (aj rEq (aq L3.ay (af (ah 1) (af (TC (.int 2)) (ar)))) (TC (.int 0)))) (aj L3.rIx (ah 0) (TC (.int 0))) 1 [0]) (ar))) (aw 4)) (aA (bR (TB (aj rEq (aq c7 (af (ah 4) (ar))) (TC (.int 0)))) (aN (bc (af (aj L3.rIx (aj L3.rIx (ah 2) (aq L3.ay (af (ah 0) (af (aq c7 (af (ah 2) (ar))) (ar))))) (TC (.int 0))) (ar))) (aw 4)) (ba)) (mf))
theorem nP:∀ ds μ Q,gs ds μ Q→ds.length=4:=L3.vp
theorem qL:∀ ds μ Q,gs ds μ Q→rQ { nx:=fun _ μ'=>RT Q .non μ',rt:=RT Q } (ini 7 ds) μ:=L3.Al
abbrev c8:Nat→FSp:=L3.gm
abbrev lH:FSp:=L3.oD
def mU (sp_self:FSp):STr:=aA (bR (TB (aq (vI ["tuple", "list"]) (af (ah 1) (af (bc (af (TC (.ty "tuple")) (af (TC (.ty "list")) (ar)))) (ar))))) (aA (bR (TOr (TB (aj rNe (TUn (fe "tuple") (ah 0)) (TUn (fe "tuple") (ah 1)))) (TB (aj rNe (TUn (fe "list") (ah 0)) (TUn (fe "list") (ah 1))))) (aW (TC (.bl false))) (ba)) (aW (ig (aj rEq (aq c7 (af (ah 0) (ar))) (aq c7 (af (ah 1) (ar)))) (aq HF (af (bE (ke (af (ah 0) (af (ah 1) (ar)))) (fL [0,1]) (dm) (aq sp_self (af (ah 0) (af (ah 1) (ar)))) 2 []) (ar)))))) (ba)) (aA (bR (TB (aj rIs (ah 1) (TC .non))) (aW (aj rIs (ah 0) (TC .non))) (ba)) (aA (bR (TB (TUn (fe "str") (ah 1))) (aW (ig (TUn (fe "str") (ah 0)) (aj rEq (ah 0) (ah 1)))) (ba)) (aW (ig (TUn (fe "int") (ah 0)) (ig (qC (TUn (fe "bool") (ah 0))) (aj rEq (ah 0) (ah 1)))))))
theorem nY:∀ n ds μ Q,c8 n ds μ Q→ds.length=2:=L3.AI
theorem pq (n:Nat):∀ ds μ Q,c8 (n+1) ds μ Q→mU (c8 n) { nx:=fun _ μ'=>RT Q .non μ',rt:=RT Q } (ini 2 ds) μ:=L3.Dm n
theorem Ra (x:Lt)(lo hi:Option Int)(μ:Mu)(Q:DK):rSl x.toD lo hi μ Q=Q (.tup (cutD [.str x.nm,.int x.nu,.int x.ag,.int x.hp,.int x.mr] lo hi)) μ:=propext Iff.rfl
theorem Rb (a b c d e:D):cutD [a,b,c,d,e] (some 2) none=[c,d,e]:=rfl
def a7:FSp:=fun ds μ Q=>match ds with
  | [.tup xs,.obj q]=>∃ (ls:List Lt) (f:Str→Int) (tab:List (L2.Key×D)),(xs=ltD ls∧ls.length≤10000∧μ q=some (.dct tab)∧∀ l∈ls,bN tab (.inr l.nm)=some (.int (f l.nm)))∧Q (.tup (ltD (ls.map (Lt.mv f)))) μ
  | _=>False
theorem iJ:∀ ds μ Q,a7 ds μ Q→ds.length=2:=by
  unfold a7
  walk_at "ln"
def fA:STr:=aW (aq bh (af (bE (dH (ah 0)) (aw 0) (dm) (aj aP (bc (af (aj L3.rIx (ah 0) (TC (.int 0))) (af (aj aP (aj L3.rIx (ah 0) (TC (.int 1))) (bD (ah 1) (aj L3.rIx (ah 0) (TC (.int 0))))) (ar)))) (TSl (ah 0) (i3 (TC (.int 2))) (ONo))) 1 [1]) (ar)))
theorem jf:∀ ds μ Q,a7 ds μ Q→fA { nx:=fun _ μ'=>RT Q .non μ',rt:=RT Q } (ini 2 ds) μ:=by
  intro ds μ Q h
  unfold a7 at h
  split at h
  case h_2=>exact h.elim
  rename_i xs q
  walk_at "ini"
  unfold fA
  walk_at "go"
  obtain ⟨ls,f,tab,⟨rfl,ll,eq,T⟩,k⟩:=h
  refine bw ls Lt.toD (fun l=>(l.mv f).toD) rfl (by omega) (fun l hl μ3 sb3 N m=>?_) ?_
  · walk_at "go"
    refine vB (sb3 q _ eq) ?_
    rw[T l hl]
    walk_at "go"
    simp only[↓Ra,Rb]
    walk_at "go"
    refine (show 2+3≤1000000∧_ from ⟨by decide,m⟩)
  · walk_at "go"
    rw[show ltD (ls.map (Lt.mv f))=ls.map fun l=>(l.mv f).toD from List.map_map] at k
    exact ⟨_,.refl _,k⟩
theorem uV (g:Int)(x:Ss):cutD [.str x.nm,cM x.du,dR x.W g,dR x.S g,.int x.nx,cM x.lf,.tup (cI x.ag),.tup (cI x.lo),.int x.gd,.int x.mk',.int x.wt] (some 8) none=[.int x.gd,.int x.mk',.int x.wt]:=rfl
theorem yi (g:Int)(x:Ss):cutD [.str x.nm,cM x.du,dR x.W g,dR x.S g,.int x.nx,cM x.lf,.tup (cI x.ag),.tup (cI x.lo),.int x.gd,.int x.mk',.int x.wt] (some 6) (some 8)=[x.ag,x.lo].map fun l=>.tup (cI l):=rfl
theorem FO {n:Str}:∀ {kvs:List (Str×Int)},(∀ y∈kvs,-1000≤y.2∧y.2≤1000)→n∈kvs.map (·.1)→∃ j,bN (kvs.map fun y=>(.inr y.1,.int y.2)) (.inr n)=some (.int j)∧-1000≤j∧j≤1000
  | y::r,hb,hm=>by
    unfold bN
    rw[List.map_cons,List.find?_cons]
    by_cases e:y.1=n
    · exact ⟨y.2,by simp[e],hb y List.mem_cons_self⟩
    · have:n∈r.map (·.1):=by
        rcases List.mem_cons.mp hm with h | h
        · exact absurd h.symm e
        · exact h
      obtain ⟨j,h,b⟩:=FO (fun z hz=>hb z (List.mem_cons_of_mem _ hz)) this
      refine ⟨j,?_,b⟩
      have e2:decide ((Sum.inr y.1:L2.Key)=.inr n)=false:=decide_eq_false fun z=>e (by injection z)
      simp only[e2]
      exact h
theorem Io (k:Nat):∀ (n:Nat) (d:D),pl n d=true→okD (n+k) d=true∧eqD d d=true
  | 0,d,h=>by
    cases d<;>first | (simp[pl] at h;done) | (simp[okD,eqD];done) | skip
    rename_i s
    simp only[pl] at h
    simp[okD,eqD,h]
  | n+1,d,h=>by
    have li:∀ ds:List D,pls n ds=true→cX (n+k) ds=true∧kn ds ds=true:=fun ds=>by
      induction ds with
      | nil=>intro _;simp[cX,kn]
      | cons a r ih=>
        intro h
        simp only[pls,Bool.and_eq_true] at h
        have h1:=Io k n a h.1
        have h2:=ih h.2
        simp[cX,kn,h1,h2]
    rw[show n+1+k=(n+k)+1 by omega]
    cases d with
    | tup ds=>
      simp only[pl,Bool.and_eq_true] at h
      have:=li ds h.2
      simp[okD,eqD,this]
    | ls ds=>
      simp only[pl,Bool.and_eq_true] at h
      have:=li ds h.2
      simp[okD,eqD,this]
    | str s=>
      simp only[pl] at h
      simp[okD,eqD,h]
    | _=>first | (simp[pl] at h;done) | (simp[okD,eqD];done)
def bO:FSp:=fun ds μ Q=>match ds with
  | [d,.obj q]=>∃ (g:Int) (st:St') (f:Str→Int) (tab:List (L2.Key×D)),(d=st.toD g∧StL st∧μ q=some (.dct tab)∧∀ n∈st.ss.map Ss.nm,bN tab (.inr n)=some (.int (f n)))∧Q ((st.mv f).toD g) μ
  | _=>False
theorem qS:∀ ds μ Q,bO ds μ Q→ds.length=2:=by
  unfold bO
  walk_at "ln"
def lM:STr:=aA (aN (bE (dH (aj L3.rIx (ah 0) (TC (.int 0)))) (aw 0) (dm) (bc (af (aq a7 (af (aj L3.rIx (ah 0) (TC (.int 0))) (af (ah 1) (ar)))) (af (aq a7 (af (aj L3.rIx (ah 0) (TC (.int 1))) (af (ah 1) (ar)))) (af (aj L3.rIx (ah 0) (TC (.int 2))) (ar))))) 1 [1]) (aw 2)) (aA (aN (lY (ar)) (aw 3)) (aA (j7 (dH (aj L3.rIx (ah 0) (TC (.int 1)))) (aw 4) (aA (aN (bE (dH (TSl (ah 4) (i3 (TC (.int 6))) (i3 (TC (.int 8))))) (aw 0) (dm) (aq bh (af (bE (dH (ah 0)) (aw 0) (dm) (aj aP (ah 0) (bD (ah 1) (aj L3.rIx (ah 2) (TC (.int 0))))) 1 [1,2]) (ar))) 1 [1,4]) (PN [5,6])) (fG (lR (ah 3) (aj aP (aj aP (TSl (ah 4) (ONo) (i3 (TC (.int 4)))) (bc (af (aj aP (aj L3.rIx (ah 4) (TC (.int 4))) (bD (ah 1) (aj L3.rIx (ah 4) (TC (.int 0))))) (af (aj L3.rIx (ah 4) (TC (.int 5))) (af (ah 5) (af (ah 6) (ar))))))) (TSl (ah 4) (i3 (TC (.int 8))) (ONo))))))) (aW (bc (af (aq bh (af (ah 2) (ar))) (af (aq bh (af (ah 3) (ar))) (ar)))))))
theorem rR:∀ ds μ Q,bO ds μ Q→lM { nx:=fun _ μ'=>RT Q .non μ',rt:=RT Q } (ini 7 ds) μ:=by
  intro ds μ Q h
  unfold bO at h
  split at h
  case h_2=>exact h.elim
  rename_i d q
  walk_at "ini"
  unfold lM
  walk_at "go"
  obtain ⟨g,st,f,tab,⟨rfl,S,eq,T⟩,k⟩:=h
  have z1:=S.z1
  walk_at "go"
  refine bw st.ws Ws.toD (fun w=>(w.mv f).toD) rfl (by omega) (fun w hw μ3 sb3 N m=>?_) ?_
  · have z:=S.z2 w hw
    walk_at "go"
    refine ⟨w.cm,f,tab,⟨rfl,by omega,sb3 q _ eq,fun l hl=>T l.nm (S.lt w hw l (List.mem_append_left _ hl))⟩,?_⟩
    walk_at "go"
    refine ⟨w.st,f,tab,⟨rfl,by omega,sb3 q _ eq,fun l hl=>T l.nm (S.lt w hw l (List.mem_append_right _ hl))⟩,?_⟩
    walk_at "go"
    exact m
  walk_at "go"
  intro s hs
  have qs:q≠s:=fun z=>by subst z;rw[hs] at eq;cases eq
  walk_at "go"
  refine cW (fun r ρ μ'=>∃ (dn' rs':List Ss) (v4 v5 v6:Option D),r=ssD g rs'∧dn'++rs'=st.ss∧ρ=[some (st.toD g),some (.obj q),some (.ls (st.ws.map fun w=>(w.mv f).toD)),some (.obj s),v4,v5,v6]∧μ'=up μ s (.lst (ssD g (dn'.map (Ss.mv f))))) ?_ ?_ _ _ _ ⟨[],st.ss,_,_,_,rfl,rfl,rfl,rfl⟩
  · rintro ρ μ' ⟨dn',rs',v4,v5,v6,er,es,rfl,rfl⟩
    cases rs' with
    | cons _ _=>cases er
    | nil=>
    rw[List.append_nil] at es
    subst es
    walk_at "go"
    refine ⟨μ,Sub.new hs,?_⟩
    unfold St'.toD St'.mv at k
    rw[show wsD (st.ws.map (Ws.mv f))=st.ws.map fun w=>(w.mv f).toD from List.map_map] at k
    exact k
  · rintro d r ρ μ' N ⟨dn',rs',v4,v5,v6,er,es,rfl,rfl⟩ hN
    cases rs' with
    | nil=>cases er
    | cons x rs'=>
    cases er
    have hx:x∈st.ss:=by rw[← es];simp
    have z:=S.z3 x hx
    have dl:dn'.length+(rs'.length+1)=st.ss.length:=by rw[← es];simp
    have eq':∀ ob:MO,up μ s ob q=some (.dct tab):=fun ob=>by rw[aU qs];exact eq
    have Tx:=T x.nm (List.mem_map.mpr ⟨x,hx,rfl⟩)
    walk_at "go"
    simp only[↓xT,oI,uV,yi]
    walk_at "go"
    refine bw [x.ag,x.lo] (fun l=>.tup (cI l)) (fun l=>.tup (l.map fun i=>.int (i+f x.nm))) rfl (by simp) (fun l hl μ3 sb3 N m=>?_) ?_
    · walk_at "go"
      refine bw l .int (fun i=>.int (i+f x.nm)) rfl (by rcases (show l=x.ag∨l=x.lo by simpa using hl) with rfl | rfl<;>omega) (fun i hi μ4 sb4 N m=>?_) ?_
      · walk_at "go"
        refine vB (sb4 q _ (sb3 q _ (eq' _))) ?_
        rw[Tx]
        walk_at "go"
        exact m
      walk_at "go"
      exact m
    walk_at "go"
    try simp only[↓xT,oI,uV,yi]
    walk_at "go"
    refine vB (eq' _) ?_
    rw[Tx]
    walk_at "go"
    try simp only[↓xT,oI,uV]
    walk_at "go"
    refine (show 4+4≤1000000∧8+3≤1000000∧(ssD g (dn'.map (Ss.mv f))).length < 1000000∧_ from ⟨by decide,by decide,by rw[List.length_map,List.length_map];omega,hN _ _ ⟨dn'++[x],rs',_,_,_,rfl,by rw[← es];simp,rfl,?_⟩⟩)
    rw[List.map_append]
    simp[ssD,Ss.toD,Ss.mv]
    rfl
abbrev fk:FSp:=L3.fk
theorem uB:∀ ds μ Q,fk ds μ Q→ds.length=1:=L3.uB
def HB:STr:=aA (aN (aq L3.j3 (af (ah 0) (ar))) (aw 1)) (aA (aN (aq L3.hV (af (ah 1) (ar))) (aw 2)) (aA (aN (aj L3.rIx (aq my (af (ah 2) (af (aj aP (TC (.int 1)) (aq L3.ay (af (ah 1) (af (TC (.int 30)) (ar))))) (ar)))) (TC (.int 0))) (aw 3)) (aA (aN (aq xp (af (bE (dH (aj L3.rIx (ah 2) (TC (.int 2)))) (aw 0) (dm) (bc (af (aj L3.rIx (ah 0) (TC (.int 0))) (af (aj j8 (aq L3.ay (af (ah 1) (af (TC (.int 2001)) (ar)))) (TC (.int 1000))) (ar)))) 1 [1]) (ar))) (aw 4)) (aA (aN (aq bO (af (ah 3) (af (ah 4) (ar)))) (aw 5)) (aA (j7 (fV (aj aP (TC (.int 1)) (aq L3.ay (af (ah 1) (af (TC (.int 10)) (ar)))))) (aw 6) (aA (aN (aq L3.dg (af (ah 2) (af (ah 3) (ar)))) (fL [7,8])) (aA (aN (aq L3.dg (af (ah 2) (af (ah 5) (ar)))) (fL [9,10])) (aA (aN (bE (dH (ah 8)) (aw 0) (dm) (bc (af (aj L3.rIx (ah 0) (TC (.int 0))) (af (aj L3.rIx (ah 0) (TC (.int 1))) (af (aj aP (aj L3.rIx (ah 0) (TC (.int 2))) (bD (ah 1) (aj L3.rIx (ah 0) (TC (.int 1))))) (af (aj L3.rIx (ah 0) (TC (.int 3))) (ar)))))) 1 [4]) (aw 11)) (aA (bR (TOr (Ax (TB (aq L3.oD (af (ah 9) (af (aq bO (af (ah 7) (af (ah 4) (ar)))) (ar)))))) (Ax (TB (aq L3.oD (af (ah 10) (af (ah 11) (ar))))))) (aW (TC (.bl false))) (ba)) (aA (bR (TB (aj rNe (ah 5) (aq bO (af (ah 3) (af (ah 4) (ar)))))) (aW (TC (.bl false))) (ba)) (oA 3 5 (af (ah 7) (af (ah 9) (ar)))))))))) (aW (TC (.bl true))))))))
theorem Nx:∀ ds μ Q,fk ds μ Q→HB { nx:=fun _ μ'=>RT Q .non μ',rt:=RT Q } (ini 12 ds) μ:=by
  intro ds μ Q h
  unfold fk L3.fk at h
  split at h
  case h_2=>exact h.elim
  obtain ⟨⟨ns,rfl,hn⟩,k⟩:=h
  walk_at "ini"
  unfold HB
  walk_at "go"
  refine ⟨⟨ns,rfl⟩,fun b μ1 hb P1 _=>?_⟩
  walk_at "go"
  refine ⟨P1,fun p m μ2 K M P2=>?_⟩
  have s1:=K.s1
  walk_at "go"
  refine aT P2.pot (by decide) (by decide) fun t μ3 t0 t1 P3=>?_
  obtain ⟨t,rfl⟩:∃ j:Nat,t=(j:Int):=⟨t.toNat,by omega⟩
  refine ⟨p,m,1+t,⟨rfl,K,by omega,by omega⟩,?_⟩
  generalize et:1+t=t'
  have t2:t'≤31:=by omega
  clear et
  have nd:=(p.j6 K t' (by omega)).sd
  walk_at "go"
  refine rA P3.pot (fun r zs=>∃ (dn rs:List Sn) (kvs:List (Str×Int)),r=snD rs∧dn++rs=p.ss∧zs=kvs.map (fun y=>.tup [.str y.1,.int y.2])∧kvs.map (·.1)=dn.map Sn.nm∧∀ y∈kvs,-1000≤y.2∧y.2≤1000) ⟨[],p.ss,[],rfl,rfl,rfl,rfl,fun _ h=>nomatch h⟩ (by rw[List.length_map];omega) ?_ ?_
  · rintro d r zs μ' Pm _ ⟨dn,rs,kvs,er,es,rfl,ek,hb⟩ N hN
    cases rs with
    | nil=>cases er
    | cons x rs=>
    cases er
    walk_at "go"
    refine aT Pm (by decide) (by decide) fun j μ4 j0 j1 P4=>?_
    walk_at "go"
    refine hN _ _ ⟨dn++[x],rs,kvs++[(x.nm,j - 1000)],rfl,by rw[← es];simp,by simp,by simp[ek],fun y hy=>?_⟩ P4
    rcases List.mem_append.mp hy with h | h
    · exact hb y h
    · rw[List.mem_singleton.mp h]
      show -1000≤j - 1000∧j - 1000≤1000
      omega
  rintro zs μ4 ⟨dn,rs,kvs,er,es,rfl,ek,hb⟩ P4
  cases rs with
  | cons _ _=>cases er
  | nil=>
  rw[List.append_nil] at es
  subst es
  have kl:kvs.length=p.ss.length:=by have:=congrArg List.length ek;simpa using this
  walk_at "go"
  refine ⟨kvs.map fun y=>(.inr y.1,.int y.2),by rw[List.map_map];rfl,by rw[List.length_map];omega,fun q hq=>?_⟩
  have em:iZ [] (kvs.map fun y=>((.inr y.1,.int y.2):L2.Key×D))=kvs.map fun y=>(.inr y.1,.int y.2):=by
    refine (mP _ [] ?_).trans (List.nil_append _)
    rw[List.nil_append,List.map_map]
    have nd':(kvs.map (·.1)).Nodup:=by rw[ek];exact nd
    exact List.pairwise_map.mpr ((List.pairwise_map.mp nd').imp fun h e=>h (by injection e))
  rw[em]
  have qb:=P4.pot.ne hq
  generalize TJ:(kvs.map fun y=>((.inr y.1,.int y.2):L2.Key×D))=tab
  have T':∀ n∈p.sn,∃ j,bN tab (.inr n)=some (.int j)∧-1000≤j∧j≤1000:=fun n hn=>by
    rw[← TJ]
    exact FO hb (by rw[ek];exact hn)
  obtain ⟨f,T⟩:∃ f:Str→Int,∀ n∈p.sn,bN tab (.inr n)=some (.int (f n))∧-1000≤f n∧f n≤1000:=⟨fun n=>match bN tab (.inr n) with
    | some (.int j)=>j
    | _=>0,fun n hn=>by
      obtain ⟨j,e,b⟩:=T' n hn
      show bN tab (.inr n)=some (.int (match bN tab (.inr n) with
        | some (.int j)=>j
        | _=>0))∧-1000≤(match bN tab (.inr n) with
        | some (.int j)=>j
        | _=>(0:Int))∧(match bN tab (.inr n) with
        | some (.int j)=>j
        | _=>(0:Int))≤1000
      rw[e]
      exact ⟨rfl,b⟩⟩
  have all:∀ i:Nat,i≤100→StL (p.run (t'+i))∧(∀ n∈(p.run (t'+i)).ss.map Ss.nm,bN tab (.inr n)=some (.int (f n)))∧vi p (p.run (t'+i))∧(∀ y∈List.zip p.ss (p.br (p.run (t'+i))),y.2.1.nm=y.1.nm)∧vi p ((p.run (t'+i)).mv f):=fun i hi=>by
    have I:=p.j6 K (t'+i) (by omega)
    have R:=I.rd (by omega)
    have nm:∀ y∈List.zip p.ss (p.br (p.run (t'+i))),y.2.1.nm=y.1.nm:=fun y hy=>(I.cons (by omega) (s:=y.1) (b:=y.2) hy).1
    refine ⟨J8 K (by omega),fun n hn=>?_,R,nm,Q8 nm R fun x hx=>?_⟩
    · rw[I.nm] at hn
      exact (T n hn).1
    · have h1:=I.nx x hx
      have h2:=(T x.nm (by rw[← I.nm];exact List.mem_map.mpr ⟨x,hx,rfl⟩)).2
      omega
  walk_at "go"
  refine ⟨p.g,p.run t',f,tab,⟨rfl,(all 0 (by omega)).1,aG,(all 0 (by omega)).2.1⟩,?_⟩
  walk_at "go"
  refine aT (P4.pot.up qb) (by decide) (by decide) fun c μ6 c0 c1 P6=>?_
  have eq:μ6 q=some (.dct tab):=by rw[P6.oth q qb];exact aG
  walk_at "go"
  refine ⟨⟨by omega,by omega⟩,?_⟩
  refine cW (fun r ρ μ'=>∃ (i:Nat) (v6 v7 v8 v9 v10 v11:Option D),i+r.length≤11∧ρ=[some (.ls (ns.map .int)),some (.obj b),some p.toD,some ((p.run (t'+i)).toD p.g),some (.obj q),some (((p.run (t'+i)).mv f).toD p.g),v6,v7,v8,v9,v10,v11]∧μ'=μ6) ?_ ?_ _ _ _ ⟨0,_,_,_,_,_,_,by rw[c9];omega,rfl,rfl⟩
  · rintro ρ μ' ⟨i,v6,v7,v8,v9,v10,v11,_,rfl,rfl⟩
    walk_at "go"
    exact ⟨_,.refl _,k _⟩
  · rintro d r ρ μ' N ⟨i,v6,v7,v8,v9,v10,v11,hi,rfl,rfl⟩ hN
    rw[List.length_cons] at hi
    obtain ⟨S,T0,R,nm,R'⟩:=all i (by omega)
    obtain ⟨S1,T1,_⟩:=all (i+1) (by omega)
    have ez:=R.ez
    walk_at "go"
    refine ⟨p,p.run (t'+i),⟨⟨rfl,rfl⟩,R⟩,?_⟩
    walk_at "go"
    refine ⟨p,(p.run (t'+i)).mv f,⟨⟨rfl,rfl⟩,R'⟩,?_⟩
    rw[KO f p _ nm,Ha f p _ nm]
    walk_at "go"
    refine bw (p.evs (p.run (t'+i))) Ev.toD (fun e=>(e.mv f).toD) rfl (by omega) (fun e he μ' sb N m=>?_) ?_
    · walk_at "go"
      refine vB (sb q _ eq) ?_
      rw[(T e.nm (MB R e he).2.1).1]
      walk_at "go"
      exact m
    walk_at "go"
    refine ⟨p.g,p.run (t'+(i+1)),f,tab,⟨rfl,S1,eq,T1⟩,?_⟩
    refine B4 rfl (L7 (S1.mv f) p.g) ?_
    walk_at "go"
    have em:(evD ((p.evs (p.run (t'+i))).map (Ev.mv f)))=(p.evs (p.run (t'+i))).map (fun e=>(e.mv f).toD):=List.map_map
    refine B4 (by rw[em]) (by rw[← em];exact Rn R f) ?_
    walk_at "go"
    refine ⟨p.g,p.run (t'+i),f,tab,⟨rfl,S,eq,T0⟩,?_⟩
    have z:=Io 35 5 _ (L7 (S.mv f) p.g)
    walk_at "go"
    refine ⟨z.1,?_⟩
    rw[z.2]
    walk_at "go"
    exact hN _ _ ⟨i+1,_,_,_,_,_,_,by omega,rfl,rfl⟩
theorem mO (ns:List Int)(h:ns.length≤63)(μ:Mu):fk [.ls (ns.map .int)] μ (fun d _=>d=.bl true):=L3.mO ns h μ
end Kk
namespace Kk
open PySem L2 L3
theorem R8 {α:Type}{us:List α}(h:us.length=1):∃ x0,us=[x0]:=match us,h with | [x0],_=>⟨x0,rfl⟩
theorem RE {α:Type}{us:List α}(h:us.length=2):∃ x0 x1,us=[x0,x1]:=match us,h with | [x0,x1],_=>⟨x0,x1,rfl⟩
theorem QU {α:Type}{us:List α}(h:us.length=3):∃ x0 x1 x2,us=[x0,x1,x2]:=match us,h with | [x0,x1,x2],_=>⟨x0,x1,x2,rfl⟩
theorem Qg {α:Type}{us:List α}(h:us.length=4):∃ x0 x1 x2 x3,us=[x0,x1,x2,x3]:=match us,h with | [x0,x1,x2,x3],_=>⟨x0,x1,x2,x3,rfl⟩
theorem RX {α:Type}{us:List α}(h:us.length=5):∃ x0 x1 x2 x3 x4,us=[x0,x1,x2,x3,x4]:=match us,h with | [x0,x1,x2,x3,x4],_=>⟨x0,x1,x2,x3,x4,rfl⟩
def top (i:Nat):Stmt:=PySem.Challenge.pw_swellways_k34_numbers_moved.main.body.getD i (.Pass ⟨0,0,0,0⟩)
abbrev nG:Stmt:=top 1
abbrev Ei:Stmt:=top 2
abbrev Eg:Stmt:=top 3
abbrev BP:Stmt:=top 4
abbrev Bg:Stmt:=top 5
abbrev HA:Stmt:=top 6
abbrev qA:Stmt:=top 7
abbrev wR:Stmt:=top 8
abbrev xP:Stmt:=top 45
abbrev qH:Stmt:=top 46
abbrev tw:Stmt:=top 47
abbrev jP:Stmt:=top 48
abbrev nc:Stmt:=top 49
abbrev BZ:Stmt:=top 50
abbrev EV:Stmt:=top 51
abbrev oY:Stmt:=top 52
abbrev lS:Stmt:=top 54
abbrev oU:Stmt:=top 55
abbrev gG:Stmt:=top 56
abbrev gr:Stmt:=top 57
abbrev sE:Stmt:=top 58
abbrev jq:Stmt:=top 60
abbrev oG:Stmt:=top 61
abbrev jG:Stmt:=top 62
abbrev qW:Stmt:=top 63
abbrev qh:Stmt:=top 64
abbrev vV:Stmt:=top 65
abbrev fP:Stmt:=top 66
abbrev qF:Stmt:=top 67
abbrev lN:Stmt:=top 68
abbrev nj:Stmt:=top 69
abbrev Hl:Stmt:=top 70
abbrev gH:Stmt:=top 71
abbrev nA:Stmt:=top 72
abbrev cL:Stmt:=top 73
abbrev cK:Stmt:=top 74
abbrev Mr:Stmt:=top 76
abbrev pE:Stmt:=top 78
abbrev oX:Stmt:=top 79
abbrev nk:Stmt:=top 80
abbrev iL:Stmt:=top 81
abbrev ka:Stmt:=top 82
abbrev i8:Stmt:=top 83
abbrev mZ:Stmt:=top 84
abbrev nL:Stmt:=top 85
abbrev gY:Stmt:=top 86
abbrev jN:Stmt:=top 87
abbrev jj:Stmt:=top 88
abbrev de:Stmt:=top 89
abbrev gc:Stmt:=top 90
abbrev BK:Stmt:=top 91
set_option genInjectivity false in
set_option genSizeOfSpec false in
structure Adr where
  mX:Addr
  yj:FuncData
  Hi:Addr
  NO:FuncData
  FC:Addr
  NG:FuncData
  BU:Addr
  KP:FuncData
  A6:Addr
  IM:FuncData
  Gs:Addr
  PX:FuncData
  qk:Addr
  zh:FuncData
  xS:Addr
  Ep:FuncData
  wB:Addr
  F6:FuncData
  ql:Addr
  zM:FuncData
  sD:Addr
  C7:FuncData
  jE:Addr
  qm:FuncData
  nE:Addr
  vP:FuncData
  Bn:Addr
  LY:FuncData
  Fp:Addr
  NI:FuncData
  qQ:Addr
  Ab:FuncData
  lq:Addr
  uS:FuncData
  qz:Addr
  Au:FuncData
  nK:Addr
  xy:FuncData
  js:Addr
  oS:FuncData
  sy:Addr
  CA:FuncData
  jO:Addr
  qG:FuncData
  B0:Addr
  Kt:FuncData
  m9:Addr
  xD:FuncData
  qE:Addr
  zE:FuncData
  pQ:Addr
  zp:FuncData
  vz:Addr
  Ia:FuncData
  i6:Addr
  nO:FuncData
  vN:Addr
  Fc:FuncData
  ly:Addr
  uC:FuncData
  ny:Addr
  xV:FuncData
  Ig:Addr
  O5:FuncData
  m7:Addr
  yt:FuncData
  mS:Addr
  vL:FuncData
  jJ:Addr
  qV:FuncData
  sW:Addr
  CN:FuncData
  Mh:Addr
  Rq:FuncData
  pz:Addr
  yZ:FuncData
  o4:Addr
  AK:FuncData
  nI:Addr
  yl:FuncData
  kU:Addr
  tZ:FuncData
  kh:Addr
  rG:FuncData
  jd:Addr
  nX:FuncData
  mV:Addr
  wI:FuncData
  nF:Addr
  vY:FuncData
  kg:Addr
  sj:FuncData
  nB:Addr
  xo:FuncData
  gN:Addr
  gF:FuncData
  fD:Addr
  ju:FuncData
  kY:Addr
  ub:FuncData
  GN:Addr
  Ms:FuncData
structure Txt (Pm:Params) (K:PySem.W.Frag) (mg:Str→Option Value) (t:Adr):Prop where
  yu:mg "common_of" = some (.ref t.mX)
  vM:Fun K "common_of" "common_of" nG t.mX t.yj
  Pr:mg "part" = some (.ref t.Hi)
  MV:Fun K "part" "part" Ei t.Hi t.NO
  PR:mg "plus" = some (.ref t.FC)
  Ox:Fun K "plus" "plus" Eg t.FC t.NG
  Ld:mg "minus" = some (.ref t.BU)
  Ky:Fun K "minus" "minus" BP t.BU t.KP
  Lf:mg "times" = some (.ref t.A6)
  Lj:Fun K "times" "times" Bg t.A6 t.IM
  OE:mg "less" = some (.ref t.Gs)
  O4:Fun K "less" "less" HA t.Gs t.PX
  zC:mg "floor_of" = some (.ref t.qk)
  yU:Fun K "floor_of" "floor_of" qA t.qk t.zh
  Ga:mg "cut_by" = some (.ref t.xS)
  Ez:Fun K "cut_by" "cut_by" wR t.xS t.Ep
  Hv:mg "top_of" = some (.ref t.wB)
  Gq:Fun K "top_of" "top_of" xP t.wB t.F6
  zD:mg "begun_by" = some (.ref t.ql)
  zZ:Fun K "begun_by" "begun_by" qH t.ql t.zM
  DS:mg "is_idle" = some (.ref t.sD)
  DD:Fun K "is_idle" "is_idle" tw t.sD t.C7
  pO:mg "share_behind" = some (.ref t.jE)
  qc:Fun K "share_behind" "share_behind" jP t.jE t.qm
  xZ:mg "factor_of" = some (.ref t.nE)
  wG:Fun K "factor_of" "factor_of" nc t.nE t.vP
  Ln:mg "moved" = some (.ref t.Bn)
  KH:Fun K "moved" "moved" BZ t.Bn t.LY
  NJ:mg "held" = some (.ref t.Fp)
  NU:Fun K "held" "held" EV t.Fp t.NI
  zT:mg "heard_by" = some (.ref t.qQ)
  A2:Fun K "heard_by" "heard_by" oY t.qQ t.Ab
  uU:mg "put_behind" = some (.ref t.lq)
  tP:Fun K "put_behind" "put_behind" lS t.lq t.uS
  yV:mg "taken_in" = some (.ref t.qz)
  zA:Fun K "taken_in" "taken_in" oU t.qz t.Au
  vO:mg "next_name" = some (.ref t.nK)
  wL:Fun K "next_name" "next_name" gG t.nK t.xy
  qy:mg "out_by_turns" = some (.ref t.js)
  qe:Fun K "out_by_turns" "out_by_turns" gr t.js t.oS
  CD:mg "let_out" = some (.ref t.sy)
  Di:Fun K "let_out" "let_out" sE t.sy t.CA
  pL:mg "begun_sender" = some (.ref t.jO)
  rf:Fun K "begun_sender" "begun_sender" jq t.jO t.qG
  Jt:mg "begun" = some (.ref t.B0)
  JY:Fun K "begun" "begun" oG t.B0 t.Kt
  vG:mg "under_way" = some (.ref t.m9)
  xX:Fun K "under_way" "under_way" jG t.m9 t.xD
  zG:mg "new_ones" = some (.ref t.qE)
  zg:Fun K "new_ones" "new_ones" qW t.qE t.zE
  Aj:mg "sent_off" = some (.ref t.pQ)
  zJ:Fun K "sent_off" "sent_off" qh t.pQ t.zp
  FX:mg "beaten" = some (.ref t.vz)
  EH:Fun K "beaten" "beaten" vV t.vz t.Ia
  oh:mg "sent_in_order" = some (.ref t.i6)
  ow:Fun K "sent_in_order" "sent_in_order" fP t.i6 t.nO
  Ih:mg "passed" = some (.ref t.vN)
  F0:Fun K "passed" "passed" qF t.vN t.Fc
  t9:mg "way_behind" = some (.ref t.ly)
  uY:Fun K "way_behind" "way_behind" lN t.ly t.uC
  we:mg "events_of" = some (.ref t.ny)
  xm:Fun K "events_of" "events_of" nj t.ny t.xV
  Pp:mg "aged" = some (.ref t.Ig)
  NL:Fun K "aged" "aged" Hl t.Ig t.O5
  xi:mg "way_after" = some (.ref t.m7)
  vy:Fun K "way_after" "way_after" gH t.m7 t.yt
  wa:mg "due_after" = some (.ref t.mS)
  xU:Fun K "due_after" "due_after" nA t.mS t.vL
  o8:mg "sender_after" = some (.ref t.jJ)
  pU:Fun K "sender_after" "sender_after" cL t.jJ t.qV
  Dl:mg "stepped" = some (.ref t.sW)
  Dy:Fun K "stepped" "stepped" cK t.sW t.CN
  RM:mg "run" = some (.ref t.Mh)
  QY:Fun K "run" "run" Mr t.Mh t.Rq
  yQ:mg "_law_pot" = some (.ref t.pz)
  zu:Fun K "_law_pot" "_law_pot" pE t.pz t.yZ
  yD:mg "_law_mix" = some (.ref t.o4)
  Ad:Fun K "_law_mix" "_law_mix" oX t.o4 t.AK
  w8:mg "_law_take" = some (.ref t.nI)
  xg:Fun K "_law_take" "_law_take" nk t.nI t.yl
  u6:mg "_law_names" = some (.ref t.kU)
  uX:Fun K "_law_names" "_law_names" iL t.kU t.tZ
  sv:mg "_law_lowest" = some (.ref t.kh)
  rN:Fun K "_law_lowest" "_law_lowest" ka t.kh t.rG
  oq:mg "_law_fraction" = some (.ref t.jd)
  oo:Fun K "_law_fraction" "_law_fraction" i8 t.jd t.nX
  vU:mg "_law_rule" = some (.ref t.mV)
  wc:Fun K "_law_rule" "_law_rule" mZ t.mV t.wI
  yy:mg "_law_ways" = some (.ref t.nF)
  xW:Fun K "_law_ways" "_law_ways" nL t.nF t.vY
  rW:mg "_law_sender" = some (.ref t.kg)
  su:Fun K "_law_sender" "_law_sender" gY t.kg t.sj
  xw:mg "_law_plan" = some (.ref t.nB)
  vw:Fun K "_law_plan" "_law_plan" jN t.nB t.xo
  mY:mg "_law_same" = some (.ref t.gN)
  di:Fun K "_law_same" "_law_same" jj t.gN t.gF
  jo:mg "_law_letters_moved" = some (.ref t.fD)
  jy:Fun K "_law_letters_moved" "_law_letters_moved" de t.fD t.ju
  uZ:mg "_law_moved" = some (.ref t.kY)
  um:Fun K "_law_moved" "_law_moved" gc t.kY t.ub
  RG:mg "law" = some (.ref t.GN)
  Ce:Fun K "law" "law" BK t.GN t.Ms
  Hh:mg "abs" = none
  Q3:mg "all" = none
  NX:mg "bool" = none
  Ey:mg "dict" = none
  yo:mg "enumerate" = none
  MA:mg "int" = none
  bL:mg "isinstance" = none
  dQ:mg "len" = none
  mJ:mg "list" = none
  BA:mg "max" = none
  Rk:mg "min" = none
  lW:mg "range" = none
  qM:mg "sorted" = none
  MI:mg "str" = none
  RH:mg "sum" = none
  a9:mg "tuple" = none
  qX:mg "zip" = none
  ve:GV K mg "AGAIN" (.int 6)
  MK:GV K mg "AGE" (.int 2)
  NF:GV K mg "BEAT" (.int 2)
  JV:GV K mg "BEGIN" (.int 3)
  wq:GV K mg "COMING" (.int 0)
  HS:GV K mg "DUE" (.int 1)
  Gr:GV K mg "GOOD" (.int 8)
  Ip:GV K mg "GRID" (.int 0)
  Ec:GV K mg "HALF" (.tup [.int 1,.int 2])
  B1:GV K mg "HOP" (.int 3)
  jQ:GV K mg "IS_MARKED" (.int 4)
  Ou:GV K mg "LAST" (.int 2)
  rD:GV K mg "LEFT" (.int 5)
  pR:GV K mg "LOST" (.int 7)
  OC:GV K mg "MANY" (.int 4)
  G0:GV K mg "MARK" (.int 3)
  wQ:GV K mg "MARKED" (.int 9)
  bX:GV K mg "NAME" (.int 0)
  AJ:GV K mg "NEXT" (.int 4)
  ED:GV K mg "NOUGHT" (.tup [.int 0,.int 1])
  jz:GV K mg "NUMBER" (.int 1)
  GY:GV K mg "ONE" (.tup [.int 1,.int 1])
  An:GV K mg "PACE" (.int 1)
  FH:GV K mg "ROAD" (.int 1)
  MN:GV K mg "ROOM" (.int 2)
  Ib:GV K mg "RULE" (.int 5)
  tJ:GV K mg "SENDERS" (.int 2)
  Ki:GV K mg "SHARE" (.int 3)
  MP:GV K mg "SORT" (.int 4)
  oW:GV K mg "STANDING" (.int 1)
  nW:GV K mg "STATE_SENDERS" (.int 1)
  lg:GV K mg "STATE_WAYS" (.int 0)
  FJ:GV K mg "WAIT" (.int 10)
  uR:GV K mg "WAYS" (.int 1)
  vn:GV K mg "WINDOW" (.int 2)
local macro_rules | `(tactic| walk_at "sc")=>`(tactic| exact ⟨rfl,rfl,rfl,by decide +kernel,rfl,by decide +kernel,by decide +kernel⟩)
local macro_rules | `(tactic| walk_at "b1")=>`(tactic| (rename_i hl;obtain ⟨x0,e⟩:=R8 hl;subst e;rfl))
local macro_rules | `(tactic| walk_at "b2")=>`(tactic| (rename_i hl;obtain ⟨x0,x1,e⟩:=RE hl;subst e;rfl))
local macro_rules | `(tactic| walk_at "b3")=>`(tactic| (rename_i hl;obtain ⟨x0,x1,x2,e⟩:=QU hl;subst e;rfl))
local macro_rules | `(tactic| walk_at "b4")=>`(tactic| (rename_i hl;obtain ⟨x0,x1,x2,x3,e⟩:=Qg hl;subst e;rfl))
local macro_rules | `(tactic| walk_at "b5")=>`(tactic| (rename_i hl;obtain ⟨x0,x1,x2,x3,x4,e⟩:=RX hl;subst e;rfl))
section
variable {P:Program} {w:World} {K:PySem.W.Frag} {mg:Str→Option Value} {base:Heap} {t:Adr}
theorem dI:aI ["one", "other", "divisor", "rest", "behind"] ["one", "other"] (av nG):=by walk_at "sc"
theorem xQ (T:Txt w.params K mg t):aQ P w K mg base 1 "common_of" ["one", "other"] L3.dG:=aK T.yu T.vM dI L3.rO L3.uG (fun _ _ _ _ _ _ _ _=>by walk_at "b2") fun _ _ _ _ _ _ hr hu=>
  ak (aC 2 dI.nd (aX ri uQ rfl T.Hh rfl (aa (ae 0) (ai)))) (ak (aC 3 dI.nd (aX ri uQ rfl T.Hh rfl (aa (ae 1) (ai)))) (ak (rC PassesOwn.never (ni (ae 3) (le_int)) (ak (aC 4 dI.nd (iG (ae 2) (ae 3))) (ak (aC 2 dI.nd (ae 3)) (ax (aC 3 dI.nd (ae 4)))))) (ax (aE (ae 2)))))
theorem t7:aI ["top", "bottom", "divisor"] ["top", "bottom"] (av Ei):=by walk_at "sc"
theorem pf (T:Txt w.params K mg t):aQ P w K mg base 2 "part" ["top", "bottom"] L3.fv:=aK T.Pr T.MV t7 L3.ER L3.K5 (fun _ _ _ _ _ _ _ _=>by walk_at "b2") fun _ _ _ _ _ _ hr hu=>
  ak (aC 2 t7.nd (ao (xQ T) hr rfl (aa (ae 0) (aa (ae 1) (ai))))) (ak (bS (lU (ae 1) (le_int)) (ax (aC 2 t7.nd (le_neg (ae 2)))) (a5)) (ax (aE (aO (aa (jB (ae 0) (ae 2)) (aa (jB (ae 1) (ae 2)) (ai)))))))
theorem Li:aI ["one", "other"] ["one", "other"] (av Eg):=by walk_at "sc"
theorem Gf (T:Txt w.params K mg t):aQ P w K mg base 3 "plus" ["one", "other"] L3.gE:=aK T.PR T.Ox Li L3.Hz L3.KY (fun _ _ _ _ _ _ _ _=>by walk_at "b2") fun _ _ _ _ _ _ hr hu=>
  ax (aE (ao (pf T) hr rfl (aa (aH (le_mul (au (ae 0) (le_int)) (au (ae 1) (le_int))) (le_mul (au (ae 1) (le_int)) (au (ae 0) (le_int)))) (aa (le_mul (au (ae 0) (le_int)) (au (ae 1) (le_int))) (ai)))))
theorem F9:aI ["one", "other"] ["one", "other"] (av BP):=by walk_at "sc"
theorem uj (T:Txt w.params K mg t):aQ P w K mg base 3 "minus" ["one", "other"] L3.fF:=aK T.Ld T.Ky F9 L3.C5 L3.FF (fun _ _ _ _ _ _ _ _=>by walk_at "b2") fun _ _ _ _ _ _ hr hu=>
  ax (aE (ao (pf T) hr rfl (aa (fQ (le_mul (au (ae 0) (le_int)) (au (ae 1) (le_int))) (le_mul (au (ae 1) (le_int)) (au (ae 0) (le_int)))) (aa (le_mul (au (ae 0) (le_int)) (au (ae 1) (le_int))) (ai)))))
theorem Fl:aI ["one", "other"] ["one", "other"] (av Bg):=by walk_at "sc"
theorem tY (T:Txt w.params K mg t):aQ P w K mg base 3 "times" ["one", "other"] L3.fJ:=aK T.Lf T.Lj Fl L3.CH L3.FG (fun _ _ _ _ _ _ _ _=>by walk_at "b2") fun _ _ _ _ _ _ hr hu=>
  ax (aE (ao (pf T) hr rfl (aa (le_mul (au (ae 0) (le_int)) (au (ae 1) (le_int))) (aa (le_mul (au (ae 0) (le_int)) (au (ae 1) (le_int))) (ai)))))
theorem J1:aI ["one", "other"] ["one", "other"] (av HA):=by walk_at "sc"
theorem Im (T:Txt w.params K mg t):aQ P w K mg base 1 "less" ["one", "other"] L3.iS:=aK T.OE T.O4 J1 L3.GS L3.IJ (fun _ _ _ _ _ _ _ _=>by walk_at "b2") fun _ _ _ _ _ _ hr hu=>
  ax (aE (Qh (le_mul (au (ae 0) (le_int)) (au (ae 1) (le_int))) (le_mul (au (ae 1) (le_int)) (au (ae 0) (le_int)))))
theorem w6:aI ["one"] ["one"] (av qA):=by walk_at "sc"
theorem zN (T:Txt w.params K mg t):aQ P w K mg base 1 "floor_of" ["one"] L3.eM:=aK T.zC T.yU w6 L3.uw L3.xt (fun _ _ _ _ _ _ _ _=>by walk_at "b1") fun _ _ _ _ _ _ hr hu=>
  ax (aE (jB (au (ae 0) (le_int)) (au (ae 0) (le_int))))
theorem CM:aI ["one", "grid"] ["one", "grid"] (av wR):=by walk_at "sc"
theorem l7 (T:Txt w.params K mg t):aQ P w K mg base 3 "cut_by" ["one", "grid"] L3.dq:=aK T.Ga T.Ez CM L3.zy L3.DO (fun _ _ _ _ _ _ _ _=>by walk_at "b2") fun _ _ _ _ _ _ hr hu=>
  ax (aE (ao (pf T) hr rfl (aa (jB (le_mul (au (ae 0) (le_int)) (ae 1)) (au (ae 0) (le_int))) (aa (ae 1) (ai)))))
theorem Dq:aI ["rule"] ["rule"] (av xP):=by walk_at "sc"
theorem vC (T:Txt w.params K mg t):aQ P w K mg base 1 "top_of" ["rule"] L3.fu:=aK T.Hv T.Gq Dq L3.Av L3.CV (fun _ _ _ _ _ _ _ _=>by walk_at "b1") fun _ _ _ _ _ _ hr hu=>
  ax (aE (au (ae 0) (fQ (aX a6 bF rfl T.dQ rfl (aa (ae 0) (ai))) (le_int))))
theorem vo:aI ["rule", "grid"] ["rule", "grid"] (av qH):=by walk_at "sc"
theorem AV (T:Txt w.params K mg t):aQ P w K mg base 4 "begun_by" ["rule", "grid"] L3.eL:=aK T.zD T.zZ vo L3.tN L3.wo (fun _ _ _ _ _ _ _ _=>by walk_at "b2") fun _ _ _ _ _ _ hr hu=>
  ax (aE (aO (aa (ao (l7 T) hr rfl (aa (au (ae 0) (le_int)) (aa (ae 1) (ai)))) (aa (aF rfl T.ED) (ai)))))
theorem AL:aI ["rule", "heard"] ["rule", "heard"] (av tw):=by walk_at "sc"
theorem C2 (T:Txt w.params K mg t):aQ P w K mg base 1 "is_idle" ["rule", "heard"] L3.ft:=aK T.DS T.DD AL L3.xx L3.Aq (fun _ _ _ _ _ _ _ _=>by walk_at "b2") fun _ _ _ _ _ _ hr hu=>
  ax (aE (RS (le_eq hu (au (ae 0) (le_int)) (le_str)) (uP (le_eq hu (aH (aH (au (ae 1) (le_int)) (au (ae 1) (le_int))) (au (ae 1) (le_int))) (le_int)))))
theorem fO:aI ["rule", "grid", "share", "heard", "bad", "nearer"] ["rule", "grid", "share", "heard"] (av jP):=by walk_at "sc"
theorem qJ (T:Txt w.params K mg t):aQ P w K mg base 4 "share_behind" ["rule", "grid", "share", "heard"] L3.b5:=aK T.pO T.qc fO L3.md L3.nS (fun _ _ _ _ _ _ _ _=>by walk_at "b4") fun _ _ _ _ _ _ hr hu=>
  ak (bS (sF hu (au (ae 0) (le_int)) (le_str)) (ax (aE (ae 2))) (a5)) (ak (aC 4 fO.nd (aH (au (ae 3) (le_int)) (au (ae 3) (le_int)))) (ak (aC 5 fO.nd (ao (tY T) hr rfl (aa (au (ae 0) (le_int)) (aa (ao (uj T) hr rfl (aa (ao (pf T) hr rfl (aa (ae 4) (aa (aH (au (ae 3) (le_int)) (ae 4)) (ai)))) (aa (ae 2) (ai)))) (ai))))) (ax (aE (ao (l7 T) hr rfl (aa (ao (Gf T) hr rfl (aa (ae 2) (aa (ae 5) (ai)))) (aa (ae 1) (ai))))))))
theorem uH:aI ["rule", "share", "heard"] ["rule", "share", "heard"] (av nc):=by walk_at "sc"
theorem vt (T:Txt w.params K mg t):aQ P w K mg base 4 "factor_of" ["rule", "share", "heard"] L3.dJ:=aK T.xZ T.wG uH L3.rJ L3.vd (fun _ _ _ _ _ _ _ _=>by walk_at "b3") fun _ _ _ _ _ _ hr hu=>
  ak (bS (lt_eq hu (au (ae 0) (le_int)) (le_str)) (ax (aE (iX (ni (au (ae 2) (le_int)) (le_int)) (aF rfl T.Ec) (dh)))) (a5)) (ak (bS (lt_eq hu (aH (au (ae 2) (le_int)) (au (ae 2) (le_int))) (le_int)) (ax (aE (iX (lt_eq hu (au (ae 0) (le_int)) (le_str)) (au (ae 0) (le_int)) (dh)))) (a5)) (ak (bS (lt_eq hu (au (ae 0) (le_int)) (le_str)) (ax (aE (ao (uj T) hr rfl (aa (aF rfl T.GY) (aa (ao (tY T) hr rfl (aa (aF rfl T.Ec) (aa (ae 1) (ai)))) (ai)))))) (a5)) (ax (aE (au (ae 0) (le_int))))))
theorem Ie:aI ["rule", "window", "heard"] ["rule", "window", "heard"] (av BZ):=by walk_at "sc"
theorem J2 (T:Txt w.params K mg t):aQ P w K mg base 4 "moved" ["rule", "window", "heard"] L3.ie:=aK T.Ln T.KH Ie L3.Ct L3.HK (fun _ _ _ _ _ _ _ _=>by walk_at "b3") fun _ _ _ _ _ _ hr hu=>
  ak (bS (LW.lt (wD (sF hu (au (ae 0) (le_int)) (le_str)) (qd (lU (au (ae 2) (le_int)) (au (ae 0) (le_int)))))) (ax (aE (ao (Gf T) hr rfl (aa (ae 1) (aa (au (ae 0) (le_int)) (ai)))))) (a5)) (ak (bS (ni (au (ae 2) (le_int)) (au (ae 0) (le_int))) (ax (aE (ao (uj T) hr rfl (aa (ae 1) (aa (au (ae 0) (le_int)) (ai)))))) (a5)) (ax (aE (ae 1))))
theorem Lm:aI ["rule", "grid", "window"] ["rule", "grid", "window"] (av EV):=by walk_at "sc"
theorem FP (T:Txt w.params K mg t):aQ P w K mg base 4 "held" ["rule", "grid", "window"] L3.iF:=aK T.NJ T.NU Lm L3.IE L3.IX (fun _ _ _ _ _ _ _ _=>by walk_at "b3") fun _ _ _ _ _ _ hr hu=>
  ak (bS (km (ao (Im T) hr rfl (aa (ae 2) (aa (aF rfl T.GY) (ai))))) (ax (aE (aF rfl T.GY))) (a5)) (ak (bS (km (ao (Im T) hr rfl (aa (ao (vC T) hr rfl (aa (ae 0) (ai))) (aa (ae 2) (ai))))) (ax (aE (ao (l7 T) hr rfl (aa (ao (vC T) hr rfl (aa (ae 0) (ai))) (aa (ae 1) (ai)))))) (a5)) (ax (aE (ao (l7 T) hr rfl (aa (ae 2) (aa (ae 1) (ai)))))))
theorem jK:aI ["rule", "grid", "window", "share", "heard", "nearer", "factor"] ["rule", "grid", "window", "share", "heard"] (av oY):=by walk_at "sc"
theorem zR (T:Txt w.params K mg t):aQ P w K mg base 5 "heard_by" ["rule", "grid", "window", "share", "heard"] L3.eG:=aK T.zT T.A2 jK L3.va L3.vh (fun _ _ _ _ _ _ _ _=>by walk_at "b5") fun _ _ _ _ _ _ hr hu=>
  ak (bS (km (ao (C2 T) hr rfl (aa (ae 0) (aa (ae 4) (ai))))) (ax (aE (aO (aa (ae 2) (aa (ae 3) (ai)))))) (a5)) (ak (aC 5 jK.nd (ao (qJ T) hr rfl (aa (ae 0) (aa (ae 1) (aa (ae 3) (aa (ae 4) (ai))))))) (ak (aC 6 jK.nd (ao (vt T) hr rfl (aa (ae 0) (aa (ae 5) (aa (ae 4) (ai)))))) (ak (bS (nH (ae 6) (dh)) (ax (aE (aO (aa (ao (FP T) hr rfl (aa (ae 0) (aa (ae 1) (aa (ao (J2 T) hr rfl (aa (ae 0) (aa (ae 2) (aa (ae 4) (ai))))) (ai))))) (aa (ae 5) (ai)))))) (a5)) (ax (aE (aO (aa (ao (FP T) hr rfl (aa (ae 0) (aa (ae 1) (aa (ao (tY T) hr rfl (aa (ae 2) (aa (ae 6) (ai)))) (ai))))) (aa (ae 5) (ai)))))))))
theorem r8:aI ["way", "letter", "ahead"] ["way", "letter", "ahead"] (av lS):=by walk_at "sc"
theorem uh (T:Txt w.params K mg t):aQ P w K mg base 1 "put_behind" ["way", "letter", "ahead"] L3.cY:=aK T.uU T.tP r8 L3.qT L3.rE (fun _ _ _ _ _ _ _ _=>by walk_at "b3") fun _ _ _ _ _ _ hr hu=>
  ak (bS (LW.lt (wD (nH (au (ae 0) (aF rfl T.G0)) (dh)) (qd (lU (ae 2) (au (ae 0) (aF rfl T.G0)))))) (ax (aE (ae 1))) (a5)) (ax (aE (aH (i7 (ae 1) (kb) (eS (aF rfl T.jQ))) (aO (aa (le_int) (ai))))))
theorem gL:aI ["way", "standing", "letters", "stands", "lost", "letter"] ["way", "standing", "letters"] (av oU):=by walk_at "sc"
theorem zU (T:Txt w.params K mg t):aQ P w K mg base 2 "taken_in" ["way", "standing", "letters"] L3.eC:=aK T.yV T.zA gL L3.tR L3.xR (fun _ _ _ _ _ _ _ _=>by walk_at "b3") fun _ _ _ _ _ _ hr hu=>
  ak (aC 3 gL.nd (aR iW sx rfl T.mJ rfl (aa (ae 1) (ai)))) (ak (aC 4 gL.nd (iV (ai))) (ak (gw PassesOwn.never rfl (bB (ae 2)) (gM 5 gL.nd) (ax (bS (RP (aX a6 bF rfl T.dQ rfl (aa (ae 3) (ai))) (au (ae 0) (aF rfl T.MN))) (ax (eu (le_app (ae 4) (ae 5)))) (ax (eu (le_app (ae 3) (ao (uh T) hr rfl (aa (ae 0) (aa (ae 5) (aa (aX a6 bF rfl T.dQ rfl (aa (ae 3) (ai))) (ai))))))))))) (ax (aE (aO (aa (aR aJ aY rfl T.a9 rfl (aa (ae 3) (ai))) (aa (aR aJ aY rfl T.a9 rfl (aa (ae 4) (ai))) (ai))))))))
theorem iI:aI ["names", "owners", "last", "there", "behind"] ["names", "owners", "last"] (av gG):=by walk_at "sc"
theorem xn (T:Txt w.params K mg t):aQ P w K mg base 1 "next_name" ["names", "owners", "last"] L3.dD:=aK T.vO T.wL iI L3.rP L3.uv (fun _ _ _ _ _ _ _ _=>by walk_at "b3") fun _ _ _ _ _ _ hr hu=>
  ak (eP (fsc:=av gG) 3 iI.nd ["names", "owners", "last", "there", "behind"] ["name", "owners"] 1 [1] rfl rfl (bB (ae 0)) (fun cl C s₀ H₀ ex=>⟨aZ 0 (show (["name", "owners"]:List Str).Nodup from by decide +kernel),fU (N5 hu (ae 0) (ae 1)),ae 0⟩) rfl rfl (by decide +kernel)) (ak (eP (fsc:=av gG) 4 iI.nd ["names", "owners", "last", "there", "behind"] ["name", "last"] 1 [2] rfl rfl (bB (ae 3)) (fun cl C s₀ H₀ ex=>⟨aZ 0 (show (["name", "last"]:List Str).Nodup from by decide +kernel),fU (Ob (ae 0) (ae 1)),ae 0⟩) rfl rfl (by decide +kernel)) (ax (aE (iX (ni (aX a6 bF rfl T.dQ rfl (aa (ae 4) (ai))) (le_int)) (au (ae 4) (le_int)) (au (ae 3) (le_int))))))
theorem bY:aI ["way", "names", "standing", "last", "stands", "out", "name", "owners"] ["way", "names", "standing", "last"] (av gr):=by walk_at "sc"
theorem qi (T:Txt w.params K mg t):aQ P w K mg base 2 "out_by_turns" ["way", "names", "standing", "last"] L3.b6:=aK T.qy T.qe bY L3.mB L3.nT (fun _ _ _ _ _ _ _ _=>by walk_at "b4") fun _ _ _ _ _ _ hr hu=>
  ak (aC 4 bY.nd (aR iW sx rfl T.mJ rfl (aa (ae 2) (ai)))) (ak (aC 5 bY.nd (iV (ai))) (ak (aC 6 bY.nd (ae 3)) (ak (rC PassesOwn.never (LW.lt (zL (ni (aX a6 bF rfl T.dQ rfl (aa (ae 4) (ai))) (le_int)) (tU (lU (aX a6 bF rfl T.dQ rfl (aa (ae 5) (ai))) (au (ae 0) (aF rfl T.An)))))) (ak (mx (fsc:=av gr) 7 bY.nd ["way", "names", "standing", "last", "stands", "out", "name", "owners"] ["letter"] 1 [] rfl rfl (ae 4) (fun cl C s₀ H₀ ex=>⟨aZ 0 (show (["letter"]:List Str).Nodup from by decide +kernel),bx,au (ae 0) (aF rfl T.bX)⟩) rfl rfl (by decide +kernel)) (ak (aC 6 bY.nd (ao (xn T) hr rfl (aa (ae 1) (aa (ae 7) (aa (ae 6) (ai)))))) (ax (eu (le_app (ae 5) (Nm (ae 4) (Fx hu (ae 7) (ae 6))))))))) (ax (aE (aO (aa (aR aJ aY rfl T.a9 rfl (aa (ae 5) (ai))) (aa (aR aJ aY rfl T.a9 rfl (aa (ae 4) (ai))) (aa (ae 6) (ai))))))))))
theorem Af:aI ["way", "names", "standing", "last"] ["way", "names", "standing", "last"] (av sE):=by walk_at "sc"
theorem C8 (T:Txt w.params K mg t):aQ P w K mg base 3 "let_out" ["way", "names", "standing", "last"] L3.fq:=aK T.CD T.Di Af L3.vj L3.zm (fun _ _ _ _ _ _ _ _=>by walk_at "b4") fun _ _ _ _ _ _ hr hu=>
  ak (bS (lt_eq hu (au (ae 0) (aF rfl T.MP)) (le_str)) (ax (aE (ao (qi T) hr rfl (aa (ae 0) (aa (ae 1) (aa (ae 2) (aa (ae 3) (ai)))))))) (a5)) (ax (aE (aO (aa (aR aJ aY rfl T.a9 rfl (aa (i7 (ae 2) (kb) (eS (au (ae 0) (aF rfl T.An)))) (ai))) (aa (aR aJ aY rfl T.a9 rfl (aa (i7 (ae 2) (eS (au (ae 0) (aF rfl T.An))) (kb)) (ai))) (aa (le_str) (ai)))))))
theorem i5:aI ["grid", "sender", "first"] ["grid", "sender"] (av jq):=by walk_at "sc"
theorem qo (T:Txt w.params K mg t):aQ P w K mg base 5 "begun_sender" ["grid", "sender"] L3.bZ:=aK T.pL T.rf i5 L3.mI L3.nZ (fun _ _ _ _ _ _ _ _=>by walk_at "b2") fun _ _ _ _ _ _ hr hu=>
  ak (aC 2 i5.nd (ao (AV T) hr rfl (aa (au (ae 1) (aF rfl T.Ib)) (aa (ae 0) (ai))))) (ax (aE (aO (aa (au (ae 1) (aF rfl T.bX)) (aa (au (ae 1) (aF rfl T.JV)) (aa (au (ae 2) (le_int)) (aa (au (ae 2) (le_int)) (aa (le_int) (aa (au (ae 1) (aF rfl T.OC)) (aa (aO (ai)) (aa (aO (ai)) (aa (le_int) (aa (le_int) (aa (le_int) (ai)))))))))))))))
theorem vH:aI ["plan", "ways"] ["plan"] (av oG):=by walk_at "sc"
theorem Ks (T:Txt w.params K mg t):aQ P w K mg base 6 "begun" ["plan"] L3.h9:=aK T.Jt T.JY vH L3.Cv L3.E9 (fun _ _ _ _ _ _ _ _=>by walk_at "b1") fun _ _ _ _ _ _ hr hu=>
  ak (aC 1 vH.nd (aR aJ aY rfl T.a9 rfl (aa (bz (fsc:=av oG) ["plan", "ways"] ["way"] 1 [] rfl rfl (bB (au (ae 0) (aF rfl T.uR))) (fun cl C s₀ H₀ ex=>⟨aZ 0 (show (["way"]:List Str).Nodup from by decide +kernel),bx,aO (aa (aO (ai)) (aa (aO (ai)) (aa (le_str) (ai))))⟩) rfl rfl (by decide +kernel)) (ai)))) (ax (aE (aO (aa (ae 1) (aa (aR aJ aY rfl T.a9 rfl (aa (bz (fsc:=av oG) ["plan", "ways"] ["sender", "plan"] 1 [0] rfl rfl (bB (au (ae 0) (aF rfl T.tJ))) (fun cl C s₀ H₀ ex=>⟨aZ 0 (show (["sender", "plan"]:List Str).Nodup from by decide +kernel),bx,ao (qo T) hr rfl (aa (au (ae 1) (aF rfl T.Ip)) (aa (ae 0) (ai)))⟩) rfl rfl (by decide +kernel)) (ai))) (ai))))))
theorem gh:aI ["state", "name", "count", "way"] ["state", "name"] (av jG):=by walk_at "sc"
theorem wW (T:Txt w.params K mg t):aQ P w K mg base 1 "under_way" ["state", "name"] L3.dz:=aK T.vG T.xX gh L3.rZ L3.ui (fun _ _ _ _ _ _ _ _=>by walk_at "b2") fun _ _ _ _ _ _ hr hu=>
  ak (aC 2 gh.nd (le_int)) (ak (gw PassesOwn.never rfl (bB (au (ae 0) (aF rfl T.lg))) (gM 3 gh.nd) (ax (CQ 2 gh.nd (aX a6 bF rfl T.dQ rfl (aa (bz (fsc:=av jG) ["state", "name", "count", "way"] ["letter", "name"] 1 [1] rfl rfl (bB (aH (au (ae 3) (aF rfl T.wq)) (au (ae 3) (aF rfl T.oW)))) (fun cl C s₀ H₀ ex=>⟨aZ 0 (show (["letter", "name"]:List Str).Nodup from by decide +kernel),fU (lt_eq hu (au (ae 0) (aF rfl T.bX)) (ae 1)),ae 0⟩) rfl rfl (by decide +kernel)) (ai)))))) (ax (aE (ae 2))))
theorem wu:aI ["kept", "places"] ["kept", "places"] (av qW):=by walk_at "sc"
theorem yF (T:Txt w.params K mg t):aQ P w K mg base 1 "new_ones" ["kept", "places"] L3.eE:=aK T.zG T.zg wu L3.uI L3.wN (fun _ _ _ _ _ _ _ _=>by walk_at "b2") fun _ _ _ _ _ _ hr hu=>
  ax (aE (iX (nH (au (ae 0) (aF rfl T.rD)) (dh)) (ae 1) (aX (DG rfl) GL rfl T.Rk rfl (aa (ae 1) (aa (au (ae 0) (aF rfl T.rD)) (ai))))))
theorem eJ:aI ["kept", "places", "old", "count", "first", "left", "filled"] ["kept", "places"] (av qh):=by walk_at "sc"
theorem AH (T:Txt w.params K mg t):aQ P w K mg base 2 "sent_off" ["kept", "places"] L3.eK:=aK T.Aj T.zJ eJ L3.tX L3.wX (fun _ _ _ _ _ _ _ _=>by walk_at "b2") fun _ _ _ _ _ _ hr hu=>
  ak (aC 2 eJ.nd (i7 (au (ae 0) (aF rfl T.ve)) (kb) (eS (ae 1)))) (ak (aC 3 eJ.nd (ao (yF T) hr rfl (aa (ae 0) (aa (fQ (ae 1) (aX a6 bF rfl T.dQ rfl (aa (ae 2) (ai)))) (ai))))) (ak (aC 4 eJ.nd (au (ae 0) (aF rfl T.AJ))) (ak (aC 5 eJ.nd (iX (nH (au (ae 0) (aF rfl T.rD)) (dh)) (dh) (fQ (au (ae 0) (aF rfl T.rD)) (ae 3)))) (ak (aC 6 eJ.nd (aH (aH (i7 (ae 0) (kb) (eS (aF rfl T.AJ))) (aO (aa (aH (ae 4) (ae 3)) (aa (ae 5) (aa (i7 (au (ae 0) (aF rfl T.ve)) (eS (aX a6 bF rfl T.dQ rfl (aa (ae 2) (ai)))) (kb)) (ai)))))) (i7 (ae 0) (eS (aF rfl T.pR)) (kb)))) (ax (aE (aO (aa (ae 6) (aa (aH (ae 2) (JZ rfl rfl T.a9 rfl T.lW (ae 4) (aH (ae 4) (ae 3)))) (ai))))))))))
theorem iq:aI ["grid", "sender", "kept", "state", "heard", "told", "again", "ready"] ["grid", "sender", "kept", "state"] (av vV):=by walk_at "sc"
theorem Ed (T:Txt w.params K mg t):aQ P w K mg base 6 "beaten" ["grid", "sender", "kept", "state"] L3.gk:=aK T.FX T.EH iq L3.y3 L3.Ds (fun _ _ _ _ _ _ _ _=>by walk_at "b4") fun _ _ _ _ _ _ hr hu=>
  ak (bS (sF hu (au (ae 2) (aF rfl T.HS)) (le_int)) (ax (aE (aO (aa (ae 2) (aa (aO (ai)) (ai)))))) (a5)) (ak (aC 4 iq.nd (aO (aa (au (ae 2) (aF rfl T.Gr)) (aa (au (ae 2) (aF rfl T.wQ)) (aa (aX a6 bF rfl T.dQ rfl (aa (au (ae 2) (aF rfl T.pR)) (ai))) (aa (au (ae 2) (aF rfl T.FJ)) (ai))))))) (ak (aC 5 iq.nd (ao (zR T) hr rfl (aa (au (ae 1) (aF rfl T.Ib)) (aa (ae 0) (aa (au (ae 2) (aF rfl T.vn)) (aa (au (ae 2) (aF rfl T.Ki)) (aa (ae 4) (ai)))))))) (ak (aC 6 iq.nd (aR aJ aY rfl T.a9 rfl (aa (xK rfl T.qM rfl (aa (aH (au (ae 2) (aF rfl T.ve)) (au (ae 2) (aF rfl T.pR))) (ai))) (ai)))) (ak (aC 7 iq.nd (aO (aa (au (ae 2) (aF rfl T.bX)) (aa (au (ae 2) (aF rfl T.HS)) (aa (au (ae 5) (le_int)) (aa (au (ae 5) (le_int)) (aa (au (ae 2) (aF rfl T.AJ)) (aa (au (ae 2) (aF rfl T.rD)) (aa (ae 6) (aa (aO (ai)) (aa (le_int) (aa (le_int) (aa (le_int) (ai)))))))))))))) (ax (aE (ao (AH T) hr rfl (aa (ae 7) (aa (aX (tG rfl) xM rfl T.BA rfl (aa (le_int) (aa (fQ (ao (zN T) hr rfl (aa (au (ae 5) (le_int)) (ai))) (ao (wW T) hr rfl (aa (ae 3) (aa (au (ae 2) (aF rfl T.bX)) (ai))))) (ai)))) (ai))))))))))
theorem cJ:aI ["senders", "numbers", "sent", "turn", "sender", "own"] ["senders", "numbers"] (av fP):=by walk_at "sc"
theorem oj (T:Txt w.params K mg t):aQ P w K mg base 1 "sent_in_order" ["senders", "numbers"] L3.bQ:=aK T.oh T.ow cJ L3.lT L3.mE (fun _ _ _ _ _ _ _ _=>by walk_at "b2") fun _ _ _ _ _ _ hr hu=>
  ak (aC 2 cJ.nd (iV (ai))) (ak (gw PassesOwn.never rfl (jV rfl T.lW (Cc rfl rfl T.BA (bz (fsc:=av fP) ["senders", "numbers", "sent", "turn", "sender", "own"] ["own"] 1 [] rfl rfl (bB (ae 1)) (fun cl C s₀ H₀ ex=>⟨aZ 0 (show (["own"]:List Str).Nodup from by decide +kernel),bx,aX a6 bF rfl T.dQ rfl (aa (ae 0) (ai))⟩) rfl rfl (by decide +kernel)) (le_int))) (gM 3 cJ.nd) (ax (gw PassesOwn.never rfl (iN rfl T.qX (aa (ae 0) (aa (ae 1) (ai)))) (mH rfl (ck 4 cJ.nd (ck 5 cJ.nd (iO)))) (ax (bS (lU (ae 3) (aX a6 bF rfl T.dQ rfl (aa (ae 5) (ai)))) (ax (eu (le_app (ae 2) (aO (aa (au (au (ae 4) (aF rfl T.FH)) (le_int)) (aa (aO (aa (au (ae 4) (aF rfl T.bX)) (aa (au (ae 5) (ae 3)) (aa (le_int) (aa (le_int) (aa (le_int) (ai))))))) (ai))))))) (a5)))))) (ax (aE (uF (ae 2)))))
theorem j2:aI ["way", "names", "kept", "sent", "came", "held", "told"] ["way", "names", "kept", "sent"] (av qF):=by walk_at "sc"
theorem GG (T:Txt w.params K mg t):aQ P w K mg base 4 "passed" ["way", "names", "kept", "sent"] L3.gn:=aK T.Ih T.F0 j2 L3.y9 L3.Cw (fun _ _ _ _ _ _ _ _=>by walk_at "b4") fun _ _ _ _ _ _ hr hu=>
  ak (aC 4 j2.nd (aH (au (ae 2) (aF rfl T.wq)) (aR aJ aY rfl T.a9 rfl (aa (bz (fsc:=av qF) ["way", "names", "kept", "sent", "came", "held", "told"] ["first", "letter", "way"] 2 [0] rfl rfl (bB (ae 3)) (fun cl C s₀ H₀ ex=>⟨gD rfl (bA 0 (show (["first", "letter", "way"]:List Str).Nodup from by decide +kernel) (bA 1 (show (["first", "letter", "way"]:List Str).Nodup from by decide +kernel) (fH))),fU (lt_eq hu (ae 0) (au (ae 2) (aF rfl T.bX))),ae 1⟩) rfl rfl (by decide +kernel)) (ai))))) (ak (aC 5 j2.nd (ao (zU T) hr rfl (aa (ae 0) (aa (au (ae 2) (aF rfl T.oW)) (aa (ae 4) (ai)))))) (ak (aC 6 j2.nd (ao (C8 T) hr rfl (aa (ae 0) (aa (ae 1) (aa (au (ae 5) (le_int)) (aa (au (ae 2) (aF rfl T.Ou)) (ai))))))) (ax (aE (aO (aa (ae 4) (aa (au (ae 5) (le_int)) (aa (au (ae 6) (le_int)) (aa (au (ae 6) (le_int)) (aa (au (ae 6) (le_int)) (ai)))))))))))
theorem kc:aI ["roads", "letter", "road"] ["roads", "letter"] (av lN):=by walk_at "sc"
theorem i4 (T:Txt w.params K mg t):aQ P w K mg base 1 "way_behind" ["roads", "letter"] L3.bP:=aK T.t9 T.uY kc L3.pP L3.rV (fun _ _ _ _ _ _ _ _=>by walk_at "b2") fun _ _ _ _ _ _ hr hu=>
  ak (aC 2 kc.nd (bH hu (ae 0) (au (ae 1) (aF rfl T.bX)))) (ax (aE (iX (lU (aH (au (ae 1) (aF rfl T.B1)) (le_int)) (aX a6 bF rfl T.dQ rfl (aa (ae 2) (ai)))) (au (ae 2) (aH (au (ae 1) (aF rfl T.B1)) (le_int))) (dh))))
theorem cP:aI ["way", "roads", "went", "events", "place", "letter", "word"] ["way", "roads", "went"] (av nj):=by walk_at "sc"
theorem yn (T:Txt w.params K mg t):aQ P w K mg base 2 "events_of" ["way", "roads", "went"] L3.dr:=aK T.we T.xm cP L3.rS L3.uA (fun _ _ _ _ _ _ _ _=>by walk_at "b3") fun _ _ _ _ _ _ hr hu=>
  ak (aC 3 cP.nd (iV (ai))) (ak (gw PassesOwn.never rfl (Jv rfl T.yo (aa (au (ae 2) (le_int)) (ai))) (mH rfl (ck 4 cP.nd (ck 5 cP.nd (iO)))) (ak (aC 6 cP.nd (iX (lU (ae 4) (fQ (aX a6 bF rfl T.dQ rfl (aa (au (ae 2) (le_int)) (ai))) (aX a6 bF rfl T.dQ rfl (aa (au (ae 2) (le_int)) (ai))))) (le_str) (le_str))) (ax (eu (le_app (ae 3) (aO (aa (ae 6) (aa (au (ae 5) (aF rfl T.bX)) (aa (au (ae 5) (aF rfl T.jz)) (aa (au (ae 0) (aF rfl T.bX)) (ai))))))))))) (ak (gw PassesOwn.never rfl (bB (au (ae 2) (le_int))) (gM 5 cP.nd) (ak (aC 6 cP.nd (iX (nH (ao (i4 T) hr rfl (aa (ae 1) (aa (ae 5) (ai)))) (dh)) (le_str) (le_str))) (ax (eu (le_app (ae 3) (aO (aa (ae 6) (aa (au (ae 5) (aF rfl T.bX)) (aa (au (ae 5) (aF rfl T.jz)) (aa (au (ae 0) (aF rfl T.bX)) (ai))))))))))) (ax (aE (uF (ae 3))))))
theorem JN:aI ["letter", "hops"] ["letter", "hops"] (av Hl):=by walk_at "sc"
theorem HW (T:Txt w.params K mg t):aQ P w K mg base 1 "aged" ["letter", "hops"] L3.iE:=aK T.Pp T.NL JN L3.Hq L3.Je (fun _ _ _ _ _ _ _ _=>by walk_at "b2") fun _ _ _ _ _ _ hr hu=>
  ax (aE (aO (aa (au (ae 0) (aF rfl T.bX)) (aa (au (ae 0) (aF rfl T.jz)) (aa (aH (au (ae 0) (aF rfl T.MK)) (le_int)) (aa (aH (au (ae 0) (aF rfl T.B1)) (ae 1)) (aa (au (ae 0) (aF rfl T.jQ)) (ai))))))))
theorem kT:aI ["way", "roads", "went", "out", "coming"] ["way", "roads", "went", "out"] (av gH):=by walk_at "sc"
theorem wx (T:Txt w.params K mg t):aQ P w K mg base 2 "way_after" ["way", "roads", "went", "out"] L3.dA:=aK T.xi T.vy kT L3.r9 L3.uE (fun _ _ _ _ _ _ _ _=>by walk_at "b4") fun _ _ _ _ _ _ hr hu=>
  ak (mx (fsc:=av gH) 4 kT.nd ["way", "roads", "went", "out", "coming"] ["letter", "roads", "way"] 1 [1,0] rfl rfl (ae 3) (fun cl C s₀ H₀ ex=>⟨aZ 0 (show (["letter", "roads", "way"]:List Str).Nodup from by decide +kernel),fU (lt_eq hu (ao (i4 T) hr rfl (aa (ae 1) (aa (ae 0) (ai)))) (au (ae 2) (aF rfl T.bX))),ao (HW T) hr rfl (aa (ae 0) (aa (le_int) (ai)))⟩) rfl rfl (by decide +kernel)) (ax (aE (aO (aa (aR aJ aY rfl T.a9 rfl (aa (ae 4) (ai))) (aa (aR aJ aY rfl T.a9 rfl (aa (bz (fsc:=av gH) ["way", "roads", "went", "out", "coming"] ["letter"] 1 [] rfl rfl (bB (au (ae 2) (le_int))) (fun cl C s₀ H₀ ex=>⟨aZ 0 (show (["letter"]:List Str).Nodup from by decide +kernel),bx,ao (HW T) hr rfl (aa (ae 0) (aa (le_int) (ai)))⟩) rfl rfl (by decide +kernel)) (ai))) (aa (au (ae 2) (le_int)) (ai)))))))
theorem uN:aI ["sender", "due"] ["sender", "due"] (av nA):=by walk_at "sc"
theorem yd (T:Txt w.params K mg t):aQ P w K mg base 1 "due_after" ["sender", "due"] L3.dE:=aK T.wa T.xU uN L3.sk L3.uc (fun _ _ _ _ _ _ _ _=>by walk_at "b2") fun _ _ _ _ _ _ hr hu=>
  ak (bS (nH (ae 1) (dh)) (ax (aE (dh))) (a5)) (ax (aE (iX (lt_eq hu (ae 1) (le_int)) (fQ (au (ae 0) (aF rfl T.NF)) (le_int)) (fQ (ae 1) (le_int)))))
theorem bI:aI ["sender", "kept", "lost", "taken", "numbers", "own", "marked", "wait", "heard", "start"] ["sender", "kept", "lost", "taken"] (av cL):=by walk_at "sc"
theorem rg (T:Txt w.params K mg t):aQ P w K mg base 2 "sender_after" ["sender", "kept", "lost", "taken"] L3.b7:=aK T.o8 T.pU bI L3.ma L3.oa (fun _ _ _ _ _ _ _ _=>by walk_at "b4") fun _ _ _ _ _ _ hr hu=>
  ak (mx (fsc:=av cL) 4 bI.nd ["sender", "kept", "lost", "taken", "numbers", "own", "marked", "wait", "heard", "start"] ["letter", "sender"] 1 [0] rfl rfl (ae 2) (fun cl C s₀ H₀ ex=>⟨aZ 0 (show (["letter", "sender"]:List Str).Nodup from by decide +kernel),fU (lt_eq hu (au (ae 0) (aF rfl T.bX)) (au (ae 1) (aF rfl T.bX))),au (ae 0) (aF rfl T.jz)⟩) rfl rfl (by decide +kernel)) (ak (eP (fsc:=av cL) 5 bI.nd ["sender", "kept", "lost", "taken", "numbers", "own", "marked", "wait", "heard", "start"] ["letter", "sender"] 1 [0] rfl rfl (bB (ae 3)) (fun cl C s₀ H₀ ex=>⟨aZ 0 (show (["letter", "sender"]:List Str).Nodup from by decide +kernel),fU (lt_eq hu (au (ae 0) (aF rfl T.bX)) (au (ae 1) (aF rfl T.bX))),ae 0⟩) rfl rfl (by decide +kernel)) (ak (aC 6 bI.nd (aX (Df rfl) Hy rfl T.RH rfl (aa (bz (fsc:=av cL) ["sender", "kept", "lost", "taken", "numbers", "own", "marked", "wait", "heard", "start"] ["letter"] 1 [] rfl rfl (bB (ae 5)) (fun cl C s₀ H₀ ex=>⟨aZ 0 (show (["letter"]:List Str).Nodup from by decide +kernel),bx,au (ae 0) (aF rfl T.jQ)⟩) rfl rfl (by decide +kernel)) (ai)))) (ak (aC 7 bI.nd (Cc rfl rfl T.BA (bz (fsc:=av cL) ["sender", "kept", "lost", "taken", "numbers", "own", "marked", "wait", "heard", "start"] ["letter"] 1 [] rfl rfl (bB (ae 5)) (fun cl C s₀ H₀ ex=>⟨aZ 0 (show (["letter"]:List Str).Nodup from by decide +kernel),bx,fQ (au (ae 0) (aF rfl T.MK)) (au (ae 0) (aF rfl T.B1))⟩) rfl rfl (by decide +kernel)) (le_int))) (ak (aC 8 bI.nd (aO (aa (fQ (aH (au (ae 1) (aF rfl T.Gr)) (aX a6 bF rfl T.dQ rfl (aa (ae 5) (ai)))) (ae 6)) (aa (aH (au (ae 1) (aF rfl T.wQ)) (ae 6)) (aa (aX (tG rfl) xM rfl T.BA rfl (aa (au (ae 1) (aF rfl T.FJ)) (aa (ae 7) (ai)))) (ai)))))) (ak (aC 9 bI.nd (aO (aa (au (ae 1) (aF rfl T.bX)) (aa (ao (yd T) hr rfl (aa (ae 0) (aa (au (ae 1) (aF rfl T.HS)) (ai)))) (ai))))) (ax (aE (aH (aH (aH (ae 9) (i7 (ae 1) (eS (aF rfl T.vn)) (eS (aF rfl T.pR)))) (aO (aa (aR aJ aY rfl T.a9 rfl (aa (xK rfl T.qM rfl (aa (aH (au (ae 1) (aF rfl T.pR)) (aR aJ aY rfl T.a9 rfl (aa (ae 4) (ai)))) (ai))) (ai))) (ai)))) (ae 8)))))))))
theorem bu:aI ["plan", "state", "senders", "names", "roads", "beats", "sent", "went", "events", "lost", "out", "way", "told", "taken", "ways", "after"] ["plan", "state"] (av cK):=by walk_at "sc"
theorem mN (T:Txt w.params K mg t):aQ P w K mg base 7 "stepped" ["plan", "state"] L3.dg:=aK T.Dl T.Dy bu L3.wJ L3.A1 (fun _ _ _ _ _ _ _ _=>by walk_at "b2") fun _ _ _ _ _ _ hr hu=>
  ak (aC 2 bu.nd (au (ae 0) (aF rfl T.tJ))) (ak (aC 3 bu.nd (aR aJ aY rfl T.a9 rfl (aa (bz (fsc:=av cK) ["plan", "state", "senders", "names", "roads", "beats", "sent", "went", "events", "lost", "out", "way", "told", "taken", "ways", "after"] ["sender"] 1 [] rfl rfl (bB (ae 2)) (fun cl C s₀ H₀ ex=>⟨aZ 0 (show (["sender"]:List Str).Nodup from by decide +kernel),bx,au (ae 0) (aF rfl T.bX)⟩) rfl rfl (by decide +kernel)) (ai)))) (ak (aC 4 bu.nd (aR (oV rfl) wZ rfl T.Ey rfl (aa (bz (fsc:=av cK) ["plan", "state", "senders", "names", "roads", "beats", "sent", "went", "events", "lost", "out", "way", "told", "taken", "ways", "after"] ["sender"] 1 [] rfl rfl (bB (ae 2)) (fun cl C s₀ H₀ ex=>⟨aZ 0 (show (["sender"]:List Str).Nodup from by decide +kernel),bx,aO (aa (au (ae 0) (aF rfl T.bX)) (aa (au (ae 0) (aF rfl T.FH)) (ai)))⟩) rfl rfl (by decide +kernel)) (ai)))) (ak (eP (fsc:=av cK) 5 bu.nd ["plan", "state", "senders", "names", "roads", "beats", "sent", "went", "events", "lost", "out", "way", "told", "taken", "ways", "after"] ["sender", "kept", "state", "plan"] 2 [1,0] rfl rfl (iN rfl T.qX (aa (ae 2) (aa (au (ae 1) (aF rfl T.nW)) (ai)))) (fun cl C s₀ H₀ ex=>⟨gD rfl (bA 0 (show (["sender", "kept", "state", "plan"]:List Str).Nodup from by decide +kernel) (bA 1 (show (["sender", "kept", "state", "plan"]:List Str).Nodup from by decide +kernel) (fH))),bx,ao (Ed T) hr rfl (aa (au (ae 3) (aF rfl T.Ip)) (aa (ae 0) (aa (ae 1) (aa (ae 2) (ai)))))⟩) rfl rfl (by decide +kernel)) (ak (aC 6 bu.nd (ao (oj T) hr rfl (aa (ae 2) (aa (bz (fsc:=av cK) ["plan", "state", "senders", "names", "roads", "beats", "sent", "went", "events", "lost", "out", "way", "told", "taken", "ways", "after"] ["kept", "numbers"] 2 [] rfl rfl (bB (ae 5)) (fun cl C s₀ H₀ ex=>⟨gD rfl (bA 0 (show (["kept", "numbers"]:List Str).Nodup from by decide +kernel) (bA 1 (show (["kept", "numbers"]:List Str).Nodup from by decide +kernel) (fH))),bx,ae 1⟩) rfl rfl (by decide +kernel)) (ai))))) (ak (eP (fsc:=av cK) 7 bu.nd ["plan", "state", "senders", "names", "roads", "beats", "sent", "went", "events", "lost", "out", "way", "told", "taken", "ways", "after"] ["way", "kept", "names", "sent"] 2 [3,6] rfl rfl (iN rfl T.qX (aa (au (ae 0) (aF rfl T.uR)) (aa (au (ae 1) (aF rfl T.lg)) (ai)))) (fun cl C s₀ H₀ ex=>⟨gD rfl (bA 0 (show (["way", "kept", "names", "sent"]:List Str).Nodup from by decide +kernel) (bA 1 (show (["way", "kept", "names", "sent"]:List Str).Nodup from by decide +kernel) (fH))),bx,ao (GG T) hr rfl (aa (ae 0) (aa (ae 2) (aa (ae 1) (aa (ae 3) (ai)))))⟩) rfl rfl (by decide +kernel)) (ak (FK (fsc:=av cK) 8 bu.nd ["plan", "state", "senders", "names", "roads", "beats", "sent", "went", "events", "lost", "out", "way", "told", "taken", "ways", "after"] ["first", "letter"] 2 [] rfl rfl (bB (ae 6)) (fun cl C s₀ H₀ ex=>⟨gD rfl (bA 0 (show (["first", "letter"]:List Str).Nodup from by decide +kernel) (bA 1 (show (["first", "letter"]:List Str).Nodup from by decide +kernel) (fH))),bx,aO (aa (le_str) (aa (au (ae 1) (aF rfl T.bX)) (aa (au (ae 1) (aF rfl T.jz)) (aa (ae 0) (ai)))))⟩) rfl rfl (by decide +kernel)) (ak (aC 9 bu.nd (iV (ai))) (ak (aC 10 bu.nd (iV (ai))) (ak (gw PassesOwn.never rfl (iN rfl T.qX (aa (au (ae 0) (aF rfl T.uR)) (aa (ae 7) (ai)))) (mH rfl (ck 11 bu.nd (ck 12 bu.nd (iO)))) (ak (eu (t8 (ae 8) (ao (yn T) hr rfl (aa (ae 11) (aa (ae 4) (aa (ae 12) (ai))))))) (ak (eu (t8 (ae 9) (au (ae 12) (le_int)))) (ax (eu (t8 (ae 10) (au (ae 12) (le_int)))))))) (ak (aC 13 bu.nd (Dk (fsc:=av cK) ["plan", "state", "senders", "names", "roads", "beats", "sent", "went", "events", "lost", "out", "way", "told", "taken", "ways", "after"] ["letter", "roads"] 1 [4] rfl rfl (ae 10) (fun cl C s₀ H₀ ex=>⟨aZ 0 (show (["letter", "roads"]:List Str).Nodup from by decide +kernel),fU (nH (ao (i4 T) hr rfl (aa (ae 1) (aa (ae 0) (ai)))) (dh)),ae 0⟩) rfl rfl (by decide +kernel))) (ak (eP (fsc:=av cK) 14 bu.nd ["plan", "state", "senders", "names", "roads", "beats", "sent", "went", "events", "lost", "out", "way", "told", "taken", "ways", "after"] ["way", "told", "roads", "out"] 2 [4,10] rfl rfl (iN rfl T.qX (aa (au (ae 0) (aF rfl T.uR)) (aa (ae 7) (ai)))) (fun cl C s₀ H₀ ex=>⟨gD rfl (bA 0 (show (["way", "told", "roads", "out"]:List Str).Nodup from by decide +kernel) (bA 1 (show (["way", "told", "roads", "out"]:List Str).Nodup from by decide +kernel) (fH))),bx,ao (wx T) hr rfl (aa (ae 0) (aa (ae 2) (aa (ae 1) (aa (ae 3) (ai)))))⟩) rfl rfl (by decide +kernel)) (ak (eP (fsc:=av cK) 15 bu.nd ["plan", "state", "senders", "names", "roads", "beats", "sent", "went", "events", "lost", "out", "way", "told", "taken", "ways", "after"] ["sender", "beat", "lost", "taken"] 2 [9,13] rfl rfl (iN rfl T.qX (aa (ae 2) (aa (ae 5) (ai)))) (fun cl C s₀ H₀ ex=>⟨gD rfl (bA 0 (show (["sender", "beat", "lost", "taken"]:List Str).Nodup from by decide +kernel) (bA 1 (show (["sender", "beat", "lost", "taken"]:List Str).Nodup from by decide +kernel) (fH))),bx,ao (rg T) hr rfl (aa (ae 0) (aa (au (ae 1) (le_int)) (aa (ae 2) (aa (ae 3) (ai)))))⟩) rfl rfl (by decide +kernel)) (ax (aE (aO (aa (aO (aa (aR aJ aY rfl T.a9 rfl (aa (ae 14) (ai))) (aa (aR aJ aY rfl T.a9 rfl (aa (ae 15) (ai))) (ai)))) (aa (uF (ae 8)) (ai))))))))))))))))))
theorem mC:aI ["plan", "many", "state", "rows", "turn", "told"] ["plan", "many"] (av Mr):=by walk_at "sc"
theorem Rv (T:Txt w.params K mg t):aQ P w K mg base 8 "run" ["plan", "many"] my:=aK T.RM T.QY mC JC Ol (fun _ _ _ _ _ _ _ _=>by walk_at "b2") fun _ _ _ _ _ _ hr hu=>
  ak (aC 2 mC.nd (ao (Ks T) hr rfl (aa (ae 0) (ai)))) (ak (aC 3 mC.nd (iV (ai))) (ak (gw PassesOwn.never rfl (jV rfl T.lW (ae 1)) (gM 4 mC.nd) (ak (aC 5 mC.nd (ao (mN T) hr rfl (aa (ae 0) (aa (ae 2) (ai))))) (ak (aC 2 mC.nd (au (ae 5) (le_int))) (ax (eu (le_app (ae 3) (au (ae 5) (le_int)))))))) (ax (aE (aO (aa (ae 2) (aa (uF (ae 3)) (ai))))))))
theorem xI:aI ["_law_script"] ["_law_script"] (av pE):=by walk_at "sc"
theorem AF (T:Txt w.params K mg t):aQ P w K mg base 1 "_law_pot" ["_law_script"] L3.j3:=aK T.yQ T.zu xI L3.HQ L3.I0 (fun _ _ _ _ _ _ _ _=>by walk_at "b1") fun _ _ _ _ _ _ hr hu=>
  ax (aE (IK (jT (IB rfl rfl T.mJ rfl (aa (ae 0) (ai))) (jT (le_int) (jT (le_int) (jT (le_int) (jT (le_int) (jT (le_int) (JQ)))))))))
theorem jL:aI ["_law_number", "_law_turn", "_law_one", "_law_two"] ["_law_number", "_law_turn"] (av oX):=by walk_at "sc"
theorem qI (T:Txt w.params K mg t):aQ P w K mg base 1 "_law_mix" ["_law_number", "_law_turn"] L3.gf:=aK T.yD T.Ad jL L3.El L3.Ju (fun _ _ _ _ _ _ _ _=>by walk_at "b2") fun _ _ _ _ _ _ hr hu=>
  ak (aC 2 jL.nd (iG (le_mul (aH (aH (iG (ae 0) (le_int)) (le_mul (le_int) (ae 1))) (le_int)) (le_int)) (le_int))) (ak (aC 3 jL.nd (iG (le_mul (ae 2) (ae 2)) (le_int))) (ax (aE (iG (le_mul (aH (ae 3) (ae 1)) (le_int)) (le_int)))))
theorem iY:aI ["_law_pot_here", "_law_many", "_law_cell", "_law_digit"] ["_law_pot_here", "_law_many"] (av nk):=by walk_at "sc"
theorem aB (T:Txt w.params K mg t):aQ P w K mg base 2 "_law_take" ["_law_pot_here", "_law_many"] iU:=aK T.w8 T.xg iY rL uf (fun _ _ _ _ _ _ _ _=>by walk_at "b2") fun _ _ _ _ _ _ hr hu=>
  ak (kK hu (ae 0) (le_str) (le_int)) (ak (bS (LW.lt (zL (LW.lt (wD (lt_eq hu (bH hu (ae 0) (le_str)) (le_int)) (qd (lt_eq hu (bH hu (ae 0) (le_str)) (le_int))))) (tU (lU (bH hu (ae 0) (le_str)) (aX a6 bF rfl T.dQ rfl (aa (bH hu (ae 0) (le_str)) (ai))))))) (ak (aC 2 iY.nd (aX ri uQ rfl T.Hh rfl (aa (au (bH hu (ae 0) (le_str)) (bH hu (ae 0) (le_str))) (ai)))) (ak (kK hu (ae 0) (le_str) (le_int)) (ak (lV hu (ae 0) (le_str) (le_mul (ae 2) (aR Cp J4 rfl T.MA rfl (aa (QF (ae 2) (le_pow (le_int) (le_int))) (ai))))) (ak (lV hu (ae 0) (le_str) (le_int)) (ax (lV hu (ae 0) (le_str) (ao (qI T) hr rfl (aa (aH (bH hu (ae 0) (le_str)) (ae 2)) (aa (bH hu (ae 0) (le_str)) (ai)))))))))) (a5)) (ak (bS (LW.lt (zL (ni (bH hu (ae 0) (le_str)) (le_int)) (tU (lU (bH hu (ae 0) (le_str)) (le_int))))) (ak (kK hu (ae 0) (le_str) (le_int)) (ak (aC 3 iY.nd (iG (bH hu (ae 0) (le_str)) (ae 1))) (ak (lV hu (ae 0) (le_str) (jB (bH hu (ae 0) (le_str)) (ae 1))) (ax (aE (ae 3)))))) (a5)) (ak (lV hu (ae 0) (le_str) (ao (qI T) hr rfl (aa (bH hu (ae 0) (le_str)) (aa (bH hu (ae 0) (le_str)) (ai))))) (ax (aE (iG (jB (bH hu (ae 0) (le_str)) (le_int)) (ae 1)))))))
theorem fz:aI ["_law_pot_here", "_law_many", "_law_words", "_law_first", "_law_step"] ["_law_pot_here", "_law_many"] (av iL):=by walk_at "sc"
theorem l4 (T:Txt w.params K mg t):aQ P w K mg base 3 "_law_names" ["_law_pot_here", "_law_many"] L3.fh:=aK T.u6 T.uX fz L3.Ae L3.Cs (fun _ _ _ _ _ _ _ _=>by walk_at "b2") fun _ _ _ _ _ _ hr hu=>
  ak (aC 2 fz.nd (eA (aa (le_str) (aa (le_str) (aa (le_str) (aa (le_str) (aa (le_str) (aa (le_str) (aa (le_str) (aa (le_str) (aa (le_str) (aa (le_str) (aa (le_str) (aa (le_str) (aa (le_str) (aa (le_str) (aa (le_str) (aa (le_str) (ai))))))))))))))))))) (ak (u7 (aO (aa (ao (aB T) hr rfl (aa (ae 0) (aa (le_int) (ai)))) (aa (aH (le_int) (ao (aB T) hr rfl (aa (ae 0) (aa (le_int) (ai))))) (ai)))) (mH rfl (ck 3 fz.nd (ck 4 fz.nd (iO))))) (ax (aE (bz (fsc:=av iL) ["_law_pot_here", "_law_many", "_law_words", "_law_first", "_law_step"] ["_law_k", "_law_words", "_law_first", "_law_step"] 1 [2,3,4] rfl rfl (jV rfl T.lW (ae 1)) (fun cl C s₀ H₀ ex=>⟨aZ 0 (show (["_law_k", "_law_words", "_law_first", "_law_step"]:List Str).Nodup from by decide +kernel),bx,au (aH (ae 1) (eA (aa (le_str) (ai)))) (iG (aH (ae 2) (le_mul (ae 3) (ae 0))) (le_int))⟩) rfl rfl (by decide +kernel)))))
theorem gB:aI ["_law_top", "_law_bottom", "_law_one", "_law_other"] ["_law_top", "_law_bottom"] (av ka):=by walk_at "sc"
theorem dS (T:Txt w.params K mg t):aQ P w K mg base 1 "_law_lowest" ["_law_top", "_law_bottom"] L3.bG:=aK T.sv T.rN gB L3.AM L3.DE (fun _ _ _ _ _ _ _ _=>by walk_at "b2") fun _ _ _ _ _ _ hr hu=>
  ak (qN 2 3 rfl gB.nd (aa (ae 0) (aa (ae 1) (ai)))) (ak (rC PassesOwn.never (ni (ae 3) (le_int)) (ax (qN 2 3 rfl gB.nd (aa (ae 3) (aa (iG (ae 2) (ae 3)) (ai)))))) (ax (aE (aO (aa (jB (ae 0) (ae 2)) (aa (jB (ae 1) (ae 2)) (ai)))))))
theorem hE:aI ["_law_pot_here", "_law_low", "_law_most", "_law_bottom"] ["_law_pot_here", "_law_low", "_law_most"] (av i8):=by walk_at "sc"
theorem jb (T:Txt w.params K mg t):aQ P w K mg base 3 "_law_fraction" ["_law_pot_here", "_law_low", "_law_most"] L3.bM:=aK T.oq T.oo hE L3.rT L3.vc (fun _ _ _ _ _ _ _ _=>by walk_at "b3") fun _ _ _ _ _ _ hr hu=>
  ak (aC 3 hE.nd (au (eA (aa (le_int) (aa (le_int) (aa (le_int) (aa (le_int) (aa (le_int) (aa (le_int) (ai)))))))) (ao (aB T) hr rfl (aa (ae 0) (aa (le_int) (ai)))))) (ax (aE (ao (dS T) hr rfl (aa (aH (le_mul (ae 1) (ae 3)) (ao (aB T) hr rfl (aa (ae 0) (aa (aH (le_mul (fQ (ae 2) (ae 1)) (ae 3)) (le_int)) (ai))))) (aa (ae 3) (ai))))))
theorem b8:aI ["_law_pot_here", "_law_most", "_law_word", "_law_w", "_law_top", "_law_parts", "_law_up", "_law_down", "_law_low"] ["_law_pot_here", "_law_most"] (av mZ):=by walk_at "sc"
theorem xG (T:Txt w.params K mg t):aQ P w K mg base 4 "_law_rule" ["_law_pot_here", "_law_most"] iR:=aK T.vU T.wc b8 rX tW (fun _ _ _ _ _ _ _ _=>by walk_at "b2") fun _ _ _ _ _ _ hr hu=>
  ak (aC 2 b8.nd (au (eA (aa (le_str) (aa (le_str) (aa (le_str) (aa (le_str) (aa (le_str) (ai))))))) (ao (aB T) hr rfl (aa (ae 0) (aa (le_int) (ai)))))) (ak (qN 3 4 rfl b8.nd (aa (ao (jb T) hr rfl (aa (ae 0) (aa (le_int) (aa (ae 1) (ai))))) (aa (ao (jb T) hr rfl (aa (ae 0) (aa (le_int) (aa (ae 1) (ai))))) (ai)))) (ak (bS (ni (le_mul (au (ae 3) (le_int)) (au (ae 4) (le_int))) (le_mul (au (ae 4) (le_int)) (au (ae 3) (le_int)))) (ax (qN 3 4 rfl b8.nd (aa (ae 4) (aa (ae 3) (ai))))) (a5)) (ak (aC 5 b8.nd (aH (le_int) (ao (aB T) hr rfl (aa (ae 0) (aa (le_int) (ai)))))) (ak (aC 6 b8.nd (ao (dS T) hr rfl (aa (aH (le_int) (ao (aB T) hr rfl (aa (ae 0) (aa (le_mul (le_int) (ae 5)) (ai))))) (aa (ae 5) (ai))))) (ak (aC 7 b8.nd (ao (dS T) hr rfl (aa (aH (le_int) (ao (aB T) hr rfl (aa (ae 0) (aa (ae 5) (ai))))) (aa (aH (ae 5) (le_int)) (ai))))) (ak (bS (lt_eq hu (ae 2) (le_str)) (ax (aE (aO (aa (ae 2) (aa (ae 3) (ai)))))) (a5)) (ak (bS (lt_eq hu (ae 2) (le_str)) (ax (aE (aO (aa (ae 2) (aa (ae 3) (aa (ae 6) (aa (ae 7) (aa (ae 4) (ai))))))))) (a5)) (ak (bS (lt_eq hu (ae 2) (le_str)) (ax (aE (aO (aa (ae 2) (aa (ae 3) (aa (ao (dS T) hr rfl (aa (aH (au (ae 6) (le_int)) (au (ae 6) (le_int))) (aa (au (ae 6) (le_int)) (ai)))) (aa (ae 7) (aa (ae 4) (ai))))))))) (a5)) (ak (bS (lt_eq hu (ae 2) (le_str)) (ax (aE (aO (aa (ae 2) (aa (ae 3) (aa (ae 6) (aa (ao (dS T) hr rfl (aa (aH (le_int) (ao (aB T) hr rfl (aa (ae 0) (aa (ae 5) (ai))))) (aa (ae 5) (ai)))) (aa (ae 4) (ai))))))))) (a5)) (ak (aC 8 b8.nd (ao (aB T) hr rfl (aa (ae 0) (aa (le_int) (ai))))) (ax (aE (aO (aa (ae 2) (aa (ae 3) (aa (ae 6) (aa (ae 8) (aa (aH (ae 8) (ao (aB T) hr rfl (aa (ae 0) (aa (le_int) (ai))))) (aa (ae 4) (ai))))))))))))))))))))
theorem dF:aI ["_law_pot_here", "_law_names_here", "_law_rows", "_law_name", "_law_pace", "_law_room", "_law_mark"] ["_law_pot_here", "_law_names_here"] (av nL):=by walk_at "sc"
theorem vT (T:Txt w.params K mg t):aQ P w K mg base 3 "_law_ways" ["_law_pot_here", "_law_names_here"] L3.ip:=aK T.yy T.xW dF L3.C6 L3.E5 (fun _ _ _ _ _ _ _ _=>by walk_at "b2") fun _ _ _ _ _ _ hr hu=>
  ak (aC 2 dF.nd (iV (ai))) (ak (gw PassesOwn.never rfl (bB (ae 1)) (gM 3 dF.nd) (ak (aC 4 dF.nd (au (eA (aa (le_int) (aa (le_int) (aa (le_int) (aa (le_int) (aa (aH (le_int) (ao (aB T) hr rfl (aa (ae 0) (aa (le_int) (ai))))) (ai))))))) (ao (aB T) hr rfl (aa (ae 0) (aa (le_int) (ai)))))) (ak (aC 5 dF.nd (au (eA (aa (aH (le_int) (ao (aB T) hr rfl (aa (ae 0) (aa (le_int) (ai))))) (aa (aH (le_int) (ao (aB T) hr rfl (aa (ae 0) (aa (le_int) (ai))))) (aa (aH (le_int) (ao (aB T) hr rfl (aa (ae 0) (aa (le_int) (ai))))) (ai))))) (ao (aB T) hr rfl (aa (ae 0) (aa (le_int) (ai)))))) (ak (aC 6 dF.nd (au (eA (aa (dh) (aa (ao (aB T) hr rfl (aa (ae 0) (aa (aH (ae 5) (le_int)) (ai)))) (aa (ao (aB T) hr rfl (aa (ae 0) (aa (le_int) (ai)))) (ai))))) (ao (aB T) hr rfl (aa (ae 0) (aa (le_int) (ai)))))) (ax (eu (le_app (ae 2) (aO (aa (ae 3) (aa (ae 4) (aa (ae 5) (aa (ae 6) (aa (au (eA (aa (le_str) (aa (le_str) (ai)))) (ao (aB T) hr rfl (aa (ae 0) (aa (le_int) (ai))))) (ai)))))))))))))) (ax (aE (aR aJ aY rfl T.a9 rfl (aa (ae 2) (ai))))))
theorem df:aI ["_law_pot_here", "_law_name", "_law_ways_here", "_law_most", "_law_road", "_law_beat", "_law_many"] ["_law_pot_here", "_law_name", "_law_ways_here", "_law_most"] (av gY):=by walk_at "sc"
theorem rM (T:Txt w.params K mg t):aQ P w K mg base 5 "_law_sender" ["_law_pot_here", "_law_name", "_law_ways_here", "_law_most"] gs:=aK T.rW T.su df nP qL (fun _ _ _ _ _ _ _ _=>by walk_at "b4") fun _ _ _ _ _ _ hr hu=>
  ak (aC 4 df.nd (aR aJ aY rfl T.a9 rfl (aa (bz (fsc:=av gY) ["_law_pot_here", "_law_name", "_law_ways_here", "_law_most", "_law_road", "_law_beat", "_law_many"] ["_law_way", "_law_pot_here"] 1 [0] rfl rfl (bB (ae 2)) (fun cl C s₀ H₀ ex=>⟨aZ 0 (show (["_law_way", "_law_pot_here"]:List Str).Nodup from by decide +kernel),fU (lt_eq hu (ao (aB T) hr rfl (aa (ae 1) (aa (le_int) (ai)))) (le_int)),au (ae 0) (le_int)⟩) rfl rfl (by decide +kernel)) (ai)))) (ak (bS (lt_eq hu (aX a6 bF rfl T.dQ rfl (aa (ae 4) (ai))) (le_int)) (ax (aC 4 df.nd (aO (aa (au (au (ae 2) (ao (aB T) hr rfl (aa (ae 0) (aa (aX a6 bF rfl T.dQ rfl (aa (ae 2) (ai))) (ai))))) (le_int)) (ai))))) (a5)) (ak (aC 5 df.nd (au (eA (aa (le_int) (aa (le_int) (aa (le_int) (aa (le_int) (aa (aH (le_int) (ao (aB T) hr rfl (aa (ae 0) (aa (le_int) (ai))))) (ai))))))) (ao (aB T) hr rfl (aa (ae 0) (aa (le_int) (ai)))))) (ak (aC 6 df.nd (au (eA (aa (dh) (aa (dh) (aa (ao (aB T) hr rfl (aa (ae 0) (aa (le_int) (ai)))) (aa (ao (aB T) hr rfl (aa (ae 0) (aa (le_int) (ai)))) (ai)))))) (ao (aB T) hr rfl (aa (ae 0) (aa (le_int) (ai)))))) (ax (aE (aO (aa (ae 1) (aa (ae 4) (aa (ae 5) (aa (au (eA (aa (le_int) (aa (le_int) (aa (ao (aB T) hr rfl (aa (ae 0) (aa (le_int) (ai)))) (aa (ao (aB T) hr rfl (aa (ae 0) (aa (le_int) (ai)))) (ai)))))) (ao (aB T) hr rfl (aa (ae 0) (aa (le_int) (ai))))) (aa (ae 6) (aa (ao (xG T) hr rfl (aa (ae 0) (aa (ae 3) (ai)))) (ai)))))))))))))
theorem eT:aI ["_law_pot_here", "_law_grid", "_law_ways_here", "_law_most", "_law_names_here"] ["_law_pot_here"] (av jN):=by walk_at "sc"
theorem vD (T:Txt w.params K mg t):aQ P w K mg base 6 "_law_plan" ["_law_pot_here"] L3.hV:=aK T.xw T.vw eT L3.DQ L3.EN (fun _ _ _ _ _ _ _ _=>by walk_at "b1") fun _ _ _ _ _ _ hr hu=>
  ak (aC 1 eT.nd (au (eA (aa (le_int) (aa (le_int) (aa (le_int) (aa (aH (le_int) (ao (aB T) hr rfl (aa (ae 0) (aa (le_int) (ai))))) (ai)))))) (ao (aB T) hr rfl (aa (ae 0) (aa (le_int) (ai)))))) (ak (aC 2 eT.nd (ao (vT T) hr rfl (aa (ae 0) (aa (ao (l4 T) hr rfl (aa (ae 0) (aa (au (eA (aa (le_int) (aa (le_int) (aa (le_int) (aa (le_int) (aa (le_int) (aa (le_int) (ai)))))))) (ao (aB T) hr rfl (aa (ae 0) (aa (le_int) (ai))))) (ai)))) (ai))))) (ak (aC 3 eT.nd (au (eA (aa (le_int) (aa (le_int) (aa (le_int) (aa (le_int) (aa (le_int) (ai))))))) (ao (aB T) hr rfl (aa (ae 0) (aa (le_int) (ai)))))) (ak (aC 4 eT.nd (ao (l4 T) hr rfl (aa (ae 0) (aa (au (eA (aa (le_int) (aa (le_int) (aa (le_int) (aa (le_int) (aa (le_int) (aa (le_int) (aa (le_int) (aa (le_int) (ai)))))))))) (ao (aB T) hr rfl (aa (ae 0) (aa (le_int) (ai))))) (ai))))) (ax (aE (aO (aa (ae 1) (aa (ae 2) (aa (aR aJ aY rfl T.a9 rfl (aa (bz (fsc:=av jN) ["_law_pot_here", "_law_grid", "_law_ways_here", "_law_most", "_law_names_here"] ["_law_name", "_law_pot_here", "_law_ways_here", "_law_most"] 1 [0,2,3] rfl rfl (bB (Fh rfl T.qM rfl (aa (ae 4) (ai)))) (fun cl C s₀ H₀ ex=>⟨aZ 0 (show (["_law_name", "_law_pot_here", "_law_ways_here", "_law_most"]:List Str).Nodup from by decide +kernel),bx,ao (rM T) hr rfl (aa (ae 1) (aa (ae 0) (aa (ae 2) (aa (ae 3) (ai)))))⟩) rfl rfl (by decide +kernel)) (ai))) (ai))))))))))
theorem lu:aI ["_law_found", "_law_due"] ["_law_found", "_law_due"] (av jj):=by walk_at "sc"
theorem ng {Pm:Params}(T:Txt Pm K mg t):Binds K t.gF ["_law_found", "_law_due"] []:=T.di.binds fun _ _ _ _ _ _ _ _=>by walk_at "b2"
theorem kf (T:Txt w.params K mg t):∀ n:Nat,gR P w K mg base CX0 (1+n) t.gN t.gF ["_law_found", "_law_due"] (lift K (c8 n))
  | 0=>Qr T.di lu
  | n+1=>by
    refine Gv (k:=1+n) (T:=mU (c8 n)) T.di lu (nY (n+1)) (fun cdv A outer s H E hr=>?_) (pq n)
    have hu:=hr.units
    exact ak (bS (km (aX C3 (Gh _) rfl T.bL rfl (aa (ae 1) (aa (aO (aa (My rfl T.a9 rfl) (aa (My rfl T.mJ rfl) (ai)))) (ai))))) (ak (bS (LW.lt (wD (sF hu (jg rfl T.bL rfl (ae 0) rfl T.a9 rfl) (jg rfl T.bL rfl (ae 1) rfl T.a9 rfl)) (qd (sF hu (jg rfl T.bL rfl (ae 0) rfl T.mJ rfl) (jg rfl T.bL rfl (ae 1) rfl T.mJ rfl))))) (ax (aE (By))) (a5)) (ax (aE (uD (le_eq hu (aX a6 bF rfl T.dQ rfl (aa (ae 0) (ai))) (aX a6 bF rfl T.dQ rfl (aa (ae 1) (ai)))) (uP (aX (DM rfl) Ll rfl T.Q3 rfl (aa (bz (fsc:=av jj) ["_law_found", "_law_due"] ["_law_one", "_law_other"] 2 [] rfl rfl (iN rfl T.qX (aa (ae 0) (aa (ae 1) (ai)))) (fun cl C s₀ H₀ ex=>⟨gD rfl (bA 0 (show (["_law_one", "_law_other"]:List Str).Nodup from by decide +kernel) (bA 1 (show (["_law_one", "_law_other"]:List Str).Nodup from by decide +kernel) (fH))),bx,B7 (kf T n) (hr.mono (by omega)) rfl T.mY T.di.kp (ng T) (aa (ae 0) (aa (ae 1) (ai)))⟩) rfl rfl (by decide +kernel)) (ai)))))))) (a5)) (ak (bS (nH (ae 1) (dh)) (ax (aE (Qp (ae 0) (dh)))) (a5)) (ak (bS (km (jg rfl T.bL rfl (ae 1) rfl T.MI rfl)) (ax (aE (uD (jg rfl T.bL rfl (ae 0) rfl T.MI rfl) (uP (le_eq hu (ae 0) (ae 1)))))) (a5)) (ax (aE (uD (jg rfl T.bL rfl (ae 0) rfl T.MA rfl) (uD (MM (jg rfl T.bL rfl (ae 0) rfl T.NX rfl)) (uP (le_eq hu (ae 0) (ae 1)))))))))
theorem di (T:Txt w.params K mg t):gR P w K mg base CX0 7 t.gN t.gF ["_law_found", "_law_due"] (lift K lH):=kf T 6
theorem nh (T:Txt w.params K mg t):aQ P w K mg base 7 "_law_same" ["_law_found", "_law_due"] lH:=⟨_,_,di T,T.mY,T.di.kp,ng T⟩
theorem je:aI ["_law_letters", "_law_by"] ["_law_letters", "_law_by"] (av de):=by walk_at "sc"
theorem fK (T:Txt w.params K mg t):aQ P w K mg base 1 "_law_letters_moved" ["_law_letters", "_law_by"] a7:=aK T.jo T.jy je iJ jf (fun _ _ _ _ _ _ _ _=>by walk_at "b2") fun _ _ _ _ _ _ hr hu=>
  ax (aE (aR aJ aY rfl T.a9 rfl (aa (bz (fsc:=av de) ["_law_letters", "_law_by"] ["_law_letter", "_law_by"] 1 [1] rfl rfl (bB (ae 0)) (fun cl C s₀ H₀ ex=>⟨aZ 0 (show (["_law_letter", "_law_by"]:List Str).Nodup from by decide +kernel),bx,aH (aO (aa (au (ae 0) (le_int)) (aa (aH (au (ae 0) (le_int)) (bH hu (ae 1) (au (ae 0) (le_int)))) (ai)))) (i7 (ae 0) (eS (le_int)) (kb))⟩) rfl rfl (by decide +kernel)) (ai))))
theorem cZ:aI ["_law_state", "_law_by", "_law_ways_here", "_law_senders", "_law_row", "_law_resent", "_law_lost"] ["_law_state", "_law_by"] (av gc):=by walk_at "sc"
theorem iK (T:Txt w.params K mg t):aQ P w K mg base 2 "_law_moved" ["_law_state", "_law_by"] bO:=aK T.uZ T.um cZ qS rR (fun _ _ _ _ _ _ _ _=>by walk_at "b2") fun _ _ _ _ _ _ hr hu=>
  ak (eP (fsc:=av gc) 2 cZ.nd ["_law_state", "_law_by", "_law_ways_here", "_law_senders", "_law_row", "_law_resent", "_law_lost"] ["_law_row", "_law_by"] 1 [1] rfl rfl (bB (au (ae 0) (le_int))) (fun cl C s₀ H₀ ex=>⟨aZ 0 (show (["_law_row", "_law_by"]:List Str).Nodup from by decide +kernel),bx,aO (aa (ao (fK T) hr rfl (aa (au (ae 0) (le_int)) (aa (ae 1) (ai)))) (aa (ao (fK T) hr rfl (aa (au (ae 0) (le_int)) (aa (ae 1) (ai)))) (aa (au (ae 0) (le_int)) (ai))))⟩) rfl rfl (by decide +kernel)) (ak (aC 3 cZ.nd (iV (ai))) (ak (gw PassesOwn.never rfl (bB (au (ae 0) (le_int))) (gM 4 cZ.nd) (ak (u7 (bz (fsc:=av gc) ["_law_state", "_law_by", "_law_ways_here", "_law_senders", "_law_row", "_law_resent", "_law_lost"] ["_law_numbers", "_law_by", "_law_row"] 1 [1,4] rfl rfl (bB (i7 (ae 4) (eS (le_int)) (eS (le_int)))) (fun cl C s₀ H₀ ex=>⟨aZ 0 (show (["_law_numbers", "_law_by", "_law_row"]:List Str).Nodup from by decide +kernel),bx,aR aJ aY rfl T.a9 rfl (aa (bz (fsc:={ kind:=.function,names:=[(".0", .local),("_law_numbers", .local),("tuple", .globalImplicit),("_law_by", .cell),("_law_row", .cell)],isGenerator:=false,isCoroutine:=false }) ["_law_numbers", "_law_by", "_law_row"] ["_law_number", "_law_by", "_law_row"] 1 [1,2] rfl rfl (bB (ae 0)) (fun cl C s₀ H₀ ex=>⟨aZ 0 (show (["_law_number", "_law_by", "_law_row"]:List Str).Nodup from by decide +kernel),bx,aH (ae 0) (bH hu (ae 1) (au (ae 2) (le_int)))⟩) rfl rfl (by decide +kernel)) (ai))⟩) rfl rfl (by decide +kernel)) (PH rfl (ck 5 cZ.nd (ck 6 cZ.nd (iO))))) (ax (eu (le_app (ae 3) (aH (aH (i7 (ae 4) (kb) (eS (le_int))) (aO (aa (aH (au (ae 4) (le_int)) (bH hu (ae 1) (au (ae 4) (le_int)))) (aa (au (ae 4) (le_int)) (aa (ae 5) (aa (ae 6) (ai))))))) (i7 (ae 4) (eS (le_int)) (kb)))))))) (ax (aE (aO (aa (aR aJ aY rfl T.a9 rfl (aa (ae 2) (ai))) (aa (aR aJ aY rfl T.a9 rfl (aa (ae 3) (ai))) (ai))))))))
theorem fg:aI ["_law_script", "_law_pot_here", "_law_plan_here", "_law_state", "_law_by", "_law_other", "_law_k", "_law_after", "_law_events", "_law_found", "_law_told", "_law_due"] ["_law_script"] (av BK):=by walk_at "sc"
theorem Ce (T:Txt w.params K mg t):gR P w K mg base CX0 9 t.GN t.Ms ["_law_script"] (lift K fk):=by
  refine Gv (T:=HB) T.Ce fg uB (fun cdv A outer s H E hr=>?_) Nx
  have hu:=hr.units
  exact ak (aC 1 fg.nd (ao (AF T) hr rfl (aa (ae 0) (ai)))) (ak (aC 2 fg.nd (ao (vD T) hr rfl (aa (ae 1) (ai)))) (ak (aC 3 fg.nd (au (ao (Rv T) hr rfl (aa (ae 2) (aa (aH (le_int) (ao (aB T) hr rfl (aa (ae 1) (aa (le_int) (ai))))) (ai)))) (le_int))) (ak (aC 4 fg.nd (aR (oV rfl) wZ rfl T.Ey rfl (aa (bz (fsc:=av BK) ["_law_script", "_law_pot_here", "_law_plan_here", "_law_state", "_law_by", "_law_other", "_law_k", "_law_after", "_law_events", "_law_found", "_law_told", "_law_due"] ["_law_sender_here", "_law_pot_here"] 1 [1] rfl rfl (bB (au (ae 2) (le_int))) (fun cl C s₀ H₀ ex=>⟨aZ 0 (show (["_law_sender_here", "_law_pot_here"]:List Str).Nodup from by decide +kernel),bx,aO (aa (au (ae 0) (le_int)) (aa (fQ (ao (aB T) hr rfl (aa (ae 1) (aa (le_int) (ai)))) (le_int)) (ai)))⟩) rfl rfl (by decide +kernel)) (ai)))) (ak (aC 5 fg.nd (ao (iK T) hr rfl (aa (ae 3) (aa (ae 4) (ai))))) (ak (gw PassesOwn.never rfl (jV rfl T.lW (aH (le_int) (ao (aB T) hr rfl (aa (ae 1) (aa (le_int) (ai)))))) (gM 6 fg.nd) (ak (u7 (ao (mN T) hr rfl (aa (ae 2) (aa (ae 3) (ai)))) (mH rfl (ck 7 fg.nd (ck 8 fg.nd (iO))))) (ak (u7 (ao (mN T) hr rfl (aa (ae 2) (aa (ae 5) (ai)))) (mH rfl (ck 9 fg.nd (ck 10 fg.nd (iO))))) (ak (eP (fsc:=av BK) 11 fg.nd ["_law_script", "_law_pot_here", "_law_plan_here", "_law_state", "_law_by", "_law_other", "_law_k", "_law_after", "_law_events", "_law_found", "_law_told", "_law_due"] ["_law_event", "_law_by"] 1 [4] rfl rfl (bB (ae 8)) (fun cl C s₀ H₀ ex=>⟨aZ 0 (show (["_law_event", "_law_by"]:List Str).Nodup from by decide +kernel),bx,aO (aa (au (ae 0) (le_int)) (aa (au (ae 0) (le_int)) (aa (aH (au (ae 0) (le_int)) (bH hu (ae 1) (au (ae 0) (le_int)))) (aa (au (ae 0) (le_int)) (ai)))))⟩) rfl rfl (by decide +kernel)) (ak (bS (LW.lt (wD (DX (km (ao (nh T) hr rfl (aa (ae 9) (aa (ao (iK T) hr rfl (aa (ae 7) (aa (ae 4) (ai)))) (ai)))))) (qd (DX (km (ao (nh T) hr rfl (aa (ae 10) (aa (ae 11) (ai))))))))) (ax (aE (By))) (a5)) (ak (bS (sF hu (ae 5) (ao (iK T) hr rfl (aa (ae 3) (aa (ae 4) (ai))))) (ax (aE (By))) (a5)) (ax (qN 3 5 rfl fg.nd (aa (ae 7) (aa (ae 9) (ai))))))))))) (ax (aE (By))))))))
end
theorem all_mk {l:PySem.W.OpenLaw}{w:World}{K:PySem.W.Frag}{mg:Str→Option Value}{fa:Addr}{t:Adr}(hfa:mg "law" = some (.ref fa))(T:Txt w.params K mg t):∃ fd:FuncData,(∀ (s:Shared) (v:Value),BindsTo s fd ⟨[v],[]⟩ [("_law_script", v)])∧∀ base:Heap,K.In base→base.Ns mainGlobals mg→gR l.prog w K mg base CX0 9 fa fd ["_law_script"] (lift K fk):=by
  have e:=hfa.symm.trans T.RG
  injection e with e
  injection e with e
  subst e
  obtain ⟨oc,od,kV,dc,pm,an,cd,ct,sl,ed,_,_⟩:=T.Ce.ex
  exact ⟨_,fun s v=>.of_eq (by rw[ed];rfl),fun base _ _=>Ce T⟩
end Kk
namespace PySem.W.Fast
def tw763860811442323461:=0
def tw10158979505865957696:=0
def tw15287821514967000672:=0
def tw14259836139437788864:=0
def tw2895715949520218080:=0
def tw17607225419239218305:=0
def tw16205649016135897281:=0
def tw17883634247125049569:=0
def tw11277881927077229985:=0
def tw3088892550640454273:=0
def tw2382682360250373378:=0
def tw1935001856185023234:=0
def tw12823958674432162851:=0
def tw2798287483391926467:=0
def tw9183077302904104163:=0
def tw6514043584756001475:=0
def tw10797112509304467780:=0
def tw2579401347268267652:=0
def tw2880112591645184197:=0
def tw11811812811385825509:=0
def tw17671179671521862053:=0
def tw18113918737205000773:=0
def tw15644794107474776198:=0
def tw14324827849963819174:=0
def tw3687275575208056230:=0
def tw9722708981719401958:=0
def tw2162866276557896262:=0
def tw10449063857385599175:=0
def tw5314531091288606119:=0
def tw13034025614449878855:=0
def tw16990015330307115048:=0
def tw5850562852465971432:=0
def tw18347045915033773416:=0
def tw3898831455573667400:=0
def tw8936536091542166472:=0
def tw1608280524179743688:=0
def tw9120125605586265064:=0
def tw16684174783128578313:=0
def tw14342331947230593545:=0
def tw2618290219370876777:=0
def tw9909640931745256682:=0
def tw17272708737243028042:=0
def tw12626611232466676298:=0
def tw7396248697602575306:=0
def tw9582214151008189003:=0
def tw4591060618698219243:=0
def tw13561575303949547435:=0
def tw15327100322775771276:=0
def tw3451169078638862700:=0
def tw7943150806918983148:=0
def tw7093815809485397612:=0
def tw11772759796391568044:=0
def tw9086087381644774348:=0
def tw3917674016831238157:=0
def tw2702044374787306541:=0
def tw7569396223037845677:=0
def tw3930801297308764461:=0
def tw9515580807962533197:=0
def tw7144174427137763053:=0
def tw11351307609110485198:=0
def tw10535091247905117742:=0
def tw568980906686578414:=0
def tw2704852858011761679:=0
def tw226079649213630607:=0
def tw10886171964050332847:=0
def tw1741122918168866447:=0
def tw13710661810044081200:=0
def tw7163582786920476880:=0
def tw6192993133174754960:=0
def tw4735788972899733681:=0
def tw2337631349836360145:=0
def tw16034405774056580657:=0
def tw10389360739640865329:=0
def tw12815543581551852241:=0
def tw10966928059657846577:=0
def tw6803221087205736754:=0
def tw4845904985680791954:=0
def tw4369120593630244371:=0
def tw3178548637469354547:=0
def tw7199501191899206515:=0
def tw13754171650696098260:=0
def tw4003508339447975125:=0
def tw9509775296118106581:=0
def tw10358031032431258101:=0
def tw10504245030698808981:=0
def tw8914472749031498421:=0
def tw4522223186614113045:=0
def tw10749769459847034869:=0
def tw12433505550664891414:=0
def tw9482270312012236950:=0
def tw15118121341022225750:=0
def tw5747572203795782135:=0
def tw8404755070646526487:=0
def tw8969555283838915127:=0
def tw147818701279180920:=0
def tw1275714068210998392:=0
def tw10470646654333627000:=0
def tw5856679805276609304:=0
def tw18212541703903877337:=0
def tw14994429395712994745:=0
def tw9663142649563941433:=0
def tw10384190015261721145:=0
def tw7351081574551179897:=0
def tw12722071046954460953:=0
def tw1248588633662369689:=0
def tw11275155463507672090:=0
def tw14496961626217051226:=0
def tw11307530187899197594:=0
def tw289685986998031674:=0
def tw929514218863338426:=0
def tw3410602274321312795:=0
def tw3453529290028045435:=0
def tw16182827699375928475:=0
def tw1660266249322934523:=0
def tw18182671816220688667:=0
def tw5335109793068213627:=0
def tw17192201889694373307:=0
def tw13612822584712803803:=0
def tw6466743845331882779:=0
def tw11563023061880354683:=0
def tw11340247524822945116:=0
def tw6419767846201682300:=0
def tw11858680885879000444:=0
def tw12952780813738806812:=0
def tw9414890747929696796:=0
def tw4114967310804846140:=0
def tw14163564715363759836:=0
def tw15239386690759289692:=0
def tw17769687691430451068:=0
def tw3595021373376425117:=0
def tw11777293484926576957:=0
def tw6689115541506460125:=0
def tw1278193771712360029:=0
def tw8655329614870182110:=0
def tw4493112689919832894:=0
def tw6623968320582268734:=0
def tw8039957757504130974:=0
def tw17146692847827179486:=0
def tw9739077165764908799:=0
def tw12445691525156910879:=0
def tw14629475000181270399:=0
def tw5754709395270002559:=0
end PySem.W.Fast
open PySem PySem.W PyProof.Rows L2 L3
set_option maxRecDepth 100000 in
set_option maxHeartbeats 0 in
theorem PySem.Challenge.cw_swellways_k34_numbers_moved_holds : PySem.Challenge.rw_swellways_k34_numbers_moved.Holds := by
  w_on;o_law;k_head;(case hw=>w_witness2)
  k_fill
  refine L3.Qk (l:=PySem.Challenge.rw_swellways_k34_numbers_moved) (k:=9) (sp:=Kk.fk) (x := "_law_script") rfl rfl ⟨rfl,by decide,by decide⟩ (fun w h Y=>PySem.W.kIn_of Y) Kk.mO ?F
  case F=>
    intro w mg fa h KX G hmg
    refine' Kk.all_mk (t:=⟨_,_,_,_,_,_,_,_,_,_,_,_,_,_,_,_,_,_,_,_,_,_,_,_,_,_,_,_,_,_,_,_,_,_,_,_,_,_,_,_,_,_,_,_,_,_,_,_,_,_,_,_,_,_,_,_,_,_,_,_,_,_,_,_,_,_,_,_,_,_,_,_,_,_,_,_,_,_,_,_,_,_,_,_,_,_,_,_,_,_,_,_,_,_,_,_,_,_,_,_,_,_⟩) hmg ⟨mg_of KX G ?_,aS ?_ ?_ ?_,mg_of KX G ?_,aS ?_ ?_ ?_,mg_of KX G ?_,aS ?_ ?_ ?_,mg_of KX G ?_,aS ?_ ?_ ?_,mg_of KX G ?_,aS ?_ ?_ ?_,mg_of KX G ?_,aS ?_ ?_ ?_,mg_of KX G ?_,aS ?_ ?_ ?_,mg_of KX G ?_,aS ?_ ?_ ?_,mg_of KX G ?_,aS ?_ ?_ ?_,mg_of KX G ?_,aS ?_ ?_ ?_,mg_of KX G ?_,aS ?_ ?_ ?_,mg_of KX G ?_,aS ?_ ?_ ?_,mg_of KX G ?_,aS ?_ ?_ ?_,mg_of KX G ?_,aS ?_ ?_ ?_,mg_of KX G ?_,aS ?_ ?_ ?_,mg_of KX G ?_,aS ?_ ?_ ?_,mg_of KX G ?_,aS ?_ ?_ ?_,mg_of KX G ?_,aS ?_ ?_ ?_,mg_of KX G ?_,aS ?_ ?_ ?_,mg_of KX G ?_,aS ?_ ?_ ?_,mg_of KX G ?_,aS ?_ ?_ ?_,mg_of KX G ?_,aS ?_ ?_ ?_,mg_of KX G ?_,aS ?_ ?_ ?_,mg_of KX G ?_,aS ?_ ?_ ?_,mg_of KX G ?_,aS ?_ ?_ ?_,mg_of KX G ?_,aS ?_ ?_ ?_,mg_of KX G ?_,aS ?_ ?_ ?_,mg_of KX G ?_,aS ?_ ?_ ?_,mg_of KX G ?_,aS ?_ ?_ ?_,mg_of KX G ?_,aS ?_ ?_ ?_,mg_of KX G ?_,aS ?_ ?_ ?_,mg_of KX G ?_,aS ?_ ?_ ?_,mg_of KX G ?_,aS ?_ ?_ ?_,mg_of KX G ?_,aS ?_ ?_ ?_,mg_of KX G ?_,aS ?_ ?_ ?_,mg_of KX G ?_,aS ?_ ?_ ?_,mg_of KX G ?_,aS ?_ ?_ ?_,mg_of KX G ?_,aS ?_ ?_ ?_,mg_of KX G ?_,aS ?_ ?_ ?_,mg_of KX G ?_,aS ?_ ?_ ?_,mg_of KX G ?_,aS ?_ ?_ ?_,mg_of KX G ?_,aS ?_ ?_ ?_,mg_of KX G ?_,aS ?_ ?_ ?_,mg_of KX G ?_,aS ?_ ?_ ?_,mg_of KX G ?_,aS ?_ ?_ ?_,mg_of KX G ?_,aS ?_ ?_ ?_,mg_of KX G ?_,aS ?_ ?_ ?_,mg_of KX G ?_,aS ?_ ?_ ?_,mg_of KX G ?_,aS ?_ ?_ ?_,mg_of KX G ?_,aS ?_ ?_ ?_,mg_of KX G ?_,aS ?_ ?_ ?_,mg_none_of KX G ?_,mg_none_of KX G ?_,mg_none_of KX G ?_,mg_none_of KX G ?_,mg_none_of KX G ?_,mg_none_of KX G ?_,mg_none_of KX G ?_,mg_none_of KX G ?_,mg_none_of KX G ?_,mg_none_of KX G ?_,mg_none_of KX G ?_,mg_none_of KX G ?_,mg_none_of KX G ?_,mg_none_of KX G ?_,mg_none_of KX G ?_,mg_none_of KX G ?_,mg_none_of KX G ?_,bj KX G ?_,bj KX G ?_,bj KX G ?_,bj KX G ?_,bj KX G ?_,bj KX G ?_,bj KX G ?_,bj KX G ?_,AW (its:=#[.int 1 _,.int 2 _]) (xs:=[V.int 1,V.int 2]) KX G ?_ ?_ ?_ ?_ ?_ (show 2≤sizeLine by decide) (.cons ⟨_,rfl⟩ (.cons ⟨_,rfl⟩ (.nil))) (fun _=>.cons (.int _) (.cons (.int _) (.nil))),bj KX G ?_,bj KX G ?_,bj KX G ?_,bj KX G ?_,bj KX G ?_,bj KX G ?_,bj KX G ?_,bj KX G ?_,bj KX G ?_,bj KX G ?_,AW (its:=#[.int 0 _,.int 1 _]) (xs:=[V.int 0,V.int 1]) KX G ?_ ?_ ?_ ?_ ?_ (show 2≤sizeLine by decide) (.cons ⟨_,rfl⟩ (.cons ⟨_,rfl⟩ (.nil))) (fun _=>.cons (.int _) (.cons (.int _) (.nil))),bj KX G ?_,AW (its:=#[.int 1 _,.int 1 _]) (xs:=[V.int 1,V.int 1]) KX G ?_ ?_ ?_ ?_ ?_ (show 2≤sizeLine by decide) (.cons ⟨_,rfl⟩ (.cons ⟨_,rfl⟩ (.nil))) (fun _=>.cons (.int _) (.cons (.int _) (.nil))),bj KX G ?_,bj KX G ?_,bj KX G ?_,bj KX G ?_,bj KX G ?_,bj KX G ?_,bj KX G ?_,bj KX G ?_,bj KX G ?_,bj KX G ?_,bj KX G ?_,bj KX G ?_,bj KX G ?_⟩
    all_goals try first | k_is | rfl
