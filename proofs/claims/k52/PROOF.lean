import PyProof.Rows.All
import Wide.All
import OpenK.AllK
import Wide.FinOn
import Lean
import PyProof.EqAt
import PyProof.EqKinds
import PyProof.TupleCall
import PyProof.P3Eq
import PyProof.NeKinds
import PyProof.NeData
import PyProof.ZipIter
import PyProof.EnumMake
import PyProof.EnumFor
import OpenK.KTop
import PyProof.IsRules
import PyProof.AttrMissHeap
import PyProof.DictUpdate
import KE.KDictOf
import PyProof.Rows.SortStr
import PyProof.FString5
import PyProof.StrOps
import PyProof.ListRange
import PyProof.TupleOfGen
import PyProof.Rows.SumAny
import PyProof.Rows.CallKwBuiltin
import PyProof.StrLoop
import PyProof.StrWalks
import PyProof.StrOps2
import PyProof.SliceStr2
import PyProof.StrBlockI
import PyProof.StrLaws
import PyProof.StrBlock
import PyProof.StrBlockL
import PyProof.StrCalls2
import KE.KStrOpen
import KE.KDictList
import PyProof.DictValues
import PyProof.ListMulRoad
import PyProof.FactsAll.tuple_2
import PySem.Challenge.RW_swellways_k52_no_tables
set_option Elab.async false
set_option linter.all false
set_option maxRecDepth 100000
set_option maxHeartbeats 4000000
namespace L2
open PySem PySem.Spec PyProof.Rows
abbrev Key:=Sum Int Str
def oF:Key→Value→Bool
  | .inl k,v=>Value.isInt k v
  | .inr x,v=>Value.isStrOf x v
def Lx (w:World):Key→Int
  | .inl k=>hashInt k
  | .inr x=>hashStr w x
theorem bj:∀ {k:Key} {v:Value},oF k v=true→(∃ i t,k=Sum.inl i∧v=Value.int i t)∨(∃ x t,k=Sum.inr x∧v=Value.str x t)
  | .inl i,v,h=>by
    obtain ⟨t,e⟩:=Value.isInt_shape (k:=i) (v:=v) h
    exact .inl ⟨i,t,rfl,e⟩
  | .inr x,v,h=>by
    obtain ⟨t,e⟩:=Value.isStrOf_shape (x:=x) (v:=v) h
    exact .inr ⟨x,t,rfl,e⟩
theorem xS (i:Int)(t:Tok):oF (.inl i) (.int i t)=true:=by simp[oF,Value.isInt]
theorem xX (x:Str)(t:Tok):oF (.inr x) (.str x t)=true:=by simp[oF,Value.isStrOf]
theorem Gx (a b:Int):decide ((Sum.inl a:Key)=Sum.inl b)=(a == b):=by
  by_cases e:a=b
  · subst e;simp
  · have h:¬ (Sum.inl a:Key)=Sum.inl b:=fun q=>e (Sum.inl.inj q)
    rw[decide_eq_false h]
    exact (beq_eq_false_iff_ne.mpr e).symm
theorem FQ (a b:Str):decide ((Sum.inr a:Key)=Sum.inr b)=decide (a=b):=by
  by_cases e:a=b
  · subst e;simp
  · have h:¬ (Sum.inr a:Key)=Sum.inr b:=fun q=>e (Sum.inr.inj q)
    rw[decide_eq_false h,decide_eq_false e]
theorem FD (a:Int)(b:Str):decide ((Sum.inl a:Key)=Sum.inr b)=false:=decide_eq_false (fun q=>nomatch q)
theorem HK (a:Str)(b:Int):decide ((Sum.inr a:Key)=Sum.inl b)=false:=decide_eq_false (fun q=>nomatch q)
def bG (prog:Program)(w:World):PySem.KeyKind prog w Key where
  is:=oF
  hash:=Lx w
  inj:=fun v a b ha hb=>by
    rcases bj ha with ⟨i,t,rfl,rfl⟩ | ⟨x,t,rfl,rfl⟩
    · rcases bj hb with ⟨j,u,rfl,e⟩ | ⟨y,u,rfl,e⟩
      · injection e with e1 _;rw[e1]
      · exact nomatch e
    · rcases bj hb with ⟨j,u,rfl,e⟩ | ⟨y,u,rfl,e⟩
      · exact nomatch e
      · injection e with e1 _;rw[e1]
  byValue:=fun k v h=>by
    rcases bj h with ⟨i,t,rfl,rfl⟩ | ⟨x,t,rfl,rfl⟩ <;> rfl
  pyHash:=fun hv h=>by
    rcases bj hv with ⟨i,t,rfl,rfl⟩ | ⟨x,t,rfl,rfl⟩
    · exact wpAny_pyHash_int h
    · exact wpAny_pyHash_str h
  eqBool:=fun hu hv h=>by
    rcases bj hu with ⟨i,t,rfl,rfl⟩ | ⟨x,t,rfl,rfl⟩
    · rcases bj hv with ⟨j,u,rfl,rfl⟩ | ⟨y,u,rfl,rfl⟩
      · rw[Gx] at h;exact wpAny_eqBool_int h
      · rw[FD] at h;exact SeqAt.EqAt.int_str i t y u _ _ _ _ h
    · rcases bj hv with ⟨j,u,rfl,rfl⟩ | ⟨y,u,rfl,rfl⟩
      · rw[HK] at h;exact SeqAt.EqAt.str_int x t j u _ _ _ _ h
      · rw[FQ] at h;exact wpAny_eqBool_str h
  «strs»:=fun k x t v h=>by
    rcases bj h with ⟨i,u,rfl,e⟩ | ⟨y,u,rfl,e⟩
    · exact nomatch e
    · injection e with e1 _
      subst e1
      cases v<;>rfl
theorem rk (prog:Program)(w:World)(i:Int)(t:Tok):(bG prog w).is (.inl i) (.int i t)=true:=xS i t
theorem rA (prog:Program)(w:World)(x:Str)(t:Tok):(bG prog w).is (.inr x) (.str x t)=true:=xX x t
end L2
namespace L2
open PySem PySem.Spec PyProof.Rows
inductive V where
  | non | bl (b:Bool) | int (i:Int) | str (x:Str) | byt (b:Array UInt8) | flt (b:UInt64) | ref (a:Addr) | ty (n:String)
  deriving DecidableEq
def RelV:V→Value→Prop
  | .non,u=>u=Value.none
  | .bl b,u=>u=Value.bool b
  | .int i,u=>∃ t,u=Value.int i t
  | .str x,u=>∃ t,u=Value.str x t
  | .byt b,u=>∃ t,u=Value.bytes b t
  | .flt b,u=>∃ t,u=Value.float b t
  | .ref a,u=>u=Value.ref a
  | .ty n,u=>u=Value.type n
abbrev Vals:List V→List Value→Prop:=Paired RelV
theorem Vals.length {xs:List V}{us:List Value}(r:Vals xs us):xs.length=us.length:=Paired.length r
theorem Vals.get:∀ {xs:List V} {us:List Value} {i:Nat} {x:V},Vals xs us→xs[i]? = some x→∃ u,us[i]? = some u∧RelV x u
  | _,_,_,_,.nil,e=>by simp at e
  | _,_,0,_,.cons r _,e=>by simp at e;subst e;exact ⟨_,rfl,r⟩
  | _,_,i+1,x,.cons _ t,e=>by
    obtain ⟨u,h1,h2⟩:=Vals.get (i:=i) (x:=x) t (by simpa using e)
    exact ⟨u,by simpa using h1,h2⟩
theorem Vals.set {x:V}{u:Value}(r:RelV x u):∀ {xs:List V} {us:List Value} (i:Nat),Vals xs us→Vals (xs.set i x) (us.set i u)
  | _,_,_,.nil=>.nil
  | _,_,0,.cons _ t=>.cons r t
  | _,_,i+1,.cons q t=>.cons q (Vals.set r i t)
theorem Vals.append:∀ {xs ys:List V} {us ws:List Value},Vals xs us→Vals ys ws→Vals (xs++ys) (us++ws)
  | _,_,_,_,.nil,s=>s
  | _,_,_,_,.cons r t,s=>.cons r (Vals.append t s)
theorem Vals.take:∀ {xs:List V} {us:List Value} (n:Nat),Vals xs us→Vals (xs.take n) (us.take n)
  | _,_,0,_=>.nil
  | _,_,_+1,.nil=>.nil
  | _,_,n+1,.cons r t=>.cons r (Vals.take n t)
theorem Vals.drop:∀ {xs:List V} {us:List Value} (n:Nat),Vals xs us→Vals (xs.drop n) (us.drop n)
  | _,_,0,r=>r
  | _,_,_+1,.nil=>.nil
  | _,_,n+1,.cons _ t=>Vals.drop n t
def kd:Option V→Option Value→Prop
  | some v,some u=>RelV v u
  | none,none=>True
  | _,_=>False
def KV {κ:Type}:List (κ×V)→List (κ×Value)→Prop:=Paired fun (p:κ×V) (q:κ×Value)=>p.1=q.1∧RelV p.2 q.2
def kV:Key→V
  | .inl i=>.int i
  | .inr x=>.str x
inductive HO where
    | lst (xs:List V)
    | tup (xs:List V)
    | dK (kvs:List (Key×V)) | dT (kvs:List (List Key×V))
    | set (S:Int→Bool) (n:Nat)
    | ins (C dx:Addr) (fs:List (Str×V))
    | own (x:Addr)
    | xd (fs:List (Str×V))
    | met (f x:Addr)
    | rng (lo hi:Int)
    | frz (o:Obj) (u:HO)
    | tbl (ps:Array Value)
    | ext (φ:Heap→Prop)
abbrev Hp:=Addr→Option HO
def upd (H:Hp)(a:Addr)(o:HO):Hp:=fun b=>if b=a then some o else H b
theorem aG {H:Hp}{a:Addr}{o:HO}:upd H a o a=some o:=by unfold upd;rw[if_pos rfl]
theorem aB {H:Hp}{a b:Addr}{o:HO}(h:b≠a):upd H a o b=H b:=by unfold upd;rw[if_neg h]
theorem pR {H:Hp}{a:Addr}{o u:HO}:upd (upd H a o) a u=upd H a u:=by
  funext b;unfold upd;split<;>rfl
theorem Kd {H:Hp}{a b:Addr}{o u:HO}(h:H a=some o)(h':H b=some u)(d:o≠u):a≠b:=by
  intro e;subst e;rw[h] at h';exact d (Option.some.inj h')
theorem aR {H:Hp}{a b:Addr}{o:HO}(h:H a=some o)(h':H b=none):a≠b:=by
  intro e;subst e;rw[h] at h';cases h'
def qD (h:Heap)(a:Addr)(items:Array Value):Prop:=∃ n,h.get? a=some { cls:=.type "tuple", data:=.seq items n }
theorem qD.tup {h:Heap}{a:Addr}{items:Array Value}(p:qD h a items):IsTup h a items:=by obtain ⟨n,e⟩:=p;exact ⟨_,e,rfl,n,rfl⟩
theorem qD.new (h:Heap)(items:Array Value):qD (h.push { cls:=.type "tuple", data:=.seq items }) h.objs.size items:=⟨_,Heap.get?_push_size _ rfl⟩
section
variable (P:Program) (w:World)
def bO (H:Hp)(h:Heap)(a:Addr):HO→Prop
  | .lst xs=>xs.length≤sizeLine∧∃ (its:List Value) (n:Nat),Vals xs its∧h.get? a=some { cls:=.type "list", data:=.seq its.toArray n }
  | .tup xs=>xs.length≤sizeLine∧∃ its:List Value,Vals xs its∧qD h a its.toArray
  | .dK kvs=>kvs.length≤sizeLine∧(a == sysModules)=false∧∃ vs,KV kvs vs∧h.DictOf (bG P w) a vs
  | .dT kvs=>kvs.length≤sizeLine∧(a == sysModules)=false∧∃ xs:List (List Key×Addr×Value),
      Paired (fun (p:List Key×V) (q:List Key×Addr×Value)=>p.1=q.1∧H q.2.1=some (.tup (p.1.map kV))∧RelV p.2 q.2.2) kvs xs∧
      ∃ o es ep,h.get? a=some o∧o.ExactDict∧o.data=.dict es ep∧es.toList=xs.map (entryOfKey (tupleKind (bG P w)))∧(xs.map (·.1)).Nodup
  | .set S n=>h.SetOf (intKind P w) a S n
  | .ins C dx fs=>H dx=some (.own a)∧fs.length≤1000∧dx≠a∧h.get? a=some (PySem.W.instObj C dx)∧
      ∃ mA,h.Ns1 dx mA∧(∀ f,kd (fs.lookup f) (mA f))∧PySem.Within mA (fs.map (·.1))
  | .own _=>∃ o,h.get? a=some o
  | .xd fs=>∃ mA,h.Ns1 a mA∧∀ f,kd (fs.lookup f) (mA f)
  | .rng lo hi=>∃ t u v,h.get? a=some { cls:=.type "range", data:=.fields #[.int lo t,.int hi u,.int 1 v] }
  | .frz o u=>h.get? a=some o∧bO H h a u
  | .tbl ps=>h.get? a=some { cls:=.none,data:=.fields ps }
  | .met f x=>h.get? a=some (PySem.W.methodObj (.ref f) (.ref x))
  | .ext φ=>φ h∧(∃ o,h.get? a=some o)∧∀ h1 h2:Heap,φ h1→(∀ o,h1.get? a=some o→h2.get? a=some o)→φ h2
def HOk (H:Hp)(h:Heap):Prop:=∀ a o,H a=some o→bO P w H h a o
end
section
variable {P:Program} {w:World} {H H':Hp} {h h':Heap} {a:Addr} {o:HO}
theorem bO.lt (x:bO P w H h a o):a < h.objs.size:=by
  cases o with
  | lst xs=>obtain ⟨_,_,_,_,e⟩:=x;exact Heap.lt_size e
  | tup xs=>obtain ⟨_,_,_,p⟩:=x;exact p.tup.lt
  | dK kvs=>obtain ⟨_,_,_,_,o,_,_,e,_⟩:=x;exact Heap.lt_size e
  | dT kvs=>obtain ⟨_,_,_,_,o,_,_,e,_⟩:=x;exact Heap.lt_size e
  | set S n=>obtain ⟨o,_,_,_,e,_⟩:=x;exact Heap.lt_size e
  | ins C dx fs=>obtain ⟨_,_,_,e,_⟩:=x;exact Heap.lt_size e
  | own y=>obtain ⟨_,e⟩:=x;exact Heap.lt_size e
  | xd fs=>obtain ⟨_,⟨_,_,_,e,_⟩,_⟩:=x;exact Heap.lt_size e
  | rng lo hi=>obtain ⟨_,_,_,e⟩:=x;exact Heap.lt_size e
  | frz ob u=>obtain ⟨e,_⟩:=x;exact Heap.lt_size e
  | tbl ps=>exact Heap.lt_size (show h.get? a=some _ from x)
  | met f y=>exact Heap.lt_size (show h.get? a=some _ from x)
  | ext φ=>obtain ⟨_,⟨_,e⟩,_⟩:=x;exact Heap.lt_size e
theorem Paired.Hq {α β:Type}{F G:α→β→Prop}:∀ {l₁:List α} {l₂:List β},Paired F l₁ l₂→(∀ a b,F a b→G a b)→Paired G l₁ l₂
  | _,_,.nil,_=>.nil
  | _,_,.cons r t,f=>.cons (f _ _ r) (Paired.Hq t f)
theorem bO.jS (x:bO P w H h a o)(k:∀ b u,(b=a∨H b=some (.own a))→h.get? b=some u→h'.get? b=some u)
    (ho:∀ b,H b=some (.own a)→H' b=some (.own a)) (ht:∀ b xs,H b=some (.tup xs)→H' b=some (.tup xs)):bO P w H' h' a o:=by
  induction o with
  | lst xs=>obtain ⟨z,its,n,r,e⟩:=x;exact ⟨z,its,n,r,k _ _ (.inl rfl) e⟩
  | tup xs=>obtain ⟨z,its,r,m,e⟩:=x;exact ⟨z,its,r,m,k _ _ (.inl rfl) e⟩
  | dK kvs=>obtain ⟨z,y,vs,r,ob,es,ep,e,c⟩:=x;exact ⟨z,y,vs,r,ob,es,ep,k _ _ (.inl rfl) e,c⟩
  | dT kvs=>
    obtain ⟨z,y,xs,r,ob,es,ep,e,c⟩:=x
    exact ⟨z,y,xs,Paired.Hq r fun p q z=>⟨z.1,ht _ _ z.2.1,z.2.2⟩,ob,es,ep,k _ _ (.inl rfl) e,c⟩
  | set S n=>obtain ⟨ob,es,ep,t,e,c⟩:=x;exact ⟨ob,es,ep,t,k _ _ (.inl rfl) e,c⟩
  | ins C dx fs=>
    obtain ⟨d,z,ne,e,mA,⟨od,es,ep,e2,c⟩,r⟩:=x
    exact ⟨ho _ d,z,ne,k _ _ (.inl rfl) e,mA,⟨od,es,ep,k _ _ (.inr d) e2,c⟩,r⟩
  | own y=>obtain ⟨ob,e⟩:=x;exact ⟨ob,k _ _ (.inl rfl) e⟩
  | xd fs=>obtain ⟨mA,⟨od,es,ep,e,c⟩,r⟩:=x;exact ⟨mA,⟨od,es,ep,k _ _ (.inl rfl) e,c⟩,r⟩
  | rng lo hi=>obtain ⟨t,u,v,e⟩:=x;exact ⟨t,u,v,k _ _ (.inl rfl) e⟩
  | frz ob u ih=>obtain ⟨e,q⟩:=x;exact ⟨k _ _ (.inl rfl) e,ih q⟩
  | tbl ps=>
    have e:h.get? a=some { cls:=.none,data:=.fields ps }:=x
    show h'.get? a=some { cls:=.none,data:=.fields ps }
    exact k a _ (.inl rfl) e
  | met f y=>
    have e:h.get? a=some (PySem.W.methodObj (.ref f) (.ref y)):=x
    show h'.get? a=some (PySem.W.methodObj (.ref f) (.ref y))
    exact k a _ (.inl rfl) e
  | ext φ=>obtain ⟨p,⟨o,e⟩,st⟩:=x;exact ⟨st _ _ p fun o q=>k _ _ (.inl rfl) q,⟨o,k _ _ (.inl rfl) e⟩,st⟩
theorem HOk.lt (x:HOk P w H h)(e:H a=some o):a < h.objs.size:=(x a o e).lt
theorem HOk.fresh (x:HOk P w H h)(e:h.objs.size≤a):H a=none:=by
  cases q:H a with
  | none=>rfl
  | some u=>exact absurd (Nat.lt_of_lt_of_le (x.lt q) e) (Nat.lt_irrefl _)
theorem HOk.kept (x:HOk P w H h)(k:∀ b u,h.get? b=some u→h'.get? b=some u):HOk P w H h':=fun a o e=>
  (x a o e).jS (fun b u _ q=>k b u q) (fun _ q=>q) fun _ _ q=>q
theorem HOk.laid (x:HOk P w H h)(k:∀ b u,h.get? b=some u→h'.get? b=some u)(hp:h.objs.size≤a)(new:bO P w (upd H a o) h' a o):HOk P w (upd H a o) h':=fun b u e=>by
  have hn:=x.fresh hp
  by_cases hb:b=a
  · subst hb;rw[aG] at e;cases e;exact new
  · rw[aB hb] at e
    exact (x b u e).jS (fun c v _ q=>k c v q) (fun c q=>by rw[aB (aR q hn)];exact q) fun c xs q=>by rw[aB (aR q hn)];exact q
end
def Rd (H:Hp)(a:Addr)(u:HO):Prop:=H a=some u∨∃ o,H a=some (.frz o u)
theorem Rd.of {H:Hp}{a:Addr}{u:HO}(h:H a=some u):Rd H a u:=.inl h
theorem Rd.ok {P:Program}{w:World}{H:Hp}{h:Heap}{a:Addr}{u:HO}(r:Rd H a u)(x:HOk P w H h):bO P w H h a u:=by
  rcases r with r | ⟨o,r⟩
  · exact x a u r
  · obtain ⟨_,q⟩:=x a _ r
    exact q
def Mut:Option HO→Prop
  | some (.lst _)=>True
  | some (.dK _)=>True
  | some (.dT _)=>True
  | some (.set _ _)=>True
  | some (.ins _ _ _)=>True
  | some (.ext _)=>True
  | _=>False
section
variable {P:Program} {w:World} {H:Hp} {h h':Heap} {x e:Addr} {o':HO}
theorem HOk.write (ok:HOk P w H h)(mu:Mut (H x))(he:e=x∨H e=some (.own x))(k:∀ b u,b≠e→h.get? b=some u→h'.get? b=some u)(heo:∃ u,h'.get? e=some u)
    (new:bO P w (upd H x o') h' x o'):HOk P w (upd H x o') h':=fun b u q=>by
  have I0:∀ c y,H c=some (.own y)→c≠x:=fun c y r z=>by subst z;rw[r] at mu;exact mu
  have K8:∀ c xs,H c=some (.tup xs)→c≠x:=fun c xs r z=>by subst z;rw[r] at mu;exact mu
  by_cases hb:b=x
  · subst hb;rw[aG] at q;cases q;exact new
  · rw[aB hb] at q
    by_cases hbe:b=e
    · have q':H b=some (.own x):=by
        rcases he with z | z
        · exact absurd (hbe.trans z) hb
        · rw[hbe];exact z
      rw[q] at q';cases q'
      obtain ⟨v,hv⟩:=heo
      exact ⟨v,by rw[hbe];exact hv⟩
    · refine (ok b u q).jS (fun c v hc r=>k c v ?_ r) (fun c r=>by rw[aB (I0 c b r)];exact r) fun c xs r=>by rw[aB (K8 c xs r)];exact r
      rcases hc with rfl | hc
      · exact hbe
      · rintro rfl
        rcases he with z | z
        · exact I0 c b hc z
        · rw[hc] at z;cases z;exact hb rfl
end
structure Un (fs ex:List Addr) (H H':Hp) (h h':Heap):Prop where
  keep:∀ b o,h.get? b=some o→H b=none→b ∉ fs→b ∉ ex→h'.get? b=some o
  slot:∀ b o,h.get? b=some o→H b=none→b∈fs→b ∉ ex→∃ sl,h'.get? b=some { o with slots:=sl }
  free:∀ b o,h.get? b=some o→H b=none→b ∉ ex→H' b=none
  there:∀ b o,h.get? b=some o→b ∉ ex→∃ o',h'.get? b=some o'
  iX:∀ b xs,H b=some (.tup xs)→H' b=some (.tup xs)
  iF:∀ b o u,H b=some (.frz o u)→H' b=some (.frz o u)
  i9:∀ b ps,H b=some (.tbl ps)→∃ more,H' b=some (.tbl (ps++more))
section
variable {fs fs' ex ex':List Addr} {H H1 H2:Hp} {h h1 h2 h':Heap} {a x e:Addr} {o:HO}
theorem Un.any (u:Un fs ex H H1 h h1){b:Addr}{ob:Obj}(q:h.get? b=some ob)(n:H b=none)(hx:b ∉ ex):∃ sl,h1.get? b=some { ob with slots:=sl }:=by
  by_cases hb:b∈fs
  · exact u.slot b ob q n hb hx
  · exact ⟨ob.slots,u.keep b ob q n hb hx⟩
theorem Un.trans (a:Un fs ex H H1 h h1)(b:Un fs ex H1 H2 h1 h2):Un fs ex H H2 h h2 where
  keep:=fun c ob q n hc hx=>b.keep c ob (a.keep c ob q n hc hx) (a.free c ob q n hx) hc hx
  slot:=fun c ob q n hc hx=>by
    obtain ⟨sl,e1⟩:=a.slot c ob q n hc hx
    obtain ⟨sl',e2⟩:=b.slot c _ e1 (a.free c ob q n hx) hc hx
    exact ⟨sl',e2⟩
  free:=fun c ob q n hx=>by
    obtain ⟨o',e1⟩:=a.there c ob q hx
    exact b.free c o' e1 (a.free c ob q n hx) hx
  there:=fun c ob q hx=>by
    obtain ⟨o',e1⟩:=a.there c ob q hx
    exact b.there c o' e1 hx
  iX:=fun c xs q=>b.iX c xs (a.iX c xs q)
  iF:=fun c ob xs q=>b.iF c ob xs (a.iF c ob xs q)
  i9:=fun c ps q=>by
    obtain ⟨m1,e1⟩:=a.i9 c ps q
    obtain ⟨m2,e2⟩:=b.i9 c _ e1
    exact ⟨m1++m2,by rw[e2,Array.append_assoc]⟩
theorem Un.kept (k:∀ b u,h.get? b=some u→h'.get? b=some u):Un fs ex H H h h':=
  ⟨fun b ob q _ _ _=>k b ob q,fun b ob q _ _ _=>⟨ob.slots,k b ob q⟩,fun _ _ _ n _=>n,fun b ob q _=>⟨ob,k b ob q⟩,fun _ _ q=>q,fun _ _ _ q=>q,fun _ ps q=>⟨#[],by rw[q];simp⟩⟩
theorem Un.refl:Un fs ex H H h h:=Un.kept fun _ _ q=>q
theorem Un.laid (k:∀ b u,h.get? b=some u→h'.get? b=some u)(hp:h.objs.size≤a)(hn:H a=none):Un fs ex H (upd H a o) h h' where
  keep:=fun b u q _ _ _=>k b u q
  slot:=fun b u q _ _ _=>⟨u.slots,k b u q⟩
  free:=fun b u q n _=>by rw[aB (Nat.ne_of_lt (Nat.lt_of_lt_of_le (Heap.lt_size q) hp))];exact n
  there:=fun b u q _=>⟨u,k b u q⟩
  iX:=fun b xs q=>by rw[aB (aR q hn)];exact q
  iF:=fun b u xs q=>by rw[aB (aR q hn)];exact q
  i9:=fun b ps q=>⟨#[],by rw[aB (aR q hn),q];simp⟩
theorem Un.write (mu:Mut (H x))(he:e=x∨H e=some (.own x))(k:∀ b u,b≠e→h.get? b=some u→h'.get? b=some u)(heo:∃ u,h'.get? e=some u):Un fs ex H (upd H x o) h h':=by
  have hx:∀ b,H b=none→b≠x:=fun b n z=>by subst z;rw[n] at mu;exact mu
  have hb:∀ b,H b=none→b≠e:=fun b n z=>by
    subst z
    rcases he with r | r
    · exact hx b n r
    · rw[n] at r;cases r
  have hm:∀ b u,H b=some u→¬ Mut (some u)→b≠x:=fun b u q nm z=>by subst z;rw[q] at mu;exact nm mu
  refine ⟨fun b u q n _ _=>k b u (hb b n) q,fun b u q n _ _=>⟨u.slots,k b u (hb b n) q⟩,fun b u q n _=>by rw[aB (hx b n)];exact n,fun b u q _=>?_,
    fun b xs q=>by rw[aB (hm b _ q fun z=>z)];exact q,fun b u xs q=>by rw[aB (hm b _ q fun z=>z)];exact q,fun b ps q=>⟨#[],by rw[aB (hm b _ q fun z=>z),q];simp⟩⟩
  by_cases hbe:b=e
  · subst hbe;exact heo
  · exact ⟨u,k b u hbe q⟩
theorem Un.mono (u:Un fs ex H H1 h h1)(hs:∀ b∈fs,b∈fs')(hx:∀ b∈ex,b∈ex'):Un fs' ex' H H1 h h1:=
  ⟨fun b ob q n hb he=>u.keep b ob q n (fun z=>hb (hs b z)) fun z=>he (hx b z),fun _ _ q n _ he=>u.any q n fun z=>he (hx _ z),fun b ob q n he=>u.free b ob q n fun z=>he (hx b z),fun b ob q he=>u.there b ob q fun z=>he (hx b z),u.iX,u.iF,u.i9⟩
end
def trk (h:Heap)(H:Hp):List Addr:=(List.range h.objs.size).filter fun a=>(H a).isSome
def ql (h:Heap)(H:Hp):Heap:=PySem.W.hideAll h (trk h H)
theorem xy (h:Heap)(H:Hp):(ql h H).objs.size=h.objs.size:=PySem.W.hideAll_size _ _
theorem AE {h:Heap}{H:Hp}{b:Addr}{o:Obj}(e:h.get? b=some o)(n:H b=none):(ql h H).get? b=some o:=
  PySem.W.hideAll_get _ e fun hm=>by
    have q:(H b).isSome=true:=(List.mem_filter.mp hm).2
    rw[n] at q;simp at q
theorem Eo {h:Heap}{H:Hp}{b:Addr}{o:Obj}(e:(ql h H).get? b=some o):h.get? b=some o∧H b=none:=by
  have e':h.get? b=some o:=PySem.W.of_hideAll (trk h H) e
  refine ⟨e',?_⟩
  cases q:H b with
  | none=>rfl
  | some x=>
    have hm:b∈trk h H:=List.mem_filter.mpr ⟨List.mem_range.mpr (Heap.lt_size e'),by simp[q]⟩
    have z:(ql h H).get? b=none:=PySem.W.hideAll_none (trk h H) hm
    rw[z] at e;cases e
def CI (g h:Heap)(L:Addr):List (Addr×Obj):=(List.range h.objs.size).filterMap fun a=>if a=L∨(g.get? a).isSome=true then none else (h.get? a).map fun o=>(a,o)
def rest (g h:Heap)(L d:Addr):List (Addr×Obj):=(CI g h L).filter fun p=>decide (p.1≠d)
end L2
namespace L2
open PySem PySem.Spec PyProof.Rows
structure Mod (K:PySem.W.Frag) (mg:Str→Option Value) (base:Heap):Prop where
  kin:K.In base
  glob:base.Ns mainGlobals mg
  blt:∃ mb,base.Ns builtinsNs mb∧∀ x:Str,x ≠ "__name__" → mb x=bootBuiltins x
  nolimit:base.NoLimit
structure Cx where
  prog:Program
  w:World
  K:PySem.W.Frag
  mg:Str→Option Value
  base:Heap
  A:Around
  N:List Str
  s₀:Shared
  H₀:Hp
  env:Env
  outer:List Env
  stack:List Env
  ex:List Addr
  fn:Str→Bool
  calm:Bool
  pn:List (Addr×Obj)
  xe:Value→Shared→Prop
def frs (l:List Env):List Addr:=l.filterMap (·.frame)
abbrev Cx.fs (X:Cx):List Addr:=frs X.outer
def Vis (sc:Scope)(x:Str):Prop:=sc.names.lookup x=some .local∨sc.names.lookup x=some .cell∨sc.names.lookup x=some .free
def Loc (sc:Scope)(x:Str):Prop:=sc.names.lookup x=some .local∨sc.names.lookup x=some .cell
def Look (env:Env)(h:Heap)(m:Str→Option Value)(x:Str)(u:Value):Prop:=
  (env.kindOf x=some .local∧m x=some u)∨((env.kindOf x=some .cell∨env.kindOf x=some .free)∧∃ c,env.cells.lookup x=some c∧h.IsCell c (some u))
structure Cx.Ok (X:Cx):Prop where
  mod:Mod X.K X.mg X.base
  kind:X.env.scope.kind=.function
  glob:X.env.globals=mainGlobals
  blt:X.env.builtins=builtinsNs
  above:X.s₀.heap.objs.size≤X.env.locals
  inj:∀ x y c,X.env.cells.lookup x=some c→X.env.cells.lookup y=some c→x=y
  has:∀ x,(X.env.kindOf x=some .cell∨X.env.kindOf x=some .free)→∃ c,X.env.cells.lookup x=some c
  cab:∀ x c,X.fn x=true→X.env.cells.lookup x=some c→X.s₀.heap.objs.size≤c
  hd:X.calm=true→X.A.handled=none
  frames:X.A.frames=some X.stack
  stk:X.stack=X.outer∨(X.stack=X.env::X.outer∧X.env.frame=some X.env.locals)
  exf:∀ b∈X.ex,b≠X.env.locals∧∀ x c,X.env.cells.lookup x=some c→c≠b
  bs:∀ b o,X.base.get? b=some o→X.s₀.heap.get? b=some o∧X.H₀ b=none
  bsz:X.base.objs.size≤X.s₀.heap.objs.size
  Cb:∀ b o,X.base.get? b=some o→b ∉ X.ex
  Ad:∀ b∈X.ex,b ∉ X.fs
  kb:X.s₀.heap.FunFrames X.base X.outer
  frf:∀ b∈X.fs,X.H₀ b=none
structure Inv (X:Cx) (pins:List (Addr×Obj)) (σ:List (Option V)) (H:Hp) (s:Shared):Prop where
  ok:X.Ok
  os:s.os=X.s₀.os
  bare:AllBare s.gens
  base:Un X.fs X.ex X.H₀ H X.s₀.heap s.heap
  loc:∃ m,s.heap.Ns X.env.locals m∧∀ (i:Nat) (x:Str) (v:V),X.N[i]? = some x→σ[i]? = some (some v)→Vis X.env.scope x→∃ u,RelV v u∧Look X.env s.heap m x u
  cell:∀ x c,X.env.cells.lookup x=some c→∃ v,s.heap.IsCell c v
  free:H X.env.locals=none
  fJ:∀ x c,X.env.cells.lookup x=some c→H c=none
  pin:∀ p∈X.pn++pins,s.heap.get? p.1=some p.2∧H p.1=none∧p.1≠X.env.locals∧p.1 ∉ X.fs∧∀ v,p.2.data≠.cell v
  hok:HOk X.prog X.w H s.heap
  len:σ.length=X.N.length
section
variable {X:Cx} {pins:List (Addr×Obj)} {σ:List (Option V)} {H H':Hp} {s:Shared} {h':Heap}
theorem Cx.Ok.Lb (ok:X.Ok){b:Addr}{o:Obj}(e:X.base.get? b=some o):b ∉ X.fs:=fun hb=>by
  have:=(ok.kb.mem hb).1
  rw[e] at this;cases this
theorem Inv.bs (I:Inv X pins σ H s):∀ b o,X.base.get? b=some o→s.heap.get? b=some o∧H b=none:=fun b o e=>
  ⟨I.base.keep b o (I.ok.bs b o e).1 (I.ok.bs b o e).2 (I.ok.Lb e) (I.ok.Cb b o e),I.base.free b o (I.ok.bs b o e).1 (I.ok.bs b o e).2 (I.ok.Cb b o e)⟩
theorem Inv.bk (I:Inv X pins σ H s):∀ b o,X.base.get? b=some o→s.heap.get? b=some o:=fun b o e=>(I.bs b o e).1
theorem Inv.mod (I:Inv X pins σ H s):Mod X.K X.mg X.base:=I.ok.mod
theorem Inv.kIn (I:Inv X pins σ H s):X.K.In s.heap:=I.ok.mod.kin.keeps I.bk
theorem Inv.nolimit (I:Inv X pins σ H s):s.heap.NoLimit:=I.ok.mod.nolimit.keeps I.bk
theorem Inv.fr (I:Inv X pins σ H s):∃ m,Fr X.base X.env.locals s.heap m:=
  let ⟨m,hn,_⟩:=I.loc
  ⟨m,hn,I.bk,Nat.le_trans I.ok.bsz I.ok.above⟩
theorem Inv.lt (I:Inv X pins σ H s):X.env.locals < s.heap.objs.size:=let ⟨_,hn,_⟩:=I.loc;hn.lt
theorem Inv.sz (I:Inv X pins σ H s):X.s₀.heap.objs.size≤s.heap.objs.size:=Nat.le_trans I.ok.above (Nat.le_of_lt I.lt)
theorem Inv.Ls (I:Inv X pins σ H s){a:Addr}(h:s.heap.objs.size≤a):a ∉ X.fs:=fun hb=>by
  obtain ⟨_,o,ho,_⟩:=I.ok.kb.mem hb
  exact absurd (Nat.lt_of_lt_of_le (Heap.lt_size ho) (Nat.le_trans I.sz h)) (Nat.lt_irrefl _)
theorem Inv.cne (I:Inv X pins σ H s):∀ x c,X.env.cells.lookup x=some c→c≠X.env.locals:=fun x c e z=>by
  obtain ⟨v,o,ho,hd⟩:=I.cell x c e
  obtain ⟨m,⟨o',es,ep,ho',hd',_⟩,_⟩:=I.loc
  rw[z,ho'] at ho;cases ho;rw[hd'] at hd;cases hd
theorem Inv.kb (I:Inv X pins σ H s):s.heap.FunFrames X.base X.outer:=by
  have all:∀ (l:List Env),(∀ b∈frs l,b∈X.fs)→X.s₀.heap.FunFrames X.base l→s.heap.FunFrames X.base l:=by
    intro l
    induction l with
    | nil=>intro _ _;trivial
    | cons env r ih=>
      intro hs hl
      obtain ⟨hk,⟨L,o,hf,hn,ho,hd⟩,hr⟩:=hl
      have hL:L∈X.fs:=hs L (by unfold frs;rw[List.filterMap_cons,hf];exact List.mem_cons_self)
      obtain ⟨sl,e⟩:=I.base.slot L o ho (I.ok.frf L hL) hL fun z=>I.ok.Ad L z hL
      exact ⟨hk,⟨L,_,hf,hn,e,hd⟩,ih (fun b hb=>hs b (by unfold frs;rw[List.filterMap_cons,hf];exact List.mem_cons_of_mem _ hb)) hr⟩
  exact all X.outer (fun _ hb=>hb) I.ok.kb
theorem Inv.stack (I:Inv X pins σ H s):s.heap.FunFrames X.base X.stack:=by
  rcases I.ok.stk with e | ⟨e,hf⟩
  · rw[e];exact I.kb
  · rw[e]
    obtain ⟨m,hn,_⟩:=I.loc
    refine .cons (by rw[I.ok.kind];decide) hf hn ?_ I.kb
    exact Heap.get?_none_of_le (Nat.le_trans I.ok.bsz I.ok.above)
theorem Inv.vb (I:Inv X pins σ H s):∀ b∈frs X.stack,b∈X.env.locals::X.fs:=fun b hb=>by
  rcases I.ok.stk with e | ⟨e,hf⟩
  · rw[e] at hb;exact List.mem_cons_of_mem _ hb
  · rw[e] at hb
    unfold frs at hb
    rw[List.filterMap_cons,hf] at hb
    exact hb
theorem Inv.wH (I:Inv X pins σ H s):∀ b∈frs X.stack,H b=none:=fun b hb=>by
  rcases List.mem_cons.mp (I.vb b hb) with e | hb
  · rw[e];exact I.free
  · obtain ⟨_,o,ho,_⟩:=I.ok.kb.mem hb
    exact I.base.free b o ho (I.ok.frf b hb) fun z=>I.ok.Ad b z hb
theorem Inv.step {g':Array GenState}{t':Nat}{d':Drawn}{ch:List Addr}(I:Inv X pins σ H s)
    (hch:∀ b∈ch,(b∈X.ex∨X.s₀.heap.objs.size≤b)∧b≠X.env.locals∧(∀ x c,X.env.cells.lookup x=some c→c≠b)∧∀ p∈X.pn++pins,p.1≠b)
    (keep:∀ b o,b≠X.env.locals→b ∉ X.fs→b ∉ ch→s.heap.get? b=some o→H b=none→h'.get? b=some o)
    (slot:∀ b o,b≠X.env.locals→b∈X.fs→b ∉ ch→s.heap.get? b=some o→H b=none→∃ sl,h'.get? b=some { o with slots:=sl }) (free:∀ b o,b ∉ ch→s.heap.get? b=some o→H b=none→H' b=none)
    (there:∀ b o,b ∉ ch→s.heap.get? b=some o→∃ o',h'.get? b=some o')
    (iX:∀ b xs,H b=some (.tup xs)→H' b=some (.tup xs)) (iF:∀ b o u,H b=some (.frz o u)→H' b=some (.frz o u)) (i9:∀ b ps,H b=some (.tbl ps)→∃ more,H' b=some (.tbl (ps++more)))
    (ns:∀ m,s.heap.Ns X.env.locals m→h'.Ns X.env.locals m) (hok:HOk X.prog X.w H' h') (hg:AllBare g') :
    Inv X pins σ H' { s with heap:=h',gens:=g',drawn:=d',toks:=t' }:=by
  have neL:∀ b o,X.s₀.heap.get? b=some o→b≠X.env.locals:=fun b o e=>Nat.ne_of_lt (Nat.lt_of_lt_of_le (Heap.lt_size e) I.ok.above)
  have neC:∀ b o,X.s₀.heap.get? b=some o→b ∉ X.ex→b ∉ ch:=fun b o e hx hb=>by
    rcases (hch b hb).1 with z | z
    · exact hx z
    · exact absurd (Nat.lt_of_lt_of_le (Heap.lt_size e) z) (Nat.lt_irrefl _)
  have cellK:∀ x c,X.env.cells.lookup x=some c→∀ v,s.heap.IsCell c v→h'.IsCell c v:=fun x c e v ⟨o,ho,hd⟩=>by
    have nch:c ∉ ch:=fun z=>(hch c z).2.2.1 x c e rfl
    by_cases hc:c∈X.fs
    · obtain ⟨sl,q⟩:=slot c o (I.cne x c e) hc nch ho (I.fJ x c e)
      exact ⟨_,q,hd⟩
    · exact ⟨o,keep c o (I.cne x c e) hc nch ho (I.fJ x c e),hd⟩
  refine ⟨I.ok,I.os,hg,⟨fun b o e n hb hx=>?_,fun b o e n hb hx=>?_,fun b o e n hx=>?_,fun b o e hx=>?_,fun b xs e=>iX b xs (I.base.iX b xs e),fun b o xs e=>iF b o xs (I.base.iF b o xs e),fun b ps e=>?_⟩,?_,fun x c e=>?_,?_,fun x c e=>?_,fun p hp=>?_,hok,I.len⟩
  · exact keep b o (neL b o e) hb (neC b o e hx) (I.base.keep b o e n hb hx) (I.base.free b o e n hx)
  · obtain ⟨sl,e1⟩:=I.base.slot b o e n hb hx
    obtain ⟨sl',e2⟩:=slot b _ (neL b o e) hb (neC b o e hx) e1 (I.base.free b o e n hx)
    exact ⟨sl',e2⟩
  · obtain ⟨o',e1⟩:=I.base.there b o e hx
    exact free b o' (neC b o e hx) e1 (I.base.free b o e n hx)
  · obtain ⟨o',e1⟩:=I.base.there b o e hx
    exact there b o' (neC b o e hx) e1
  · obtain ⟨m1,e1⟩:=I.base.i9 b ps e
    obtain ⟨m2,e2⟩:=i9 b _ e1
    exact ⟨m1++m2,by rw[e2,Array.append_assoc]⟩
  · obtain ⟨m,hn,hl⟩:=I.loc
    refine ⟨m,ns m hn,fun i x v e1 e2 e3=>?_⟩
    obtain ⟨u,r,l⟩:=hl i x v e1 e2 e3
    refine ⟨u,r,?_⟩
    rcases l with l | ⟨k,c,e,z⟩
    · exact .inl l
    · exact .inr ⟨k,c,e,cellK x c e _ z⟩
  · obtain ⟨v,z⟩:=I.cell x c e
    exact ⟨v,cellK x c e v z⟩
  · obtain ⟨m,⟨o,_,_,ho,_⟩,_⟩:=I.loc
    exact free _ o (fun z=>(hch _ z).2.1 rfl) ho I.free
  · obtain ⟨v,o,ho,hd⟩:=I.cell x c e
    exact free c o (fun z=>(hch c z).2.2.1 x c e rfl) ho (I.fJ x c e)
  · obtain ⟨e,n,ne,nf,d⟩:=I.pin p hp
    have nch:p.1 ∉ ch:=fun z=>(hch p.1 z).2.2.2 p hp rfl
    exact ⟨keep p.1 p.2 ne nf nch e n,free p.1 p.2 nch e n,ne,nf,d⟩
theorem Inv.un {t':Nat}(I:Inv X pins σ H s)(u:Un X.fs [] H H' s.heap h')(hok:HOk X.prog X.w H' h'):Inv X pins σ H' { s with heap:=h',toks:=t' }:=by
  obtain ⟨m,⟨o,es,ep,ho,r⟩,_⟩:=id I.loc
  obtain ⟨sl,hL⟩:=u.any ho I.free (by simp)
  exact I.step (g':=s.gens) (d':=s.drawn) (ch:=[]) (fun _ z=>nomatch z) (fun b o _ hb _ e n=>u.keep b o e n hb (by simp)) (fun b o _ hb _ e n=>u.slot b o e n hb (by simp)) (fun b o _ e n=>u.free b o e n (by simp)) (fun b o _ e=>u.there b o e (by simp)) u.iX u.iF u.i9 (fun m' hm=>by
    obtain ⟨o',es',ep',ho',r'⟩:=hm
    rw[ho] at ho';cases ho'
    exact ⟨_,es',ep',hL,r'⟩) hok I.bare
theorem Inv.call {g':Array GenState}{t':Nat}{d':Drawn}{ch:List Addr}(I:Inv X pins σ H s)(u:Un (frs X.stack) ch H H' s.heap h')(hok:HOk X.prog X.w H' h')(hg:AllBare g')
    (hch:∀ b∈ch,(b∈X.ex∨X.s₀.heap.objs.size≤b)∧b≠X.env.locals∧(∀ x c,X.env.cells.lookup x=some c→c≠b)∧∀ p∈X.pn++pins,p.1≠b) :
    Inv X pins σ H' { s with heap:=h',gens:=g',drawn:=d',toks:=t' }:=by
  obtain ⟨m,⟨o,es,ep,ho,r⟩,_⟩:=id I.loc
  obtain ⟨sl,hL⟩:=u.any ho I.free fun z=>(hch _ z).2.1 rfl
  exact I.step (ch:=ch) hch (fun b o hL hb hc e n=>u.keep b o e n (fun z=>(List.mem_cons.mp (I.vb b z)).elim hL hb) hc) (fun b o _ _ hc e n=>u.any e n hc) (fun b o hc e n=>u.free b o e n hc) (fun b o hc e=>u.there b o e hc) u.iX u.iF u.i9 (fun m' hm=>by
    obtain ⟨o',es',ep',ho',r'⟩:=hm
    rw[ho] at ho';cases ho'
    exact ⟨_,es',ep',hL,r'⟩) hok hg
theorem Inv.turned {t':Nat}{it:Addr}(I:Inv X pins σ H s)(k:∀ b o,b≠it→s.heap.get? b=some o→h'.get? b=some o)(hn:H it=none)(hL:it≠X.env.locals)
    (h1:it∈X.ex∨X.s₀.heap.objs.size≤it) (h2:∀ x c,X.env.cells.lookup x=some c→c≠it) (h3:∀ p∈X.pn++pins,p.1≠it):Inv X pins σ H { s with heap:=h',toks:=t' }:=by
  have nit:∀ b u,H b=some u→b≠it:=fun b u e z=>by rw[z,hn] at e;cases e
  refine I.step (g':=s.gens) (d':=s.drawn) (ch:=[it]) (fun b hb=>?_) (fun b o _ _ hc e _=>k b o (fun z=>hc (by simp[z])) e) (fun b o _ _ hc e _=>⟨o.slots,k b o (fun z=>hc (by simp[z])) e⟩) (fun _ _ _ _ n=>n)
    (fun b o hc e=>⟨o,k b o (fun z=>hc (by simp[z])) e⟩) (fun _ _ e=>e) (fun _ _ _ e=>e) (fun b ps e=>⟨#[],by rw[e];simp⟩) (fun m hm=>?_) (fun b u e=>?_) I.bare
  · have e:b=it:=by simpa using hb
    subst e
    exact ⟨h1,hL,h2,h3⟩
  · obtain ⟨o,es,ep,ho,r⟩:=hm
    exact ⟨o,es,ep,k _ o (Ne.symm hL) ho,r⟩
  · refine (I.hok b u e).jS (fun c v hc q=>k c v ?_ q) (fun _ q=>q) fun _ _ q=>q
    rcases hc with z | z
    · rw[z];exact nit b u e
    · exact nit c _ z
theorem Inv.tok (I:Inv X pins σ H s)(t:Nat):Inv X pins σ H { s with toks:=t }:=I.un (h':=s.heap) (t':=t) Un.refl I.hok
theorem Inv.kept {t':Nat}(I:Inv X pins σ H s)(k:∀ b u,s.heap.get? b=some u→h'.get? b=some u):Inv X pins σ H { s with heap:=h',toks:=t' }:=I.un (Un.kept k) (I.hok.kept k)
theorem Inv.laid {a:Addr}{o:HO}{t':Nat}(I:Inv X pins σ H s)(k:∀ b u,s.heap.get? b=some u→h'.get? b=some u)(hp:s.heap.objs.size≤a)(new:bO X.prog X.w (upd H a o) h' a o) :
    Inv X pins σ (upd H a o) { s with heap:=h',toks:=t' }:=I.un (Un.laid k hp (I.hok.fresh hp)) (I.hok.laid k hp new)
theorem Inv.write {x e:Addr}{o:HO}{t':Nat}(I:Inv X pins σ H s)(mu:Mut (H x))(he:e=x∨H e=some (.own x))(k:∀ b u,b≠e→s.heap.get? b=some u→h'.get? b=some u)(heo:∃ u,h'.get? e=some u)
    (new:bO X.prog X.w (upd H x o) h' x o):Inv X pins σ (upd H x o) { s with heap:=h',toks:=t' }:=I.un (Un.write mu he k heo) (I.hok.write mu he k heo new)
theorem Inv.weak {σ':List (Option V)}(I:Inv X pins σ H s)(hl:σ'.length=σ.length)(w:∀ (i:Nat) v,σ'[i]? = some (some v)→σ[i]? = some (some v)):Inv X pins σ' H s:=
  ⟨I.ok,I.os,I.bare,I.base,let ⟨m,hn,hl'⟩:=I.loc;⟨m,hn,fun i x v e1 e2 e3=>hl' i x v e1 (w i v e2) e3⟩,I.cell,I.free,I.fJ,I.pin,I.hok,hl.trans I.len⟩
theorem Inv.xk {pins':List (Addr×Obj)}(I:Inv X pins σ H s)(h:∀ p∈pins',s.heap.get? p.1=some p.2∧H p.1=none∧p.1≠X.env.locals∧p.1 ∉ X.fs∧∀ v,p.2.data≠.cell v):Inv X pins' σ H s:=
  ⟨I.ok,I.os,I.bare,I.base,I.loc,I.cell,I.free,I.fJ,fun p hp=>(List.mem_append.mp hp).elim (fun z=>I.pin p (List.mem_append_left _ z)) (h p),I.hok,I.len⟩
theorem qZ {N:List Str}(hN:N.Nodup){i j:Nat}{x:Str}(a:N[i]? = some x)(b:N[j]? = some x):i=j:=by
  obtain ⟨h1,e1⟩:=List.getElem?_eq_some_iff.mp a
  obtain ⟨h2,e2⟩:=List.getElem?_eq_some_iff.mp b
  exact (List.getElem_inj hN).mp (e1.trans e2.symm)
theorem yS {M:Model}{A:Around}{E:Value→Shared→Prop}{i:Nat}{x:Str}{v:V}{u:Value}{Q:Unit→Shared→Prop}(I:Inv X pins σ H s)(hN:X.N.Nodup)(hi:X.N[i]? = some x)(hx:Loc X.env.scope x)(r:RelV v u)
    (h:∀ s',Inv X pins (σ.set i (some v)) H s'→(∃ a,Heap.SameBut a s.heap s'.heap∧(a=X.env.locals∨X.env.cells.lookup x=some a))→Q () s') (hf:X.fn x=true∨X.env.scope.names.lookup x=some .local:=by first | exact .inl rfl | exact .inr rfl | assumption):wpAny M A (storeName X.env x u) Q E s:=by
  obtain ⟨m,hn,hl⟩:=id I.loc
  have K3:(X.env.scope.kind == .class || (X.env.scope.kind == .module&&X.env.locals != X.env.globals))=false:=by rw[I.ok.kind];rfl
  have hiσ:i < σ.length:=by rw[I.len];exact (List.getElem?_eq_some_iff.mp hi).1
  have cne:=I.cne
  have tracked:∀ {a:Addr} {h':Heap},(∃ o,s.heap.get? a=some o∧H a=none)→Heap.SameBut a s.heap h'→HOk X.prog X.w H h':=fun {a h'} ha hs b ob e=>by
    obtain ⟨_,_,hfree⟩:=ha
    refine (I.hok b ob e).jS (fun c w' hc q=>(hs.2 c ?_).trans q) (fun _ q=>q) fun _ _ q=>q
    rintro rfl
    rcases hc with rfl | hc
    · rw[hfree] at e;cases e
    · rw[hfree] at hc;cases hc
  rcases hx with hk | hk
  · refine wpAny_storeName_local hk hn (fun h' hn' hs=>?_) K3
    obtain ⟨oL,_,_,hoL,_⟩:=id hn
    refine h _ ⟨I.ok,I.os,I.bare,⟨fun b o e n hb hx=>?_,fun b o e n hb hx=>?_,I.base.free,fun b o e hx=>?_,I.base.iX,I.base.iF,I.base.i9⟩,⟨_,hn',fun j y v' e1 e2 e3=>?_⟩,fun y c e=>?_,I.free,I.fJ,fun p hp=>?_,tracked ⟨oL,hoL,I.free⟩ hs,by simpa using I.len⟩ ⟨_,hs,.inl rfl⟩
    · exact (hs.2 b (Nat.ne_of_lt (Nat.lt_of_lt_of_le (Heap.lt_size e) I.ok.above))).trans (I.base.keep b o e n hb hx)
    · obtain ⟨sl,e1⟩:=I.base.slot b o e n hb hx
      exact ⟨sl,(hs.2 b (Nat.ne_of_lt (Nat.lt_of_lt_of_le (Heap.lt_size e) I.ok.above))).trans e1⟩
    · obtain ⟨o',e1⟩:=I.base.there b o e hx
      exact ⟨o',(hs.2 b (Nat.ne_of_lt (Nat.lt_of_lt_of_le (Heap.lt_size e) I.ok.above))).trans e1⟩
    · by_cases hj:j=i
      · subst hj
        rw[hi] at e1;cases e1
        rw[List.getElem?_set_self hiσ] at e2
        cases e2
        exact ⟨u,r,.inl ⟨hk,by simp⟩⟩
      · rw[List.getElem?_set_ne (Ne.symm hj)] at e2
        obtain ⟨u',r',q⟩:=hl j y v' e1 e2 e3
        refine ⟨u',r',?_⟩
        rcases q with ⟨k,e⟩ | ⟨k,c,e,z⟩
        · refine .inl ⟨k,?_⟩
          have:y≠x:=fun e=>hj (qZ hN e1 (e ▸ hi))
          simp[this,e]
        · exact .inr ⟨k,c,e,z.sameBut hs (cne y c e)⟩
    · obtain ⟨w',z⟩:=I.cell y c e
      exact ⟨w',z.sameBut hs (cne y c e)⟩
    · obtain ⟨e,n,ne,nf,d⟩:=I.pin p hp
      exact ⟨(hs.2 p.1 ne).trans e,n,ne,nf,d⟩
  · have hfn:X.fn x=true:=by
      rcases hf with z | z
      · exact z
      · rw[z] at hk;cases hk
    obtain ⟨c,hc⟩:=I.ok.has x (.inl hk)
    obtain ⟨w',z⟩:=I.cell x c hc
    refine wpAny_storeName_cell I.ok.kind hk hc z (fun h' hc' hs=>?_)
    obtain ⟨oc,hoc,hocd⟩:=id z
    refine h { s with heap:=h' } ⟨I.ok,I.os,I.bare,⟨fun b o e n hb hx=>?_,fun b o e n hb hx=>?_,I.base.free,fun b o e hx=>?_,I.base.iX,I.base.iF,I.base.i9⟩,⟨m,hn.sameBut hs (Ne.symm (cne x c hc)),fun j y v' e1 e2 e3=>?_⟩,fun y c' e=>?_,I.free,I.fJ,fun p hp=>?_,tracked ⟨oc,hoc,I.fJ x c hc⟩ hs,by simpa using I.len⟩ ⟨c,hs,.inr hc⟩
    · exact (hs.2 b (Nat.ne_of_lt (Nat.lt_of_lt_of_le (Heap.lt_size e) (I.ok.cab x c hfn hc)))).trans (I.base.keep b o e n hb hx)
    · obtain ⟨sl,e1⟩:=I.base.slot b o e n hb hx
      exact ⟨sl,(hs.2 b (Nat.ne_of_lt (Nat.lt_of_lt_of_le (Heap.lt_size e) (I.ok.cab x c hfn hc)))).trans e1⟩
    · obtain ⟨o',e1⟩:=I.base.there b o e hx
      exact ⟨o',(hs.2 b (Nat.ne_of_lt (Nat.lt_of_lt_of_le (Heap.lt_size e) (I.ok.cab x c hfn hc)))).trans e1⟩
    · by_cases hj:j=i
      · subst hj
        rw[hi] at e1;cases e1
        rw[List.getElem?_set_self hiσ] at e2
        cases e2
        exact ⟨u,r,.inr ⟨.inl hk,c,hc,hc'⟩⟩
      · rw[List.getElem?_set_ne (Ne.symm hj)] at e2
        obtain ⟨u',r',q⟩:=hl j y v' e1 e2 e3
        refine ⟨u',r',?_⟩
        rcases q with q | ⟨k,c',e,z'⟩
        · exact .inl q
        · refine .inr ⟨k,c',e,z'.sameBut hs ?_⟩
          rintro rfl
          exact hj (qZ hN e1 (I.ok.inj _ _ _ e hc ▸ hi))
    · by_cases hcc:c'=c
      · subst hcc;exact ⟨_,hc'⟩
      · obtain ⟨w2,z2⟩:=I.cell y c' e
        exact ⟨w2,z2.sameBut hs hcc⟩
    · obtain ⟨e,n,ne,nf,d⟩:=I.pin p hp
      refine ⟨(hs.2 p.1 ?_).trans e,n,ne,nf,d⟩
      intro q
      rw[q,hoc] at e
      have q':oc=p.2:=Option.some.inj e
      exact d w' (by rw[← q'];exact hocd)
theorem fS {M:Model}{A:Around}{E:Value→Shared→Prop}{i:Nat}{x:Str}{v:V}{u:Value}{Q:Unit→Shared→Prop}(I:Inv X pins σ H s)(hN:X.N.Nodup)(hi:X.N[i]? = some x)(hx:Loc X.env.scope x)(r:RelV v u)
    (h:∀ s',Inv X pins (σ.set i (some v)) H s'→Q () s') (hf:X.fn x=true∨X.env.scope.names.lookup x=some .local:=by first | exact .inl rfl | exact .inr rfl | assumption):wpAny M A (storeName X.env x u) Q E s:=
  yS I hN hi hx r (fun s' I' _=>h s' I') hf
theorem Inv.Ks {s':Shared}{ch:List Addr}(I:Inv X pins σ H s)(ho:s'.os=s.os)(u:Un (frs X.stack) ch H H' s.heap s'.heap)(hok:HOk X.prog X.w H' s'.heap)(hg:AllBare s'.gens)
    (hch:∀ b∈ch,(b∈X.ex∨X.s₀.heap.objs.size≤b)∧b≠X.env.locals∧(∀ x c,X.env.cells.lookup x=some c→c≠b)∧∀ p∈X.pn++pins,p.1≠b):Inv X pins σ H' s':=by
  obtain ⟨h',g',d',t',o'⟩:=s'
  have e:o'=s.os:=ho
  subst e
  exact I.call (g':=g') (t':=t') (d':=d') u hok hg hch
end
abbrev XK:=Value→Option Addr→Hp→Prop
abbrev St:=List (Option V)
abbrev VK:=V→Hp→Prop
abbrev TE:=St→Hp→VK→Prop
abbrev TT:=St→Hp→(Bool→Hp→Prop)→Prop
abbrev TA:=St→Hp→(List V→Hp→Prop)→Prop
structure Ends where
  nx:St→Hp→Prop
  rt:VK
  bk:St→Hp→Prop:=fun _ _=>False
  ct:St→Hp→Prop:=fun _ _=>False
abbrev TS:=Ends→St→Hp→Prop
def EP (X:Cx)(pins:List (Addr×Obj))(σ:St)(Q:VK)(u:Value)(s':Shared):Prop:=∃ v H',Inv X pins σ H' s'∧RelV v u∧Q v H'
def TP (X:Cx)(pins:List (Addr×Obj))(σ:St)(Q:Bool→Hp→Prop)(b:Bool)(s':Shared):Prop:=∃ H',Inv X pins σ H' s'∧Q b H'
def AP (X:Cx)(pins:List (Addr×Obj))(σ:St)(Q:List V→Hp→Prop)(us:List Value)(s':Shared):Prop:=∃ vs H',Inv X pins σ H' s'∧Vals vs us∧Q vs H'
def SP (X:Cx)(pins:List (Addr×Obj))(D:Ends)(f:Flow)(s':Shared):Prop:=
  match f with
  | .next=>∃ σ' H',Inv X pins σ' H' s'∧D.nx σ' H'
  | .brk=>∃ σ' H',Inv X pins σ' H' s'∧D.bk σ' H'
  | .cont=>∃ σ' H',Inv X pins σ' H' s'∧D.ct σ' H'
  | .ret u=>∃ v σ' H',Inv X pins σ' H' s'∧RelV v u∧D.rt v H'
def PE (X:Cx)(e:Expr)(t:TE):Prop:=
  ∀ (pins:List (Addr×Obj)) (s:Shared) (σ:St) (H:Hp) (Q:VK),Inv X pins σ H s→t σ H Q→wpAny (model X.prog X.w) X.A (eval e X.env) (EP X pins σ Q) X.xe s
def PT (X:Cx)(e:Expr)(t:TT):Prop:=
  ∀ (pins:List (Addr×Obj)) (s:Shared) (σ:St) (H:Hp) (Q:Bool→Hp→Prop),Inv X pins σ H s→t σ H Q→wpAny (model X.prog X.w) X.A (isTrue e X.env (eval e X.env)) (TP X pins σ Q) X.xe s
def PW (X:Cx)(e:Expr)(t:TT):Prop:=
  ∀ (whole:Sem Value) (pins:List (Addr×Obj)) (s:Shared) (σ:St) (H:Hp) (Q:Bool→Hp→Prop),Inv X pins σ H s→t σ H Q→wpAny (model X.prog X.w) X.A (isTrue e X.env whole) (TP X pins σ Q) X.xe s
theorem PW.pt {X:Cx}{e:Expr}{t:TT}(h:PW X e t):PT X e t:=h _
def PA (X:Cx)(es:List Expr)(t:TA):Prop:=
  ∀ (pos:Pos) (pins:List (Addr×Obj)) (s:Shared) (σ:St) (H:Hp) (Q:List V→Hp→Prop),Inv X pins σ H s→t σ H Q→wpAny (model X.prog X.w) X.A (spliced (backTo pos (starEach es X.env))) (AP X pins σ Q) X.xe s
def PS (X:Cx)(st:Stmt)(t:TS):Prop:=
  ∀ (pins:List (Addr×Obj)) (s:Shared) (σ:St) (H:Hp) (D:Ends),Inv X pins σ H s→t D σ H→wpAny (model X.prog X.w) X.A (exec st X.env) (SP X pins D) X.xe s
def PSs (X:Cx)(st:List Stmt)(t:TS):Prop:=
  ∀ (pins:List (Addr×Obj)) (s:Shared) (σ:St) (H:Hp) (D:Ends),Inv X pins σ H s→t D σ H→wpAny (model X.prog X.w) X.A (execs st X.env) (SP X pins D) X.xe s
theorem thn {α:Type}{t:Sem α}{Q Q':α→Shared→Prop}{M:Model}{A:Around}{E:Value→Shared→Prop}{s:Shared}(h:wpAny M A t Q E s)(hQ:∀ a s,Q a s→Q' a s):wpAny M A t Q' E s:=wpAny_mono h hQ fun _ _ x=>x
end L2
namespace L2
open PySem PySem.Spec PyProof.Rows
section
variable {X:Cx}
def KZ (i:Nat):TE:=fun σ H Q=>∃ v,σ[i]? = some (some v)∧Q v H
def tC (v:V):TE:=fun _ H Q=>Q v H
theorem z0 {i:Nat}{x:Str}{pos:Pos}(hN:X.N[i]? = some x)(hv:Vis X.env.scope x)(hd:(x == ("__debug__" : Str))=false:=by decide)(hcd:(x == ("__classdict__" : Str))=false:=by decide):PE X (.Name x pos) (KZ i):=by
  intro pins s σ H Q I h
  obtain ⟨v,e,h⟩:=h
  obtain ⟨m,hn,hl⟩:=I.loc
  obtain ⟨u,r,l⟩:=hl i x v hN e hv
  have fin:EP X pins σ Q u s:=⟨v,H,I,r,h⟩
  rcases l with ⟨hk,hm⟩ | ⟨hk,c,hc,hcell⟩
  · exact wpAny_Name (wpAny_loadName_local I.ok.kind hk hn hm fin) hd
  · rcases hk with hk | hk
    · exact wpAny_Name (wpAny_loadName_cell I.ok.kind hk hc hcell fin) hd
    · exact wpAny_Name (wpAny_loadName_free I.ok.kind hk hc hcell fin hcd) hd
theorem Fv {i j pos}:PE X (.Constant (.int i) j pos) (tC (.int i)):=fun _ _ _ H _ I h=>wpAny_Constant_int ⟨.int i,H,I.tok _,⟨_,rfl⟩,h⟩
theorem IK {b j pos}:PE X (.Constant (.bool b) j pos) (tC (.bl b)):=fun _ _ _ H _ I h=>Constant_bool ⟨.bl b,H,I,rfl,h⟩
theorem G7 {j pos}:PE X (.Constant .none j pos) (tC .non):=fun _ _ _ H _ I h=>Constant_none ⟨.non,H,I,rfl,h⟩
theorem G5 {x j pos}:PE X (.Constant (.str x) j pos) (tC (.str x)):=fun _ _ _ H _ I h=>Calls.Constant_str ⟨.str x,H,I.tok _,⟨_,rfl⟩,h⟩
def Gl (X:Cx)(x:Str):Prop:=X.env.kindOf x=some .globalImplicit
theorem wK {E:Value→Shared→Prop}{pins:List (Addr×Obj)}{s:Shared}{σ:St}{H:Hp}{x:Str}{u:Value}{pos:Pos}{Q:Value→Shared→Prop}(I:Inv X pins σ H s)(hg:Gl X x)(hm:X.mg x=some u)(h:Q u s)
    (hd:(x == ("__debug__" : Str))=false:=by decide):wpAny (model X.prog X.w) X.A (eval (.Name x pos) X.env) Q E s:=
  Calls.Name_function_global I.ok.kind hg (Calls.loadGlobal_global (by rw[I.ok.glob];exact I.mod.glob.keeps I.bk) hm h) hd
theorem gJ {E:Value→Shared→Prop}{pins:List (Addr×Obj)}{s:Shared}{σ:St}{H:Hp}{x:Str}{u:Value}{pos:Pos}{Q:Value→Shared→Prop}(I:Inv X pins σ H s)(hg:Gl X x)(hm:X.mg x=none)(hv:bootBuiltins x=some u)(h:Q u s)
    (hn:x ≠ "__name__" := by decide) (hd:(x == ("__debug__" : Str))=false:=by decide):wpAny (model X.prog X.w) X.A (eval (.Name x pos) X.env) Q E s:=by
  obtain ⟨mb,h1,h2⟩:=I.mod.blt
  exact Calls.Name_function_global I.ok.kind hg (Calls.loadGlobal_builtin (by rw[I.ok.glob];exact I.mod.glob.keeps I.bk) hm (by rw[I.ok.blt];exact h1.keeps I.bk) ((h2 x hn).trans hv) h) hd
theorem CB {x:Str}{v:V}{u:Value}{pos:Pos}(hg:Gl X x)(hm:X.mg x=some u)(r:RelV v u)(hd:(x == ("__debug__" : Str))=false:=by decide):PE X (.Name x pos) (tC v):=
  fun _ _ _ H _ I h=>wK I hg hm ⟨v,H,I,r,h⟩ hd
theorem Di {x:Str}{v:V}{u:Value}{pos:Pos}(hg:Gl X x)(hm:X.mg x=none)(hv:bootBuiltins x=some u)(r:RelV v u)(hn:x ≠ "__name__" := by decide)(hd:(x == ("__debug__" : Str))=false:=by decide):PE X (.Name x pos) (tC v):=
  fun _ _ _ H _ I h=>gJ I hg hm hv ⟨v,H,I,r,h⟩ hn hd
variable {a b:Expr} {ta tb:TE} {pos:Pos}
def tB (t:TE):TT:=fun σ H Q=>t σ H fun x H1=>∃ c,x=.bl c∧Q c H1
theorem Hv {e:Expr}{t:TE}(h:PE X e t)(he:∀ whole,isTrue e X.env whole=(do let v ← whole;standAt e.pos;holding [v] (truthy v)):=by intro _;rfl):PT X e (tB t):=by
  intro pins s σ H Q I hw
  refine isTrue_plain (thn (h pins s σ H _ I hw) fun v s1 ⟨x,H1,I1,r1,q1⟩=>?_) (he _)
  obtain ⟨d,rfl,q⟩:=q1
  cases r1
  exact wpAny_truthy_bool ⟨H1,I1,q⟩
variable {tA tB':TT} {rest:List Expr}
def tOr (t u:TT):TT:=fun σ H Q=>t σ H fun c H1=>if c=true then Q true H1 else u σ H1 Q
def LC (t:TT):TT:=fun σ H Q=>t σ H fun c H1=>Q (!c) H1
theorem pw_or1 (ha:PT X a tA):PW X (.BoolOp .Or [a] pos) tA:=by
  intro wh pins s σ H Q I h
  refine isTrue_or (thn (ha pins s σ H Q I h) fun c s1 e=>?_)
  cases c with
  | false=>exact isTrue_or_nil e
  | true=>exact e
theorem pw_or (ha:PT X a tA)(hb:PW X (.BoolOp .Or (b::rest) pos) tB'):PW X (.BoolOp .Or (a::b::rest) pos) (tOr tA tB'):=by
  intro wh pins s σ H Q I h
  refine isTrue_or (thn (ha pins s σ H _ I h) fun c s1 ⟨H1,I1,q1⟩=>?_)
  cases c with
  | true=>exact ⟨H1,I1,q1⟩
  | false=>exact hb wh pins s1 σ H1 Q I1 q1
theorem FO (ha:PT X a tA):PT X (.UnaryOp .Not a pos) (LC tA):=by
  intro pins s σ H Q I h
  exact isTrue_not (ha pins s σ H (fun c H1=>Q (!c) H1) I h)
def Ko (ta tb:TE):TE:=fun σ H Q=>ta σ H fun x H1=>∃ c,x=.bl c∧if c=true then tb σ H1 Q else Q (.bl false) H1
def K0 (ta tb:TE):TE:=fun σ H Q=>ta σ H fun x H1=>∃ c,x=.bl c∧if c=true then Q (.bl true) H1 else tb σ H1 Q
def KA (ta:TE):TE:=fun σ H Q=>ta σ H fun x H1=>∃ c,x=.bl c∧Q (.bl (!c)) H1
theorem Hk {op}{t:TE}(h:PE X a t):PE X (.BoolOp op [a] pos) t:=fun pins s σ H Q I hw=>BoolOp_one (h pins s σ H Q I hw)
theorem Ir (ha:PE X a ta)(hb:PE X (.BoolOp .And (b::rest) pos) tb):PE X (.BoolOp .And (a::b::rest) pos) (Ko ta tb):=by
  intro pins s σ H Q I h
  refine BoolOp_and (thn (ha pins s σ H _ I h) fun v s1 ⟨x,H1,I1,r1,q1⟩=>?_)
  obtain ⟨c,rfl,q1⟩:=q1
  cases r1
  refine wpAny_truthy_bool ?_
  cases c with
  | true=>exact hb pins s1 σ H1 Q I1 q1
  | false=>exact ⟨.bl false,H1,I1,rfl,q1⟩
theorem J2 (ha:PE X a ta)(hb:PE X (.BoolOp .Or (b::rest) pos) tb):PE X (.BoolOp .Or (a::b::rest) pos) (K0 ta tb):=by
  intro pins s σ H Q I h
  refine BoolOp_or (thn (ha pins s σ H _ I h) fun v s1 ⟨x,H1,I1,r1,q1⟩=>?_)
  obtain ⟨c,rfl,q1⟩:=q1
  cases r1
  refine wpAny_truthy_bool ?_
  cases c with
  | false=>exact hb pins s1 σ H1 Q I1 q1
  | true=>exact ⟨.bl true,H1,I1,rfl,q1⟩
theorem Gv (ha:PE X a ta):PE X (.UnaryOp .Not a pos) (KA ta):=by
  intro pins s σ H Q I h
  refine UnaryOp_ (thn (ha pins s σ H _ I h) fun v s1 ⟨x,H1,I1,r1,q1⟩=>?_)
  obtain ⟨c,rfl,q1⟩:=q1
  cases r1
  exact not_of (wpAny_truthy_bool ⟨.bl (!c),H1,I1,rfl,q1⟩)
end
end L2
namespace L2
open PySem PySem.Spec PyProof.Rows
def SqL (K:PySem.W.Frag)(H:Hp)(a:Addr)(xs:List V):Prop:=
  Rd H a (.lst xs)∨
    ∃ (o:Obj) (its:Array Value) (n:Nat),K.lookup a=some o∧o.cls=.type "list" ∧ o.dict=none∧o.data=.seq its n∧its.size≤sizeLine∧Vals xs its.toList
def SqT (K:PySem.W.Frag)(H:Hp)(a:Addr)(xs:List V):Prop:=
  Rd H a (.tup xs)∨
    ∃ (o:Obj) (its:Array Value) (n:Nat),K.lookup a=some o∧o.cls=.type "tuple" ∧ o.dict=none∧o.data=.seq its n∧its.size≤sizeLine∧Vals xs its.toList
def Lh:Value→Option V
  | .none=>some .non
  | .bool b=>some (.bl b)
  | .int i _=>some (.int i)
  | .str x _=>some (.str x)
  | .bytes b _=>some (.byt b)
  | .float b _=>some (.flt b)
  | .ref a=>some (.ref a)
  | .type n=>some (.ty n)
  | _=>none
theorem RelV.abs {x:V}{u:Value}(r:RelV x u):Lh u=some x:=by
  cases x with
  | non=>cases r;rfl
  | bl _=>cases r;rfl
  | int _=>obtain ⟨t,rfl⟩:=r;rfl
  | str _=>obtain ⟨t,rfl⟩:=r;rfl
  | byt _=>obtain ⟨t,rfl⟩:=r;rfl
  | flt _=>obtain ⟨t,rfl⟩:=r;rfl
  | ref _=>cases r;rfl
  | ty _=>cases r;rfl
theorem RelV.inj {x y:V}{u:Value}(r:RelV x u)(q:RelV y u):x=y:=Option.some.inj (r.abs.symm.trans q.abs)
theorem Vals.inj:∀ {xs ys:List V} {us:List Value},Vals xs us→Vals ys us→xs=ys
  | _,_,_,.nil,.nil=>rfl
  | _,_,_,.cons r t,.cons r' t'=>by rw[r.inj r',Vals.inj t t']
section
variable {X:Cx} {pins:List (Addr×Obj)} {σ:St} {H:Hp} {s:Shared} {a:Addr} {xs ys:List V}
theorem SqL.of {K:PySem.W.Frag}(h:H a=some (.lst xs)):SqL K H a xs:=.inl (.inl h)
theorem SqT.of {K:PySem.W.Frag}(h:H a=some (.tup xs)):SqT K H a xs:=.inl (.inl h)
theorem Inv.list (I:Inv X pins σ H s)(h:SqL X.K H a xs):∃ its:List Value,Vals xs its∧PlainL s.heap a its.toArray∧xs.length≤sizeLine:=by
  rcases h with h | ⟨o,its,n,hk,hc,hd,hs,hz,r⟩
  · obtain ⟨z,its,n,r,e⟩:=h.ok I.hok
    exact ⟨its,r,⟨_,n,e,rfl,rfl,rfl⟩,z⟩
  · refine ⟨its.toList,r,⟨o,n,I.kIn a o hk,hc,hd,by simpa using hs⟩,?_⟩
    have e:=r.length
    simp only[Array.length_toList] at e
    omega
theorem Inv.tuple (I:Inv X pins σ H s)(h:SqT X.K H a xs):∃ its:List Value,Vals xs its∧IsTup s.heap a its.toArray∧xs.length≤sizeLine:=by
  rcases h with h | ⟨o,its,n,hk,hc,hdn,hs,hz,r⟩
  · obtain ⟨z,its,r,p⟩:=h.ok I.hok
    exact ⟨its,r,p.tup,z⟩
  · refine ⟨its.toList,r,⟨o,I.kIn a o hk,hc,n,by simpa using hs⟩,?_⟩
    have e:=r.length
    simp only[Array.length_toList] at e
    omega
theorem Inv.Gu (I:Inv X pins σ H s)(h:SqT X.K H a xs):∃ o,s.heap.get? a=some o∧o.cls=.type "tuple" ∧ o.dict=none:=by
  rcases h with h | ⟨o,its,n,hk,hc,hdn,hs,hz,r⟩
  · obtain ⟨z,its,r,n,e⟩:=h.ok I.hok
    exact ⟨_,e,rfl,rfl⟩
  · exact ⟨o,I.kIn a o hk,hc,hdn⟩
theorem Inv.rJ (I:Inv X pins σ H s)(h:SqL X.K H a xs)(h':SqL X.K H a ys):xs=ys:=by
  obtain ⟨its,r,⟨o,n,e,_,_,d⟩,_⟩:=I.list h
  obtain ⟨its',r',⟨o',n',e',_,_,d'⟩,_⟩:=I.list h'
  rw[e] at e';cases e'
  rw[d] at d'
  injection d' with d1 _
  have:its=its':=by simpa using congrArg Array.toList d1
  subst this
  exact r.inj r'
theorem Inv.oS (I:Inv X pins σ H s)(h:SqT X.K H a xs)(h':SqT X.K H a ys):xs=ys:=by
  obtain ⟨its,r,⟨o,e,_,n,d⟩,_⟩:=I.tuple h
  obtain ⟨its',r',⟨o',e',_,n',d'⟩,_⟩:=I.tuple h'
  rw[e] at e';cases e'
  rw[d] at d'
  injection d' with d1 _
  have:its=its':=by simpa using congrArg Array.toList d1
  subst this
  exact r.inj r'
end
abbrev Cx.j4 (X:Cx)(E:Value→Shared→Prop):Cx:={ X with xe:=E }
abbrev Cx.nox (X:Cx):Cx:=X.j4 fun _ _=>False
theorem Cx.Ok.j4 {X:Cx}(ok:X.Ok)(E:Value→Shared→Prop):(X.j4 E).Ok:=
  ⟨ok.mod,ok.kind,ok.glob,ok.blt,ok.above,ok.inj,ok.has,ok.cab,ok.hd,ok.frames,ok.stk,ok.exf,ok.bs,ok.bsz,ok.Cb,ok.Ad,ok.kb,ok.frf⟩
theorem Cx.Ok.dF {X:Cx}{E:Value→Shared→Prop}(ok:(X.j4 E).Ok):X.Ok:=
  ⟨ok.mod,ok.kind,ok.glob,ok.blt,ok.above,ok.inj,ok.has,ok.cab,ok.hd,ok.frames,ok.stk,ok.exf,ok.bs,ok.bsz,ok.Cb,ok.Ad,ok.kb,ok.frf⟩
section
variable {X:Cx} {pins:List (Addr×Obj)} {σ:St} {H:Hp} {s:Shared} {E:Value→Shared→Prop}
theorem Inv.j4 (I:Inv X pins σ H s)(E:Value→Shared→Prop):Inv (X.j4 E) pins σ H s:=⟨I.ok.j4 E,I.os,I.bare,I.base,I.loc,I.cell,I.free,I.fJ,I.pin,I.hok,I.len⟩
theorem Inv.dF (I:Inv (X.j4 E) pins σ H s):Inv X pins σ H s:=⟨I.ok.dF,I.os,I.bare,I.base,I.loc,I.cell,I.free,I.fJ,I.pin,I.hok,I.len⟩
theorem SP.dF {D:Ends}{f:Flow}{s':Shared}(h:SP (X.j4 E) pins D f s'):SP X pins D f s':=by
  cases f with
  | next=>obtain ⟨σ',H',I,q⟩:=h;exact ⟨σ',H',I.dF,q⟩
  | brk=>obtain ⟨σ',H',I,q⟩:=h;exact ⟨σ',H',I.dF,q⟩
  | cont=>obtain ⟨σ',H',I,q⟩:=h;exact ⟨σ',H',I.dF,q⟩
  | ret u=>obtain ⟨v,σ',H',I,r,q⟩:=h;exact ⟨v,σ',H',I.dF,r,q⟩
theorem PE.nox {e:Expr}{t:TE}(h:PE X.nox e t):PE X e t:=fun pins s σ H Q I hw=>
  wpAny_mono (h pins s σ H Q (I.j4 _) hw) (fun _ _ ⟨v,H',I',r,q⟩=>⟨v,H',I'.dF,r,q⟩) fun _ _ z=>False.elim z
theorem PT.nox {e:Expr}{t:TT}(h:PT X.nox e t):PT X e t:=fun pins s σ H Q I hw=>
  wpAny_mono (h pins s σ H Q (I.j4 _) hw) (fun _ _ ⟨H',I',q⟩=>⟨H',I'.dF,q⟩) fun _ _ z=>False.elim z
theorem PSs.nox {st:List Stmt}{t:TS}(h:PSs X.nox st t):PSs X st t:=fun pins s σ H D I hw=>
  wpAny_mono (h pins s σ H D (I.j4 _) hw) (fun _ _ q=>q.dF) fun _ _ z=>False.elim z
end
section
variable {X:Cx} {st:Stmt} {rest:List Stmt} {t u:TS} {e:Expr} {te:TE} {pos:Pos}
def Jf:TS:=fun D σ H=>D.nx σ H
def Lo (t u:TS):TS:=fun D σ H=>t { D with nx:=u D } σ H
theorem DH:PSs X [] Jf:=fun _ _ σ H _ I h=>wpAny_execs_nil ⟨σ,H,I,h⟩
theorem zT (h1:PS X st t)(h2:PSs X rest u):PSs X (st::rest) (Lo t u):=by
  intro pins s σ H D I h
  refine wpAny_execs_cons (thn (h1 pins s σ H { D with nx:=u D } I h) fun f s1 q=>?_)
  cases f with
  | next=>
    obtain ⟨σ',H',I',q⟩:=q
    exact h2 pins s1 σ' H' D I' q
  | ret v=>exact q
  | brk=>exact q
  | cont=>exact q
theorem CV (h1:PS X st t):PSs X [st] t:=by
  intro pins s σ H D I h
  refine wpAny_execs_cons (thn (h1 pins s σ H D I h) fun f s1 q=>?_)
  cases f with
  | next=>exact wpAny_execs_nil q
  | ret v=>exact q
  | brk=>exact q
  | cont=>exact q
theorem Inv.quiet {pins:List (Addr×Obj)}{σ:St}{H:Hp}{s:Shared}(I:Inv X pins σ H s):interactive X.env=false:=by simp[interactive,I.ok.kind]
def Jv (te:TE):TS:=fun D σ H=>te σ H fun _ H1=>D.nx σ H1
theorem D9 (he:PE X e te)(hs:swapsWith e none pos.line X.env=pure false:=by rfl):PS X (.Expr e pos) (Jv te):=by
  intro pins s σ H D I h
  exact wpAny_Expr_any (thn (he pins s σ H _ I h) fun v s1 ⟨x,H1,I1,r1,q1⟩=>⟨σ,H1,I1,q1⟩) I.quiet hs
def LP (te:TE):TS:=fun D σ H=>te σ H D.rt
theorem Hh (he:PE X e te):PS X (.Return (some e) pos) (LP te):=by
  intro pins s σ H D I h
  exact wpAny_Return_some (thn (he pins s σ H _ I h) fun v s1 ⟨x,H1,I1,r1,q1⟩=>⟨x,σ,H1,I1,r1,q1⟩)
def LU (c:TT)(t u:TS):TS:=fun D σ H=>c σ H fun b H1=>if b=true then t D σ H1 else u D σ H1
theorem JF {c:Expr}{a b:List Stmt}{tc:TT}(hc:PT X c tc)(ha:PSs X a t)(hb:PSs X b u):PS X (.If c a b pos) (LU tc t u):=by
  intro pins s σ H D I h
  refine wpAny_If (thn (hc pins s σ H _ I h) fun d s1 ⟨H1,I1,q1⟩=>?_)
  cases d with
  | true=>exact ha pins s1 σ H1 D I1 q1
  | false=>exact hb pins s1 σ H1 D I1 q1
end
abbrev TG:=V→St→Hp→(St→Hp→Prop)→Prop
abbrev TGs:=List V→St→Hp→(St→Hp→Prop)→Prop
def PG (X:Cx)(target:Expr)(t:TG):Prop:=
  ∀ (pins:List (Addr×Obj)) (s:Shared) (σ:St) (H:Hp) (v:V) (u:Value) (Q:St→Hp→Prop),Inv X pins σ H s→RelV v u→t v σ H Q→
    wpAny (model X.prog X.w) X.A (assign target X.env u) (fun _ s'=>∃ σ' H',Inv X pins σ' H' s'∧Q σ' H') X.xe s
def PGs (X:Cx)(ts:List Expr)(t:TGs):Prop:=
  ∀ (pins:List (Addr×Obj)) (s:Shared) (σ:St) (H:Hp) (vs:List V) (us:List Value) (Q:St→Hp→Prop),Inv X pins σ H s→Vals vs us→t vs σ H Q→
    wpAny (model X.prog X.w) X.A (assignInOrder ((assignEach ts X.env).map (·.2)) us) (fun _ s'=>∃ σ' H',Inv X pins σ' H' s'∧Q σ' H') X.xe s
abbrev HA:=V→V→V→Hp→(Hp→Prop)→Prop
def KH (X:Cx)(t:HA):Prop:=
  ∀ (pins:List (Addr×Obj)) (s:Shared) (σ:St) (H:Hp) (o i v:V) (ov iv u:Value) (Q:Hp→Prop),Inv X pins σ H s→RelV o ov→RelV i iv→RelV v u→t o i v H Q→
    wpAny (model X.prog X.w) X.A (setItem ov iv u) (fun _ s'=>∃ H',Inv X pins σ H' s'∧Q H') X.xe s
abbrev TIp:=V→V→Hp→VK→Prop
def PIp (X:Cx)(op:Operator)(t:TIp):Prop:=
  ∀ (pins:List (Addr×Obj)) (s:Shared) (σ:St) (H:Hp) (x y:V) (v u:Value) (Q:VK),Inv X pins σ H s→RelV x v→RelV y u→t x y H Q→
    wpAny (model X.prog X.w) X.A (inplaceOp op v u) (EP X pins σ Q) X.xe s
section
variable {X:Cx} {pos:Pos}
def zO (i:Nat):TG:=fun v σ H Q=>Q (σ.set i (some v)) H
theorem pJ {i:Nat}{x:Str}(hN:X.N.Nodup)(hi:X.N[i]? = some x)(hx:Loc X.env.scope x)(hf:X.fn x=true∨X.env.scope.names.lookup x=some .local:=by first | exact .inl rfl | exact .inr rfl | assumption):PG X (.Name x pos) (zO i):=by
  intro pins s σ H v u Q I r h
  exact wpAny_assign_Name (fS I hN hi hx r (fun s' I'=>⟨_,H,I',h⟩) hf)
def La:TGs:=fun vs σ H Q=>vs=[]∧Q σ H
def IV (t:TG)(u:TGs):TGs:=fun vs σ H Q=>∃ v r,vs=v::r∧t v σ H fun σ' H'=>u r σ' H' Q
theorem C4:PGs X [] La:=by
  intro pins s σ H vs us Q I r h
  obtain ⟨e,h⟩:=h
  subst e
  cases r
  exact assignInOrder_nil ⟨σ,H,I,h⟩
theorem A2 {e:Expr}{es:List Expr}{t:TG}{u:TGs}(h1:PG X e t)(h2:PGs X es u)
    (hs:(assignEach (e::es) X.env).map (·.2)=assign e X.env::(assignEach es X.env).map (·.2):=by rfl):PGs X (e::es) (IV t u):=by
  intro pins s σ H vs us Q I r h
  obtain ⟨v,vr,e1,h⟩:=h
  subst e1
  cases r with
  | cons r rr=>
    rw[hs]
    refine assignInOrder_cons (thn (h1 pins s σ H _ _ _ I r h) fun _ s1 ⟨σ1,H1,I1,q1⟩=>?_)
    exact h2 pins s1 σ1 H1 _ _ Q I1 rr q1
def Lk (K:PySem.W.Frag)(n:Nat)(t:TGs):TG:=fun v σ H Q=>∃ a xs,v=.ref a∧SqT K H a xs∧xs.length=n∧t xs σ H Q
theorem HZ {es:List Expr}{k:Nat}{t:TGs}{n:Nat}(hc:X.calm=true)(h:PGs X es t)
    (hn:(assignEach es X.env).length=n:=by rfl) (hst:(assignEach es X.env).findIdx? (·.1)=none:=by rfl):PG X (.Tuple es k pos) (Lk X.K n t):=by
  intro pins s σ H v u Q I r hw
  obtain ⟨a,xs,e1,hq,hl,hw⟩:=hw
  subst e1
  cases r
  obtain ⟨its,rv,ht,hz⟩:=I.tuple hq
  refine assign_Tuple_tuple (I.ok.hd hc) ht (by simp[hn,← hl,rv.length]) hst fun h' hx=>?_
  have I1:Inv X pins σ H { s with heap:=h' }:=I.kept (t':=s.toks) fun b o e=>hx b o (Nat.ne_of_lt (Heap.lt_size e)) e
  exact h pins _ σ H xs _ Q I1 (by simpa using rv) hw
def K1 (to ti:TE)(t:HA):TG:=fun v σ H Q=>to σ H fun o H1=>ti σ H1 fun i H2=>t o i v H2 fun H3=>Q σ H3
theorem G3 {o i:Expr}{to ti:TE}{t:HA}(ho:PE X o to)(hi:PE X i ti)(hs:KH X t)
    (ha:∀ v,assign (.Subscript o i pos) X.env v=(do
      let ov ← holding [v] (eval o X.env)
      let iv ← holding [v,ov] (eval i X.env)
      standAt pos
      holding [v,ov,iv] (setItem ov iv v)
      release [v,ov,iv] []):=by intro _;rfl):PG X (.Subscript o i pos) (K1 to ti t):=by
  intro pins s σ H v u Q I r h
  rw[ha]
  refine wpAny_bind (wpAny_holding (thn (ho pins s σ H _ I h) fun ov s1 ⟨x,H1,I1,r1,q1⟩=>?_))
  refine wpAny_bind (wpAny_holding (thn (hi pins s1 σ H1 _ I1 q1) fun iv s2 ⟨y,H2,I2,r2,q2⟩=>?_))
  refine wpAny_bind (wpAny_standAt (wpAny_bind (wpAny_holding (thn (hs pins s2 σ H2 x y v ov iv u _ I2 r1 r2 r q2) fun _ s3 ⟨H3,I3,q3⟩=>?_))))
  exact wpAny_release ⟨σ,H3,I3,q3⟩
def JD (te:TE)(g:TG):TS:=fun D σ H=>te σ H fun x H1=>g x σ H1 D.nx
theorem HC {tg e:Expr}{te:TE}{g:TG}(he:PE X e te)(hg:PG X tg g)(hs:swapsWithSole [tg] e pos.line X.env=pure false:=by rfl)(hw:swappedStores [tg] e X.env=pure none:=by rfl)
    (h1:(assignEach [tg] X.env).map (·.2)=[assign tg X.env]:=by rfl):PS X (.Assign [tg] e pos) (JD te g):=by
  intro pins s σ H D I h
  refine wpAny_Assign_stores (thn (he pins s σ H _ I h) fun v s1 ⟨x,H1,I1,r1,q1⟩=>?_) hs hw
  rw[h1]
  exact thn (hg pins s1 σ H1 x v _ I1 r1 q1) fun _ s2 q=>q
theorem Iu {i:Nat}{x:Str}{e:Expr}{te:TE}{pos':Pos}(hN:X.N.Nodup)(hi:X.N[i]? = some x)(hx:Loc X.env.scope x)(he:PE X e te)(hs:swapsWith e (some (.Name x pos')) pos.line X.env=pure false:=by rfl)(hf:X.fn x=true∨X.env.scope.names.lookup x=some .local:=by first | exact .inl rfl | exact .inr rfl | assumption) :
    PS X (.Assign [.Name x pos'] e pos) (JD te (zO i)):=by
  intro pins s σ H D I h
  refine wpAny_Assign_Name (thn (he pins s σ H _ I h) fun v s1 ⟨y,H1,I1,r1,q1⟩=>?_) hs
  exact fS I1 hN hi hx r1 (fun s2 I2=>⟨_,H1,I2,q1⟩) hf
def Ly (i j:Nat)(ta:TA):TS:=fun D σ H=>ta σ H fun vs H1=>∃ v w,vs=[v,w]∧D.nx ((σ.set i (some v)).set j (some w)) H1
theorem Ht {i j:Nat}{x y:Str}{a b:Expr}{ta:TA}{px py pt:Pos}{kt k2 pt2}(hc:X.calm=true)(hN:X.N.Nodup)(hi:X.N[i]? = some x)(hj:X.N[j]? = some y)(hij:i≠j)
    (hx:X.env.scope.names.lookup x=some .local) (hy:X.env.scope.names.lookup y=some .local) (ha:PA X [a,b] ta)
    (hw:swappedStores [.Tuple [.Name x px,.Name y py] kt pt] (.Tuple [a,b] k2 pt2) X.env=pure (some [x,y]))
    (hs:swapsWithSole [.Tuple [.Name x px,.Name y py] kt pt] (.Tuple [a,b] k2 pt2) pos.line X.env=pure false:=by rfl) :
    PS X (.Assign [.Tuple [.Name x px,.Name y py] kt pt] (.Tuple [a,b] k2 pt2) pos) (Ly i j ta):=by
  intro pins s σ H D I h
  rw[exec_Assign_arm]
  refine wpAny_bind (wpAny_standAt ?_)
  rw[hs]
  refine wpAny_bind (wpAny_pure ?_)
  rw[if_neg (by decide)]
  refine wpAny_bind (Tuple_ (thn (ha _ pins s σ H _ I h) fun us s1 ⟨vs,H1,I1,r1,q1⟩=>?_))
  obtain ⟨v,w,e1,q1⟩:=q1
  subst e1
  obtain ⟨u1,u2,rfl,rv,rw'⟩:∃ u1 u2,us=[u1,u2]∧RelV v u1∧RelV w u2:=by
    cases r1 with
    | cons p q=>
      cases q with
      | cons p' q'=>
        cases q'
        exact ⟨_,_,rfl,p,p'⟩
  refine wpAny_newObj_type ?_ (by show 2≤sizeLine;decide)
  have I2:Inv X pins σ H1 { s1 with heap:=s1.heap.push { cls:=.type "tuple", data:=.seq [u1,u2].toArray } }:=I1.kept (t':=s1.toks) fun b o e=>Heap.get?_push_of_some _ e
  rw[hw]
  refine wpAny_bind (wpAny_pure ?_)
  show wpAny (model X.prog X.w) X.A (do rule "assign.swapped-stores";let items ← unpackItems (.ref s1.heap.objs.size) 2 none;assignInOrder [fun v=>bindName X.env y v,fun v=>bindName X.env x v] items.reverse;pure Flow.next) _ _ _
  refine wpAny_bind (wpAny_rule (wpAny_bind (unpackItems_tuple (items:=#[u1,u2]) (I.ok.hd hc) (IsTup.new s1.heap _) fun h' hx'=>?_)))
  have I3:=I2.kept (h':=h') (t':=s1.toks) fun b o e=>hx' b o (Nat.ne_of_lt (Heap.lt_size e)) e
  show wpAny _ _ (assignInOrder [fun v=>bindName X.env y v,fun v=>bindName X.env x v] [u2,u1] >>= fun _=>pure Flow.next) _ _ _
  refine wpAny_bind (assignInOrder_cons (wpAny_bindName (fS I3 hN hj (.inl hy) rw' (fun s2 I4=>?_) (.inr hy))))
  refine assignInOrder_cons (wpAny_bindName (fS I4 hN hi (.inl hx) rv (fun s3 I5=>assignInOrder_nil (wpAny_pure ?_)) (.inr hx)))
  rw[List.set_comm _ _ (Ne.symm hij)] at I5
  exact ⟨_,H1,I5,q1⟩
def Jw (i:Nat)(te:TE)(ti:TIp):TS:=fun D σ H=>∃ x,σ[i]? = some (some x)∧te σ H fun y H1=>ti x y H1 fun z H2=>D.nx (σ.set i (some z)) H2
theorem Ii {i:Nat}{x:Str}{e:Expr}{te:TE}{op:Operator}{ti:TIp}{pos':Pos}(hN:X.N.Nodup)(hi:X.N[i]? = some x)(hx:Loc X.env.scope x)(he:PE X e te)(ho:PIp X op ti)(hf:X.fn x=true∨X.env.scope.names.lookup x=some .local:=by first | exact .inl rfl | exact .inr rfl | assumption) :
    PS X (.AugAssign (.Name x pos') op e pos) (Jw i te ti):=by
  intro pins s σ H D I h
  obtain ⟨v,e1,h⟩:=h
  obtain ⟨m,hn,hl⟩:=I.loc
  have vis:Vis X.env.scope x:=by rcases hx with k | k;exact .inl k;exact .inr (.inl k)
  obtain ⟨u,r,l⟩:=hl i x v hi e1 vis
  refine wpAny_AugAssign_Name ?_
  have go:wpAny (model X.prog X.w) X.A (eval e X.env) (fun w s₂=>wpAny (model X.prog X.w) X.A (inplaceOp op u w) (fun r s₃=>wpAny (model X.prog X.w) X.A (storeName X.env x r) (fun _=>SP X pins D .next) X.xe s₃) X.xe s₂) X.xe s:=by
    refine thn (he pins s σ H _ I h) fun w s1 ⟨y,H1,I1,r1,q1⟩=>?_
    refine thn (ho pins s1 σ H1 v y u w _ I1 r r1 q1) fun z s2 ⟨zv,H2,I2,r2,q2⟩=>?_
    exact fS I2 hN hi hx r2 (fun s3 I3=>⟨_,H2,I3,q2⟩) hf
  rcases l with ⟨hk,hm⟩ | ⟨hk,c,hc,hcell⟩
  · exact wpAny_loadName_local I.ok.kind hk hn hm go
  · rcases hk with hk | hk
    · exact wpAny_loadName_cell I.ok.kind hk hc hcell go
    · rcases hx with k | k
      · have:X.env.scope.names.lookup x=some .free:=hk
        rw[k] at this;cases this
      · have:X.env.scope.names.lookup x=some .free:=hk
        rw[k] at this;cases this
def ipI (f:Int→Int→Int):TIp:=fun x y H Q=>∃ i j,x=.int i∧y=.int j∧Q (.int (f i j)) H
theorem Ho:PIp X .Add (ipI fun i j=>i+j):=by
  intro pins s σ H x y v u Q I r1 r2 h
  obtain ⟨i,j,e1,e2,q⟩:=h
  subst e1;subst e2
  obtain ⟨t,rfl⟩:=r1
  obtain ⟨t',rfl⟩:=r2
  exact iadd_int ⟨.int _,H,I.tok _,⟨_,rfl⟩,q⟩
end
section
variable {X:Cx} {pos:Pos}
def F3 (c:TT)(tb:TS):TS:=fun D σ H=>∃ W:Nat→St→Hp→Prop,(∃ m,W m σ H)∧∀ m σ H,W m σ H→
  c σ H fun b H1=>if b=true then ∃ N:St→Hp→Prop,(∀ σ' H',N σ' H'→∃ m',m' < m∧W m' σ' H')∧tb { D with nx:=N,ct:=N,bk:=D.nx } σ H1 else D.nx σ H1
theorem AD {c:Expr}{body:List Stmt}{tc:TT}{tb:TS}(hp:PassesOwn (model X.prog X.w) X.A X.env X.xe)(hc:PT X c tc)(hb:PSs X body tb):PS X (.While c body [] pos) (F3 tc tb):=by
  intro pins s σ H D I h
  obtain ⟨W,⟨m0,w0⟩,turn⟩:=h
  refine wpAny_While (codeAny_whileLoop (fun n s'=>∃ σ' H',Inv X pins σ' H' s'∧W n σ' H') ?_ m0 ⟨σ,H,I,w0⟩)
  rintro n s1 ⟨σ1,H1,I1,w1⟩
  refine wpAny_passesOwn hp (thn (hc pins s1 σ1 H1 _ I1 (turn n σ1 H1 w1)) fun b s2 ⟨H2,I2,q2⟩=>?_)
  cases b with
  | true=>
    obtain ⟨N,hN,q2⟩:=q2
    rw[if_pos rfl]
    refine wpAny_passesOwn hp (thn (hb pins s2 σ1 H2 _ I2 q2) fun f s3 q3=>?_)
    cases f with
    | next=>
      obtain ⟨σ3,H3,I3,n3⟩:=q3
      obtain ⟨m',hm,w3⟩:=hN σ3 H3 n3
      exact ⟨m',hm,σ3,H3,I3,w3⟩
    | cont=>
      obtain ⟨σ3,H3,I3,n3⟩:=q3
      obtain ⟨m',hm,w3⟩:=hN σ3 H3 n3
      exact ⟨m',hm,σ3,H3,I3,w3⟩
    | brk=>exact q3
    | ret v=>exact q3
  | false=>
    rw[if_neg Bool.false_ne_true]
    exact wpAny_execs_nil ⟨σ1,H2,I2,q2⟩
end
structure It where
  go:Nat→Hp→Prop
  yld:Nat→Hp→V→Hp→Prop
  stop:Nat→Hp→Prop
def sD (X:Cx)(pins:List (Addr×Obj))(H:Hp)(b:Addr):Prop:=
  H b=none∧b≠X.env.locals∧b ∉ X.fs∧(b∈X.ex∨X.s₀.heap.objs.size≤b)∧(∀ x c,X.env.cells.lookup x=some c→c≠b)∧∀ p∈X.pn++pins,p.1≠b
theorem Inv.Dw {X:Cx}{pins:List (Addr×Obj)}{σ:St}{H H':Hp}{s:Shared}{b:Addr}(I:Inv X pins σ H s)(hb:s.heap.objs.size≤b)(hn:H' b=none):sD X pins H' b:=by
  refine ⟨hn,Nat.ne_of_gt (Nat.lt_of_lt_of_le I.lt hb),I.Ls hb,.inr (Nat.le_trans I.sz hb),fun x c e z=>?_,fun p hp z=>?_⟩
  · obtain ⟨v,q⟩:=I.cell x c e
    exact absurd (Nat.lt_of_lt_of_le q.lt (by rw[z];exact hb)) (Nat.lt_irrefl _)
  · exact absurd (Nat.lt_of_lt_of_le (Heap.lt_size (I.pin p hp).1) (by rw[z];exact hb)) (Nat.lt_irrefl _)
structure Turn (P:Program) (w:World) (K:PySem.W.Frag) (tg:Expr) (J:It) (fp:List Addr) (it:Addr) (tn:Nat→Heap→Prop):Prop where
  mem:it∈fp
  obj:∀ i h,tn i h→∀ b∈fp,∃ o,h.get? b=some o∧∀ v,o.data≠.cell v
  keep:∀ i h h',tn i h→(∀ b∈fp,∀ o,h.get? b=some o→h'.get? b=some o)→tn i h'
  item:∀ (X:Cx),X.prog=P→X.w=w→X.K=K→X.calm=true→∀ (i:Nat) (pins:List (Addr×Obj)) (s:Shared) (σ:St) (H:Hp) (E:Value→Shared→Prop),Inv X pins σ H s→(∀ b∈fp,sD X pins H b)→tn i s.heap→J.go i H→
    wpAny (model P w) X.A (pyNext (.ref it)) (fun r s1=>∃ u,r=some u∧
      wpAny (model P w) X.A (letOwnedTupleGo tg (.ref it) u) (fun _ s2=>∃ x H',Inv X pins σ H' s2∧RelV x u∧J.yld i H x H'∧tn (i+1) s2.heap∧∀ b∈fp,H' b=none) E s1) E s
  done:∀ (X:Cx),X.prog=P→X.w=w→X.K=K→X.calm=true→∀ (i:Nat) (pins:List (Addr×Obj)) (s:Shared) (σ:St) (H:Hp) (E:Value→Shared→Prop),Inv X pins σ H s→(∀ b∈fp,sD X pins H b)→tn i s.heap→J.stop i H→
    wpAny (model P w) X.A (pyNext (.ref it)) (fun r s1=>r=none∧Inv X pins σ H s1) E s
  self:∀ (A:Around) (i:Nat) (s:Shared) (Q:Value→Shared→Prop) (E:Value→Shared→Prop),tn i s.heap→Q (.ref it) s→wpAny (model P w) A (pyIter (.ref it)) Q E s
abbrev TI:=St→Hp→(It→Hp→Prop)→Prop
def PIE (X:Cx)(pins:List (Addr×Obj))(σ:St)(tg:Expr)(R:It→Hp→Prop)(itv:Value)(s2:Shared):Prop:=
  ∃ (it:Addr) (fp:List Addr) (tn:Nat→Heap→Prop) (J:It) (H':Hp),itv=.ref it∧Inv X pins σ H' s2∧Turn X.prog X.w X.K tg J fp it tn∧tn 0 s2.heap∧(∀ b∈fp,sD X pins H' b)∧R J H'
def PI (X:Cx)(tg iter:Expr)(wi:TI):Prop:=
  ∀ (pins:List (Addr×Obj)) (s:Shared) (σ:St) (H:Hp) (R:It→Hp→Prop),Inv X pins σ H s→wi σ H R→
    wpAny (model X.prog X.w) X.A (eval iter X.env) (fun v s1=>wpAny (model X.prog X.w) X.A (pyIter v) (PIE X pins σ tg R) X.xe s1) X.xe s
theorem AF {M:Model}{A:Around}{E:Value→Shared→Prop}{s:Shared}{tg:Expr}{it:Addr}{u:Value}{o:Obj}{n:String}{vs:Array Value}{Q:Unit→Shared→Prop}(ho:s.heap.get? it=some o)(hc:o.cls=.type n)(hd:o.data=.fields vs)
    (hn:["enumerate", "zip", "dict_itemiterator", "dict_reverseitemiterator", "odict_iterator", "itertools.zip_longest", "itertools.pairwise"].contains n=false) (hQ:Q () s):wpAny M A (letOwnedTupleGo tg (.ref it) u) Q E s:=by
  unfold letOwnedTupleGo
  cases tg<;>first
    | exact wpAny_pure hQ
    | (cases u<;>first
        | exact wpAny_pure hQ
        | (refine wpAny_bind (wpAny_load ho ?_)
           rw[hc,hd]
           show wpAny M A (if (["enumerate", "zip", "dict_itemiterator", "dict_reverseitemiterator", "odict_iterator", "itertools.zip_longest", "itertools.pairwise"].contains n&&vs[0]? == some (rawInt _))=true then _ else _) Q E s
           rw[if_neg (by intro h;rw[hn,Bool.false_and] at h;cases h)]
           exact wpAny_pure hQ))
def Itl (K:PySem.W.Frag)(a:Addr):It:=
  ⟨fun i H=>∃ xs x,SqL K H a xs∧xs[i]? = some x,fun i H x H'=>H'=H∧∀ xs,SqL K H a xs→xs[i]? = some x,fun i H=>∃ xs,SqL K H a xs∧xs.length≤i⟩
def Itt (K:PySem.W.Frag)(a:Addr):It:=
  ⟨fun i H=>∃ xs x,SqT K H a xs∧xs[i]? = some x,fun i H x H'=>H'=H∧∀ xs,SqT K H a xs→xs[i]? = some x,fun i H=>∃ xs,SqT K H a xs∧xs.length≤i⟩
def Itr (lo:Int)(n:Nat):It:=⟨fun i _=>i < n,fun i H x H'=>H'=H∧x=.int (lo+i),fun i _=>n≤i⟩
theorem xM {P:Program}{w:World}{K:PySem.W.Frag}{tg:Expr}(a it:Addr):Turn P w K tg (Itl K a) [it] it (fun i h=>h.IsListIter it a i) where
  mem:=by simp
  obj:=fun i h st b hb=>by
    have e:b=it:=by simpa using hb
    subst e
    obtain ⟨o,e,c,d⟩:=st
    exact ⟨o,e,fun v z=>by rw[d] at z;cases z⟩
  keep:=fun i h h' st k=>st.at fun o e=>k it (by simp) o e
  item:=by
    intro X hP hw hK hc i pins s σ H E I hf st hg
    subst hP hw hK
    obtain ⟨xs,x,hq,hx⟩:=hg
    obtain ⟨its,rv,p,hz⟩:=I.list hq
    obtain ⟨u,hu,ru⟩:=rv.get hx
    obtain ⟨f0,f1,f2,f3,f4,f5⟩:=hf it (by simp)
    refine wpAny_pyNext_list_item st p.isList (x:=u) (by simpa using hu) fun h' st' sb=>?_
    have I1:Inv X pins σ H { s with heap:=h' }:=I.turned (t':=s.toks) (fun b o hb e=>(sb.2 b hb).trans e) f0 f1 f3 f4 f5
    obtain ⟨o,e,c,d⟩:=id st'
    exact ⟨u,rfl,AF (s:={ s with heap:=h' }) e c d (by decide) ⟨x,H,I1,ru,⟨rfl,fun ys hy=>by rw[I.rJ hy hq];exact hx⟩,st',fun b hb=>(hf b hb).1⟩⟩
  done:=by
    intro X hP hw hK hc i pins s σ H E I hf st hg
    subst hP hw hK
    obtain ⟨xs,hq,hx⟩:=hg
    obtain ⟨its,rv,p,hz⟩:=I.list hq
    obtain ⟨f0,f1,f2,f3,f4,f5⟩:=hf it (by simp)
    have hl:=rv.length
    exact wpAny_pyNext_list_end (I.ok.hd hc) st p.isList (by simp;omega) fun h' eb=>⟨rfl,I.turned (t':=s.toks) (fun b o hb e=>eb b o hb e) f0 f1 f3 f4 f5⟩
  self:=fun _ _ _ _ _ st h=>wpAny_pyIter_listiter st h
theorem uk {P:Program}{w:World}{K:PySem.W.Frag}{tg:Expr}(a it:Addr):Turn P w K tg (Itt K a) [it] it (fun i h=>h.IsTupleIter it a i) where
  mem:=by simp
  obj:=fun i h st b hb=>by
    have e:b=it:=by simpa using hb
    subst e
    obtain ⟨o,e,c,d⟩:=st
    exact ⟨o,e,fun v z=>by rw[d] at z;cases z⟩
  keep:=fun i h h' st k=>st.at fun o e=>k it (by simp) o e
  item:=by
    intro X hP hw hK hc i pins s σ H E I hf st hg
    subst hP hw hK
    obtain ⟨xs,x,hq,hx⟩:=hg
    obtain ⟨its,rv,p,hz⟩:=I.tuple hq
    obtain ⟨u,hu,ru⟩:=rv.get hx
    obtain ⟨f0,f1,f2,f3,f4,f5⟩:=hf it (by simp)
    refine wpAny_pyNext_tuple_item st (show s.heap.IsTuple a its.toArray from p) (x:=u) (by simpa using hu) fun h' st' sb=>?_
    have I1:Inv X pins σ H { s with heap:=h' }:=I.turned (t':=s.toks) (fun b o hb e=>(sb.2 b hb).trans e) f0 f1 f3 f4 f5
    obtain ⟨o,e,c,d⟩:=id st'
    exact ⟨u,rfl,AF (s:={ s with heap:=h' }) e c d (by decide) ⟨x,H,I1,ru,⟨rfl,fun ys hy=>by rw[I.oS hy hq];exact hx⟩,st',fun b hb=>(hf b hb).1⟩⟩
  done:=by
    intro X hP hw hK hc i pins s σ H E I hf st hg
    subst hP hw hK
    obtain ⟨xs,hq,hx⟩:=hg
    obtain ⟨its,rv,p,hz⟩:=I.tuple hq
    obtain ⟨f0,f1,f2,f3,f4,f5⟩:=hf it (by simp)
    have hl:=rv.length
    exact wpAny_pyNext_tuple_end (I.ok.hd hc) st (show s.heap.IsTuple a its.toArray from p) (by simp;omega) fun h' eb=>⟨rfl,I.turned (t':=s.toks) (fun b o hb e=>eb b o hb e) f0 f1 f3 f4 f5⟩
  self:=fun _ _ _ _ _ st h=>wpAny_pyIter_tupleiter st h
theorem uJ {P:Program}{w:World}{K:PySem.W.Frag}{tg:Expr}(it:Addr)(lo:Int)(n:Nat):Turn P w K tg (Itr lo n) [it] it (fun i h=>IsRangeIter h it (lo+(i:Nat)*1) ((n:Int) - (i:Nat)) 1) where
  mem:=by simp
  obj:=fun i h st b hb=>by
    have e:b=it:=by simpa using hb
    subst e
    exact ⟨_,st,fun v z=>by
      have z':Data.fields _=Data.cell v:=z
      cases z'⟩
  keep:=fun i h h' st k=>k it (by simp) _ st
  item:=by
    intro X hP hw hK hc i pins s σ H E I hf st hg
    subst hP hw hK
    obtain ⟨f0,f1,f2,f3,f4,f5⟩:=hf it (by simp)
    have W:=Walks.range (prog:=X.prog) (w:=X.w) (I.ok.hd hc) it lo 1 n
    refine W.item i s _ _ hg st fun v h' tk hv st' kk=>?_
    obtain ⟨t,rfl⟩:=hv
    have I1:Inv X pins σ H { s with heap:=h',toks:=tk }:=I.turned (fun b o hb e=>kk b o (by simpa using hb) e) f0 f1 f3 f4 f5
    refine ⟨_,rfl,AF (s:={ s with heap:=h',toks:=tk }) (n := "range_iterator") st' rfl rfl (by decide) ⟨.int (lo+i),H,I1,⟨t,?_⟩,⟨rfl,rfl⟩,st',fun b hb=>(hf b hb).1⟩⟩
    rw[Int.mul_one]
  done:=by
    intro X hP hw hK hc i pins s σ H E I hf st hg
    subst hP hw hK
    obtain ⟨f0,f1,f2,f3,f4,f5⟩:=hf it (by simp)
    exact wpAny_pyNext_range_end (I.ok.hd hc) st (by have:n≤i:=hg;omega) fun h' eb=>⟨rfl,I.turned (t':=s.toks) (fun b o hb e=>eb b o hb e) f0 f1 f3 f4 f5⟩
  self:=fun _ _ _ _ _ st h=>wpAny_pyIter_rangeiter st h
end L2
namespace L2
open PySem PySem.Spec PyProof.Rows
section
variable {X:Cx} {tg:Expr}
theorem sH {pins:List (Addr×Obj)}{σ:St}{H:Hp}{s:Shared}{R:It→Hp→Prop}{E:Value→Shared→Prop}{lo hi:Int}{t u v:Tok}{tk:Nat}(I:Inv X pins σ H s)(h1:-(2 ^ 62)≤lo)(h2:lo < 2 ^ 62)(h3:-(2 ^ 62)≤hi)(h4:hi < 2 ^ 62)
    (q:R (Itr lo (hi - lo).toNat) H):wpAny (model X.prog X.w) X.A (pyIter (.ref s.heap.objs.size)) (PIE X pins σ tg R) E { s with heap:=s.heap.push { cls:=.type "range", data:=.fields #[.int lo t,.int hi u,.int 1 v] },toks:=tk }:=by
  refine wpAny_pyIter_range (IsRange.new ..) (small_one h1 h2 h3 h4) ?_
  have I1:Inv X pins σ H { s with heap:=s.heap.push { cls:=.type "range", data:=.fields #[.int lo t,.int hi u,.int 1 v] },toks:=tk }:=I.kept fun b o e=>Heap.get?_push_of_some _ e
  refine ⟨(s.heap.push { cls:=.type "range", data:=.fields #[.int lo t,.int hi u,.int 1 v] }).objs.size,[(s.heap.push { cls:=.type "range", data:=.fields #[.int lo t,.int hi u,.int 1 v] }).objs.size],_,_,H,rfl,
    I1.kept (t':=tk) fun b o e=>Heap.get?_push_of_some _ e,uJ _ lo (hi - lo).toNat,?_,fun b hb=>?_,q⟩
  · have e1:lo+((0:Nat):Int)*1=lo:=by simp
    have e2:(((hi - lo).toNat:Nat):Int) - ((0:Nat):Int)=Builtin.Range.rangeSize lo hi 1:=by rw[rangeSize_one];split<;>omega
    show IsRangeIter _ _ (lo+((0:Nat):Int)*1) ((((hi - lo).toNat:Nat):Int) - ((0:Nat):Int)) 1
    rw[e1,e2]
    exact Heap.get?_push_size _ rfl
  · have e:b=(s.heap.push { cls:=.type "range", data:=.fields #[.int lo t,.int hi u,.int 1 v] }).objs.size:=by simpa using hb
    subst e
    exact I1.Dw (Nat.le_refl _) (I1.hok.fresh (Nat.le_refl _))
def IX (ta:TA):TI:=fun σ H R=>ta σ H fun vs H1=>∃ j:Int,vs=[.int j]∧-(2 ^ 62)≤j∧j < 2 ^ 62∧R (Itr 0 j.toNat) H1
def KP (ta:TA):TI:=fun σ H R=>ta σ H fun vs H1=>∃ i j:Int,vs=[.int i,.int j]∧(-(2 ^ 62)≤i∧i < 2 ^ 62∧-(2 ^ 62)≤j∧j < 2 ^ 62)∧R (Itr i (j - i).toNat) H1
theorem yk {a:Expr}{ta:TA}{p pos:Pos}(hg:Gl X "range")(hm:X.mg "range" = none)(ha:PA X [a] ta)(hs:starEach [a] X.env=[(false,eval a X.env)]:=by rfl):PI X tg (.Call (.Name "range" p) [a] [] pos) (IX ta):=by
  intro pins s σ H R I h
  refine Call_ (gJ I hg hm boot_range (PyProof.Rows.callWith_type1 (thn (ha pos pins s σ H _ I h) fun us s1 ⟨vs,H1,I1,r1,q1⟩=>?_) hs rfl))
  obtain ⟨j,e,q1,q2,q⟩:=q1
  subst e
  cases r1 with
  | cons r rr=>
    cases rr
    obtain ⟨t,rfl⟩:=r
    exact call_range_1 (sH I1 (by omega) (by omega) q1 q2 (by simpa using q))
theorem yT {a b:Expr}{ta:TA}{p pos:Pos}(hg:Gl X "range")(hm:X.mg "range" = none)(ha:PA X [a,b] ta)(hs:starEach [a,b] X.env=[(false,eval a X.env),(false,eval b X.env)]:=by rfl)(hs2:starEach [b] X.env=[(false,eval b X.env)]:=by rfl) :
    PI X tg (.Call (.Name "range" p) [a,b] [] pos) (KP ta):=by
  intro pins s σ H R I h
  refine Call_ (gJ I hg hm boot_range (PyProof.Rows.callWith_type1 (thn (ha pos pins s σ H _ I h) fun us s1 ⟨vs,H1,I1,r1,q1⟩=>?_) (by rw[hs,hs2]) (by rw[hs2];rfl)))
  obtain ⟨i,j,e,⟨q1,q2,q3,q4⟩,q⟩:=q1
  subst e
  cases r1 with
  | cons r rr=>
    cases rr with
    | cons r' rr=>
      cases rr
      obtain ⟨t,rfl⟩:=r
      obtain ⟨t',rfl⟩:=r'
      exact call_range_2 (sH I1 q1 q2 q3 q4 q)
def Lm (wi:TI)(g:TG)(tb:TS):TS:=fun D σ H=>wi σ H fun J H1=>∃ W:Nat→Nat→St→Hp→Prop,(∃ m,W 0 m σ H1)∧∀ i m σ H,W i m σ H→
  (J.stop i H∧D.nx σ H)∨(J.go i H∧∃ N:St→Hp→Prop,(∀ σ' H',N σ' H'→∃ m',m' < m∧W (i+1) m' σ' H')∧∀ x H',J.yld i H x H'→g x σ H' fun σ2 H2=>tb { D with nx:=N,ct:=N,bk:=D.nx } σ2 H2)
def lD (fp:List Addr)(h:Heap):List (Addr×Obj):=fp.filterMap fun b=>(h.get? b).map fun o=>(b,o)
theorem eU {fp:List Addr}{h:Heap}{b:Addr}{o:Obj}(hb:b∈fp)(e:h.get? b=some o):(b,o)∈lD fp h:=List.mem_filterMap.mpr ⟨b,hb,by rw[e];rfl⟩
theorem xK {fp:List Addr}{h:Heap}{p:Addr×Obj}(hp:p∈lD fp h):p.1∈fp∧h.get? p.1=some p.2:=by
  obtain ⟨b,hb,e⟩:=List.mem_filterMap.mp hp
  cases q:h.get? b with
  | none=>rw[q] at e;cases e
  | some o=>
    rw[q] at e
    have e':(b,o)=p:=Option.some.inj e
    subst e'
    exact ⟨hb,q⟩
theorem Inv.pinned {pins:List (Addr×Obj)}{σ:St}{H:Hp}{s:Shared}{fp:List Addr}(I:Inv X pins σ H s)(hf:∀ b∈fp,sD X pins H b)(ho:∀ b∈fp,∃ o,s.heap.get? b=some o∧∀ v,o.data≠.cell v):Inv X (pins++lD fp s.heap) σ H s:=
  I.xk fun p hp=>(List.mem_append.mp hp).elim (fun z=>I.pin p (List.mem_append_right _ z)) fun z=>by
    obtain ⟨hb,e⟩:=xK z
    obtain ⟨f0,f1,f2,_⟩:=hf p.1 hb
    obtain ⟨o,e',d⟩:=ho p.1 hb
    rw[e] at e';cases e'
    exact ⟨e,f0,f1,f2,d⟩
theorem Inv.gR {pins pl:List (Addr×Obj)}{σ:St}{H:Hp}{s:Shared}(I:Inv X (pins++pl) σ H s):Inv X pins σ H s:=I.xk fun p hp=>I.pin p (List.mem_append_right _ (List.mem_append_left _ hp))
theorem FG {iter:Expr}{body:List Stmt}{wi:TI}{g:TG}{tb:TS}{pos:Pos}(hp:PassesOwn (model X.prog X.w) X.A X.env X.xe)(hc:X.calm=true)(hi:PI X tg iter wi)(hg:PG X tg g)(hb:PSs X body tb)
    (hs:∀ x,foldedSetIterable iter X.env x=pure x:=by intro _;rfl):PS X (.For tg iter body [] pos) (Lm wi g tb):=by
  intro pins s σ H D I h
  refine wpAny_For (thn (hi pins s σ H _ I h) fun v s1 h1=>thn h1 fun itv s2 h2=>?_) hs
  obtain ⟨it,fp,tn,J,H2,e,I2,T,st2,f2,W,⟨m0,w0⟩,turn⟩:=h2
  subst e
  -- what stays true of the iterator's objects through the loop
  have uQ:∀ {H':Hp},(∀ b∈fp,H' b=none)→∀ b∈fp,sD X pins H' b:=fun hn b hb=>⟨hn b hb,(f2 b hb).2⟩
  refine codeAny_forLoop_any (fun n s'=>∃ i σ' H',Inv X pins σ' H' s'∧tn i s'.heap∧(∀ b∈fp,H' b=none)∧W i n σ' H') ?_ m0 ⟨0,σ,H2,I2,st2,fun b hb=>(f2 b hb).1,w0⟩
  rintro n s3 ⟨i,σ3,H3,I3,st3,fr3,w3⟩
  rcases turn i n σ3 H3 w3 with ⟨stop,qn⟩ | ⟨go,N,hN,step⟩
  · refine wpAny_passesOwn hp (thn (T.done X rfl rfl rfl hc i pins s3 σ3 H3 X.xe I3 (uQ fr3) st3 stop) fun r s4 ⟨hr,I4⟩=>?_)
    subst hr
    exact wpAny_execs_nil ⟨σ3,H3,I4,qn⟩
  · refine wpAny_passesOwn hp (thn (T.item X rfl rfl rfl hc i pins s3 σ3 H3 X.xe I3 (uQ fr3) st3 go) fun r s4 ⟨u,hr,h4⟩=>?_)
    subst hr
    refine wpAny_passesOwn hp (thn h4 fun _ s5 ⟨x,H5,I5,r5,y5,st5,fr5⟩=>?_)
    have I5':=I5.pinned (uQ fr5) (T.obj _ _ st5)
    refine wpAny_passesOwn hp (thn (hg _ s5 σ3 H5 x u _ I5' r5 (step x H5 y5)) fun _ s6 ⟨σ6,H6,I6,q6⟩=>?_)
    refine wpAny_passesOwn hp (thn (hb _ s6 σ6 H6 _ I6 q6) fun f s7 q7=>?_)
    have again:∀ {σ7:St} {H7:Hp},Inv X (pins++lD fp s5.heap) σ7 H7 s7→N σ7 H7→∃ m,m < n∧∃ i σ' H',Inv X pins σ' H' s7∧tn i s7.heap∧(∀ b∈fp,H' b=none)∧W i m σ' H':=fun {σ7 H7} I7 n7=>by
      obtain ⟨m',hm,w7⟩:=hN σ7 H7 n7
      refine ⟨m',hm,i+1,σ7,H7,I7.gR,T.keep _ _ _ st5 fun b hb o e=>(I7.pin (b,o) (List.mem_append_right _ (List.mem_append_right _ (eU hb e)))).1,fun b hb=>?_,w7⟩
      obtain ⟨o,e,d⟩:=T.obj _ _ st5 b hb
      exact (I7.pin (b,o) (List.mem_append_right _ (List.mem_append_right _ (eU hb e)))).2.1
    cases f with
    | next=>obtain ⟨σ7,H7,I7,n7⟩:=q7;exact again I7 n7
    | cont=>obtain ⟨σ7,H7,I7,n7⟩:=q7;exact again I7 n7
    | brk=>obtain ⟨σ7,H7,I7,q7⟩:=q7;exact ⟨σ7,H7,I7.gR,q7⟩
    | ret v=>obtain ⟨x7,σ7,H7,I7,r7,q7⟩:=q7;exact ⟨x7,σ7,H7,I7.gR,r7,q7⟩
end
end L2
namespace L2
open PySem PySem.Spec PyProof.Rows
abbrev R2:=V→V→Hp→VK→Prop
def OpR (X:Cx)(f:Value→Value→Sem Value)(r:R2):Prop:=
  ∀ (pins:List (Addr×Obj)) (s:Shared) (σ:St) (H:Hp) (x y:V) (v u:Value) (Q:VK),Inv X pins σ H s→RelV x v→RelV y u→r x y H Q→
    wpAny (model X.prog X.w) X.A (f v u) (EP X pins σ Q) X.xe s
def UnR (X:Cx)(f:Value→Sem Value)(r:V→Hp→VK→Prop):Prop:=
  ∀ (pins:List (Addr×Obj)) (s:Shared) (σ:St) (H:Hp) (x:V) (v:Value) (Q:VK),Inv X pins σ H s→RelV x v→r x H Q→
    wpAny (model X.prog X.w) X.A (f v) (EP X pins σ Q) X.xe s
def bz (X:Cx)(f:Value)(r:List V→Hp→VK→Prop):Prop:=
  ∀ (pins:List (Addr×Obj)) (s:Shared) (σ:St) (H:Hp) (xs:List V) (us:List Value) (Q:VK),Inv X pins σ H s→Vals xs us→r xs H Q→
    wpAny (model X.prog X.w) X.A (call f us) (EP X pins σ Q) X.xe s
def tOp (r:R2)(ta tb:TE):TE:=fun σ H Q=>ta σ H fun x H1=>tb σ H1 fun y H2=>r x y H2 Q
def tUn (r:V→Hp→VK→Prop)(ta:TE):TE:=fun σ H Q=>ta σ H fun x H1=>r x H1 Q
def rI (C:Int→Int→Prop)(g:Int→Int→V):R2:=fun x y H Q=>∃ i j,x=.int i∧y=.int j∧C i j∧Q (g i j) H
def rI0 (g:Int→Int→V):R2:=fun x y H Q=>∃ i j,x=.int i∧y=.int j∧Q (g i j) H
def rU (g:Int→V):V→Hp→VK→Prop:=fun x H Q=>∃ i,x=.int i∧Q (g i) H
section
variable {X:Cx} {a b c:Expr} {ta tb tc:TE} {pos:Pos}
theorem HE (ha:PE X a ta)(hb:PE X b tb){pins:List (Addr×Obj)}{s:Shared}{σ:St}{H:Hp}{R:V→V→Hp→Prop}(I:Inv X pins σ H s)
    (h:ta σ H fun x H1=>tb σ H1 fun y H2=>R x y H2) {Q:Value→Shared→Prop} {f:Value→Value→Sem Value}
    (hf:∀ v u s2 x y H2,Inv X pins σ H2 s2→RelV x v→RelV y u→R x y H2→wpAny (model X.prog X.w) X.A (f v u) Q X.xe s2) :
    wpAny (model X.prog X.w) X.A (eval a X.env) (fun v s₁=>wpAny (model X.prog X.w) X.A (eval b X.env) (fun u s₂=>wpAny (model X.prog X.w) X.A (f v u) Q X.xe s₂) X.xe s₁) X.xe s:=by
  refine thn (ha pins s σ H _ I h) fun v s1 ⟨x,H1,I1,r1,q1⟩=>?_
  refine thn (hb pins s1 σ H1 _ I1 q1) fun u s2 ⟨y,H2,I2,r2,q2⟩=>?_
  exact hf v u s2 x y H2 I2 r1 r2 q2
theorem A7 {op:Operator}{r:R2}(ho:OpR X (binaryOp op) r)(ha:PE X a ta)(hb:PE X b tb):PE X (.BinOp a op b pos) (tOp r ta tb):=by
  intro pins s σ H Q I h
  exact wpAny_BinOp (HE ha hb I h fun v u s2 x y H2 I2 rx ry q=>ho pins s2 σ H2 x y v u Q I2 rx ry q)
theorem J1 {op:UnaryOp}{r:V→Hp→VK→Prop}(ho:UnR X (unaryOp op) r)(ha:PE X a ta):PE X (.UnaryOp op a pos) (tUn r ta):=by
  intro pins s σ H Q I h
  exact UnaryOp_ (thn (ha pins s σ H _ I h) fun v s1 ⟨x,H1,I1,r1,q1⟩=>ho pins s1 σ H1 x v Q I1 r1 q1)
theorem opI {f:Value→Value→Sem Value}{C:Int→Int→Prop}{g:Int→Int→Int}
    (rule:∀ (i j:Int) (t u:Tok) (s:Shared) (Q:Value→Shared→Prop) (E:Value→Shared→Prop),C i j→Q (.int (g i j) s.toks) { s with toks:=s.toks+1 }→wpAny (model X.prog X.w) X.A (f (.int i t) (.int j u)) Q E s) :
    OpR X f (rI C fun i j=>.int (g i j)):=by
  intro pins s σ H x y v u Q I rx ry h
  obtain ⟨i,j,rfl,rfl,hc,q⟩:=h
  obtain ⟨t,rfl⟩:=rx
  obtain ⟨t',rfl⟩:=ry
  exact rule i j t t' s _ _ hc ⟨.int (g i j),H,I.tok _,⟨_,rfl⟩,q⟩
theorem IG {f:Value→Value→Sem Value}{g:Int→Int→Int}
    (rule:∀ (i j:Int) (t u:Tok) (s:Shared) (Q:Value→Shared→Prop) (E:Value→Shared→Prop),Q (.int (g i j) s.toks) { s with toks:=s.toks+1 }→wpAny (model X.prog X.w) X.A (f (.int i t) (.int j u)) Q E s) :
    OpR X f (rI0 fun i j=>.int (g i j)):=by
  intro pins s σ H x y v u Q I rx ry h
  obtain ⟨i,j,rfl,rfl,q⟩:=h
  obtain ⟨t,rfl⟩:=rx
  obtain ⟨t',rfl⟩:=ry
  exact rule i j t t' s _ _ ⟨.int (g i j),H,I.tok _,⟨_,rfl⟩,q⟩
theorem Dj {f:Value→Value→Sem Value}{g:Int→Int→Bool}
    (rule:∀ (i j:Int) (t u:Tok) (s:Shared) (Q:Value→Shared→Prop) (E:Value→Shared→Prop),Q (.bool (g i j)) s→wpAny (model X.prog X.w) X.A (f (.int i t) (.int j u)) Q E s) :
    OpR X f (rI0 fun i j=>.bl (g i j)):=by
  intro pins s σ H x y v u Q I rx ry h
  obtain ⟨i,j,rfl,rfl,q⟩:=h
  obtain ⟨t,rfl⟩:=rx
  obtain ⟨t',rfl⟩:=ry
  exact rule i j t t' s _ _ ⟨.bl (g i j),H,I,rfl,q⟩
def Kw (i j:Int):Prop:=0≤j∧j≤1000000∧i.natAbs < 2 ^ 64
def Ju (i j:Int):Prop:=(-(2 ^ 64) < i∧i < 2 ^ 64)∨(-(2 ^ 64) < j∧j < 2 ^ 64)
theorem Ju.ok {i j:Int}(h:Ju i j):IntMulOk i j:=by
  rcases h with ⟨h1,h2⟩ | ⟨h1,h2⟩
  · exact .of_left (intBits_le_64 h1 h2)
  · exact .of_right (intBits_le_64 h1 h2)
theorem tM (k:Nat):(0:Int)≤2 ^ k:=by
  rw[two_pow_cast]
  exact Int.natCast_nonneg _
theorem Ge:OpR X (binaryOp .Add) (rI0 fun i j=>.int (i+j)):=IG fun _ _ _ _ _ _ _ q=>add_int q
theorem GQ:OpR X (binaryOp .Sub) (rI0 fun i j=>.int (i - j)):=IG fun _ _ _ _ _ _ _ q=>sub_int q
theorem Eh:OpR X (binaryOp .Mod) (rI (fun _ j=>j≠0) fun i j=>.int (i.fmod j)):=opI fun _ _ _ _ _ _ _ hc q=>mod_int' hc q
theorem IJ:OpR X (binaryOp .Pow) (rI Kw fun i j=>.int (i ^ j.toNat)):=opI fun _ _ _ _ _ _ _ hc q=>pow_int_small hc.1 hc.2.1 hc.2.2 q
theorem z8:OpR X (binaryOp .LShift) (rI Kw fun i j=>.int (i*2 ^ j.toNat)):=opI fun _ _ _ _ _ _ _ hc q=>lshift_int_small hc.1 hc.2.1 hc.2.2 q
theorem A0:OpR X (binaryOp .RShift) (rI (fun _ j=>0≤j) fun i j=>.int (i / 2 ^ j.toNat)):=opI fun i j _ _ _ _ _ hc q=>
  rshift_int hc (by rw[Int.fdiv_eq_ediv_of_nonneg i (tM _)];exact q)
theorem unI {f:Value→Sem Value}{g:Int→Int}
    (rule:∀ (i:Int) (t:Tok) (s:Shared) (Q:Value→Shared→Prop) (E:Value→Shared→Prop),Q (.int (g i) s.toks) { s with toks:=s.toks+1 }→wpAny (model X.prog X.w) X.A (f (.int i t)) Q E s) :
    UnR X f (rU fun i=>.int (g i)):=by
  intro pins s σ H x v Q I rx h
  obtain ⟨i,rfl,q⟩:=h
  obtain ⟨t,rfl⟩:=rx
  exact rule i t s _ _ ⟨.int (g i),H,I.tok _,⟨_,rfl⟩,q⟩
theorem Gm:UnR X (unaryOp .USub) (rU fun i=>.int (-i)):=unI fun _ _ _ _ _ q=>neg_int q
end
def Js:V→V→Bool
  | .non,.non=>true | .non,.int _=>true | .int _,.non=>true | .non,.bl _=>true | .bl _,.non=>true | .non,.str _=>true | .str _,.non=>true
  | .int _,.int _=>true | .bl _,.bl _=>true | .str _,.str _=>true | .byt _,.byt _=>true
  | .int _,.str _=>true | .str _,.int _=>true | .bl _,.str _=>true | .str _,.bl _=>true
  | _,_=>false
def rEq:R2:=fun x y H Q=>Js x y=true∧Q (.bl (decide (x=y))) H
def rNe:R2:=fun x y H Q=>Js x y=true∧Q (.bl (!decide (x=y))) H
section
variable {X:Cx} {a b c:Expr} {ta tb tc:TE} {pos:Pos}
theorem Fo:OpR X (compareOp .Lt) (rI0 fun i j=>.bl (decide (i < j))):=Dj fun _ _ _ _ _ _ _ q=>lt_int q
theorem KJ:OpR X (compareOp .LtE) (rI0 fun i j=>.bl (decide (i≤j))):=Dj fun _ _ _ _ _ _ _ q=>le_int q
theorem JO:OpR X (compareOp .Gt) (rI0 fun i j=>.bl (decide (j < i))):=Dj fun _ _ _ _ _ _ _ q=>gt_int q
theorem Fh:OpR X (compareOp .GtE) (rI0 fun i j=>.bl (decide (j≤i))):=Dj fun _ _ _ _ _ _ _ q=>ge_int q
theorem OpR.or {f:Value→Value→Sem Value}{r r':R2}(h:OpR X f r)(h':OpR X f r'):OpR X f (fun x y H Q=>r x y H Q∨r' x y H Q):=by
  intro pins s σ H x y v u Q I rx ry q
  rcases q with q | q
  · exact h pins s σ H x y v u Q I rx ry q
  · exact h' pins s σ H x y v u Q I rx ry q
theorem dj (b:Expr){op:CmpOp}(h:op≠.In:=by decide)(h2:op≠.NotIn:=by decide):behindInMarks op b=false:=by
  have e1:(op == CmpOp.In)=false:=by cases op<;>first | rfl | exact absurd rfl h
  have e2:(op == CmpOp.NotIn)=false:=by cases op<;>first | rfl | exact absurd rfl h2
  cases b<;>simp[behindInMarks,e1,e2]
theorem DI {op:CmpOp}{r:R2}(ho:OpR X (compareOp op) r)(ha:PE X a ta)(hb:PE X b tb)(hm:behindInMarks op b=false):PE X (.Compare a [op] [b] pos) (tOp r ta tb):=by
  intro pins s σ H Q I h
  exact wpAny_Compare1 (HE ha hb I h fun v u s2 x y H2 I2 rx ry q=>ho pins s2 σ H2 x y v u Q I2 rx ry q) hm
def Fj (t:TE):TT:=fun σ H Q=>t σ H fun x H'=>∃ k,x=.bl k∧Q k H'
theorem Dc {op:CmpOp}{r:R2}(ho:OpR X (compareOp op) r)(ha:PE X a ta)(hb:PE X b tb)(hm:behindInMarks op b=false):PT X (.Compare a [op] [b] pos) (Fj (tOp r ta tb)):=by
  intro pins s σ H Q I h
  refine wpAny_isTrue_Compare1 (thn (ha pins s σ H _ I h) fun v s1 ⟨x,H1,I1,r1,q1⟩=>thn (hb pins s1 σ H1 _ I1 q1) fun u s2 ⟨y,H2,I2,r2,q2⟩=>
    thn (ho pins s2 σ H2 x y v u _ I2 r1 r2 q2) fun c s3 ⟨z,H3,I3,r3,k,e,q3⟩=>?_) hm
  subst e
  cases r3
  exact wpAny_truthy_bool ⟨H3,I3,q3⟩
theorem jg:(sizeLine:Nat) < 2 ^ 63:=by rw[sizeLine_eq];decide
theorem vD:OpR X (binaryOp .Add) (fun x y H Q=>∃ i j,x=.str i∧y=.str j∧i.length+j.length≤sizeLine∧Q (.str (i++j)) H):=by
  intro pins s σ H x y v u Q I rx ry h
  obtain ⟨i,j,rfl,rfl,hz,q⟩:=h
  obtain ⟨t,rfl⟩:=rx
  obtain ⟨t',rfl⟩:=ry
  exact add_str (fun t' tk=>⟨.str (i++j),H,I.tok _,⟨_,rfl⟩,q⟩) hz
theorem vals1 {x:V}{us:List Value}(r:Vals [x] us):∃ u,us=[u]∧RelV x u:=by
  cases r with
  | cons r1 r2=>cases r2;exact ⟨_,rfl,r1⟩
theorem vals2 {x y:V}{us:List Value}(r:Vals [x,y] us):∃ u w',us=[u,w']∧RelV x u∧RelV y w':=by
  cases r with
  | cons r1 r2=>
    cases r2 with
    | cons r3 r4=>cases r4;exact ⟨_,_,rfl,r1,r3⟩
theorem iw:bz X (.builtin "abs") (fun xs H Q=>∃ i,xs=[.int i]∧Q (.int (if i < 0 then -i else i)) H):=by
  intro pins s σ H xs us Q I r h
  obtain ⟨i,rfl,q⟩:=h
  obtain ⟨u,rfl,t,rfl⟩:=vals1 r
  exact call_abs_int fun u tk=>⟨.int (if i < 0 then -i else i),H,I.tok _,⟨_,rfl⟩,q⟩
theorem oX (hc:X.calm=true):bz X (.builtin "min") (fun xs H Q=>∃ i j,xs=[.int i,.int j]∧Q (.int (if j < i then j else i)) H):=by
  intro pins s σ H xs us Q I r h
  obtain ⟨i,j,rfl,q⟩:=h
  obtain ⟨u,w',rfl,⟨t,rfl⟩,⟨t',rfl⟩⟩:=vals2 r
  refine min_two_ints (I.ok.hd hc) fun h' tk k=>⟨_,H,I.kept k,?_,q⟩
  by_cases hj:j < i
  · rw[if_pos hj,if_pos hj];exact ⟨_,rfl⟩
  · rw[if_neg hj,if_neg hj];exact ⟨_,rfl⟩
end
end L2
namespace L2
open PySem PySem.Spec PyProof.Rows
structure KU (h:Heap) (x dx C:Addr) (mA:Str→Option Value):Prop where
  obj:h.get? x=some (PySem.W.instObj C dx)
  ns:h.Ns1 dx mA
  ne:dx≠x
theorem xR {h:Heap}{dx:Addr}{mA:Str→Option Value}(n:h.Ns1 dx mA):∃ od,h.get? dx=some od∧∀ name,PySem.W.lookIn name od=some (mA name):=by
  obtain ⟨o,es,ep,ho,hd,hk,_,hm⟩:=n
  refine ⟨o,ho,fun name=>?_⟩
  have e:=hm name
  unfold nsFind findBy at e
  rw[← Array.find?_toList] at e
  unfold PySem.W.lookIn
  rw[hd]
  dsimp only
  split
  · rename_i y q
    rw[q] at e
    exact congrArg some e
  · rename_i q
    rw[q] at e
    have a:es.toList.any (·.refKey)=false:=by
      rw[List.any_eq_false]
      intro y hy
      obtain ⟨z,t,hkey⟩:=hk y (Array.mem_toList_iff.mp hy)
      simp[DictEntry.refKey,hkey]
    have a':¬ es.toList.any (·.refKey)=true:=by rw[a];exact Bool.false_ne_true
    rw[if_neg a']
    exact congrArg some e
theorem KU.look {h:Heap}{x dx C:Addr}{mA:Str→Option Value}(I:KU h x dx C mA):∃ od,PySem.W.InstAt h x (PySem.W.instObj C dx) C (some od)∧∀ name,PySem.W.lookIn name od=some (mA name):=
  let ⟨od,ho,hl⟩:=xR I.ns
  ⟨od,⟨I.obj,rfl,rfl,ho⟩,hl⟩
section
variable {prog:Program} {w:World} {A:Around} {E:Value→Shared→Prop} {s:Shared} {K:PySem.W.Frag} {x dx C f:Addr} {mA:Str→Option Value} {name:Str} {v:Value}
end
theorem kd.some_of {v:V}{o:Option Value}(r:kd (some v) o):∃ u,o=some u∧RelV v u:=by
  cases o with
  | none=>exact (show False from r).elim
  | some u=>exact ⟨u,rfl,r⟩
section
variable {P:Program} {w:World} {H H':Hp} {h h':Heap} {a C dx:Addr} {fs fs':List (Str×V)}
end
structure Cls (K:PySem.W.Frag) (C:Addr):Prop where
  pg:PySem.W.plainGet K C Str.empty=true
  hd:PySem.W.hasDictIn K C=true
  po:PySem.W.plainOver K C=true
  sa:PySem.W.findIn K (.ref C) "__setattr__" = some (some (.builtin "object.__setattr__"))
theorem Cls.get {K:PySem.W.Frag}{C:Addr}(c:Cls K C)(f:Str):PySem.W.plainGet K C f=true:=c.pg
section
variable {X:Cx} {pins:List (Addr×Obj)} {σ:St} {H:Hp} {s:Shared} {a C dx:Addr} {fs:List (Str×V)} {f:Str} {v:V} {A:Around} {E:Value→Shared→Prop}
end
section
variable {X:Cx} {o e value:Expr} {f:Str} {pos pos' tpos:Pos} {ta tv:TE}
def ka:V→V→Hp→VK→Prop:=fun x y H Q=>∃ i j,x=.int i∧y=.int j∧Q (.int (i - j)) H
end
section
variable {X:Cx} {pins:List (Addr×Obj)} {σ:St} {H:Hp} {s:Shared} {A:Around} {E:Value→Shared→Prop} {Q:Value→Shared→Prop} {c:Value} {b:Bool}
end
end L2
namespace L2
open PySem PySem.Spec PyProof.Rows
structure cO (k:Nat) (A:Around):Prop where
  hd:A.handled=none
  dp:A.depth+3*k+5 < recursionLimit
  un:A.units+16*k+200 < cLine
theorem cO.mono {j k:Nat}{A:Around}(r:cO k A)(h:j≤k):cO j A:=⟨r.hd,by have:=r.dp;omega,by have:=r.un;omega⟩
theorem cO.deeper {k:Nat}{A:Around}(r:cO (k+1) A)(env:Env):cO k (A.deeper env):=
  ⟨r.hd,by have:=r.dp;show A.depth+1+3*k+5 < _;omega,by have:=r.un;show A.units+3+16*k+200 < _;omega⟩
theorem cO.in1 {k:Nat}{A:Around}(r:cO (k+1) A):cO k A.in1:=
  ⟨r.hd,by have:=r.dp;show A.depth+3*k+5 < _;omega,by have:=r.un;show A.units+1+16*k+200 < _;omega⟩
theorem cO.depth {k:Nat}{A:Around}(r:cO k A):A.depth < recursionLimit:=by have:=r.dp;omega
theorem cO.units {k:Nat}{A:Around}(r:cO k A):A.units+64 < cLine:=by have:=r.un;omega
def Lu:TA:=fun _ H Q=>Q [] H
def JI (ta:TE)(tr:TA):TA:=fun σ H Q=>ta σ H fun x H1=>tr σ H1 fun xs H2=>Q (x::xs) H2
section
variable {X:Cx} {e:Expr} {es:List Expr} {te:TE} {t:TA} {pos:Pos}
theorem fz:PA X [] Lu:=fun _ _ _ _ H Q I h=>Calls.spliced_nil ⟨[],H,I,.nil,h⟩
theorem cE (ha:PE X e te)(hr:PA X es t)(hs:starEach (e::es) X.env=(false,eval e X.env)::starEach es X.env:=by rfl):PA X (e::es) (JI te t):=by
  intro pos pins s σ H Q I h
  rw[hs]
  show wpAny _ _ (spliced ((false,eval e X.env)::backTo pos (starEach es X.env))) _ _ s
  refine Calls.spliced_cons (thn (ha pins s σ H _ I h) fun u s1 ⟨x,H1,I1,r1,q1⟩=>?_)
  exact thn (hr pos pins s1 σ H1 _ I1 q1) fun us s2 ⟨xs,H2,I2,r2,q2⟩=>⟨x::xs,H2,I2,.cons r1 r2,q2⟩
def Lq (t:TA):TE:=fun σ H Q=>t σ H fun xs H1=>xs.length≤sizeLine∧∀ p,H1 p=none→Q (.ref p) (upd H1 p (.tup xs))
def LX (t:TA):TE:=fun σ H Q=>t σ H fun xs H1=>xs.length≤sizeLine∧∀ p,H1 p=none→Q (.ref p) (upd H1 p (.lst xs))
theorem Iw {x1}(h:PA X es t):PE X (.Tuple es x1 pos) (Lq t):=by
  intro pins s σ H Q I hq
  refine wpAny_Tuple_spliced (thn (h pos pins s σ H _ I hq) fun us s1 ⟨xs,H1,I1,r,z,q⟩=>⟨by rw[← r.length];exact z,?_⟩)
  have hf:H1 s1.heap.objs.size=none:=I1.hok.fresh (Nat.le_refl _)
  refine ⟨.ref s1.heap.objs.size,upd H1 s1.heap.objs.size (.tup xs),I1.laid (t':=s1.toks) (fun b u e=>Heap.get?_push_of_some _ e) (Nat.le_refl _) ?_,rfl,q _ hf⟩
  exact ⟨z,us,r,⟨_,Heap.get?_push_size _ rfl⟩⟩
theorem Bn (h:PA X es t):PE X (.List es pos) (LX t):=by
  intro pins s σ H Q I hq
  refine wpAny_List_spliced (thn (h pos pins s σ H _ I hq) fun us s1 ⟨xs,H1,I1,r,z,q⟩=>⟨by rw[← r.length];exact z,?_⟩)
  have hf:H1 s1.heap.objs.size=none:=I1.hok.fresh (Nat.le_refl _)
  refine ⟨.ref s1.heap.objs.size,upd H1 s1.heap.objs.size (.lst xs),I1.laid (t':=s1.toks) (fun b u e=>Heap.get?_push_of_some _ e) (Nat.le_refl _) ?_,rfl,q _ hf⟩
  exact ⟨z,us,0,r,Heap.get?_push_size _ rfl⟩
end
abbrev Sp:=List V→Hp→VK→XK→Prop
abbrev CXT:=List Env→Hp→Shared→XK→Value→Shared→Prop
structure t7 (P:Program) (w:World) (K:PySem.W.Frag) (mg:Str→Option Value) (base:Heap) (A:Around) (outer:List Env) (s:Shared) (H:Hp):Prop where
  frames:A.frames=some outer
  mod:Mod K mg base
  bs:∀ b o,base.get? b=some o→s.heap.get? b=some o∧H b=none
  bsz:base.objs.size≤s.heap.objs.size
  kb:s.heap.FunFrames base outer
  frf:∀ b∈frs outer,H b=none
  hok:HOk P w H s.heap
  bare:AllBare s.gens
def CE (outer:List Env)(P:Program)(w:World)(H:Hp)(s:Shared)(Q:VK)(u:Value)(s':Shared):Prop:=
  ∃ v H',s'.os=s.os∧AllBare s'.gens∧Un (frs outer) [] H H' s.heap s'.heap∧HOk P w H' s'.heap∧RelV v u∧Q v H'
def CR (CX:CXT)(outer:List Env)(P:Program)(w:World)(H:Hp)(s:Shared)(Q:VK)(E:XK)(r:Result)(s':Shared):Prop:=
  match r with
  | .ok (.ret u)=>CE outer P w H s Q u s'
  | .ok _=>False
  | .error e=>CX outer H s E e s'
structure fo (P:Program) (w:World) (K:PySem.W.Frag) (mg:Str→Option Value) (base:Heap) (CX:CXT) (k:Nat) (f:Addr) (fd:FuncData) (ps:List Str) (sp:Sp):Prop where
  len:∀ vs H Q E,sp vs H Q E→vs.length=ps.length
  run:∀ (A:Around) (outer:List Env) (s:Shared) (H:Hp) (args:Args) (us:List Value) (vs:List V) (Q:VK) (E:XK),cO k A→t7 P w K mg base A outer s H→BindsTo s fd args (ps.zip us)→Vals vs us→sp vs H Q E→
    codeAny (model P w) A (.call (.ref f) args) (CR CX outer P w H s Q E) s
theorem fo.mono {P:Program}{w:World}{K:PySem.W.Frag}{mg:Str→Option Value}{base:Heap}{CX:CXT}{j k:Nat}{f:Addr}{fd:FuncData}{ps:List Str}{sp:Sp}(F:fo P w K mg base CX j f fd ps sp)(h:j≤k) :
    fo P w K mg base CX k f fd ps sp:=⟨F.len,fun A outer s H args us vs Q E hr=>F.run A outer s H args us vs Q E (hr.mono h)⟩
theorem fo.imp {P:Program}{w:World}{K:PySem.W.Frag}{mg:Str→Option Value}{base:Heap}{CX:CXT}{k:Nat}{f:Addr}{fd:FuncData}{ps:List Str}{sp sp':Sp}(F:fo P w K mg base CX k f fd ps sp)
    (h:∀ vs H Q E,sp' vs H Q E→sp vs H Q E):fo P w K mg base CX k f fd ps sp':=
  ⟨fun vs H Q E q=>F.len vs H Q E (h _ _ _ _ q),fun A outer s H args us vs Q E hr he hb hv hs=>F.run A outer s H args us vs Q E hr he hb hv (h _ _ _ _ hs)⟩
theorem t7.in1 {P:Program}{w:World}{K:PySem.W.Frag}{mg:Str→Option Value}{base:Heap}{A:Around}{outer:List Env}{s:Shared}{H:Hp}(e:t7 P w K mg base A outer s H) :
    t7 P w K mg base A.in1 outer s H:=⟨e.frames,e.mod,e.bs,e.bsz,e.kb,e.frf,e.hok,e.bare⟩
section
variable {X:Cx} {pins:List (Addr×Obj)} {σ:St} {H:Hp} {s s':Shared}
theorem Inv.LF (I:Inv X pins σ H s):t7 X.prog X.w X.K X.mg X.base X.A X.stack s H:=
  ⟨I.ok.frames,I.ok.mod,I.bs,Nat.le_trans I.ok.bsz I.sz,I.stack,I.wH,I.hok,I.bare⟩
theorem Inv.after {Q:VK}{u:Value}(I:Inv X pins σ H s)(h:CE X.stack X.prog X.w H s Q u s'):EP X pins σ Q u s':=by
  obtain ⟨v,H',os,bare,un,hok,r,q⟩:=h
  obtain ⟨hh,g,d,t,os'⟩:=s'
  obtain rfl:os'=s.os:=os
  exact ⟨v,H',I.call (h':=hh) (g':=g) (d':=d) (t':=t) (ch:=[]) un hok bare (fun b z=>absurd z (by simp)),r,q⟩
end
def JL (sp:Sp)(dvs:List V)(E:XK)(t:TA):TE:=fun σ H Q=>t σ H fun vs H1=>sp (vs++dvs) H1 Q E
def Binds (K:PySem.W.Frag)(fd:FuncData)(ps:List Str)(ds:List Value):Prop:=
  ∀ (s:Shared) (us:List Value),K.In s.heap→(us++ds).length=ps.length→BindsTo s fd ⟨us,[]⟩ (ps.zip (us++ds))
theorem Binds.all {K:PySem.W.Frag}{fd:FuncData}{ps:List Str}(h:∀ us:List Value,us.length=ps.length→bindArgs fd ⟨us,[]⟩=pure (ps.zip us)):Binds K fd ps []:=fun s us _ hl=>by
  rw[List.append_nil] at hl ⊢
  exact .of_eq (h us hl)
def Passes (CX:CXT)(X:Cx)(E:XK):Prop:=∀ (pins:List (Addr×Obj)) (σ:St) (H:Hp) (s:Shared) (e:Value) (s':Shared),Inv X pins σ H s→CX X.stack H s E e s'→X.xe e s'
section
variable {X:Cx} {CX:CXT} {k:Nat} {f C:Addr} {fd:FuncData} {ps:List Str} {sp:Sp} {dvs:List V} {ds:List Value} {E:XK} {x m:Str} {p pos apos:Pos} {e o:Expr} {es:List Expr} {ta:TE} {t:TA}
theorem F7 {pins:List (Addr×Obj)}{σ:St}{H:Hp}{s:Shared}{Q:VK}{us:List Value}{vs:List V}(F:fo X.prog X.w X.K X.mg X.base CX k f fd ps sp)(hr:cO k X.A)(hb:Binds X.K fd ps ds)(hd:Vals dvs ds)(hx:Passes CX X E)
    (I:Inv X pins σ H s) (r:Vals vs us) (h:sp (vs++dvs) H Q E):wpAny (model X.prog X.w) X.A (call (.ref f) us) (EP X pins σ Q) X.xe s:=by
  have r2:Vals (vs++dvs) (us++ds):=r.append hd
  have hl:(us++ds).length=ps.length:=by rw[← r2.length];exact F.len _ _ _ _ h
  refine wpAny_call (codeAny_mono (F.run X.A X.stack s H ⟨us,[]⟩ (us++ds) (vs++dvs) Q E hr I.LF (hb s us I.kIn hl) r2 h) fun r s' hq=>?_)
  cases r with
  | error e=>exact hx pins σ H s e s' I hq
  | ok fl=>
    cases fl with
    | ret u=>exact I.after hq
    | next=>exact False.elim hq
    | brk=>exact False.elim hq
    | cont=>exact False.elim hq
theorem Ee (F:fo X.prog X.w X.K X.mg X.base CX k f fd ps sp)(hr:cO k X.A)(hg:Gl X x)(hm:X.mg x=some (.ref f))(hk:PySem.W.keepIn X.K (.ref f)=true)(hb:Binds X.K fd ps ds)(hd:Vals dvs ds)(hx:Passes CX X E)
    (ha:PA X (e::es) t) (hdb:(x == ("__debug__" : Str))=false:=by decide) (he:starEach (e::es) X.env=(false,eval e X.env)::starEach es X.env:=by rfl) (hpl:(backTo pos (starEach es X.env)).any (·.1)=false:=by rfl) :
    PE X (.Call (.Name x p) (e::es) [] pos) (JL sp dvs E t):=by
  intro pins s σ H Q I h
  refine wpAny_Call_Name_kw (wK I hg hm ?_ hdb)
  refine PySem.W.callWith_K (h₀:=X.base) I.ok.mod.kin hk (thn (ha pos pins s σ H _ I h) fun us s1 ⟨vs,H1,I1,r,q⟩=>⟨I1.kIn,?_⟩) he hpl
  exact F7 F hr hb hd hx I1 r q
end
section
variable {X:Cx} {CX:CXT} {k:Nat} {f C:Addr} {fd:FuncData} {ps ks:List Str} {sp:Sp} {E:XK} {x m:Str} {p pos apos kpos:Pos} {e o:Expr} {es:List Expr} {kws:List Keyword} {te ta:TE} {t tk:TA} {nm:Option Str}
variable {g:List Value→List Value→List Value} {gV:List V→List V→List V}
end
structure aD (N P:List Str) (sc:Scope):Prop where
  kind:sc.kind=.function
  co:sc.isCoroutine=false
  gen:sc.isGenerator=false
  nd:N.Nodup
  pre:N.take P.length=P
  par:∀ x∈P,sc.names.lookup x=some .local∨sc.names.lookup x=some .cell
  Gn:∀ y∈sc.names,y.2≠.free
theorem oN {kindOf:Str→Option NameKind}{x:Str}:∀ {binds:List (Str×Value)} {m:Str→Option Value},(∀ v,(x,v) ∉ binds)→bindL kindOf binds m x=m x
  | [],_,_=>rfl
  | (n,v)::r,m,h=>by
    unfold bindL
    rw[oN fun w hw=>h w (List.mem_cons_of_mem _ hw)]
    split
    · have:x≠n:=by rintro rfl;exact h v List.mem_cons_self
      simp[this]
    · rfl
theorem oV {kindOf:Str→Option NameKind}{x:Str}:∀ {binds:List (Str×Value)} {m:Str→Option Value},(∀ v,(x,v) ∉ binds)→bindC kindOf binds m x=m x
  | [],_,_=>rfl
  | (n,v)::r,m,h=>by
    unfold bindC
    rw[oV fun w hw=>h w (List.mem_cons_of_mem _ hw)]
    split
    · rfl
    · have:x≠n:=by rintro rfl;exact h v List.mem_cons_self
      simp[this]
theorem o5 {kindOf:Str→Option NameKind}{x:Str}{v:Value}:∀ {P:List Str} {vs:List Value} {i:Nat} {m:Str→Option Value},P.Nodup→P[i]? = some x→vs[i]? = some v→kindOf x=some .local→
    bindL kindOf (P.zip vs) m x=some v
  | [],_,_,_,_,h,_,_=>by simp at h
  | _::_,[],_,_,_,_,h,_=>by simp at h
  | p::P,w::vs,0,m,nd,h1,h2,hk=>by
    simp at h1 h2;subst h1;subst h2
    show bindL kindOf ((p,w)::P.zip vs) m p=_
    unfold bindL
    rw[oN fun v hv=>(List.nodup_cons.mp nd).1 (List.of_mem_zip hv).1,if_pos hk]
    simp
  | p::P,w::vs,i+1,m,nd,h1,h2,hk=>by
    show bindL kindOf ((p,w)::P.zip vs) m x=_
    unfold bindL
    exact o5 (i:=i) (List.nodup_cons.mp nd).2 (by simpa using h1) (by simpa using h2) hk
theorem o4 {kindOf:Str→Option NameKind}{x:Str}{v:Value}:∀ {P:List Str} {vs:List Value} {i:Nat} {m:Str→Option Value},P.Nodup→P[i]? = some x→vs[i]? = some v→kindOf x≠some .local→
    bindC kindOf (P.zip vs) m x=some v
  | [],_,_,_,_,h,_,_=>by simp at h
  | _::_,[],_,_,_,_,h,_=>by simp at h
  | p::P,w::vs,0,m,nd,h1,h2,hk=>by
    simp at h1 h2;subst h1;subst h2
    show bindC kindOf ((p,w)::P.zip vs) m p=_
    unfold bindC
    rw[oV fun v hv=>(List.nodup_cons.mp nd).1 (List.of_mem_zip hv).1,if_neg hk]
    simp
  | p::P,w::vs,i+1,m,nd,h1,h2,hk=>by
    show bindC kindOf ((p,w)::P.zip vs) m x=_
    unfold bindC
    exact o4 (i:=i) (List.nodup_cons.mp nd).2 (by simpa using h1) (by simpa using h2) hk
def start (N:List Str)(vs:List V):St:=vs.map some++List.replicate (N.length - vs.length) none
def rz (CX:CXT)(P:Program)(w:World)(K:PySem.W.Frag)(mg:Str→Option Value)(base:Heap)(N:List Str)(qual:Str)(scope:Scope)(f:Addr)(cd:Value)(A:Around)(outer:List Env)(s:Shared)(H:Hp)(E:XK):Cx where
  prog:=P
  w:=w
  K:=K
  mg:=mg
  base:=base
  A:=A.deeper (envOfC qual scope s.heap.objs.size f cd)
  N:=N
  s₀:=s
  H₀:=H
  env:=envOfC qual scope s.heap.objs.size f cd
  outer:=outer
  stack:=envOfC qual scope s.heap.objs.size f cd::outer
  ex:=[]
  calm:=true
  fn:=fun _=>true
  pn:=[]
  xe:=fun e s'=>wpAny (model P w) (A.deeper (envOfC qual scope s.heap.objs.size f cd)) (leaving (envOfC qual scope s.heap.objs.size f cd) e) (fun _ s''=>CX outer H s E e s'') (fun e' s''=>CX outer H s E e' s'') s'
theorem sW {sc:Scope}{n:Nat}{x:Str}(h:sc.names.lookup x=some .cell):∃ c,(cellsFrom n sc.names []).lookup x=some c:=by
  have q:=PySem.W.cellsFrom_some sc.names n [] (.inl h)
  exact Option.isSome_iff_exists.mp q
theorem xO {CX:CXT}{P:Program}{w:World}{K:PySem.W.Frag}{mg:Str→Option Value}{base:Heap}{N ps:List Str}{qual:Str}{scope:Scope}{f:Addr}{cd:Value}{A:Around}{outer:List Env}{s s1:Shared}{H:Hp}{E:XK}{us:List Value}{vs:List V}
    (S:aD N ps scope) (hd:A.handled=none) (e0:t7 P w K mg base A outer s H) (hl:vs.length=ps.length) (r:Vals vs us)
    (x:InCallC s s.heap.objs.size (bindL (envOfC qual scope s.heap.objs.size f cd).kindOf (ps.zip us) fun _=>none) (cellsFrom (s.heap.objs.size+1) scope.names []) (bindC (envOfC qual scope s.heap.objs.size f cd).kindOf (ps.zip us) fun _=>none) s1) :
    Inv (rz CX P w K mg base N qual scope f cd A outer s H E) [] (start N vs) H s1:=by
  have hpl:ps.length≤N.length:=by have:=congrArg List.length S.pre;rw[List.length_take] at this;omega
  obtain ⟨h1,tk,rfl,hk⟩:=x.done
  have noA:∀ b:Addr,b ∉ (rz CX P w K mg base N qual scope f cd A outer s H E).ex:=fun b z=>absurd (show b∈([]:List Addr) from z) (by simp)
  refine ⟨⟨e0.mod,S.kind,rfl,rfl,Nat.le_refl _,fun y z c h1 h2=>?_,fun y hy=>?_,fun y c _ h=>?_,fun _=>hd,Around.frames_deeper e0.frames,.inr ⟨rfl,rfl⟩,fun b z=>absurd z (noA b),e0.bs,e0.bsz,fun b _ _=>noA b,fun b z=>absurd z (noA b),e0.kb,e0.frf⟩,
    rfl,e0.bare,Un.kept hk,⟨_,x.toInCall.ns,fun i y v h1 h2 h3=>?_⟩,fun y c h=>⟨_,x.cell y c h⟩,e0.hok.fresh (Nat.le_refl _),fun y c h=>?_,fun p hp=>absurd (show p∈([]:List (Addr×Obj)) from hp) (by simp),e0.hok.kept hk,?_⟩
  · exact name_of_addr x.apart (PySem.mem_of_lookup h1) (PySem.mem_of_lookup h2)
  · have hy:scope.names.lookup y=some .cell∨scope.names.lookup y=some .free:=hy
    rcases hy with hy | hy
    · exact sW hy
    · exact absurd rfl (S.Gn _ (PySem.mem_of_lookup hy))
  · exact Nat.le_of_lt (x.above y c (PySem.mem_of_lookup h))
  · have hi:i < vs.length:=by
      unfold start at h2
      by_cases hi:i < vs.length
      · exact hi
      · rw[List.getElem?_append_right (by simpa using hi)] at h2
        rw[List.getElem?_replicate] at h2
        split at h2<;>cases h2
    have ha:vs[i]? = some v:=by
      unfold start at h2
      rw[List.getElem?_append_left (by simpa using hi),List.getElem?_map] at h2
      cases e:vs[i]? with
      | none=>rw[e] at h2;cases h2
      | some a=>rw[e] at h2;cases h2;rfl
    obtain ⟨u,hu,rv⟩:=r.get ha
    have hp:ps[i]? = some y:=by
      rw[← S.pre,List.getElem?_take_of_lt (by omega)];exact h1
    have ndP:ps.Nodup:=by rw[← S.pre];exact S.nd.sublist (List.take_sublist _ _)
    refine ⟨u,rv,?_⟩
    rcases S.par y (List.mem_of_getElem? hp) with k | k
    · exact .inl ⟨k,o5 ndP hp hu k⟩
    · obtain ⟨c,e⟩:=sW (n:=s.heap.objs.size+1) k
      refine .inr ⟨.inl k,c,e,?_⟩
      have q:=x.cell y c e
      rw[o4 ndP hp hu (by show scope.names.lookup y≠_;rw[k];decide)] at q
      exact q
  · exact e0.hok.fresh (Nat.le_of_lt (x.above y c (PySem.mem_of_lookup h)))
  · unfold start
    show _=N.length
    rw[List.length_append,List.length_map,List.length_replicate]
    omega
theorem Kq {CX:CXT}{P:Program}{w:World}{K:PySem.W.Frag}{mg:Str→Option Value}{base:Heap}{k:Nat}{f:Addr}{name qual:Str}{params:Arguments}{body:List Stmt}{scope:Scope}{dV kV doc pm cdv ct oc:Value}{an od:Option Addr}
    {osl:Array (Option Value)} {N ps:List Str} {sp:Sp} (lk:K.lookup f=some ⟨oc,od,.func (PySem.W.fnOf name qual params body scope dV kV doc pm an cdv ct),osl⟩) (hcd:PySem.W.codeIn K cdv qual=true) (S:aD N ps scope)
    (len:∀ vs H Q E,sp vs H Q E→vs.length=ps.length)
    (hbody:∀ (A:Around) (outer:List Env) (s:Shared) (H:Hp) (vs:List V) (Q:VK) (E:XK),cO k (A.deeper (envOfC qual scope s.heap.objs.size f cdv))→sp vs H Q E→
      ∃ t,PSs (rz CX P w K mg base N qual scope f cdv A outer s H E) body t∧t { nx:=fun _ H'=>Q .non H',rt:=Q } (start N vs) H) :
    fo P w K mg base CX (k+1) f (PySem.W.fnOf name qual params body scope dV kV doc pm an cdv ct) ps sp:=by
  refine ⟨len,fun A outer s H args us vs Q E hr e0 hb r hsp=>?_⟩
  have hl:=len _ _ _ _ hsp
  have KX:K.In s.heap:=e0.mod.kin.keeps fun b o e=>(e0.bs b o e).1
  have lim:s.heap.NoLimit:=e0.mod.nolimit.keeps fun b o e=>(e0.bs b o e).1
  have lS:∀ y∈ps.zip us,scope.names.lookup y.1=some .local∨(scope.names.lookup y.1=some .cell∧((cellsFrom (s.heap.objs.size+1) scope.names []).lookup y.1).isSome=true):=fun ⟨n,v⟩ hy=>by
    rcases S.par n (List.of_mem_zip hy).1 with q | q
    · exact .inl q
    · exact .inr ⟨q,PySem.W.cellsFrom_some _ _ _ (.inl q)⟩
  refine codeAny_call_function hr.depth (KX _ _ lk) rfl S.co S.gen rfl (PySem.W.codeRec_of KX hcd) (hb _ _ _ _ ?_)
  refine wpAny_newFunctionEnv_cells S.kind lS fun env he s1 x=>?_
  subst he
  refine ⟨lim.keeps x.toInCall.keep,codeAny_func ?_⟩
  obtain ⟨t,ht,hq⟩:=hbody A outer s H vs Q E (hr.deeper _) hsp
  have I:Inv (rz CX P w K mg base N qual scope f cdv A outer s H E) [] (start N vs) H s1:=xO S hr.hd e0 hl r x
  refine wpAny_mono (ht [] s1 (start N vs) H _ I hq) (fun fl s' hs=>?_) fun e s' hs=>hs
  have fin:∀ {σ':St} {H':Hp} {v:V} {u:Value},Inv (rz CX P w K mg base N qual scope f cdv A outer s H E) [] σ' H' s'→RelV v u→Q v H'→CE outer P w H s Q u s':=
    fun {σ' H' v u} J rv q=>⟨v,H',J.os,J.bare,J.base,J.hok,rv,q⟩
  cases fl with
  | ret u=>
    obtain ⟨v,σ',H',J,rv,q⟩:=hs
    exact fin J rv q
  | next=>
    obtain ⟨σ',H',J,q⟩:=hs
    exact fin (v:=V.non) (u:=Value.none) J rfl q
  | brk=>
    obtain ⟨_,_,_,q⟩:=hs
    exact False.elim q
  | cont=>
    obtain ⟨_,_,_,q⟩:=hs
    exact False.elim q
end L2
namespace L2
open PySem PySem.Spec PyProof.Rows
section
variable {X:Cx} {x:Str} {p pos:Pos} {e:Expr} {es:List Expr} {t:TA} {id T:String} {r:List V→Hp→VK→Prop}
def tCB (r:List V→Hp→VK→Prop)(t:TA):TE:=fun σ H Q=>t σ H fun vs H1=>r vs H1 Q
theorem k9 (hc:bz X (.builtin id) r)(hg:Gl X x)(hm:X.mg x=none)(hv:bootBuiltins x=some (.builtin id))(ha:PA X (e::es) t)(hn:x ≠ "__name__" := by decide)(hdb:(x == ("__debug__" : Str))=false:=by decide)
    (he:starEach (e::es) X.env=(false,eval e X.env)::starEach es X.env:=by rfl) (hpl:(backTo pos (starEach es X.env)).any (·.1)=false:=by rfl):PE X (.Call (.Name x p) (e::es) [] pos) (tCB r t):=by
  intro pins s σ H Q I h
  refine wpAny_Call_Name_kw (gJ I hg hm hv ?_ hn hdb)
  exact PyProof.Rows.callWith_builtin1 (thn (ha pos pins s σ H _ I h) fun us s1 ⟨vs,H1,I1,r1,q1⟩=>hc pins s1 σ H1 vs us Q I1 r1 q1) he hpl
theorem om (hc:bz X (.type T) r)(hg:Gl X x)(hm:X.mg x=none)(hv:bootBuiltins x=some (.type T))(ha:PA X (e::es) t)(hn:x ≠ "__name__" := by decide)(hdb:(x == ("__debug__" : Str))=false:=by decide)
    (he:starEach (e::es) X.env=(false,eval e X.env)::starEach es X.env:=by rfl) (hpl:(backTo pos (starEach es X.env)).any (·.1)=false:=by rfl):PE X (.Call (.Name x p) (e::es) [] pos) (tCB r t):=by
  intro pins s σ H Q I h
  refine wpAny_Call_Name_kw (gJ I hg hm hv ?_ hn hdb)
  exact PyProof.Rows.callWith_type1 (thn (ha pos pins s σ H _ I h) fun us s1 ⟨vs,H1,I1,r1,q1⟩=>hc pins s1 σ H1 vs us Q I1 r1 q1) he hpl
end
end L2
namespace HT
open PySem PyProof.Rows
section
open PySem.SeqAt
open PySem.AutoSeq1 (wpAny_loadPart')
open PySem.MeetsSeq PySem.MeetsSeq2 PySem.MeetsSeq3
end
section
variable {prog:Program} {w:World} {A:Around} {E:Value→Shared→Prop} {s:Shared}
theorem CK {t b:Addr}{vs ws:List Value}{Q:Value→Shared→Prop}(ht:IsTup s.heap t vs.toArray)(hb:IsTup s.heap b ws.toArray)(hv:vs≠[])
    (h1:ws=[]→Q (.ref t) s) (h2:ws≠[]→Q (.ref s.heap.objs.size) { s with heap:=s.heap.push { cls:=.type "tuple", data:=.seq (vs++ws).toArray } })
    (hsz:vs.length+ws.length≤sizeLine):wpAny (model prog w) A (binaryOp .Add (.ref t) (.ref b)) Q E s:=by
  obtain ⟨⟨cls,dd,data,sl⟩,ho,hc,n,hd⟩:=id ht
  obtain ⟨⟨cls2,dd2,data2,sl2⟩,ho2,hc2,n2,hd2⟩:=id hb
  simp only at hc hd hc2 hd2
  subst hc hd hc2 hd2
  have e:vs.toArray++ws.toArray=(vs++ws).toArray:=by simp
  by_cases hw:ws=[]
  · exact concat_meets ⟨_,ho,rfl⟩ ⟨_,ho2,rfl⟩ noFill_tuple_add seq_tuple_add PySem.F.slot_tuple_add PySem.F.entry_tuple_add (PySem.F.args_tuple_add_2 _ _)
      (tuple_addW1 t b vs.toArray ws.toArray n n2 dd dd2 sl sl2 (by simpa using hv) (by simp[hw])) ⟨ho,ho2,h1 hw⟩
  · refine concat_meets ⟨_,ho,rfl⟩ ⟨_,ho2,rfl⟩ noFill_tuple_add seq_tuple_add PySem.F.slot_tuple_add PySem.F.entry_tuple_add (PySem.F.args_tuple_add_2 _ _)
      (tuple_addW2 t b vs.toArray ws.toArray n n2 dd dd2 sl sl2 (by simpa using hv) (by simpa using hw) (by rw[List.size_toArray,List.size_toArray];exact hsz)) ⟨ho,ho2,?_⟩
    rw[e]
    exact h2 hw
def sIx (n d:Nat):Option Int→Nat
  | none=>d
  | some v=>if v < 0 then (v+(n:Int)).toNat else min v.toNat n
theorem iS (n d:Nat):sIx n d none=d:=rfl
theorem wN (n d k:Nat):sIx n d (some (k:Int))=min k n:=by
  show (if (k:Int) < 0 then ((k:Int)+(n:Int)).toNat else min (k:Int).toNat n)=min k n
  rw[if_neg (by omega),Int.toNat_natCast]
theorem Gb (n d:Nat)(hd:d≤n)(o:Option Int):sIx n d o≤n:=by
  cases o with
  | none=>exact hd
  | some v=>
    show (if v < 0 then (v+(n:Int)).toNat else min v.toNat n)≤n
    by_cases hv:v < 0
    · rw[if_pos hv];omega
    · rw[if_neg hv];exact Nat.min_le_right _ _
theorem xc (v:Int)(n d:Nat):(if v < 0 then max (v+(n:Int)) 0 else min v (n:Int))=((sIx n d (some v):Nat):Int):=by
  show (if v < 0 then max (v+(n:Int)) 0 else min v (n:Int))=(((if v < 0 then (v+(n:Int)).toNat else min v.toNat n):Nat):Int)
  by_cases hv:v < 0
  · simp only[if_pos hv];omega
  · simp only[if_neg hv];omega
theorem vU (lo hi:Option Int)(n:Nat):Builtin.Slice.sliceAdjust lo hi 1 (n:Int)=(((sIx n 0 lo:Nat):Int),((sIx n n hi:Nat):Int)):=by
  have h1:¬ ((1:Int) < 0):=by omega
  unfold Builtin.Slice.sliceAdjust
  simp only[h1,if_false]
  refine Prod.ext ?_ ?_
  · cases lo with
    | none=>rfl
    | some v=>exact xc v n 0
  · cases hi with
    | none=>rfl
    | some v=>exact xc v n n
theorem vn (i j:Nat):Builtin.Slice.slicePlaces (i:Int) (j:Int) 1=j - i:=by
  unfold Builtin.Slice.slicePlaces
  have h1:(1:Int) > 0:=by omega
  simp only[h1,if_true,Int.ediv_one]
  split<;>omega
theorem kA {v:Value}{o:Option Int}{Q:Option Int→Shared→Prop}(p:IsPart v o)(h:Q o s):wpAny (model prog w) A (Builtin.Slice.slicePartIndex v) Q E s:=by
  cases p with
  | none=>exact slicePart_none h
  | int i t=>exact slicePart_int h
theorem eK {sl:Addr}{vl vu:Value}{lo hi:Option Int}{n:Nat}{Q:Int×Int×Nat→Shared→Prop}(hs:s.heap.IsSliceOf sl vl vu .none)(pl:IsPart vl lo)(pu:IsPart vu hi)
    (h:Q (((sIx n 0 lo:Nat):Int),1,sIx n n hi - sIx n 0 lo) s):wpAny (model prog w) A (Builtin.Slice.sliceApplied (.ref sl) (pure (n:Int))) Q E s:=by
  obtain ⟨os,hos,hcs,hds⟩:=id hs
  unfold Builtin.Slice.sliceApplied Builtin.Slice.sliceFields
  refine wpAny_bind (wpAny_bind (wpAny_field hos hds (x:=vl) rfl (wpAny_bind (wpAny_field hos hds (x:=vu) rfl (wpAny_bind (wpAny_field hos hds (x:=.none) rfl (wpAny_pure ?_)))))))
  refine wpAny_bind (slicePart_none ?_)
  show wpAny _ _ (if ((1:Int) == 0)=true then _ else _) _ _ s
  rw[if_neg (by decide)]
  refine wpAny_bind (kA pl (wpAny_bind (kA pu (wpAny_bind (wpAny_pure ?_)))))
  show wpAny _ _ (match Builtin.Slice.sliceAdjust lo hi 1 (n:Int) with | (lo,hi)=>pure (lo,(1:Int),Builtin.Slice.slicePlaces lo hi 1)) _ _ s
  rw[vU lo hi n]
  show wpAny _ _ (pure (((sIx n 0 lo:Nat):Int),(1:Int),Builtin.Slice.slicePlaces ((sIx n 0 lo:Nat):Int) ((sIx n n hi:Nat):Int) 1)) _ _ s
  rw[vn]
  exact wpAny_pure h
theorem Ce (xs:Array Value)(i k:Nat):((List.range k).filterMap fun (m:Nat)=>xs[((i:Int)+(m:Int)*1).toNat]?).toArray=((xs.toList.drop i).take k).toArray:=by
  have e:(fun (m:Nat)=>xs[((i:Int)+(m:Int)*1).toNat]?)=fun m=>xs[i+m]?:=by
    funext m
    have:((i:Int)+(m:Int)*1).toNat=i+m:=by omega
    rw[this]
  rw[e]
  have:=pick_run xs i k
  rw[List.filterMap_map] at this
  have e2:((fun x=>xs[x]?) ∘ fun x=>i+x)=fun m=>xs[i+m]?:=rfl
  rw[e2] at this
  rw[this]
theorem iz {t sl:Addr}{items:Array Value}{vl vu:Value}{lo hi:Option Int}{Q:Value→Shared→Prop}(ht:IsTup s.heap t items)(hs:s.heap.IsSliceOf sl vl vu .none)(pl:IsPart vl lo)(pu:IsPart vu hi)
    (hw:¬ (sIx items.size 0 lo=0∧sIx items.size items.size hi=items.size))
    (h:Q (.ref s.heap.objs.size) { s with heap:=s.heap.push { cls:=.type "tuple", data:=.seq ((items.toList.drop (sIx items.size 0 lo)).take (sIx items.size items.size hi - sIx items.size 0 lo)).toArray } })
    (hsz:items.size≤sizeLine):wpAny (model prog w) A (getItem (.ref t) (.ref sl)) Q E s:=by
  have v9:sizeOk (.seq ((items.toList.drop (sIx items.size 0 lo)).take (sIx items.size items.size hi - sIx items.size 0 lo)).toArray):=by
    show ((items.toList.drop (sIx items.size 0 lo)).take (sIx items.size items.size hi - sIx items.size 0 lo)).toArray.size≤sizeLine
    rw[List.size_toArray,List.length_take,List.length_drop,Array.length_toList]
    omega
  have hj:sIx items.size items.size hi≤items.size:=Gb _ _ (Nat.le_refl _) hi
  obtain ⟨os,hos,hcs,hds⟩:=id hs
  have hTs:s.TypeIs (.ref sl) "slice" := ⟨os,hos,hcs⟩
  unfold getItem
  try with_reducible refine wpAny_holding ?_
  first | refine wpAny_bind (wpAny_pure ?_) | skip
  refine wpAny_bind (wpAny_sequenceKey ht.typeIs (by decide) ?_)
  refine wpAny_bind (wpAny_callSpecial?_slot (name:=Str.ofString "__getitem__") ht.typeIs PyProof.Rows.slot_tuple_getitem
    (wpAny_call_entry PyProof.Rows.slot_tuple_getitem ht.typeIs entry_tuple_getitem ?_ (args_tuple_getitem _ _)))
  show wpAny _ _ (Builtin.Tuple.tupleItemsOf (.ref t) >>= _) _ _ s
  refine wpAny_bind (tupleItemsOf_ ht ?_)
  refine wpAny_bind (wpAny_typeOf hTs ?_)
  rw[if_pos (by decide)]
  refine wpAny_bind (eK hs pl pu ?_)
  have hno:¬ ((((sIx items.size 0 lo:Nat):Int) == 0&&(1:Int) == 1&&(sIx items.size items.size hi - sIx items.size 0 lo) == items.size)=true):=by
    intro q
    rw[Bool.and_eq_true,Bool.and_eq_true] at q
    have q1:((sIx items.size 0 lo:Nat):Int)=0:=eq_of_beq q.1.1
    have q2:sIx items.size items.size hi - sIx items.size 0 lo=items.size:=eq_of_beq q.2
    exact hw ⟨by omega,by omega⟩
  show wpAny _ _ (if (((sIx items.size 0 lo:Nat):Int) == 0&&(1:Int) == 1&&(sIx items.size items.size hi - sIx items.size 0 lo) == items.size)=true then _ else _) _ _ s
  rw[if_neg hno,Ce]
  first
    | exact wpAny_bind (m:=Builtin.Tuple.tupleExact _) (wpAny_newObj_type (wpAny_pure ⟨_,rfl,wpAny_pure h⟩) v9)
    | exact wpAny_bind (m:=Builtin.Tuple.tupleExact _) (wpAny_newObj_type (wpAny_bind (wpAny_pure (wpAny_pure ⟨_,rfl,wpAny_pure h⟩))) v9)
    | exact wpAny_bind (wpAny_bind (m:=Builtin.Tuple.tupleExact _) (wpAny_newObj_type (wpAny_pure (wpAny_pure ⟨_,rfl,wpAny_pure h⟩)) v9))
    | exact wpAny_bind (wpAny_bind (m:=Builtin.Tuple.tupleExact _) (wpAny_newObj_type (wpAny_pure ⟨_,rfl,wpAny_pure h⟩) v9))
end
end HT
namespace L2
open PySem PySem.Spec PyProof.Rows
abbrev TO:=St→Hp→(Option Int→Hp→Prop)→Prop
def PO (X:Cx)(e:Option Expr)(t:TO):Prop:=
  ∀ (pins:List (Addr×Obj)) (s:Shared) (σ:St) (H:Hp) (Q:Option Int→Hp→Prop),Inv X pins σ H s→t σ H Q→
    wpAny (model X.prog X.w) X.A (evalPart e X.env) (fun u s'=>∃ o H',Inv X pins σ H' s'∧IsPart u o∧Q o H') X.xe s
def C2:TO:=fun _ H Q=>Q none H
def J3 (t:TE):TO:=fun σ H Q=>t σ H fun x H1=>∃ i,x=.int i∧Q (some i) H1
theorem intsAre_of {ns:List Int}:∀ {us:List Value},Vals (ns.map V.int) us→IntsAre us ns:=by
  induction ns with
  | nil=>intro us r;rw[List.map_nil] at r;cases r;exact .nil
  | cons n ns ih=>
    intro us r
    rw[List.map_cons] at r
    cases r with
    | cons r1 r2=>
      obtain ⟨t,e⟩:=r1
      subst e
      exact .cons n t (ih r2)
section
variable {X:Cx} {e:Expr} {te:TE} {lo hi:Option Expr} {tl th:TO} {pos p2:Pos}
theorem D7:PO X none C2:=by
  intro pins s σ H Q I h
  rw[evalPart_none]
  exact wpAny_pure ⟨none,H,I,.none,h⟩
theorem DE (h:PE X e te):PO X (some e) (J3 te):=by
  intro pins s σ H Q I hw
  rw[evalPart_some]
  refine thn (h pins s σ H _ I hw) fun u s1 ⟨x,H1,I1,r1,q1⟩=>?_
  obtain ⟨i,rfl,q⟩:=q1
  obtain ⟨t,rfl⟩:=r1
  exact ⟨some i,H1,I1,.int i t,q⟩
def SlR (X:Cx)(r:V→Option Int→Option Int→Hp→VK→Prop):Prop:=
  ∀ (pins:List (Addr×Obj)) (s:Shared) (σ:St) (H:Hp) (x:V) (v vl vu:Value) (lo hi:Option Int) (sl:Addr) (Q:VK),Inv X pins σ H s→RelV x v→s.heap.IsSliceOf sl vl vu .none→IsPart vl lo→IsPart vu hi→r x lo hi H Q→
    ∃ T id,typeLookup (.type T) "__getitem__" = pure (some (.builtin id))∧s.TypeIs v T∧wpAny (model X.prog X.w) X.A (getItem v (.ref sl)) (EP X pins σ Q) X.xe s
theorem SlR.or {r r':V→Option Int→Option Int→Hp→VK→Prop}(h:SlR X r)(h':SlR X r'):SlR X (fun x lo hi H Q=>r x lo hi H Q∨r' x lo hi H Q):=by
  intro pins s σ H x v vl vu lo hi sl Q I rx hs pl pu q
  rcases q with q | q
  · exact h pins s σ H x v vl vu lo hi sl Q I rx hs pl pu q
  · exact h' pins s σ H x v vl vu lo hi sl Q I rx hs pl pu q
def tSl (r:V→Option Int→Option Int→Hp→VK→Prop)(te:TE)(tl th:TO):TE:=fun σ H Q=>te σ H fun x H1=>tl σ H1 fun l H2=>th σ H2 fun u H3=>r x l u H3 Q
theorem rF {r:V→Option Int→Option Int→Hp→VK→Prop}(hr:SlR X r)(he:PE X e te)(hl:PO X lo tl)(hu:PO X hi th):PE X (.Subscript e (.Slice lo hi none p2) pos) (tSl r te tl th):=by
  intro pins s σ H Q I h
  refine Subscript_ (thn (he pins s σ H _ I h) fun v s1 ⟨x,H1,I1,r1,q1⟩=>?_)
  refine wpAny_Slice (thn (hl pins s1 σ H1 _ I1 q1) fun vl s2 ⟨l,H2,I2,pl,q2⟩=>thn (hu pins s2 σ H2 _ I2 q2) fun vu s3 ⟨u,H3,I3,pu,q3⟩=>?_)
  rw[evalPart_none]
  refine wpAny_pure ?_
  have I4:Inv X pins σ H3 { s3 with heap:=s3.heap.push { cls:=.type "slice", data:=.fields #[vl,vu,.none] } }:=I3.kept (t':=s3.toks) fun b ob q=>Heap.get?_push_of_some _ q
  obtain ⟨T,id,hT,ht,hg⟩:=hr pins { s3 with heap:=s3.heap.push { cls:=.type "slice", data:=.fields #[vl,vu,.none] } } σ H3 x v vl vu l u s3.heap.objs.size Q I4 r1 (Heap.IsSliceOf.new ..) pl pu q3
  show wpAny (model X.prog X.w) X.A (subscriptTail e (.Slice lo hi none p2) v (.ref s3.heap.objs.size)) (EP X pins σ Q) X.xe { s3 with heap:=s3.heap.push { cls:=.type "slice", data:=.fields #[vl,vu,.none] } }
  exact tail_any (ops:=[.ref s3.heap.objs.size,v]) ht hT hg (by with_unfolding_all rfl)
def rg (xs:List V)(lo hi:Option Int):List V:=(xs.drop (HT.sIx xs.length 0 lo)).take (HT.sIx xs.length xs.length hi - HT.sIx xs.length 0 lo)
theorem jG (xs:List V)(lo hi:Option Int):(rg xs lo hi).length≤xs.length:=by
  unfold rg
  rw[List.length_take,List.length_drop]
  omega
def LR (K:PySem.W.Frag):V→Option Int→Option Int→Hp→VK→Prop:=fun x lo hi H Q=>∃ a xs,x=.ref a∧SqT K H a xs∧
  ¬ (HT.sIx xs.length 0 lo=0∧HT.sIx xs.length xs.length hi=xs.length)∧∀ p,H p=none→Q (.ref p) (upd H p (.tup (rg xs lo hi)))
theorem Hf:SlR X (LR X.K):=by
  intro pins s σ H x v vl vu lo hi sl Q I rx hs pl pu h
  obtain ⟨a,xs,rfl,hx,hw,q⟩:=h
  cases rx
  obtain ⟨its,r,ht,hz⟩:=I.tuple hx
  have hlen:its.toArray.size=xs.length:=by rw[List.size_toArray];exact r.length.symm
  refine ⟨"tuple", _,PyProof.Rows.slot_tuple_getitem.lookup,ht.typeIs,?_⟩
  refine HT.iz ht hs pl pu (by rw[hlen];exact hw) ?_ (by rw[hlen];exact hz)
  rw[hlen]
  refine ⟨.ref s.heap.objs.size,_,I.laid (t':=s.toks) (o:=.tup (rg xs lo hi)) (fun b ob q=>Heap.get?_push_of_some _ q) (Nat.le_refl _) ?_,rfl,q _ (I.hok.fresh (Nat.le_refl _))⟩
  exact ⟨Nat.le_trans (jG xs lo hi) hz,_,(r.drop (HT.sIx xs.length 0 lo)).take (HT.sIx xs.length xs.length hi - HT.sIx xs.length 0 lo),qD.new _ _⟩
def EX (K:PySem.W.Frag):R2:=fun x y H Q=>∃ a b xs ys,x=.ref a∧y=.ref b∧SqT K H a xs∧SqT K H b ys∧xs≠[]∧xs.length+ys.length≤sizeLine∧
  (ys=[]→Q (.ref a) H)∧(ys≠[]→∀ p,H p=none→Q (.ref p) (upd H p (.tup (xs++ys))))
theorem Vals.qy {xs:List V}{us:List Value}(r:Vals xs us):us=[]↔xs=[]:=by
  cases r with
  | nil=>simp
  | cons _ _=>simp
theorem Ei:OpR X (binaryOp .Add) (EX X.K):=by
  intro pins s σ H x y v u Q I rx ry h
  obtain ⟨a,b,xs,ys,rfl,rfl,ha,hb,hx,hz,q1,q2⟩:=h
  cases rx
  cases ry
  obtain ⟨its,r1,p1,_⟩:=I.tuple ha
  obtain ⟨its2,r2,p2,_⟩:=I.tuple hb
  refine HT.CK p1 p2 (fun z=>hx (r1.qy.mp z)) (fun z=>⟨.ref a,H,I,rfl,q1 (r2.qy.mp z)⟩) (fun z=>?_) (by rw[← r1.length,← r2.length];exact hz)
  refine ⟨.ref s.heap.objs.size,_,I.laid (t':=s.toks) (o:=.tup (xs++ys)) (fun b ob q=>Heap.get?_push_of_some _ q) (Nat.le_refl _) ?_,rfl,q2 (fun w=>z (r2.qy.mpr w)) _ (I.hok.fresh (Nat.le_refl _))⟩
  exact ⟨by rw[List.length_append];exact hz,_,r1.append r2,qD.new _ _⟩
end
end L2
namespace L2
open PySem PySem.Spec PyProof.Rows
def ixN (n:Nat)(i:Int):Option Nat:=if 0≤i then (if i < n then some i.toNat else none) else if -(n:Int)≤i then some (i+n).toNat else none
def atI {α:Type}(xs:List α)(i:Int):Option α:=(ixN xs.length i).bind fun j=>xs[j]?
theorem xu {n:Nat}{i:Int}{j:Nat}(h:ixN n i=some j):seqIndex? i n=some j∧j < n∧-(n:Int)≤i∧i < n:=by
  unfold ixN at h
  by_cases h0:0≤i
  · rw[if_pos h0] at h
    by_cases h1:i < n
    · rw[if_pos h1] at h
      have e:i.toNat=j:=Option.some.inj h
      exact ⟨by rw[seqIndex_of h0 h1,e],by omega,by omega,h1⟩
    · rw[if_neg h1] at h;cases h
  · rw[if_neg h0] at h
    by_cases h1:-(n:Int)≤i
    · rw[if_pos h1] at h
      have e:(i+n).toNat=j:=Option.some.inj h
      exact ⟨by rw[seqIndex_neg (by omega) h1,e],by omega,h1,by omega⟩
    · rw[if_neg h1] at h;cases h
theorem qc {α:Type}{xs:List α}{i:Int}{v:α}(h:atI xs i=some v):∃ j,seqIndex? i xs.length=some j∧xs[j]? = some v∧j < xs.length∧-(xs.length:Int)≤i∧i < xs.length:=by
  unfold atI at h
  cases e:ixN xs.length i with
  | none=>rw[e] at h;cases h
  | some j=>
    rw[e] at h
    obtain ⟨h1,h2,h3,h4⟩:=xu e
    exact ⟨j,h1,h,h2,h3,h4⟩
def ko (b:Expr):Prop:=∀ o i,subscripted b false o i=operate [o,i] (getItem o i)
def IxR (X:Cx)(r:R2):Prop:=
  ∀ (value slice:Expr) (pins:List (Addr×Obj)) (s:Shared) (σ:St) (H:Hp) (x y:V) (v u:Value) (Q:VK),Inv X pins σ H s→RelV x v→RelV y u→r x y H Q→
    subscripted slice false v u=operate [v,u] (getItem v u)→wpAny (model X.prog X.w) X.A (subscriptTail value slice v u) (EP X pins σ Q) X.xe s
def MtR (X:Cx)(id:String)(r:V→List V→Hp→VK→Prop):Prop:=
  ∀ (pins:List (Addr×Obj)) (s:Shared) (σ:St) (H:Hp) (x:V) (xs:List V) (v:Value) (us:List Value) (Q:VK),Inv X pins σ H s→RelV x v→Vals xs us→r x xs H Q→
    wpAny (model X.prog X.w) X.A (call (.builtin id) (v::us)) (EP X pins σ Q) X.xe s
section
variable {X:Cx} {a b:Expr} {ta tb:TE} {pos:Pos}
theorem IxR.or {r r':R2}(h:IxR X r)(h':IxR X r'):IxR X (fun x y H Q=>r x y H Q∨r' x y H Q):=by
  intro value slice pins s σ H x y v u Q I rx ry q hs
  rcases q with q | q
  · exact h value slice pins s σ H x y v u Q I rx ry q hs
  · exact h' value slice pins s σ H x y v u Q I rx ry q hs
theorem MtR.or {id:String}{r r':V→List V→Hp→VK→Prop}(h:MtR X id r)(h':MtR X id r'):MtR X id (fun x xs H Q=>r x xs H Q∨r' x xs H Q):=by
  intro pins s σ H x xs v us Q I rx rs q
  rcases q with q | q
  · exact h pins s σ H x xs v us Q I rx rs q
  · exact h' pins s σ H x xs v us Q I rx rs q
theorem zm {r:R2}(hr:IxR X r)(ha:PE X a ta)(hb:PE X b tb)(hs:ko b):PE X (.Subscript a b pos) (tOp r ta tb):=by
  intro pins s σ H Q I h
  exact Subscript_ (HE ha hb I h fun v u s2 x y H2 I2 rx ry q=>hr a b pins s2 σ H2 x y v u Q I2 rx ry q (hs _ _))
def Jm (K:PySem.W.Frag):R2:=fun x y H Q=>∃ p xs i v,x=.ref p∧y=.int i∧SqL K H p xs∧atI xs i=some v∧Q v H
def JN (K:PySem.W.Frag):R2:=fun x y H Q=>∃ p xs i v,x=.ref p∧y=.int i∧SqT K H p xs∧atI xs i=some v∧Q v H
def FZ:R2:=fun x y H Q=>∃ z i c,x=.str z∧y=.int i∧z.length≤sizeLine∧atI z.cps.toList i=some c∧Q (.str ⟨#[c]⟩) H
theorem Cv:IxR X (Jm X.K):=by
  intro value slice pins s σ H x y v u Q I rx ry h hs
  obtain ⟨p,xs,i,z,rfl,rfl,hq,he,q⟩:=h
  cases rx
  obtain ⟨t,rfl⟩:=ry
  obtain ⟨its,r,pl,hz⟩:=I.list hq
  obtain ⟨j,h1,h2,h3,h4,h5⟩:=qc he
  obtain ⟨w,ew,rw'⟩:=r.get h2
  have hl:=r.length
  have hn:=jg
  have fin:EP X pins σ Q w s:=⟨z,H,I,rw',q⟩
  by_cases h0:0≤i
  · have hj:i.toNat=j:=by
      rw[seqIndex_of h0 h5] at h1
      exact Option.some.inj h1
    exact item_listR pl.isList h0 (by omega) (by rw[hj];simpa using ew) fin hs
  · have hj:(i+(its.toArray.size:Int)).toNat=j:=by
      rw[seqIndex_neg (by omega) h4] at h1
      rw[List.size_toArray,← hl]
      exact Option.some.inj h1
    exact subscriptTail_builtinR (x:=w) pl.isList.typeIs slot_list_getitem.lookup
      (wpAny_getItem_list_neg (Q:=fun r s'=>r=w∧EP X pins σ Q r s') pl.isList (by omega) (by rw[List.size_toArray]<;>omega) (by omega) (by rw[hj];simpa using ew) ⟨rfl,fin⟩) hs
theorem G9:IxR X (JN X.K):=by
  intro value slice pins s σ H x y v u Q I rx ry h hs
  obtain ⟨p,xs,i,z,rfl,rfl,hq,he,q⟩:=h
  cases rx
  obtain ⟨t,rfl⟩:=ry
  obtain ⟨its,r,pl,hz⟩:=I.tuple hq
  obtain ⟨j,h1,h2,h3,h4,h5⟩:=qc he
  obtain ⟨w,ew,rw'⟩:=r.get h2
  have hl:=r.length
  have hn:=jg
  have fin:EP X pins σ Q w s:=⟨z,H,I,rw',q⟩
  exact subscriptTail_builtinR (x:=w) pl.typeIs slot_tuple_getitem.lookup
    (getItem_tuple (j:=j) (Q:=fun r s'=>r=w∧EP X pins σ Q r s') pl (by omega) (by omega) (by rw[List.size_toArray,← hl];exact h1) (by simpa using ew) ⟨rfl,fin⟩) hs
theorem zD:IxR X FZ:=by
  intro value slice pins s σ H x y v u Q I rx ry h hs
  obtain ⟨z,i,c,rfl,rfl,hz,he,q⟩:=h
  obtain ⟨t,rfl⟩:=rx
  obtain ⟨t',rfl⟩:=ry
  obtain ⟨j,h1,h2,h3,h4,h5⟩:=qc he
  have hl:z.cps.toList.length=z.length:=by simp[Str.length]
  rw[hl] at h1 h4 h5
  have hn:=jg
  exact tail_any (typeIs_str s z t) slot_str_getitem.lookup (getItem_str (c:=c) (by
    have e1:decide (i < -(2 ^ 63:Int))=false:=decide_eq_false (by omega)
    have e2:decide (i ≥ 2 ^ 63)=false:=decide_eq_false (by omega)
    rw[e1,e2,Bool.or_false]) (by rw[h1];simpa using h2) ⟨.str ⟨#[c]⟩,H,I.tok _,⟨_,rfl⟩,q⟩) hs
def rIx (K:PySem.W.Frag):R2:=fun x y H Q=>Jm K x y H Q∨JN K x y H Q∨FZ x y H Q
theorem BP:IxR X (rIx X.K):=Cv.or (G9.or zD)
theorem tX (its:List Value)(n j:Nat)(u:Value):Obj.mapSeq (·.setIfInBounds j u) { cls:=.type "list", data:=.seq its.toArray n }={ cls:=.type "list", data:=.seq (its.set j u).toArray n }:=by
  simp[Obj.mapSeq]
theorem Inv.lst {pins:List (Addr×Obj)}{σ:St}{H:Hp}{s:Shared}{p:Addr}{xs:List V}(I:Inv X pins σ H s)(h:H p=some (.lst xs)) :
    ∃ (its:List Value) (n:Nat),Vals xs its∧s.heap.get? p=some { cls:=.type "list", data:=.seq its.toArray n }∧xs.length≤sizeLine:=by
  obtain ⟨z,its,n,r,e⟩:=I.hok p _ h
  exact ⟨its,n,r,e,z⟩
theorem Inv.Hu {pins:List (Addr×Obj)}{σ:St}{H:Hp}{s:Shared}{p:Addr}{xs ys:List V}{its its':List Value}{n n':Nat}{f:Obj→Obj}(I:Inv X pins σ H s)(h:H p=some (.lst xs))
    (ho:s.heap.get? p=some { cls:=.type "list", data:=.seq its.toArray n }) (hf:f { cls:=.type "list", data:=.seq its.toArray n }={ cls:=.type "list", data:=.seq its'.toArray n' }) (r:Vals ys its') (hz:ys.length≤sizeLine) (t:Nat) :
    Inv X pins σ (upd H p (.lst ys)) { s with heap:=s.heap.update p f,toks:=t }:=by
  have e:(s.heap.update p f).get? p=some { cls:=.type "list", data:=.seq its'.toArray n' }:=by
    rw[Heap.get?_update_self f ho (by rw[hf]<;>rfl),hf]
  refine I.write (x:=p) (e:=p) (by rw[h];trivial) (.inl rfl) (fun b u hb q=>(Heap.get?_update_other _ _ (Ne.symm hb)).trans q) ⟨_,e⟩ ?_
  exact ⟨hz,its',n',r,e⟩
def KR:V→V→V→Hp→(Hp→Prop)→Prop:=fun o i v H Q=>∃ p xs k j,o=.ref p∧i=.int k∧H p=some (.lst xs)∧ixN xs.length k=some j∧Q (upd H p (.lst (xs.set j v)))
theorem set_list:KH X KR:=by
  intro pins s σ H o i v ov iv u Q I ro ri rv h
  obtain ⟨p,xs,k,j,rfl,rfl,hp,hj,q⟩:=h
  cases ro
  obtain ⟨t,rfl⟩:=ri
  obtain ⟨its,n,r,ho,hz⟩:=I.lst hp
  obtain ⟨h1,h2,h3,h4⟩:=xu hj
  have hl:=r.length
  have hn:=jg
  have I':Inv X pins σ (upd H p (.lst (xs.set j v))) { s with heap:=s.heap.update p (Obj.mapSeq (·.setIfInBounds j u)) }:=
    I.Hu hp ho (tX its n j u) (r.set rv j) (by rw[List.length_set];exact hz) s.toks
  by_cases h0:0≤k
  · have hk:k.toNat=j:=by
      rw[seqIndex_of h0 h4] at h1
      exact Option.some.inj h1
    exact PySem.W.ki_setAt ho h0 (by omega) (by rw[List.size_toArray,← hl];exact h4) (by rw[hk];exact ⟨_,I',q⟩)
  · have hk:(k+(its.toArray.size:Int)).toNat=j:=by
      rw[seqIndex_neg (by omega) h3] at h1
      rw[List.size_toArray,← hl]
      exact Option.some.inj h1
    exact PySem.W.ki_setBack ho (by omega) (by rw[List.size_toArray,← hl];exact h3) (by omega) (by rw[hk];exact ⟨_,I',q⟩)
theorem p8 (lo hi:Option Int)(n:Nat):(sliceBounds lo hi none n).1=((HT.sIx n 0 lo:Nat):Int)∧(sliceBounds lo hi none n).2.1=((HT.sIx n n hi:Nat):Int)∧(sliceBounds lo hi none n).2.2=1:=by
  refine ⟨?_,?_,rfl⟩
  · cases lo with
    | none=>simp[sliceBounds,HT.sIx]
    | some i=>
      simp only[sliceBounds,HT.sIx,Option.getD_none,show (1:Int) > 0 by decide,if_true]
      by_cases h:i < 0
      · simp only[h,if_true]<;>omega
      · simp only[h,if_false]<;>omega
  · cases hi with
    | none=>simp[sliceBounds,HT.sIx]
    | some i=>
      simp only[sliceBounds,HT.sIx,Option.getD_none,show (1:Int) > 0 by decide,if_true]
      by_cases h:i < 0
      · simp only[h,if_true]<;>omega
      · simp only[h,if_false]<;>omega
theorem mV (its:List Value)(lo hi:Option Int):slicePick its.toArray lo hi none=((its.drop (HT.sIx its.length 0 lo)).take (HT.sIx its.length its.length hi - HT.sIx its.length 0 lo)).toArray:=by
  obtain ⟨h1,h2,h3⟩:=p8 lo hi its.toArray.size
  unfold slicePick
  rw[h1,h2,h3]
  simp only[sliceRange_one,pick_run,List.size_toArray]<;>rfl
def Lw (K:PySem.W.Frag):V→Option Int→Option Int→Hp→VK→Prop:=fun x lo hi H Q=>∃ a xs,x=.ref a∧SqL K H a xs∧∀ p,H p=none→Q (.ref p) (upd H p (.lst (rg xs lo hi)))
theorem Eu:SlR X (Lw X.K):=by
  intro pins s σ H x v vl vu lo hi sl Q I rx hs pl pu h
  obtain ⟨a,xs,rfl,hx,q⟩:=h
  cases rx
  obtain ⟨its,r,ht,hz⟩:=I.list hx
  have hlen:=r.length
  refine ⟨"list", _,slot_list_getitem.lookup,ht.isList.typeIs,?_⟩
  refine wpAny_getItem_list_slice ht.isList hs pl pu .none (by simp) ?_ (by rw[List.size_toArray]<;>omega)
  rw[mV,← hlen]
  refine ⟨.ref s.heap.objs.size,_,I.laid (t':=s.toks) (o:=.lst (rg xs lo hi)) (fun b ob q=>Heap.get?_push_of_some _ q) (Nat.le_refl _) ?_,rfl,q _ (I.hok.fresh (Nat.le_refl _))⟩
  exact ⟨Nat.le_trans (jG xs lo hi) hz,_,0,(r.drop (HT.sIx xs.length 0 lo)).take (HT.sIx xs.length xs.length hi - HT.sIx xs.length 0 lo),Heap.get?_push_size _ rfl⟩
def Fg:V→Bool
  | .non=>true
  | .bl _=>true
  | .int _=>true
  | .str _=>true
  | _=>false
def eqV:V→V→Bool
  | .non,.non=>true
  | .bl a,.bl b=>a == b
  | .bl a,.int b=>(if a then 1 else 0) == b
  | .int a,.bl b=>a == (if b then 1 else 0)
  | .int a,.int b=>a == b
  | .str a,.str b=>a == b
  | _,_=>false
def inV (x:V)(xs:List V):Bool:=xs.any fun y=>eqV y x
def rIn (K:PySem.W.Frag)(neg:Bool):R2:=fun x y H Q=>∃ p xs,y=.ref p∧(SqL K H p xs∨SqT K H p xs)∧Fg x=true∧xs.all Fg=true∧Q (.bl (if neg then !inV x xs else inV x xs)) H
theorem pX:bz X (.builtin "len") (fun xs H Q=>∃ p ys,xs=[.ref p]∧(SqL X.K H p ys∨SqT X.K H p ys)∧Q (.int ys.length) H):=by
  intro pins s σ H xs us Q I r h
  obtain ⟨p,ys,rfl,hq,q⟩:=h
  obtain ⟨u,rfl,rx⟩:=vals1 r
  cases rx
  have hn:=jg
  rcases hq with hq | hq
  · obtain ⟨its,r',pl,hz⟩:=I.list hq
    have hlen:=r'.length
    exact Calls.call_len_list pl.isList (by simp only[List.size_toArray]<;>omega) ⟨.int ys.length,H,I.tok _,⟨s.toks+1,by rw[List.size_toArray,hlen]⟩,q⟩
  · obtain ⟨its,r',pl,hz⟩:=I.tuple hq
    have hlen:=r'.length
    exact len_tuple pl (by simp only[List.size_toArray]<;>omega) ⟨.int ys.length,H,I.tok _,⟨s.toks+1,by rw[List.size_toArray,hlen]⟩,q⟩
theorem pV:bz X (.builtin "len") (fun xs H Q=>∃ z,xs=[.str z]∧z.length≤sizeLine∧Q (.int z.length) H):=by
  intro pins s σ H xs us Q I r h
  obtain ⟨z,rfl,hz,q⟩:=h
  obtain ⟨u,rfl,t,rfl⟩:=vals1 r
  have hn:=jg
  exact len_str (by omega) ⟨.int z.length,H,I.tok _,⟨_,rfl⟩,q⟩
theorem bz.or {f:Value}{r r':List V→Hp→VK→Prop}(h:bz X f r)(h':bz X f r'):bz X f (fun xs H Q=>r xs H Q∨r' xs H Q):=by
  intro pins s σ H xs us Q I rs q
  rcases q with q | q
  · exact h pins s σ H xs us Q I rs q
  · exact h' pins s σ H xs us Q I rs q
theorem pI:bz X (.type "list") (fun xs H Q=>∃ p ys,xs=[.ref p]∧(SqL X.K H p ys∨SqT X.K H p ys)∧∀ l,H l=none→Q (.ref l) (upd H l (.lst ys))):=by
  intro pins s σ H xs us Q I r h
  obtain ⟨p,ys,rfl,hq,q⟩:=h
  obtain ⟨u,rfl,rx⟩:=vals1 r
  cases rx
  have fin:∀ (its:List Value),Vals ys its→ys.length≤sizeLine→∀ (h':Heap) (c':Nat),(∀ b o',s.heap.get? b=some o'→h'.get? b=some o')→
      h'.get? s.heap.objs.size=some { cls:=.type "list", dict:=none,data:=.seq its.toArray c',slots:=#[] }→EP X pins σ Q (.ref s.heap.objs.size) { s with heap:=h' }:=fun its r' hz h' c' kp e=>
    ⟨.ref s.heap.objs.size,_,I.laid (t':=s.toks) kp (Nat.le_refl _) (show bO X.prog X.w _ h' _ (.lst ys) from ⟨hz,its,c',r',e⟩),rfl,q _ (I.hok.fresh (Nat.le_refl _))⟩
  rcases hq with hq | hq
  · obtain ⟨its,r',pl,hz⟩:=I.list hq
    have hlen:=r'.length
    obtain ⟨o,ho,hc,n,hd⟩:=pl.isList
    exact call_list_seq p (.inl rfl) ho hc hd (fun h' c' kp e=>fin its r' hz h' c' kp e) (by simp only[List.size_toArray]<;>omega)
  · obtain ⟨its,r',pl,hz⟩:=I.tuple hq
    have hlen:=r'.length
    obtain ⟨o,ho,hc,n,hd⟩:=pl
    exact call_list_seq p (.inr rfl) ho hc hd (fun h' c' kp e=>fin its r' hz h' c' kp e) (by simp only[List.size_toArray]<;>omega)
theorem cC:bz X (.type "tuple") (fun xs H Q=>∃ p ys,xs=[.ref p]∧((SqL X.K H p ys∧∀ l,H l=none→Q (.ref l) (upd H l (.tup ys)))∨(SqT X.K H p ys∧Q (.ref p) H))):=by
  intro pins s σ H xs us Q I r h
  obtain ⟨p,ys,rfl,h⟩:=h
  obtain ⟨u,rfl,rx⟩:=vals1 r
  cases rx
  rcases h with ⟨hq,q⟩ | ⟨hq,q⟩
  · obtain ⟨its,r',pl,hz⟩:=I.list hq
    have hlen:=r'.length
    refine call_tuple_list pl.isList (fun h' kp=>?_) (by simp only[List.size_toArray]<;>omega)
    have I1:Inv X pins σ H { s with heap:=h' }:=I.kept (t':=s.toks) kp
    have I2:Inv X pins σ (upd H h'.objs.size (.tup ys)) { s with heap:=h'.push { cls:=.type "tuple", data:=.seq its.toArray } }:=
      I1.laid (t':=s.toks) (fun b o e=>Heap.get?_push_of_some _ e) (Nat.le_refl _) (show bO X.prog X.w _ _ _ (.tup ys) from ⟨hz,its,r',qD.new _ _⟩)
    exact ⟨.ref h'.objs.size,_,I2,rfl,q _ (I1.hok.fresh (Nat.le_refl _))⟩
  · obtain ⟨its,r',pl,hz⟩:=I.tuple hq
    exact call_tuple_same pl ⟨.ref p,H,I,rfl,q⟩
def tyV (K:PySem.W.Frag)(T:String)(x:V)(H:Hp):Prop:=match x with
  | .str _=>T = "str"
  | .int _=>T = "int"
  | .ref p=>(T = "list" ∧ ∃ xs,SqL K H p xs)∨(T = "tuple" ∧ ∃ o,K.lookup p=some o∧o.cls=.type "tuple" ∧ o.dict=none)∨
      (T = "dict" ∧ ((∃ kvs,H p=some (.dK kvs))∨∃ kvs,H p=some (.dT kvs)))∨(T = "set" ∧ ∃ S n,H p=some (.set S n))
  | _=>False
theorem HD {pins:List (Addr×Obj)}{σ:St}{H:Hp}{s:Shared}{T:String}{x:V}{v:Value}(I:Inv X pins σ H s)(r:RelV x v)(ty:tyV X.K T x H) :
    s.TypeIs v T∧∀ a,v=.ref a→∃ ob,s.heap.get? a=some ob∧ob.dict=none:=by
  cases x with
  | str z=>
    obtain ⟨t,rfl⟩:=r
    cases (show T = "str" from ty)
    exact ⟨typeIs_str s z t,fun _ e=>nomatch e⟩
  | int i=>
    obtain ⟨t,rfl⟩:=r
    cases (show T = "int" from ty)
    exact ⟨typeIs_int s i t,fun _ e=>nomatch e⟩
  | ref p=>
    cases r
    rcases ty with ⟨rfl,xs,hq⟩ | ⟨rfl,o,hk,hc,hd⟩ | ⟨rfl,hk⟩ | ⟨rfl,S,n,hk⟩
    · obtain ⟨its,_,pl,_⟩:=I.list hq
      refine ⟨pl.isList.typeIs,fun a e=>?_⟩
      cases e
      obtain ⟨o,n,e,c,hd,_⟩:=pl
      exact ⟨o,e,hd⟩
    · refine ⟨⟨o,I.kIn p o hk,hc⟩,fun a e=>?_⟩
      cases e
      exact ⟨o,I.kIn _ o hk,hd⟩
    · have z:∃ o,s.heap.get? p=some o∧o.ExactDict:=by
        rcases hk with ⟨kvs,hk⟩ | ⟨kvs,hk⟩
        · obtain ⟨_,_,_,_,o,_,_,e,ex,_⟩:=I.hok p _ hk
          exact ⟨o,e,ex⟩
        · obtain ⟨_,_,_,_,o,_,_,e,ex,_⟩:=I.hok p _ hk
          exact ⟨o,e,ex⟩
      obtain ⟨o,e,ex⟩:=z
      refine ⟨⟨o,e,ex.1⟩,fun a e2=>?_⟩
      cases e2
      exact ⟨o,e,ex.2.1⟩
    · obtain ⟨o,_,_,_,e,ex,_⟩:=I.hok p _ hk
      refine ⟨⟨o,e,ex.1⟩,fun a e2=>?_⟩
      cases e2
      exact ⟨o,e,ex.2.1⟩
  | _=>exact False.elim ty
def tBM (K:PySem.W.Frag)(T:String)(r:V→List V→Hp→VK→Prop)(to:TE)(t:TA):TE:=fun σ H Q=>to σ H fun x H1=>tyV K T x H1∧t σ H1 fun xs H2=>r x xs H2 Q
variable {o e:Expr} {es:List Expr} {to:TE} {t:TA} {name:Str} {apos cpos:Pos} {T id:String} {r:V→List V→Hp→VK→Prop}
theorem Ff (pa:PlainAttrs T)(slot:Slot T name id)(hty:typeOf (.builtin id)=pure (.type "method_descriptor"))(hm:MtR X id r)(ho:PE X o to)(ha:PA X (e::es) t)
    (hbase:attributeBase o name X.env (eval o X.env)=eval o X.env:=by rfl)
    (hfew:((backTo cpos (starEach (e::es) X.env)).all (fun x=>!x.1)&&(backToKw cpos (keywordEach [] X.env)).all (fun x=>x.1.isSome)
      && decide ((e::es).length+([]:List Keyword).length+(if ([]:List Keyword).isEmpty then 0 else 1) < 30))=true:=by rfl)
    (hline:(apos.endLine == cpos.line)=true:=by rfl) (hs:starEach (e::es) X.env=(false,eval e X.env)::starEach es X.env:=by rfl) (hplain:(backTo cpos (starEach es X.env)).any (·.1)=false:=by rfl) :
    PE X (.Call (.Attribute o name apos) (e::es) [] cpos) (tBM X.K T r to t):=by
  intro pins s σ H Q I h
  refine wpAny_Call_method_late hbase hfew hline rfl (thn (ho pins s σ H _ I h) fun v s1 ⟨x,H1,I1,r1,ty,q1⟩=>?_)
  obtain ⟨h1,h2⟩:=HD I1 r1 ty
  refine ⟨T,id,pa,slot,hty,h1,h2,?_⟩
  have hA:=ha cpos pins s1 σ H1 _ I1 q1
  rw[hs] at hA ⊢
  refine Calls.callWith_builtin (by show (false || (backTo cpos (starEach es X.env)).any (·.1))=false;rw[hplain]<;>rfl) (Calls.evalArgs_plain ?_)
  exact thn hA fun us s2 ⟨vs,H2,I2,r2,q2⟩=>hm pins s2 σ H2 x vs v us Q I2 r1 r2 q2
end
end L2
namespace L2
open PySem PySem.Spec PyProof.Rows
def MtM (X:Cx)(id:String)(r:V→List V→Hp→VK→Prop):Prop:=
  ∀ (pins:List (Addr×Obj)) (s:Shared) (σ:St) (H:Hp) (x:V) (xs:List V) (v:Value) (us:List Value) (Q:VK),Inv X pins σ H s→RelV x v→Vals xs us→r x xs H Q→
    wpAny (model X.prog X.w) X.A (call (.builtin id) (v::us)) (EP X pins σ Q) X.xe s
theorem Vals.one:∀ {x:V} {us:List Value},Vals [x] us→∃ u,us=[u]∧RelV x u
  | _,_,.cons r .nil=>⟨_,rfl,r⟩
theorem Vals.zero:∀ {us:List Value},Vals [] us→us=[]
  | _,.nil=>rfl
theorem Vals.eraseIdx:∀ {xs:List V} {us:List Value} (i:Nat),Vals xs us→Vals (xs.eraseIdx i) (us.eraseIdx i)
  | _,_,_,.nil=>.nil
  | _,_,0,.cons _ t=>t
  | _,_,i+1,.cons r t=>.cons r (Vals.eraseIdx i t)
theorem Vals.reverse {xs:List V}{us:List Value}(h:Vals xs us):Vals xs.reverse us.reverse:=by
  induction h with
  | nil=>exact .nil
  | cons r t ih=>rw[List.reverse_cons,List.reverse_cons];exact Vals.append ih (.cons r .nil)
theorem Vals.rep {xs:List V}{us:List Value}(h:Vals xs us):∀ k:Nat,Vals (List.replicate k xs).flatten (List.replicate k us).flatten
  | 0=>.nil
  | k+1=>by
    rw[List.replicate_succ,List.replicate_succ,List.flatten_cons,List.flatten_cons]
    exact Vals.append h (Vals.rep h k)
theorem oJ {α:Type}:∀ (l:List α) (i:Nat),(l.eraseIdx i).length≤l.length
  | [],_=>Nat.le_refl _
  | _::_,0=>Nat.le_succ _
  | _::r,i+1=>Nat.succ_le_succ (oJ r i)
section
variable {X:Cx} {pins:List (Addr×Obj)} {σ:St} {H:Hp} {s:Shared} {l b:Addr} {xs ys zs:List V}
theorem Inv.JY {its its':List Value}{n:Nat}{f:Array Value→Array Value}{t':Nat}(I:Inv X pins σ H s)(hH:H l=some (.lst xs))
    (e:s.heap.get? l=some { cls:=.type "list", data:=.seq its.toArray n }) (hf:f its.toArray=its'.toArray) (hv:Vals ys its') (hz:ys.length≤sizeLine) :
    Inv X pins σ (upd H l (.lst ys)) { s with heap:=s.heap.update l (Obj.mapSeq f),toks:=t' }:=by
  have q:=PySem.IsL.update e f
  rw[hf] at q
  refine I.write (x:=l) (e:=l) (by rw[hH];exact trivial) (.inl rfl) (fun b' u hb hu=>(Heap.get?_update_other s.heap (Obj.mapSeq f) (Ne.symm hb)).trans hu) ⟨_,q⟩ ?_
  exact ⟨hz,its',_,hv,q⟩
theorem Inv.LH {its:List Value}{t':Nat}(I:Inv X pins σ H s)(hv:Vals ys its)(hz:ys.length≤sizeLine) :
    Inv X pins σ (upd H s.heap.objs.size (.lst ys)) { s with heap:=s.heap.push { cls:=.type "list", data:=.seq its.toArray },toks:=t' }:=
  I.laid (fun _ _ q=>Heap.get?_push_of_some _ q) (Nat.le_refl _) ⟨hz,its,0,hv,Heap.get?_push_size _ rfl⟩
theorem Inv.fresh (I:Inv X pins σ H s):H s.heap.objs.size=none:=I.hok.fresh (Nat.le_refl _)
theorem Inv.GX (I:Inv X pins σ H s)(hH:H l=some (.lst xs)):xs.length≤sizeLine∧∃ (its:List Value) (n:Nat),Vals xs its∧xs.length=its.length∧s.heap.get? l=some { cls:=.type "list", data:=.seq its.toArray n }:=by
  obtain ⟨z,its,n,r,e⟩:=I.hok l _ hH
  exact ⟨z,its,n,r,r.length,e⟩
end
section
variable {X:Cx}
def ED:V→List V→Hp→VK→Prop:=fun x vs H Q=>∃ l xs y,x=.ref l∧vs=[y]∧H l=some (.lst xs)∧xs.length < sizeLine∧Q .non (upd H l (.lst (xs++[y])))
theorem o9:MtM X "list.append" ED:=by
  intro pins s σ H x vs v us Q I rx rv h
  obtain ⟨l,xs,y,rfl,rfl,hH,hz,q⟩:=h
  cases rx
  obtain ⟨u,rfl,ru⟩:=rv.one
  obtain ⟨z,its,n,r,hl,e⟩:=I.GX hH
  refine call_meets F.slot_list_append ⟨_,e,rfl⟩ F.entry_list_append (F.args_list_append_2 _ _) (PySem.list_append l its.toArray n u (by rw[List.size_toArray];omega)) ⟨e,?_⟩
  refine ⟨.non,_,I.JY (its':=its++[u]) hH e (by simp) (r.append (.cons ru .nil)) ?_,rfl,q⟩
  rw[List.length_append,List.length_singleton]
  omega
def FF:V→List V→Hp→VK→Prop:=fun x vs H Q=>∃ l xs i k y,x=.ref l∧vs=[.int i]∧H l=some (.lst xs)∧-(2 ^ 63)≤i∧i < 2 ^ 63∧seqIndex? i xs.length=some k∧xs[k]? = some y∧Q y (upd H l (.lst (xs.eraseIdx k)))
theorem zb:MtM X "list.pop" FF:=by
  intro pins s σ H x vs v us Q I rx rv h
  obtain ⟨l,xs,i,k,y,rfl,rfl,hH,h1,h2,hk,hy,q⟩:=h
  cases rx
  obtain ⟨u,rfl,ru⟩:=rv.one
  obtain ⟨t,rfl⟩:=ru
  obtain ⟨z,its,n,r,hl,e⟩:=I.GX hH
  obtain ⟨w,hw,rw'⟩:=r.get hy
  refine call_meets F.slot_list_pop ⟨_,e,rfl⟩ F.entry_list_pop (F.args_list_pop_2 _ _)
    (MeetsSeq.list_pop_at l its.toArray n i t k w (fitsIndex_both h1 h2) (by rw[List.size_toArray,← hl];exact hk) (by rw[← Array.getElem?_toList];exact hw) (by rw[List.size_toArray];omega)) ⟨e,?_⟩
  refine ⟨y,_,I.JY (its':=its.eraseIdx k) hH e ?_ (r.eraseIdx k) ?_,rw',q⟩
  · show its.toArray.eraseIdxIfInBounds k=(its.eraseIdx k).toArray
    rw[List.eraseIdxIfInBounds_toArray]
  · have:=oJ xs k
    omega
end
section
variable {prog:Program} {w:World} {A:Around} {E:Value→Shared→Prop} {s:Shared}
end
section
variable {X:Cx}
end
end L2
namespace Att
open PySem PySem.W PySem.Calls PyProof.Rows
theorem jT {P:Params}{h:Heap}:∀ (ns:List Int) (vs:List Value),WellAll P h vs (ns.map WData.int)→IntsAre vs ns:=by
  intro ns
  induction ns with
  | nil=>
    intro vs w
    rw[List.map_nil] at w
    cases w
    exact .nil
  | cons n ns ih=>
    intro vs w
    rw[List.map_cons] at w
    cases w with
    | cons a b=>
      cases a
      exact .cons _ _ (ih _ b)
theorem xP {l:OpenLaw}{n:Nat}(hn:l.most=some n){P:Params}{h:Heap}{args:List WData}{vals:List Value}
    (hpre:l.row.toRowW.claim.pre args=true) (hwl:WellAll P h vals args) :
    ∃ a vs ns,vals=[Value.ref a]∧args=[WData.list (ns.map WData.int)]∧h.get? a=some { cls:=.type "list", data:=.seq vs.toArray }∧IntsAre vs ns∧ns.length≤n:=by
  have hsh:WShape.hasAll [] args [.list .int]=true:=(pre_splitW hpre).1
  have hc:l.pre.holds [] { args:=args }=true:=(pre_splitW hpre).2
  obtain ⟨d,r,rfl,h1,h2⟩:=hasAllW_cons hsh
  obtain rfl:=hasAllW_nil h2
  obtain ⟨xs,rfl,h3⟩:=hasW_list h1
  obtain ⟨ns,rfl⟩:=items_int h3
  have hlen:ns.length≤n:=by
    unfold OpenLaw.pre at hc
    have h4:(WTm.not (.lt (.lit (.int (n:Int))) (.len (.arg 0)))).holds [] { args:=[.list (ns.map .int)] }=true:=by
      have h4:=(holds_andW hc).1
      rw[hn] at h4
      exact h4
    have h5:=condW_of h4 (w_not (w_lt w_lit (w_len_list (w_arg rfl))))
    rw[List.length_map] at h5
    refine Nat.le_of_not_lt fun q=>?_
    have q':(n:Int) < ((ns.length:Nat):Int):=by omega
    first
      | (rw[decide_eq_true q'] at h5;exact absurd h5 (by decide))
      | (simp at h5;omega)
  cases hwl with
  | cons w1 w2=>
    cases w2
    cases w1 with
    | list ho hall=>exact ⟨_,_,ns,rfl,rfl,ho,jT ns _ hall,hlen⟩
theorem xY (l:OpenLaw)(args:List WData):l.row.toRowW.claim.post args (.bool true) args=true:=
  postW_of (r:=l.row.toRowW) (X:=(true == true))
    (show WShape.has [] (.bool true) .bool=true by first | rfl | decide | simp[WShape.has,WShape.arms,WShape.armsAll])
    (show (WTm.eq .res (.lit (.bool true))).value [] { args:=args,res:=some (.bool true),after:=args }=some (.bool (true == true)) from w_eq_bool (w_res rfl) w_lit) rfl
theorem sL {l:OpenLaw}{n:Nat}{q:Program}{loose:List Str}{XP:(Str→Option Value)→Heap→Prop}{YP:World→Heap→Prop}{d:DefRec}
    (hn:l.most=some n) (hdf:d.params.defaults=[])
    (call:∀ (w:World) (s₀ s₁:Shared) (mg mb:Str→Option Value) (fa:Addr) (o:Obj) (pm cd doc:Value) (a:Addr) (vs:List Value) (ns:List Int),
      Ground q loose [] XP w s₀ mg mb s₁.heap→YP w s₁.heap→
      s₁.heap.get? fa=some o→o.data=.func (docDef d.name d.params d.body d.scope pm cd doc)→s₁.heap.CodeRec cd d.name→mg d.name=some (.ref fa)→
      s₁.heap.get? a=some { cls:=.type "list", data:=.seq vs.toArray }→IntsAre vs ns→ns.length≤n→s₁.gens = #[]→
      codeAny (model l.prog w) callerA (.call (.ref fa) ⟨[.ref a],[]⟩) (fun r s'=>r=.ok (.ret (.bool true))∧OldK s₁.heap s'.heap∧s'.os=s₁.os∧AllBare s'.gens) s₁) :
    WalkO q loose XP YP l.row.toRowW d [] (fun f vs=>PySem.call f vs):=by
  intro w s₀ s₁ mg mb G Y fa o pm cd doc dV kV ho hd hcd hD hmg hg args vals as hpre hlay hrd hwl hlo
  obtain rfl:dV=.none:=Dflts.none hD hdf
  obtain rfl:kV=.none:=Dflts.noKw hD
  obtain ⟨a,vs,ns,rfl,rfl,hobj,hints,hlen⟩:=xP hn hpre hwl
  refine enter_call (codeAny_mono (call w s₀ s₁ mg mb fa o pm cd doc a vs ns G Y ho (fd_plain hd) hcd hmg hobj hints hlen hg) fun r s' hq=>?_)
  obtain ⟨rfl,h2,h3,h4⟩:=hq
  exact ⟨.inl ⟨.bool true,.bool true,[],rfl,fun _=>rfl,.bool true,xY l _,fun _=>⟨List.Pairwise.nil,fun _ hm=>(nomatch hm)⟩⟩,h2,h3,h4⟩
section
variable {prog:Program} {w:World} {A:Around} {E:Value→Shared→Prop} {s:Shared} {K:Frag}
end
end Att
namespace L2
open PySem PySem.Spec PyProof.Rows
theorem oW:∀ {vs:List Value} {ns:List Int},IntsAre vs ns→Vals (ns.map V.int) vs
  | _,_,.nil=>.nil
  | _,_,.cons n t h=>.cons ⟨t,rfl⟩ (oW h)
def Ed (H:Hp):Prop:=∀ b,H b=none∨∃ o xs,H b=some (.frz o (.lst xs))
theorem AB {P:Program}{w:World}{K:PySem.W.Frag}{mg mb:Str→Option Value}{CX:CXT}{k:Nat}{fa a:Addr}{fd:FuncData}{x:Str}{sp:Sp}{s₁:Shared}{vs:List Value}{ns:List Int}
    (KX:K.In s₁.heap) (hns:s₁.heap.Ns mainGlobals mg) (hb:s₁.heap.Ns builtinsNs mb) (hbb:∀ x:Str,x ≠ "__name__" → mb x=bootBuiltins x) (hlim:s₁.heap.NoLimit) (hg:s₁.gens = #[])
    (ha:s₁.heap.get? a=some { cls:=.type "list", data:=.seq vs.toArray }) (hi:IntsAre vs ns) (hl:ns.length≤sizeLine) (hr:cO k callerA)
    (F:∀ base:Heap,K.In base→base.Ns mainGlobals mg→fo P w K mg base CX k fa fd [x] sp) (hbind:∀ (s:Shared) (u:Value),BindsTo s fd ⟨[u],[]⟩ [(x,u)])
    (hsp:∀ H:Hp,Ed H→SqL K H a (ns.map V.int)→sp [.ref a] H (fun v _=>v=.bl true) fun _ _ _=>False)
    (hCX:∀ H e s',CX [] H s₁ (fun _ _ _=>False) e s'→False) :
    codeAny (model P w) callerA (.call (.ref fa) ⟨[.ref a],[]⟩) (fun r s'=>r=.ok (.ret (.bool true))∧OldK s₁.heap s'.heap∧s'.os=s₁.os∧AllBare s'.gens) s₁:=by
  have rv:=oW hi
  have Lz:=hi.length
  -- from an abstract heap in which nothing but the script may be tracked
  have core:∀ H:Hp,Ed H→SqL K H a (ns.map V.int)→HOk P w H s₁.heap→(∀ b,H b≠none→b=a)→(H a≠none→K.lookup a=none)→
      codeAny (model P w) callerA (.call (.ref fa) ⟨[.ref a],[]⟩) (fun r s'=>r=.ok (.ret (.bool true))∧OldK s₁.heap s'.heap∧s'.os=s₁.os∧AllBare s'.gens) s₁:=by
    intro H hO hS hok hA hK
    have base_of:∀ {b:Addr} {o:Obj},s₁.heap.get? b=some o→H b=none→(ql s₁.heap H).get? b=some o:=fun e n=>AE e n
    have noA:∀ {b:Addr} {o:Obj} {es:Array DictEntry} {ep:Nat},s₁.heap.get? b=some o→o.data=.dict es ep→H b=none:=fun {b o es ep} e d=>by
      cases q:H b with
      | none=>rfl
      | some u=>
        have e':b=a:=hA b (by rw[q];simp)
        subst e'
        rw[ha] at e;cases e
        have d':Data.seq vs.toArray _=Data.dict es ep:=d
        cases d'
    have nsK:∀ {b:Addr} {m:Str→Option Value},s₁.heap.Ns b m→(ql s₁.heap H).Ns b m:=fun {b m} ⟨o,es,ep,e,d,r⟩=>⟨o,es,ep,base_of e (noA e d),d,r⟩
    have hKb:K.In (ql s₁.heap H):=fun b o e=>base_of (KX b o e) (by
      cases q:H b with
      | none=>rfl
      | some u=>
        have e':b=a:=hA b (by rw[q];simp)
        subst e'
        rw[hK (by rw[q];simp)] at e;cases e)
    have hM:Mod K mg (ql s₁.heap H):=⟨hKb,nsK hns,⟨mb,nsK hb,hbb⟩,let ⟨mc,h1,h2⟩:=hlim;⟨mc,nsK h1,h2⟩⟩
    have e0:t7 P w K mg (ql s₁.heap H) callerA [] s₁ H:=⟨rfl,hM,fun b o e=>Eo e,Nat.le_of_eq (xy _ _),trivial,fun b hb=>absurd (show b∈([]:List Addr) from hb) (by simp),hok,.of_eq hg⟩
    refine codeAny_mono ((F _ hKb (nsK hns)).run callerA [] s₁ H ⟨[.ref a],[]⟩ [.ref a] [.ref a] _ _ hr e0 (hbind s₁ (.ref a)) (.cons rfl .nil) (hsp H hO hS)) fun r s' h=>?_
    cases r with
    | error e=>exact (hCX H e s' h).elim
    | ok fl=>
      cases fl with
      | next=>exact False.elim h
      | brk=>exact False.elim h
      | cont=>exact False.elim h
      | ret u=>
        obtain ⟨v,H',os,bare,un,hok',r',q⟩:=h
        have q':v=.bl true:=q
        subst q'
        obtain rfl:u=Value.bool true:=r'
        refine ⟨rfl,OldK.of_keep fun b o e=>?_,os,bare⟩
        cases q:H b with
        | none=>exact un.keep b o e q (by intro z;exact absurd (show b∈([]:List Addr) from z) (by simp)) (by simp)
        | some u=>
          rcases hO b with z | ⟨ob,xs,z⟩
          · rw[q] at z;cases z
          · have z2:=un.iF b ob _ z
            obtain ⟨e1,_⟩:=hok b _ z
            obtain ⟨e2,_⟩:=hok' b _ z2
            rw[e] at e1;cases e1
            exact e2
  cases hk:K.lookup a with
  | some o=>
    -- the script is one of the module's own objects
    have e:=KX a o hk
    rw[ha] at e
    cases e
    refine core (fun _=>none) (fun _=>.inl rfl) (.inr ⟨_,vs.toArray,_,hk,rfl,rfl,rfl,by rw[List.size_toArray,Lz];exact hl,by simpa using rv⟩) (fun b u z=>by have z':(none:Option HO)=some u:=z;cases z') (fun b z=>absurd rfl z) fun z=>absurd rfl z
  | none=>
    refine core (fun b=>if b=a then some (.frz { cls:=.type "list", data:=.seq vs.toArray } (.lst (ns.map V.int))) else none) (fun b=>?_) (.inl (.inr ⟨{ cls:=.type "list", data:=.seq vs.toArray },if_pos rfl⟩)) (fun b u z=>?_) (fun b z=>?_) fun _=>hk
    · by_cases hb:b=a
      · exact .inr ⟨_,_,if_pos hb⟩
      · exact .inl (if_neg hb)
    · by_cases hb:b=a
      · have z':=(if_pos hb).symm.trans z
        cases z'
        subst hb
        exact ⟨ha,by rw[List.length_map];exact hl,vs,_,rv,ha⟩
      · have z':=(if_neg hb).symm.trans z
        cases z'
    · by_cases hb:b=a
      · exact hb
      · exact absurd (if_neg hb) z
end L2
namespace L2
open PySem PySem.Spec PyProof.Rows
theorem DZ {l:PySem.W.OpenLaw}{n k:Nat}{q:Program}{loose:List Str}{XP:(Str→Option Value)→Heap→Prop}{YP:World→Heap→Prop}{d:DefRec}{K:Params→PySem.W.Frag}{CX:World→CXT}{sp:World→Sp}{x:Str}
    (hn:l.most=some n) (hn2:n≤sizeLine) (hdf:d.params.defaults=[]) (hr:cO k callerA)
    (hY:∀ (w:World) (h:Heap),YP w h→(K w.params).In h)
    (F:∀ (w:World) (mg:Str→Option Value) (fa:Addr) (h:Heap),(K w.params).In h→h.Ns mainGlobals mg→mg d.name=some (.ref fa)→
      ∃ fd:FuncData,(∀ (s:Shared) (u:Value),BindsTo s fd ⟨[u],[]⟩ [(x,u)])∧
        ∀ base:Heap,(K w.params).In base→base.Ns mainGlobals mg→fo l.prog w (K w.params) mg base (CX w) k fa fd [x] (sp w))
    (hsp:∀ (w:World) (H:Hp) (a:Addr) (ns:List Int),ns.length≤n→Ed H→SqL (K w.params) H a (ns.map V.int)→sp w [.ref a] H (fun v _=>v=.bl true) fun _ _ _=>False)
    (hCX:∀ (w:World) (H:Hp) (s:Shared) (e:Value) (s':Shared),CX w [] H s (fun _ _ _=>False) e s'→False) :
    PySem.W.WalkO q loose XP YP l.row.toRowW d [] (fun f vs=>PySem.call f vs):=by
  refine Att.sL hn hdf fun w s₀ s₁ mg mb fa o pm cd doc a vs ns G Y ho hd hcd hmg hobj hints hlen hg=>?_
  have KX:=hY w _ Y
  obtain ⟨fd,hb,hF⟩:=F w mg fa _ KX G.T.g hmg
  exact AB KX G.T.g G.T.b G.T.builtins G.T.nolimit hg hobj hints (Nat.le_trans hlen hn2) hr hF hb (fun H hO hS=>hsp w H a ns hlen hO hS) fun H e s'=>hCX w H s₁ e s'
end L2
namespace L2
open PySem PySem.Spec PyProof.Rows
def iE (s:Stmt):Arguments:=match s with
  | .FunctionDef _ a _ _ _ _ _ _ _ _=>a
  | _=>{ posonlyargs:=[],args:=[],vararg:=none,kwonlyargs:=[],kw_defaults:=[],kwarg:=none,defaults:=[] }
def dz (s:Stmt):List Stmt:=match s with
  | .FunctionDef _ _ b _ _ _ _ _ _ _=>b
  | _=>[]
def au (s:Stmt):Scope:=match s with
  | .FunctionDef _ _ _ _ _ _ sc _ _ _=>sc
  | _=>{ kind:=.function,names:=[],isGenerator:=false,isCoroutine:=false }
abbrev CX0:CXT:=fun _ _ _ _ _ _=>False
abbrev E0:XK:=fun _ _ _=>False
theorem KY {X:Cx}:Passes CX0 X E0:=fun _ _ _ _ _ _ _ h=>h.elim
structure Fun (K:PySem.W.Frag) (x qual:Str) (st:Stmt) (f:Addr) (fd:FuncData):Prop where
  ex:∃ (oc:Value) (od:Option Addr) (kV doc pm:Value) (an:Option Addr) (cdv ct:Value) (osl:Array (Option Value)),
    fd=PySem.W.fnOf x qual (iE st) (dz st) (au st) .none kV doc pm an cdv ct∧K.lookup f=some ⟨oc,od,.func fd,osl⟩∧PySem.W.codeIn K cdv qual=true
  kp:PySem.W.keepIn K (.ref f)=true
section
variable {P:Program} {w:World} {K:PySem.W.Frag} {mg:Str→Option Value} {base:Heap}
theorem Fun.ok {x qual:Str}{st:Stmt}{f:Addr}{fd:FuncData}{N ps:List Str}{k:Nat}{sp:Sp}(F:Fun K x qual st f fd)(S:aD N ps (au st))(len:∀ vs H Q E,sp vs H Q E→vs.length=ps.length)
    (hbody:∀ (cdv:Value) (A:Around) (outer:List Env) (s:Shared) (H:Hp) (vs:List V) (Q:VK) (E:XK),cO k (A.deeper (envOfC qual (au st) s.heap.objs.size f cdv))→sp vs H Q E→
      ∃ t,PSs (rz CX0 P w K mg base N qual (au st) f cdv A outer s H E).nox (dz st) t∧t { nx:=fun _ H'=>Q .non H',rt:=Q } (start N vs) H):fo P w K mg base CX0 (k+1) f fd ps sp:=by
  obtain ⟨oc,od,kV,doc,pm,an,cdv,ct,osl,rfl,lk,hcd⟩:=F.ex
  refine Kq lk hcd S len fun A outer s H vs Q E hr hsp=>?_
  obtain ⟨t,h,q⟩:=hbody cdv A outer s H vs Q E hr hsp
  exact ⟨t,h.nox,q⟩
theorem Fun.binds {x qual:Str}{st:Stmt}{f:Addr}{fd:FuncData}{ps:List Str}(F:Fun K x qual st f fd)
    (h:∀ (kV doc pm:Value) (an:Option Addr) (cdv ct:Value) (us:List Value),us.length=ps.length→bindArgs (PySem.W.fnOf x qual (iE st) (dz st) (au st) .none kV doc pm an cdv ct) ⟨us,[]⟩=pure (ps.zip us)):Binds K fd ps []:=by
  obtain ⟨oc,od,kV,doc,pm,an,cdv,ct,osl,rfl,lk,hcd⟩:=F.ex
  exact .all (h kV doc pm an cdv ct)
theorem aM {x qual:Str}{st:Stmt}{f:Addr}{oc:Value}{od an:Option Addr}{osl:Array (Option Value)}{kV doc pm cdv ct:Value}(l:K.lookup f=some ⟨oc,od,.func (PySem.W.fnOf x qual (iE st) (dz st) (au st) .none kV doc pm an cdv ct),osl⟩)
    (c:PySem.W.codeIn K cdv qual=true) (k:PySem.W.keepIn K (.ref f)=true):Fun K x qual st f (PySem.W.fnOf x qual (iE st) (dz st) (au st) .none kV doc pm an cdv ct):=⟨⟨oc,od,kV,doc,pm,an,cdv,ct,osl,rfl,l,c⟩,k⟩
end
section
variable {X:Cx}
theorem pv (i:Nat){x:Str}{pos:Pos}(hN:X.N[i]? = some x:=by rfl)(hv:Vis X.env.scope x:=by first | exact Or.inl rfl | exact Or.inr (Or.inl rfl) | exact Or.inr (Or.inr rfl))(hd:(x == ("__debug__" : Str))=false:=by decide)
    (hcd:(x == ("__classdict__" : Str))=false:=by decide):PE X (.Name x pos) (KZ i):=z0 hN hv hd hcd
end
theorem vm {A B:Prop}(h:B):if false=true then A else B:=by
  rw[if_neg Bool.false_ne_true]
  exact h
theorem ue {A B:Prop}(h:A):if true=true then A else B:=by
  rw[if_pos rfl]
  exact h
def nP (H H':Hp):Prop:=∀ b o,H b=some o→H' b=some o
theorem nP.refl (H:Hp):nP H H:=fun _ _ h=>h
theorem nP.trans {H H1 H2:Hp}(a:nP H H1)(b:nP H1 H2):nP H H2:=fun c o h=>b c o (a c o h)
theorem nP.free {H H':Hp}(e:nP H H'){l:Addr}(h:H' l=Option.none):H l=Option.none:=by
  cases q:H l with
  | none=>rfl
  | some o=>
    rw[e l o q] at h
    cases h
theorem nP.seq {K:PySem.W.Frag}{H H':Hp}{a:Addr}{xs:List V}(e:nP H H')(h:SqL K H a xs):SqL K H' a xs:=by
  rcases h with (h | ⟨o,h⟩) | h
  · exact .inl (.inl (e _ _ h))
  · exact .inl (.inr ⟨o,e _ _ h⟩)
  · exact .inr h
end L2
namespace L2
open PySem PySem.Spec PyProof.Rows
section
variable {κ:Type} [DecidableEq κ]
def f9 (kvs:List (κ×V))(k:κ):Option V:=(kvs.find? fun kv=>decide (kv.1=k)).map (·.2)
def putK (kvs:List (κ×V))(k:κ)(v:V):List (κ×V):=
  if (kvs.any fun kv=>decide (kv.1=k))=true then kvs.map (fun kv=>if kv.1=k then (kv.1,v) else kv) else kvs++[(k,v)]
def E5 (kvs:List (κ×V))(k:κ):List (κ×V):=kvs.filter fun kv=>decide (kv.1≠k)
theorem iB {p:κ×V}{r:List (κ×V)}{k:κ}(e:p.1=k):f9 (p::r) k=some p.2:=by simp[f9,List.find?_cons,e]
theorem iC {p:κ×V}{r:List (κ×V)}{k:κ}(e:¬ p.1=k):f9 (p::r) k=f9 r k:=by simp[f9,List.find?_cons,e]
theorem tw (k:κ):∀ kvs:List (κ×V),(kvs.any fun kv=>decide (kv.1=k))=(f9 kvs k).isSome
  | []=>rfl
  | p::r=>by
    rw[List.any_cons]
    by_cases e:p.1=k
    · simp only[iB e,decide_eq_true e,Bool.true_or,Option.isSome_some]
    · rw[iC e,decide_eq_false e,Bool.false_or];exact tw k r
theorem fq (kvs:List (κ×V))(k:κ)(v:V):(putK kvs k v).length≤kvs.length+1:=by
  unfold putK
  split
  · rw[List.length_map];omega
  · rw[List.length_append,List.length_cons,List.length_nil];omega
theorem kd.yU {o:Option V}{u:Option Value}(r:kd o u):o.isSome=u.isSome:=by
  cases o with
  | none=>cases u with
    | none=>rfl
    | some _=>exact (show False from r).elim
  | some _=>cases u with
    | none=>exact (show False from r).elim
    | some _=>rfl
theorem kd.getD {o:Option V}{u:Option Value}{d:V}{d':Value}(r:kd o u)(rd:RelV d d'):RelV (o.getD d) (u.getD d'):=by
  cases o with
  | none=>cases u with
    | none=>exact rd
    | some _=>exact (show False from r).elim
  | some _=>cases u with
    | none=>exact (show False from r).elim
    | some _=>exact r
theorem KV.val {kvs:List (κ×V)}{vs:List (κ×Value)}(r:KV kvs vs)(k:κ):kd (f9 kvs k) (valueAt vs k):=by
  unfold KV at r
  induction r with
  | nil=>exact True.intro
  | @cons p q ps qs h t ih=>
    obtain ⟨h1,h2⟩:=h
    by_cases e:p.1=k
    · have e':q.1=k:=h1.symm.trans e
      have b:valueAt (q::qs) k=some q.2:=by simp[valueAt,List.find?_cons,e']
      rw[iB e,b];exact h2
    · have e':¬ q.1=k:=fun z=>e (h1.trans z)
      have b:valueAt (q::qs) k=valueAt qs k:=by simp[valueAt,List.find?_cons,e']
      rw[iC e,b];exact ih
theorem KV.any {kvs:List (κ×V)}{vs:List (κ×Value)}(r:KV kvs vs)(k:κ):(kvs.any fun kv=>decide (kv.1=k))=vs.any fun kv=>decide (kv.1=k):=by
  unfold KV at r
  induction r with
  | nil=>rfl
  | cons h t ih=>rw[List.any_cons,List.any_cons,ih,h.1]
theorem KV.FX {kvs:List (κ×V)}{vs:List (κ×Value)}(r:KV kvs vs)(k:κ){y:V}{u:Value}(ry:RelV y u) :
    KV (kvs.map fun kv=>if kv.1=k then (kv.1,y) else kv) (vs.map fun kv=>if kv.1=k then (kv.1,u) else kv):=by
  unfold KV at r ⊢
  induction r with
  | nil=>exact .nil
  | @cons p q ps qs h t ih=>
    rw[List.map_cons,List.map_cons]
    refine .cons ?_ ih
    obtain ⟨h1,h2⟩:=h
    by_cases e:p.1=k
    · rw[if_pos e,if_pos (h1.symm.trans e)];exact ⟨h1,ry⟩
    · rw[if_neg e,if_neg (fun z=>e (h1.trans z))];exact ⟨h1,h2⟩
theorem KV.put {kvs:List (κ×V)}{vs:List (κ×Value)}(r:KV kvs vs)(k:κ){y:V}{u:Value}(ry:RelV y u):KV (putK kvs k y) (stored vs k u):=by
  unfold putK stored
  rw[r.any k]
  by_cases e:(vs.any fun kv=>decide (kv.1=k))=true
  · rw[if_pos e,if_pos e];exact r.FX k ry
  · rw[if_neg e,if_neg e];exact Paired.snoc r ⟨rfl,ry⟩
theorem KV.drop {kvs:List (κ×V)}{vs:List (κ×Value)}(r:KV kvs vs)(k:κ):KV (E5 kvs k) (without vs k):=by
  unfold KV at r ⊢
  unfold E5 without
  induction r with
  | nil=>exact .nil
  | @cons p q ps qs h t ih=>
    obtain ⟨h1,h2⟩:=h
    rw[List.filter_cons,List.filter_cons]
    by_cases e:p.1=k
    · have a:¬ decide (p.1≠k)=true:=by simp[e]
      have b:¬ decide (q.1≠k)=true:=by simp[h1.symm.trans e]
      rw[if_neg a,if_neg b];exact ih
    · have e':¬ q.1=k:=fun z=>e (h1.trans z)
      have a:decide (p.1≠k)=true:=by simp[e]
      have b:decide (q.1≠k)=true:=by simp[e']
      rw[if_pos a,if_pos b];exact .cons ⟨h1,h2⟩ ih
theorem KV.keys {kvs:List (κ×V)}{vs:List (κ×Value)}(r:KV kvs vs):kvs.map (·.1)=vs.map (·.1):=by
  unfold KV at r
  induction r with
  | nil=>rfl
  | cons h t ih=>rw[List.map_cons,List.map_cons,ih,h.1]
theorem KV.length {kvs:List (κ×V)}{vs:List (κ×Value)}(r:KV kvs vs):kvs.length=vs.length:=Paired.length r
end
theorem xt {P:Program}{w:World}{k:Key}{u:Value}(r:RelV (kV k) u):(bG P w).is k u=true:=by
  cases k with
  | inl i=>obtain ⟨t,e⟩:=(show ∃ t,u=Value.int i t from r);subst e;exact rk P w i t
  | inr x=>obtain ⟨t,e⟩:=(show ∃ t,u=Value.str x t from r);subst e;exact rA P w x t
theorem oU {P:Program}{w:World}:∀ {ks:List Key} {us:List Value},Vals (ks.map kV) us→ItemsAre (bG P w) ks us
  | [],_,r=>by rw[List.map_nil] at r;cases r;exact .nil
  | k::ks,_,r=>by
    rw[List.map_cons] at r
    cases r with
    | cons h t=>exact .cons (xt h) (oU t)
abbrev KT (H:Hp):List (List Key×V)→List (List Key×Addr×Value)→Prop:=Paired fun p q=>p.1=q.1∧H q.2.1=some (.tup (p.1.map kV))∧RelV p.2 q.2.2
theorem KT.val {H:Hp}{kvs:List (List Key×V)}{xs:List (List Key×Addr×Value)}(r:KT H kvs xs)(k:List Key):kd (f9 kvs k) ((atKey xs k).map (·.2)):=by
  induction r with
  | nil=>exact True.intro
  | @cons p q ps qs h t ih=>
    obtain ⟨h1,_,h2⟩:=h
    by_cases e:p.1=k
    · have e':q.1=k:=h1.symm.trans e
      have b:atKey (q::qs) k=some q.2:=by simp[atKey,List.find?_cons,e']
      rw[iB e,b];exact h2
    · have e':¬ q.1=k:=fun z=>e (h1.trans z)
      have b:atKey (q::qs) k=atKey qs k:=by simp[atKey,List.find?_cons,e']
      rw[iC e,b];exact ih
theorem KT.FX {H:Hp}{kvs:List (List Key×V)}{xs:List (List Key×Addr×Value)}(r:KT H kvs xs)(k:List Key){y:V}{u:Value}(ry:RelV y u) :
    KT H (kvs.map fun kv=>if kv.1=k then (kv.1,y) else kv) (xs.map (putAt k u)):=by
  induction r with
  | nil=>exact .nil
  | @cons p q ps qs h t ih=>
    rw[List.map_cons,List.map_cons]
    refine .cons ?_ ih
    obtain ⟨h1,h2,h3⟩:=h
    unfold putAt
    by_cases e:p.1=k
    · rw[if_pos e,if_pos (h1.symm.trans e)];exact ⟨h1,h2,ry⟩
    · rw[if_neg e,if_neg (fun z=>e (h1.trans z))];exact ⟨h1,h2,h3⟩
theorem KT.put {H:Hp}{kvs:List (List Key×V)}{xs:List (List Key×Addr×Value)}(r:KT H kvs xs)(k:List Key){b:Addr}{y:V}{u:Value}(hb:H b=some (.tup (k.map kV)))(ry:RelV y u) :
    KT H (putK kvs k y) (storedH xs k b u):=by
  have e:(kvs.any fun kv=>decide (kv.1=k))=(atKey xs k).isSome:=by
    rw[tw,(r.val k).yU,Option.isSome_map]
  unfold putK storedH
  rw[e]
  by_cases q:(atKey xs k).isSome=true
  · rw[if_pos q,if_pos q];exact r.FX k ry
  · rw[if_neg q,if_neg q];exact Paired.snoc r ⟨rfl,hb,ry⟩
theorem KT.keeps {H H':Hp}{kvs:List (List Key×V)}{xs:List (List Key×Addr×Value)}(r:KT H kvs xs)(ht:∀ b ys,H b=some (.tup ys)→H' b=some (.tup ys)):KT H' kvs xs:=
  Paired.Hq r fun _ _ z=>⟨z.1,ht _ _ z.2.1,z.2.2⟩
section
variable {P:Program} {w:World} {H:Hp} {h:Heap} {a:Addr}
theorem EV {u:HO}(ok:HOk P w H h)(e:Rd H a u):bO P w H h a u:=e.ok ok
theorem BK {kvs:List (Key×V)}(ok:HOk P w H h)(e:Rd H a (.dK kvs)):kvs.length≤sizeLine∧(a == sysModules)=false∧∃ vs,KV kvs vs∧h.DictOf (bG P w) a vs:=
  show bO P w H h a (.dK kvs) from EV ok e
theorem Ka {kvs:List (Key×V)}(ok:HOk P w H h)(e:H a=some (.dK kvs)):kvs.length≤sizeLine∧(a == sysModules)=false∧∃ vs,KV kvs vs∧h.DictOf (bG P w) a vs:=BK ok (.inl e)
theorem uA {ks:List Key}(ok:HOk P w H h)(e:H a=some (.tup (ks.map kV))):(tupleKind (bG P w)).is h ks a:=by
  obtain ⟨_,its,r,n,h1⟩:=(show bO P w H h a (.tup (ks.map kV)) from ok a _ e)
  exact ⟨_,its.toArray,n,h1,rfl,rfl,by simpa using oU r⟩
theorem BH {kvs:List (List Key×V)}(ok:HOk P w H h)(e:Rd H a (.dT kvs)):kvs.length≤sizeLine∧(a == sysModules)=false∧
    ∃ xs,KT H kvs xs∧h.DictOfH (tupleKind (bG P w)) a xs:=by
  obtain ⟨z,y,xs,r,o,es,ep,h1,h2,h3,h4,h5⟩:=(show bO P w H h a (.dT kvs) from EV ok e)
  refine ⟨z,y,xs,r,o,es,ep,h1,h2,h3,h4,fun x hx=>?_,h5⟩
  have all:∀ {l:List (List Key×V)} {m:List (List Key×Addr×Value)},KT H l m→∀ x∈m,(tupleKind (bG P w)).is h x.1 x.2.1:=by
    intro l m q
    induction q with
    | nil=>intro x hx;exact nomatch hx
    | @cons p q ps qs hq t ih=>
      intro x hx
      rcases List.mem_cons.mp hx with e | hx
      · subst e
        exact uA ok (by rw[← hq.1];exact hq.2.1)
      · exact ih x hx
  exact all r x hx
theorem Ji {kvs:List (List Key×V)}(ok:HOk P w H h)(e:H a=some (.dT kvs)):kvs.length≤sizeLine∧(a == sysModules)=false∧
    ∃ xs,KT H kvs xs∧h.DictOfH (tupleKind (bG P w)) a xs:=BH ok (.inl e)
end
def r9 (H:Hp)(a:Addr)(y:V)(r:Option V):Prop:=
  (∃ kvs k,Rd H a (.dK kvs)∧y=kV k∧r=f9 kvs k)∨∃ kvs k b,Rd H a (.dT kvs)∧y=.ref b∧H b=some (.tup (k.map kV))∧r=f9 kvs k
def ub (H:Hp)(a:Addr)(y v:V)(H':Hp):Prop:=
  (∃ kvs k,H a=some (.dK kvs)∧y=kV k∧kvs.length < sizeLine∧H'=upd H a (.dK (putK kvs k v)))∨
  ∃ kvs k b,H a=some (.dT kvs)∧y=.ref b∧H b=some (.tup (k.map kV))∧kvs.length < sizeLine∧H'=upd H a (.dT (putK kvs k v))
theorem r9.k {H:Hp}{a:Addr}{kvs:List (Key×V)}{k:Key}(e:H a=some (.dK kvs)):r9 H a (kV k) (f9 kvs k):=.inl ⟨kvs,k,.inl e,rfl,rfl⟩
theorem r9.t {H:Hp}{a b:Addr}{kvs:List (List Key×V)}{k:List Key}(e:H a=some (.dT kvs))(eb:H b=some (.tup (k.map kV))):r9 H a (.ref b) (f9 kvs k):=.inr ⟨kvs,k,b,.inl e,rfl,eb,rfl⟩
theorem ub.k {H:Hp}{a:Addr}{kvs:List (Key×V)}{k:Key}{v:V}(e:H a=some (.dK kvs))(hl:kvs.length < sizeLine):ub H a (kV k) v (upd H a (.dK (putK kvs k v))):=.inl ⟨kvs,k,e,rfl,hl,rfl⟩
theorem ub.t {H:Hp}{a b:Addr}{kvs:List (List Key×V)}{k:List Key}{v:V}(e:H a=some (.dT kvs))(eb:H b=some (.tup (k.map kV)))(hl:kvs.length < sizeLine) :
    ub H a (.ref b) v (upd H a (.dT (putK kvs k v))):=.inr ⟨kvs,k,b,e,rfl,eb,hl,rfl⟩
section
variable {X:Cx} {pins:List (Addr×Obj)} {σ:St} {H:Hp} {s:Shared} {a:Addr} {y v:V} {u r:Value} {o:Option V} {A:Around} {E:Value→Shared→Prop}
theorem Inv.big (I:Inv X pins σ H s):sysModules < s.heap.objs.size:=by
  have h:mainGlobals < s.heap.objs.size:=(I.mod.glob.keeps I.bk).lt
  exact Nat.lt_trans (by decide) h
theorem xQ {Q:Value→Shared→Prop}(hu:A.units+1 < cLine)(I:Inv X pins σ H s)(g:r9 H a y (some v))(ry:RelV y u)(h:∀ w' s',Inv X pins σ H s'→RelV v w'→Q w' s') :
    wpAny (model X.prog X.w) A (getItem (.ref a) u) Q E s:=by
  rcases g with ⟨kvs,k,e,ey,l⟩ | ⟨kvs,k,b,e,ey,eb,l⟩
  · subst ey
    obtain ⟨z,hd,vs,rel,dd⟩:=BK I.hok e
    obtain ⟨w',hw,rw'⟩:=kd.some_of (v:=v) (o:=valueAt vs k) (by rw[l];exact rel.val k)
    exact wpAny_getItem_of (xt ry) dd.mapOf hw (h w' _ (I.tok _) rw')
  · subst ey
    cases (show u=Value.ref b from ry)
    obtain ⟨z,hd,xs,rel,dd⟩:=BH I.hok e
    obtain ⟨w',hw,rw'⟩:=kd.some_of (v:=v) (o:=(atKey xs k).map (·.2)) (by rw[l];exact rel.val k)
    obtain ⟨p,hp,hp2⟩:=Option.map_eq_some_iff.mp hw
    refine wpAny_getItem_heap (tupleKind_room_in1 hu) (uA I.hok eb) dd hp ?_
    rw[hp2]
    exact h w' _ (I.tok _) rw'
theorem w8 {h':Heap}{t':Nat}{ob:HO}(I:Inv X pins σ H s)(mu:Mut (H a))(hs:Heap.SameBut a s.heap h')(he:∃ q,h'.get? a=some q)(new:bO X.prog X.w (upd H a ob) h' a ob) :
    Inv X pins σ (upd H a ob) { s with heap:=h',toks:=t' }:=
  I.write (x:=a) (e:=a) mu (.inl rfl) (fun b q hb z=>(hs.2 b hb).trans z) he new
theorem Ax {P:Program}{w:World}{H':Hp}{h':Heap}{kvs:List (Key×V)}{vs:List (Key×Value)}(z:kvs.length≤sizeLine)(hd:(a == sysModules)=false)(rel:KV kvs vs)(dd:h'.DictOf (bG P w) a vs) :
    bO P w H' h' a (.dK kvs):=⟨z,hd,vs,rel,dd⟩
theorem xN {H':Hp}{Q:Unit→Shared→Prop}(hu:A.units+1 < cLine)(I:Inv X pins σ H s)(g:ub H a y v H')(ry:RelV y u)(rv:RelV v r)(h:∀ s',Inv X pins σ H' s'→Q () s') :
    wpAny (model X.prog X.w) A (setItem (.ref a) u r) Q E s:=by
  rcases g with ⟨kvs,k,e,ey,l,eH⟩ | ⟨kvs,k,b,e,ey,eb,l,eH⟩
  · subst ey eH
    obtain ⟨z,hd,vs,rel,dd⟩:=Ka I.hok e
    have hz:vs.length≤sizeLine:=by rw[← rel.length];exact z
    have hl:(putK kvs k v).length≤sizeLine:=by have:=fq kvs k v;omega
    refine wpAny_setItem_pairs (hsz:=hz) (xt ry) dd fun h' dd' hs=>h _ ?_
    have he:∃ q,h'.get? a=some q:=let ⟨q,_,_,hq,_⟩:=dd';⟨q,hq⟩
    exact w8 I (by rw[e];exact True.intro) hs he (Ax hl hd (rel.put k rv) dd')
  · subst ey eH
    cases (show u=Value.ref b from ry)
    obtain ⟨z,hd,xs,rel,dd⟩:=Ji I.hok e
    have hz:xs.length≤sizeLine:=by rw[← Paired.length rel];exact z
    have hl:(putK kvs k v).length≤sizeLine:=by have:=fq kvs k v;omega
    refine wpAny_setItem_heap (hsz:=hz) (tupleKind_room_in1 hu) (uA I.hok eb) dd fun h' dd' hs=>h _ ?_
    obtain ⟨q,es,ep,hq,h2,h3,h4,_,h5⟩:=dd'
    refine w8 I (by rw[e];exact True.intro) hs ⟨q,hq⟩ ⟨hl,hd,_,(rel.put k eb rv).keeps fun c ys ec=>?_,q,es,ep,hq,h2,h3,h4,h5⟩
    rw[aB (Kd ec e (fun z=>nomatch z))]
    exact ec
end
section
variable {X:Cx} {pins:List (Addr×Obj)} {σ:St} {H:Hp} {s:Shared} {a:Addr} {kvs:List (Key×V)} {k:Key} {u:Value} {A:Around} {E:Value→Shared→Prop}
end
def G8 (i:Expr):Prop:=∀ ov iv,subscripted i false ov iv=operate [ov,iv] (getItem ov iv)
theorem DQ {prog:Program}{w:World}{A:Around}{E:Value→Shared→Prop}{s:Shared}{env:Env}{value slice:Expr}{pos:Pos}{T id:String}{Q:Value→Shared→Prop}
    (hl:typeLookup (.type T) "__getitem__" = pure (some (.builtin id))) (hs:G8 slice)
    (h:wpAny (model prog w) A (eval value env) (fun o s₁=>wpAny (model prog w) A (eval slice env) (fun i s₂=>s₂.TypeIs o T∧wpAny (model prog w) A (getItem o i) Q E s₂) E s₁) E s) :
    wpAny (model prog w) A (eval (.Subscript value slice pos) env) Q E s:=by
  refine Subscript_ (wpAny_mono h (fun o s₁ h₁=>wpAny_mono h₁ (fun i s₂ h₂=>?_) fun _ _ x=>x) fun _ _ x=>x)
  obtain ⟨hT,h₂⟩:=h₂
  unfold subscriptTail
  refine wpAny_bind ?_
  rw[getitemInPython_of_ne hT.not_modules]
  refine wpAny_bind (wpAny_specialOf hT hl ?_)
  have fin:wpAny (model prog w) A (subscripted slice false o i) (fun r s₃=>wpAny (model prog w) A (letTemporaryGo value o r >>= fun _=>pure r) Q E s₃) E s₂:=by
    rw[hs o i]
    exact wpAny_operating (wpAny_mono h₂ (fun r s₃ h₃=>wpAny_bind (wpAny_letTemporaryGo (wpAny_pure h₃))) fun _ _ x=>x)
  first
    | exact wpAny_pure (wpAny_bind fin)
    | exact wpAny_bind (wpAny_pure (wpAny_bind fin))
    | exact wpAny_bind fin
theorem su {X:Cx}{pins:List (Addr×Obj)}{σ:St}{H:Hp}{s:Shared}{a:Addr}{y:V}{o:Option V}(I:Inv X pins σ H s)(g:r9 H a y o):s.TypeIs (.ref a) "dict" := by
  rcases g with ⟨kvs,k,e,_,_⟩ | ⟨kvs,k,b,e,_,_,_⟩
  · obtain ⟨_,_,vs,_,dd⟩:=BK I.hok e
    exact dd.typeIs
  · obtain ⟨_,_,xs,_,dd⟩:=BH I.hok e
    exact dd.typeIs
def Kp (td ty:TE):TE:=fun σ H Q=>td σ H fun x H1=>ty σ H1 fun y H2=>∃ a v,x=.ref a∧r9 H2 a y (some v)∧Q v H2
def Ku (td ty tv:TE):TS:=fun D σ H=>tv σ H fun v H1=>td σ H1 fun x H2=>ty σ H2 fun y H3=>∃ a H4,x=.ref a∧ub H3 a y v H4∧D.nx σ H4
section
variable {X:Cx} {o i e value:Expr} {pos pos' tpos:Pos} {td ty tv:TE}
theorem DF (hu:X.A.units+1 < cLine)(ho:PE X o td)(hi:PE X i ty)(hs:G8 i):PE X (.Subscript o i pos) (Kp td ty):=by
  intro pins s σ H Q I h
  refine DQ PySem.F.slot_dict_getitem.lookup hs (thn (ho pins s σ H _ I h) fun u s1 ⟨x,H1,I1,rx,q1⟩=>thn (hi pins s1 σ H1 _ I1 q1) fun iv s2 ⟨y,H2,I2,ry,a,v,ex,g,q2⟩=>?_)
  subst ex
  obtain rfl:u=Value.ref a:=rx
  exact ⟨su I2 g,xQ hu I2 g ry fun w' s3 I3 rw'=>⟨v,H2,I3,rw',q2⟩⟩
theorem D3 (hu:X.A.units+1 < cLine)(ho:PE X o td)(hi:PE X i ty)(hv:PE X value tv)(hs:swapsWith value (some (.Subscript o i pos')) pos.line X.env=pure false) :
    PS X (.Assign [.Subscript o i pos'] value pos) (Ku td ty tv):=by
  intro pins s σ H D I h
  refine wpAny_Assign_Subscript (thn (hv pins s σ H _ I h) fun r s1 ⟨v,H1,I1,rv,q1⟩=>thn (ho pins s1 σ H1 _ I1 q1) fun u s2 ⟨x,H2,I2,rx,q2⟩=>thn (hi pins s2 σ H2 _ I2 q2) fun iv s3 ⟨y,H3,I3,ry,a,H4,ex,g,q3⟩=>?_) hs
  subst ex
  obtain rfl:u=Value.ref a:=rx
  exact xN hu I3 g ry rv fun s4 I4=>⟨σ,H4,I4,q3⟩
end
theorem Ap {P:Program}{w:World}{H:Hp}(h:Heap)(hb:sysModules < h.objs.size):bO P w H (h.push { cls:=.type "dict", data:=.dict #[] }) h.objs.size (.dK []):=
  ⟨Nat.zero_le _,beq_eq_false_iff_ne.mpr (Ne.symm (Nat.ne_of_lt hb)),[],.nil,Heap.DictOf.new h⟩
def FI:TE:=fun _ H Q=>∀ p,H p=none→Q (.ref p) (upd H p (.dK []))
section
variable {X:Cx} {pos:Pos}
theorem AV:PE X (.Dict [] [] pos) FI:=fun pins s σ H Q I h=>
  wpAny_Dict_empty ⟨.ref s.heap.objs.size,_,I.laid (a:=s.heap.objs.size) (o:=.dK []) (t':=s.toks) (fun _ _ q=>Heap.get?_push_of_some _ q) (Nat.le_refl _) (Ap s.heap I.big),rfl,h _ (I.hok.fresh (Nat.le_refl _))⟩
end
def eS (kvs more:List (Key×V)):List (Key×V):=more.foldl (fun acc kv=>putK acc kv.1 kv.2) kvs
theorem KV.merge:∀ {more:List (Key×V)} {rs:List (Key×Value)} {kvs:List (Key×V)} {vs:List (Key×Value)},KV more rs→KV kvs vs→KV (eS kvs more) (merged vs rs):=by
  intro more rs kvs vs r
  unfold KV at r
  induction r generalizing kvs vs with
  | nil=>intro q;exact q
  | @cons p q ps qs h t ih=>
    intro r0
    have e:KV (putK kvs p.1 p.2) (stored vs q.1 q.2):=by
      have:=r0.put p.1 h.2
      rw[← h.1];exact this
    exact ih e
theorem gC:∀ (more kvs:List (Key×V)),(eS kvs more).length≤kvs.length+more.length
  | [],kvs=>by show kvs.length≤kvs.length+0;omega
  | p::r,kvs=>by
    have h1:=gC r (putK kvs p.1 p.2)
    have h2:=fq kvs p.1 p.2
    show (eS (putK kvs p.1 p.2) r).length≤_
    rw[List.length_cons];omega
section
variable {X:Cx} {pins:List (Addr×Obj)} {σ:St} {H:Hp} {s:Shared} {a:Addr} {y d:V} {u r:Value} {o:Option V} {A:Around} {E:Value→Shared→Prop}
end
section
variable {X:Cx} {o e f:Expr} {apos cpos:Pos} {td ty tx:TE}
end
section
variable {X:Cx} {pins:List (Addr×Obj)} {σ:St} {H:Hp} {s:Shared} {a:Addr} {kvs:List (Key×V)} {A:Around} {E:Value→Shared→Prop}
end
section
variable {X:Cx} {pins:List (Addr×Obj)} {σ:St} {H:Hp} {s:Shared} {a:Addr} {y:V} {u:Value} {A:Around} {E:Value→Shared→Prop}
end
end L2
namespace L3
open PySem
local macro_rules | `(tactic| walk_at "ln")=>`(tactic| (intro ds μ Q h;split at h;rfl;exact h.elim))
theorem Jn {p q:Prop}(a:p)(b:q):p∧q:=⟨a,b⟩
inductive D where
  | non | bl (b:Bool) | int (i:Int) | str (x:Str) | ty (n:String) | tup (ds:List D) | ls (ds:List D) | obj (a:Addr)
inductive MO where
  | lst (ds:List D)
  | dct (kvs:List (L2.Key×D))
abbrev Mu:=Addr→Option MO
def up (μ:Mu)(a:Addr)(o:MO):Mu:=fun b=>if b=a then some o else μ b
theorem aJ {μ:Mu}{a:Addr}{o:MO}:up μ a o a=some o:=by unfold up;rw[if_pos rfl]
theorem aY {μ:Mu}{a b:Addr}{o:MO}(h:b≠a):up μ a o b=μ b:=by unfold up;rw[if_neg h]
theorem rL {μ:Mu}{a:Addr}{o u:MO}:up (up μ a o) a u=up μ a u:=by
  funext b;unfold up;split<;>rfl
abbrev ST:=List (Option D)
abbrev DK:=D→Mu→Prop
abbrev ETr:=ST→Mu→DK→Prop
abbrev TTr:=ST→Mu→(Bool→Mu→Prop)→Prop
abbrev ATr:=ST→Mu→(List D→Mu→Prop)→Prop
abbrev DR:=D→Mu→DK→Prop
abbrev DR2:=D→D→Mu→DK→Prop
abbrev FSp:=List D→Mu→DK→Prop
structure En where
  nx:ST→Mu→Prop
  rt:DK
  bk:ST→Mu→Prop:=fun _ _=>False
  ct:ST→Mu→Prop:=fun _ _=>False
abbrev STr:=En→ST→Mu→Prop
abbrev GTr:=D→ST→Mu→(ST→Mu→Prop)→Prop
def kIf (c:Bool)(A B:Prop):Prop:=match c with
  | true=>A
  | false=>B
def kB (x:D)(f:Bool→Prop):Prop:=match x with
  | .bl c=>f c
  | _=>False
def kI (x:D)(f:Int→Prop):Prop:=match x with
  | .int c=>f c
  | _=>False
def kO (x:Option D)(f:D→Prop):Prop:=match x with
  | some d=>f d
  | none=>False
def kS (x:D)(f:List D→Prop):Prop:=match x with
  | .tup ds=>f ds
  | .ls ds=>f ds
  | _=>False
def k2 (ds:List D)(f:D→D→Prop):Prop:=match ds with
  | [v,w]=>f v w
  | _=>False
def kL (μ:Mu)(a:Addr)(f:List D→Prop):Prop:=match μ a with
  | some (.lst ds)=>f ds
  | _=>False
def kD (μ:Mu)(a:Addr)(f:List (L2.Key×D)→Prop):Prop:=match μ a with
  | some (.dct ds)=>f ds
  | _=>False
def kN (x:Option Nat)(f:Nat→Prop):Prop:=match x with
  | some d=>f d
  | none=>False
def lk:ST→Nat→Option D
  | [],_=>none
  | o::_,0=>o
  | _::r,n+1=>lk r n
def ah (i:Nat):ETr:=fun ρ μ Q=>kO (lk ρ i) fun d=>Q d μ
def TC (d:D):ETr:=fun _ μ Q=>Q d μ
def ak (r:DR2)(a b:ETr):ETr:=fun ρ μ Q=>a ρ μ fun x μ1=>b ρ μ1 fun y μ2=>r x y μ2 Q
def TUn (r:DR)(a:ETr):ETr:=fun ρ μ Q=>a ρ μ fun x μ1=>r x μ1 Q
def S64 (i:Int):Prop:=-18446744073709551616 < i∧i < 18446744073709551616
def cu (i:Int):Prop:=-115792089237316195423570985008687907853269984665640564039457584007913129639936 < i∧i < 115792089237316195423570985008687907853269984665640564039457584007913129639936
def MulOk (i j:Int):Prop:=(S64 i∨S64 j)∨(cu i∧cu j)
def fh (j:Int):Prop:=j≠0∧cu j
def sf (i j:Int):Prop:=0≤j∧j≤1000000∧i.natAbs < 18446744073709551616
def ka:DR2:=fun x y μ Q=>match x,y with
  | .int i,.int j=>Q (.int (i - j)) μ
  | _,_=>False
def eC:DR2:=fun x y μ Q=>match x,y with
  | .int i,.int j=>MulOk i j∧Q (.int (i*j)) μ
  | _,_=>False
def je:DR2:=fun x y μ Q=>match x,y with
  | .int i,.int j=>fh j∧Q (.int (i.fdiv j)) μ
  | _,_=>False
def ly:DR2:=fun x y μ Q=>match x,y with
  | .int i,.int j=>j≠0∧Q (.int (i.fmod j)) μ
  | _,_=>False
def xA:DR2:=fun x y μ Q=>match x,y with
  | .int i,.int j=>sf i j∧Q (.int (i ^ j.toNat)) μ
  | _,_=>False
def mh:DR:=fun x μ Q=>match x with
  | .int i=>Q (.int (-i)) μ
  | _=>False
def Bo (p:Int→Int→Bool):DR2:=fun x y μ Q=>match x,y with
  | .int i,.int j=>Q (.bl (p i j)) μ
  | _,_=>False
def rLt:DR2:=Bo fun i j=>decide (i < j)
def rLe:DR2:=Bo fun i j=>decide (i≤j)
def rGt:DR2:=Bo fun i j=>decide (j < i)
def rGe:DR2:=Bo fun i j=>decide (j≤i)
mutual
def eqD:D→D→Bool
  | .non,.non=>true
  | .bl a,.bl b=>a == b
  | .int a,.int b=>decide (a=b)
  | .bl a,.int b=>decide ((if a then 1 else 0:Int)=b)
  | .int a,.bl b=>decide (a=(if b then 1 else 0:Int))
  | .str a,.str b=>decide (a=b)
  | .tup a,.tup b=>nE a b
  | .ls a,.ls b=>nE a b
  | _,_=>false
def nE:List D→List D→Bool
  | [],[]=>true
  | a::r,b::s=>eqD a b&&nE r s
  | _,_=>false
end
mutual
def okD:Nat→D→Bool
  | _,.non=>true
  | _,.bl _=>true
  | _,.int _=>true
  | _,.str x=>PyData.strOk x
  | n+1,.tup ds=>bN n ds
  | n+1,.ls ds=>bN n ds
  | _,_=>false
def bN:Nat→List D→Bool
  | _,[]=>true
  | n,d::ds=>okD n d&&bN n ds
end
def rEq:DR2:=fun x y μ Q=>(okD 40 x=true∧okD 40 y=true)∧Q (.bl (eqD x y)) μ
def rNe:DR2:=fun x y μ Q=>(okD 40 x=true∧okD 40 y=true)∧Q (.bl (!eqD x y)) μ
def rIs:DR2:=fun x y μ Q=>match y with
  | .non=>(match x with
    | .non=>Q (.bl true) μ
    | _=>Q (.bl false) μ)
  | _=>False
def uG:DR2:=fun x y μ Q=>match y with
  | .non=>(match x with
    | .non=>Q (.bl false) μ
    | _=>Q (.bl true) μ)
  | _=>False
def fR (a b:ETr):ETr:=fun ρ μ Q=>a ρ μ fun x μ1=>kB x fun c=>kIf c (b ρ μ1 Q) (Q (.bl false) μ1)
def ym (a b:ETr):ETr:=fun ρ μ Q=>a ρ μ fun x μ1=>kB x fun c=>kIf c (Q (.bl true) μ1) (b ρ μ1 Q)
def jB (a:ETr):ETr:=fun ρ μ Q=>a ρ μ fun x μ1=>kB x fun c=>Q (.bl (!c)) μ1
def TB (t:ETr):TTr:=fun ρ μ Q=>t ρ μ fun x μ1=>kB x fun c=>Q c μ1
def GI (t u:TTr):TTr:=fun ρ μ Q=>t ρ μ fun c μ1=>kIf c (u ρ μ1 Q) (Q false μ1)
def TOr (t u:TTr):TTr:=fun ρ μ Q=>t ρ μ fun c μ1=>kIf c (Q true μ1) (u ρ μ1 Q)
def kf (t:TTr):TTr:=fun ρ μ Q=>t ρ μ fun c μ1=>Q (!c) μ1
def Gz (c:TTr)(a b:ETr):ETr:=fun ρ μ Q=>c ρ μ fun k μ1=>kIf k (a ρ μ1 Q) (b ρ μ1 Q)
def vv (r r':DR2)(a b c:ETr):ETr:=fun ρ μ Q=>a ρ μ fun x μ1=>b ρ μ1 fun y μ2=>r x y μ2 fun z μ3=>kB z fun k=>kIf k (c ρ μ3 fun y' μ4=>r' y y' μ4 Q) (Q (.bl false) μ3)
def aq:ATr:=fun _ μ Q=>Q [] μ
def af (a:ETr)(r:ATr):ATr:=fun ρ μ Q=>a ρ μ fun x μ1=>r ρ μ1 fun xs μ2=>Q (x::xs) μ2
def bM (t:ATr):ETr:=fun ρ μ Q=>t ρ μ fun ds μ1=>ds.length≤1000000∧Q (.tup ds) μ1
def cG (t:ATr):ETr:=fun ρ μ Q=>t ρ μ fun ds μ1=>ds.length≤1000000∧Q (.ls ds) μ1
def rB (t:ATr):ETr:=fun ρ μ Q=>t ρ μ fun ds μ1=>ds.length≤1000000∧∀ p,μ1 p=none→Q (.obj p) (up μ1 p (.lst ds))
def ao (sp:FSp)(t:ATr):ETr:=fun ρ μ Q=>t ρ μ fun ds μ1=>sp ds μ1 Q
def atD (ds:List D)(i:Int):Option D:=L2.atI ds i
def rIx:DR2:=fun x y μ Q=>match x,y with
  | .tup ds,.int i=>kO (atD ds i) fun d=>Q d μ
  | .ls ds,.int i=>kO (atD ds i) fun d=>Q d μ
  | .obj a,.int i=>kL μ a fun ds=>kO (atD ds i) fun d=>Q d μ
  | _,_=>False
def sv:FSp:=fun ds μ Q=>match ds with
  | [.int i]=>Q (.int (if i < 0 then -i else i)) μ
  | _=>False
def KW:FSp:=fun ds μ Q=>match ds with
  | [.int i,.int j]=>Q (.int (if j > i then j else i)) μ
  | _=>False
def oE:FSp:=fun ds μ Q=>match ds with
  | [.int i,.int j]=>Q (.int (if j < i then j else i)) μ
  | _=>False
def Kl:FSp:=fun ds μ Q=>match ds with
  | [.int i]=>Q (.int i) μ
  | [.bl k]=>Q (.int (if k then 1 else 0)) μ
  | _=>False
def df:FSp:=fun ds μ Q=>match ds with
  | [.tup xs]=>Q (.int xs.length) μ
  | [.ls xs]=>Q (.int xs.length) μ
  | [.str x]=>x.length≤1000000∧Q (.int x.length) μ
  | [.obj a]=>kL μ a fun xs=>Q (.int xs.length) μ
  | _=>False
def tyD:D→Option String
  | .non=>some "NoneType"
  | .bl _=>some "bool"
  | .int _=>some "int"
  | .str _=>some "str"
  | .tup _=>some "tuple"
  | .ls _=>some "list"
  | _=>none
def aZ (t c:String):Bool:=t == c || (t == "bool" && c == "int")
def yp (c:String):DR:=fun x μ Q=>match tyD x with
  | some t=>Q (.bl (aZ t c)) μ
  | none=>False
def a9:STr:=fun E ρ μ=>E.nx ρ μ
def aH (t u:STr):STr:=fun E ρ μ=>t { E with nx:=u E } ρ μ
def vM:STr:=fun E ρ μ=>E.bk ρ μ
def zK:STr:=fun E ρ μ=>E.ct ρ μ
def jK (e:ETr):STr:=fun E ρ μ=>e ρ μ fun _ μ1=>E.nx ρ μ1
def aP (e:ETr):STr:=fun E ρ μ=>e ρ μ E.rt
def Au:STr:=fun E _ μ=>E.rt .non μ
def bV (c:TTr)(t u:STr):STr:=fun E ρ μ=>c ρ μ fun b μ1=>kIf b (t E ρ μ1) (u E ρ μ1)
def ax (i:Nat):GTr:=fun d ρ μ k=>k (ρ.set i (some d)) μ
def aV (e:ETr)(g:GTr):STr:=fun E ρ μ=>e ρ μ fun d μ1=>g d ρ μ1 E.nx
def uR (i j:Nat)(a:ATr):STr:=fun E ρ μ=>a ρ μ fun ds μ1=>k2 ds fun v w=>E.nx ((ρ.set i (some v)).set j (some w)) μ1
def CM (x z y:D)(μ:Mu)(f:Mu→Prop):Prop:=match x,z with
  | .obj a,.int n=>kL μ a fun ds=>kN (L2.ixN ds.length n) fun j=>f (up μ a (.lst (ds.set j y)))
  | _,_=>False
def gH (o k e:ETr):STr:=fun E ρ μ=>e ρ μ fun y μ1=>o ρ μ1 fun x μ2=>k ρ μ2 fun z μ3=>CM x z y μ3 fun μ4=>E.nx ρ μ4
def qW (c:TTr)(b:STr):STr:=fun E ρ μ=>∃ (P:ST→Mu→Prop) (m:ST→Mu→Nat),P ρ μ∧∀ ρ μ,P ρ μ→
  c ρ μ fun k μ1=>kIf k (b { E with nx:=fun ρ' μ'=>P ρ' μ'∧m ρ' μ' < m ρ μ,ct:=fun ρ' μ'=>P ρ' μ'∧m ρ' μ' < m ρ μ,bk:=E.nx } ρ μ1) (E.nx ρ μ1)
def forR (g:GTr)(b:STr)(E:En):List D→ST→Mu→Prop
  | [],ρ,μ=>E.nx ρ μ
  | d::r,ρ,μ=>g d ρ μ fun ρ1 μ1=>b { E with nx:=forR g b E r,ct:=forR g b E r,bk:=E.nx } ρ1 μ1
def j7 (it:ATr)(g:GTr)(b:STr):STr:=fun E ρ μ=>it ρ μ fun ds μ1=>forR g b E ds ρ μ1
def dJ (lo:Int)(n:Nat):List D:=(List.range n).map fun i=>.int (lo+(i:Nat))
def dA (a:ETr):ATr:=fun ρ μ Q=>a ρ μ fun x μ1=>kI x fun j=>(-4611686018427387904≤j∧j < 4611686018427387904)∧Q (dJ 0 j.toNat) μ1
def f7 (a:ETr):ATr:=fun ρ μ Q=>a ρ μ fun x μ1=>kS x fun ds=>Q ds μ1
def dn (μ:Mu)(a:Addr):Mu:=fun b=>if b=a then none else μ b
theorem EU {μ:Mu}{a:Addr}{o:MO}(h:μ a=none):dn (up μ a o) a=μ:=by
  funext b
  unfold dn up
  by_cases hb:b=a
  · subst hb;simp[h]
  · simp[hb]
def gM (ρ:ST)(n:Nat)(caps:List Nat):ST:=List.replicate n none++caps.map (lk ρ)
def eE (p:Addr)(G:GTr)(tt:TTr)(te:ETr)(ρc:ST)(K:Mu→Prop):List D→Mu→Prop
  | [],μ=>K μ
  | d::r,μ=>G d ρc μ fun ρ1 μ1=>tt ρ1 μ1 fun b μ2=>kIf b (te ρ1 μ2 fun y μ3=>kL μ3 p fun zs=>zs.length < 1000000∧eE p G tt te ρc K r (up μ3 p (.lst (zs++[y])))) (eE p G tt te ρc K r μ2)
def dk (it:ATr)(G:GTr)(tt:TTr)(te:ETr)(n:Nat)(caps:List Nat):ETr:=fun ρ μ Q=>it ρ μ fun ds μ1=>∀ p,μ1 p=none→
  eE p G tt te (gM ρ n caps) (fun μ'=>kL μ' p fun zs=>Q (.ls zs) (dn μ' p)) ds (up μ1 p (.lst []))
def iW:TTr:=fun _ μ Q=>Q true μ
def CJ:FSp:=fun ds μ Q=>match ds with
  | [.ls xs]=>∃ bs:List Bool,xs=bs.map .bl∧Q (.bl (bs.all id)) μ
  | _=>False
theorem cK {g:GTr}{b:STr}{E:En}(P:List D→ST→Mu→Prop)(hnil:∀ ρ μ,P [] ρ μ→E.nx ρ μ)
    (hcons:∀ d r ρ μ (N:ST→Mu→Prop),P (d::r) ρ μ→(∀ ρ' μ',P r ρ' μ'→N ρ' μ')→g d ρ μ fun ρ1 μ1=>b { E with nx:=N,ct:=N,bk:=E.nx } ρ1 μ1) :
    ∀ (ds:List D) (ρ:ST) (μ:Mu),P ds ρ μ→forR g b E ds ρ μ
  | [],ρ,μ,h=>hnil ρ μ h
  | d::r,ρ,μ,h=>hcons d r ρ μ _ h fun ρ' μ' q=>cK P hnil hcons r ρ' μ' q
section
open PySem PySem.Spec PyProof.Rows L2
def SqF (K:PySem.W.Frag)(H:Hp)(a:Addr)(xs:List V):Prop:=
  (∃ o,H a=some (.frz o (.lst xs)))∨
    ∃ (o:Obj) (its:Array Value) (n:Nat),K.lookup a=some o∧o.cls=.type "list" ∧ o.dict=none∧o.data=.seq its n∧its.size≤sizeLine∧Vals xs its.toList
theorem SqF.sq {K:PySem.W.Frag}{H:Hp}{a:Addr}{xs:List V}(h:SqF K H a xs):SqL K H a xs:=by
  rcases h with h | h
  · exact .inl (.inr h)
  · exact .inr h
mutual
inductive Dp (K:PySem.W.Frag) (H:Hp):V→D→Prop
  | non:Dp K H .non .non
  | bl (b:Bool):Dp K H (.bl b) (.bl b)
  | int (n:Int):Dp K H (.int n) (.int n)
  | str (z:Str):Dp K H (.str z) (.str z)
  | ty (n:String):Dp K H (.ty n) (.ty n)
  | tup {a:Addr} {xs:List V} {ds:List D}:SqT K H a xs→DpL K H xs ds→Dp K H (.ref a) (.tup ds)
  | ls {a:Addr} {xs:List V} {ds:List D}:SqF K H a xs→DpL K H xs ds→Dp K H (.ref a) (.ls ds)
  | obj (a:Addr):Dp K H (.ref a) (.obj a)
inductive DpL (K:PySem.W.Frag) (H:Hp):List V→List D→Prop
  | nil:DpL K H [] []
  | cons {v:V} {d:D} {vs:List V} {ds:List D}:Dp K H v d→DpL K H vs ds→DpL K H (v::vs) (d::ds)
end
structure Tk (H H':Hp):Prop where
  tup:∀ a xs,H a=some (.tup xs)→H' a=some (.tup xs)
  frz:∀ a o u,H a=some (.frz o u)→H' a=some (.frz o u)
theorem Tk.refl (H:Hp):Tk H H:=⟨fun _ _ h=>h,fun _ _ _ h=>h⟩
theorem Tk.trans {H H1 H2:Hp}(a:Tk H H1)(b:Tk H1 H2):Tk H H2:=⟨fun c xs h=>b.tup c xs (a.tup c xs h),fun c o u h=>b.frz c o u (a.frz c o u h)⟩
theorem Tk.upd {H:Hp}{a:Addr}{o:HO}(h1:∀ xs,H a≠some (.tup xs))(h2:∀ o u,H a≠some (.frz o u)):Tk H (L2.upd H a o):=
  ⟨fun b xs h=>by rw[aB (fun z=>by subst z;exact h1 _ h)];exact h,fun b o u h=>by rw[aB (fun z=>by subst z;exact h2 _ _ h)];exact h⟩
theorem Tk.new {H:Hp}{a:Addr}{o:HO}(h:H a=none):Tk H (L2.upd H a o):=.upd (fun _ e=>by rw[h] at e;cases e) fun _ _ e=>by rw[h] at e;cases e
theorem Tk.sqT {K:PySem.W.Frag}{H H':Hp}{a:Addr}{xs:List V}(t:Tk H H')(h:SqT K H a xs):SqT K H' a xs:=by
  rcases h with (h | ⟨o,h⟩) | h
  · exact .inl (.inl (t.tup _ _ h))
  · exact .inl (.inr ⟨o,t.frz _ _ _ h⟩)
  · exact .inr h
theorem Tk.sqF {K:PySem.W.Frag}{H H':Hp}{a:Addr}{xs:List V}(t:Tk H H')(h:SqF K H a xs):SqF K H' a xs:=by
  rcases h with ⟨o,h⟩ | h
  · exact .inl ⟨o,t.frz _ _ _ h⟩
  · exact .inr h
mutual
theorem Dp.mono {K:PySem.W.Frag}{H H':Hp}(t:Tk H H'):∀ {v:V} {d:D},Dp K H v d→Dp K H' v d
  | _,_,.non=>.non
  | _,_,.bl b=>.bl b
  | _,_,.int i=>.int i
  | _,_,.str x=>.str x
  | _,_,.ty n=>.ty n
  | _,_,.tup h l=>.tup (t.sqT h) (DpL.mono t l)
  | _,_,.ls h l=>.ls (t.sqF h) (DpL.mono t l)
  | _,_,.obj a=>.obj a
theorem DpL.mono {K:PySem.W.Frag}{H H':Hp}(t:Tk H H'):∀ {vs:List V} {ds:List D},DpL K H vs ds→DpL K H' vs ds
  | _,_,.nil=>.nil
  | _,_,.cons h l=>.cons (Dp.mono t h) (DpL.mono t l)
end
theorem DpL.length {K:PySem.W.Frag}{H:Hp}:∀ {vs:List V} {ds:List D},DpL K H vs ds→vs.length=ds.length
  | _,_,.nil=>rfl
  | _,_,.cons _ l=>by rw[List.length_cons,List.length_cons,DpL.length l]
theorem DpL.get {K:PySem.W.Frag}{H:Hp}:∀ {vs:List V} {ds:List D} {i:Nat} {d:D},DpL K H vs ds→ds[i]? = some d→∃ v,vs[i]? = some v∧Dp K H v d
  | _,_,_,_,.nil,e=>by simp at e
  | _,_,0,_,.cons h _,e=>by simp at e;subst e;exact ⟨_,rfl,h⟩
  | _,_,i+1,d,.cons _ l,e=>by
    obtain ⟨v,e1,h⟩:=DpL.get (i:=i) (d:=d) l (by simpa using e)
    exact ⟨v,by simpa using e1,h⟩
theorem DpL.get' {K:PySem.W.Frag}{H:Hp}:∀ {vs:List V} {ds:List D} {i:Nat} {v:V},DpL K H vs ds→vs[i]? = some v→∃ d,ds[i]? = some d∧Dp K H v d
  | _,_,_,_,.nil,e=>by simp at e
  | _,_,0,_,.cons h _,e=>by simp at e;subst e;exact ⟨_,rfl,h⟩
  | _,_,i+1,d,.cons _ l,e=>by
    obtain ⟨v,e1,h⟩:=DpL.get' (i:=i) (v:=d) l (by simpa using e)
    exact ⟨v,by simpa using e1,h⟩
theorem DpL.set {K:PySem.W.Frag}{H:Hp}{v:V}{d:D}(h:Dp K H v d):∀ {vs:List V} {ds:List D} (i:Nat),DpL K H vs ds→DpL K H (vs.set i v) (ds.set i d)
  | _,_,_,.nil=>.nil
  | _,_,0,.cons _ l=>.cons h l
  | _,_,i+1,.cons q l=>.cons q (DpL.set h i l)
theorem DpL.append {K:PySem.W.Frag}{H:Hp}:∀ {vs ws:List V} {ds es:List D},DpL K H vs ds→DpL K H ws es→DpL K H (vs++ws) (ds++es)
  | _,_,_,_,.nil,s=>s
  | _,_,_,_,.cons h l,s=>.cons h (DpL.append l s)
theorem DpL.at {K:PySem.W.Frag}{H:Hp}{vs:List V}{ds:List D}{i:Int}{d:D}(l:DpL K H vs ds)(e:atD ds i=some d):∃ v,atI vs i=some v∧Dp K H v d:=by
  unfold atD atI at e
  unfold atI
  rw[l.length]
  cases q:ixN ds.length i with
  | none=>rw[q] at e;cases e
  | some j=>
    rw[q] at e
    exact l.get e
def DpK (K:PySem.W.Frag)(H:Hp)(xs:List (Key×V))(kvs:List (Key×D)):Prop:=xs.map (·.1)=kvs.map (·.1)∧DpL K H (xs.map (·.2)) (kvs.map (·.2))
theorem DpK.mono {K:PySem.W.Frag}{H H':Hp}(t:Tk H H'){xs:List (Key×V)}{kvs:List (Key×D)}(h:DpK K H xs kvs):DpK K H' xs kvs:=⟨h.1,h.2.mono t⟩
def uO (K:PySem.W.Frag)(H:Hp)(a:Addr):MO→Prop
  | .lst ds=>∃ xs,H a=some (.lst xs)∧DpL K H xs ds
  | .dct kvs=>∃ xs,H a=some (.dK xs)∧DpK K H xs kvs
theorem uO.go {K:PySem.W.Frag}{H H':Hp}{a:Addr}{o:MO}(h:uO K H a o)(t:Tk H H')(k:∀ u,H a=some u→H' a=some u):uO K H' a o:=by
  cases o with
  | lst ds=>obtain ⟨xs,z,l⟩:=h;exact ⟨xs,k _ z,l.mono t⟩
  | dct kvs=>obtain ⟨xs,z,l⟩:=h;exact ⟨xs,k _ z,l.mono t⟩
theorem uO.ne {K:PySem.W.Frag}{H:Hp}{a q:Addr}{o:MO}{u:HO}(h:uO K H a o)(t:Tk H (L2.upd H q u))(k:a≠q):uO K (L2.upd H q u) a o:=h.go t fun _ e=>by rw[aB k];exact e
def bI (K:PySem.W.Frag)(H:Hp)(μ:Mu):Prop:=∀ a o,μ a=some o→uO K H a o
theorem bI.free {K:PySem.W.Frag}{H:Hp}{μ:Mu}(h:bI K H μ){a:Addr}(e:H a=none):μ a=none:=by
  cases q:μ a with
  | none=>rfl
  | some o=>
    cases o with
    | lst ds=>obtain ⟨xs,z,_⟩:=h a _ q;rw[e] at z;cases z
    | dct ds=>obtain ⟨xs,z,_⟩:=h a _ q;rw[e] at z;cases z
theorem bI.keep {K:PySem.W.Frag}{H H':Hp}{μ:Mu}(h:bI K H μ)(t:Tk H H')(k:∀ a u,μ a≠none→H a=some u→H' a=some u):bI K H' μ:=fun a o e=>by
  exact (h a _ e).go t fun u z=>k a u (by rw[e];simp) z
def Sub (μ μ':Mu):Prop:=∀ a o,μ a=some o→μ' a=some o
theorem Sub.refl (μ:Mu):Sub μ μ:=fun _ _ h=>h
theorem Sub.new {μ:Mu}{p:Addr}{o:MO}(h:μ p=none):Sub μ (up μ p o):=fun a u e=>by
  rw[aY (fun z=>by subst z;rw[h] at e;cases e)];exact e
theorem Sub.trans {μ μ1 μ2:Mu}(a:Sub μ μ1)(b:Sub μ1 μ2):Sub μ μ2:=fun c o h=>b c o (a c o h)
theorem bI.sub {K:PySem.W.Frag}{H:Hp}{μ μ':Mu}(h:bI K H μ')(s:Sub μ μ'):bI K H μ:=fun a o e=>h a o (s a o e)
structure Rl (K:PySem.W.Frag) (σ:L2.St) (H:Hp) (ρ:ST) (μ:Mu):Prop where
  len:ρ.length=σ.length
  loc:∀ i d,lk ρ i=some d→∃ v,σ[i]? = some (some v)∧Dp K H v d
  mu:bI K H μ
theorem Rl.go {K:PySem.W.Frag}{σ:L2.St}{H H':Hp}{ρ:ST}{μ μ':Mu}(r:Rl K σ H ρ μ)(t:Tk H H')(m:bI K H' μ'):Rl K σ H' ρ μ':=
  ⟨r.len,fun i d e=>let ⟨v,h1,h2⟩:=r.loc i d e;⟨v,h1,h2.mono t⟩,m⟩
theorem BX:∀ (ρ:ST) (i j:Nat) (d:D),lk (ρ.set i (some d)) j=if i=j∧i < ρ.length then some d else lk ρ j
  | [],i,j,d=>by simp[lk]
  | o::r,0,0,d=>by simp[lk]
  | o::r,0,j+1,d=>by simp[lk]
  | o::r,i+1,0,d=>by simp[lk]
  | o::r,i+1,j+1,d=>by
    show lk (r.set i (some d)) j=_
    rw[BX r i j d]
    simp[lk]
theorem Rl.set {K:PySem.W.Frag}{σ:L2.St}{H:Hp}{ρ:ST}{μ:Mu}(r:Rl K σ H ρ μ){v:V}{d:D}(h:Dp K H v d)(i:Nat):Rl K (σ.set i (some v)) H (ρ.set i (some d)) μ:=by
  refine ⟨by simp[r.len],fun j e q=>?_,r.mu⟩
  rw[BX] at q
  split at q
  · rename_i hc
    obtain ⟨rfl,hlt⟩:=hc
    cases q
    exact ⟨v,by rw[List.getElem?_set_self (by rw[← r.len];exact hlt)],h⟩
  · rename_i hc
    obtain ⟨u,h1,h2⟩:=r.loc j e q
    by_cases hij:i=j
    · subst hij
      have:¬ i < ρ.length:=fun z=>hc ⟨rfl,z⟩
      have hn:σ[i]? = none:=List.getElem?_eq_none_iff.mpr (by rw[← r.len];omega)
      rw[hn] at h1;cases h1
    · exact ⟨u,by rw[List.getElem?_set_ne hij];exact h1,h2⟩
abbrev fN (K:PySem.W.Frag)(H:Hp)(Q:DK)(Q':VK):Prop:=∀ v H' d μ',Tk H H'→bI K H' μ'→Dp K H' v d→Q d μ'→Q' v H'
def Sim (K:PySem.W.Frag)(t:TE)(T:ETr):Prop:=∀ σ H ρ μ (Q:DK) (Q':VK),Rl K σ H ρ μ→T ρ μ Q→fN K H Q Q'→t σ H Q'
def Ew (K:PySem.W.Frag)(t:TT)(T:TTr):Prop:=∀ σ H ρ μ (Q:Bool→Mu→Prop) (Q':Bool→Hp→Prop),Rl K σ H ρ μ→T ρ μ Q→(∀ b H' μ',Tk H H'→bI K H' μ'→Q b μ'→Q' b H')→t σ H Q'
def JX (K:PySem.W.Frag)(t:TA)(T:ATr):Prop:=∀ σ H ρ μ (Q:List D→Mu→Prop) (Q':List V→Hp→Prop),Rl K σ H ρ μ→T ρ μ Q→(∀ vs H' ds μ',Tk H H'→bI K H' μ'→DpL K H' vs ds→Q ds μ'→Q' vs H')→t σ H Q'
abbrev wG (K:PySem.W.Frag)(H:Hp)(N:ST→Mu→Prop)(N':L2.St→Hp→Prop):Prop:=∀ σ' H' ρ' μ',Tk H H'→Rl K σ' H' ρ' μ'→N ρ' μ'→N' σ' H'
structure Aj (K:PySem.W.Frag) (H:Hp) (E:En) (E':Ends):Prop where
  nx:wG K H E.nx E'.nx
  rt:fN K H E.rt E'.rt
  bk:wG K H E.bk E'.bk
  ct:wG K H E.ct E'.ct
theorem Aj.go {K:PySem.W.Frag}{H H1:Hp}{E:En}{E':Ends}(e:Aj K H E E')(t:Tk H H1):Aj K H1 E E':=
  ⟨fun _ _ _ _ t'=>e.nx _ _ _ _ (t.trans t'),fun _ _ _ _ t'=>e.rt _ _ _ _ (t.trans t'),fun _ _ _ _ t'=>e.bk _ _ _ _ (t.trans t'),fun _ _ _ _ t'=>e.ct _ _ _ _ (t.trans t')⟩
def C7 (K:PySem.W.Frag)(t:TS)(T:STr):Prop:=∀ σ H ρ μ (E:En) (E':Ends),Rl K σ H ρ μ→T E ρ μ→Aj K H E E'→t E' σ H
def HM (K:PySem.W.Frag)(g:TG)(G:GTr):Prop:=∀ σ H ρ μ v d (k:ST→Mu→Prop) (k':L2.St→Hp→Prop),Rl K σ H ρ μ→Dp K H v d→G d ρ μ k→wG K H k k'→g v σ H k'
structure LE (X:Cx) (e:Expr) (T:ETr):Prop where
  ex:∃ t,PE X e t∧Sim X.K t T
structure LT (X:Cx) (e:Expr) (T:TTr):Prop where
  ex:∃ t,PT X e t∧Ew X.K t T
structure LW (X:Cx) (e:Expr) (T:TTr):Prop where
  ex:∃ t,PW X e t∧Ew X.K t T
structure LA (X:Cx) (es:List Expr) (T:ATr):Prop where
  ex:∃ t,PA X es t∧JX X.K t T
structure LS (X:Cx) (st:Stmt) (T:STr):Prop where
  ex:∃ t,PS X st t∧C7 X.K t T
structure LSs (X:Cx) (sts:List Stmt) (T:STr):Prop where
  ex:∃ t,PSs X sts t∧C7 X.K t T
structure LG (X:Cx) (tg:Expr) (G:GTr):Prop where
  ex:∃ g,PG X tg g∧HM X.K g G
section
variable {X:Cx} {a b c e:Expr} {Ta Tb Tc:ETr} {pos:Pos}
theorem ae (i:Nat){x:Str}(hN:X.N[i]? = some x:=by rfl)(hv:Vis X.env.scope x:=by first | exact Or.inl rfl | exact Or.inr (Or.inl rfl) | exact Or.inr (Or.inr rfl))(hd:(x == ("__debug__" : Str))=false:=by decide)
    (hcd:(x == ("__classdict__" : Str))=false:=by decide):LE X (.Name x pos) (ah i):=
  ⟨_,z0 hN hv hd hcd,fun σ H ρ μ Q Q' r h k=>by
    have h:kO (lk ρ i) fun d=>Q d μ:=h
    cases q:lk ρ i with
    | none=>rw[q] at h;exact False.elim h
    | some d=>
      rw[q] at h
      have h:Q d μ:=h
      obtain ⟨v,e1,p⟩:=r.loc i d q
      exact ⟨v,e1,k v H d μ (.refl H) r.mu p h⟩⟩
theorem le_int {i:Int}{j}:LE X (.Constant (.int i) j pos) (TC (.int i)):=⟨_,Fv,fun σ H ρ μ Q Q' r h k=>k _ H _ μ (.refl H) r.mu (.int i) h⟩
theorem cQ {b:Bool}{j}:LE X (.Constant (.bool b) j pos) (TC (.bl b)):=⟨_,IK,fun σ H ρ μ Q Q' r h k=>k _ H _ μ (.refl H) r.mu (.bl b) h⟩
theorem cZ {j}:LE X (.Constant .none j pos) (TC .non):=⟨_,G7,fun σ H ρ μ Q Q' r h k=>k _ H _ μ (.refl H) r.mu .non h⟩
theorem le_str {x:Str}{j}:LE X (.Constant (.str x) j pos) (TC (.str x)):=⟨_,G5,fun σ H ρ μ Q Q' r h k=>k _ H _ μ (.refl H) r.mu (.str x) h⟩
def di (K:PySem.W.Frag)(r:R2)(R:DR2):Prop:=∀ H μ x y dx dy (Q:DK) (Q':VK),bI K H μ→Dp K H x dx→Dp K H y dy→R dx dy μ Q→fN K H Q Q'→r x y H Q'
def J5 (K:PySem.W.Frag)(r:V→Hp→VK→Prop)(R:DR):Prop:=∀ H μ x dx (Q:DK) (Q':VK),bI K H μ→Dp K H x dx→R dx μ Q→fN K H Q Q'→r x H Q'
theorem fN.go {K:PySem.W.Frag}{H H1:Hp}{Q:DK}{Q':VK}(k:fN K H Q Q')(t:Tk H H1):fN K H1 Q Q':=fun v H' d μ' t'=>k v H' d μ' (t.trans t')
theorem fZ {K:PySem.W.Frag}{r:R2}{R:DR2}{ta tb:TE}(hr:di K r R)(ha:Sim K ta Ta)(hb:Sim K tb Tb):Sim K (tOp r ta tb) (ak R Ta Tb):=fun σ H ρ μ Q Q' rl h k=>
  ha σ H ρ μ _ _ rl h fun x H1 dx μ1 t1 m1 p1 h1=>hb σ H1 ρ μ1 _ _ (rl.go t1 m1) h1 fun y H2 dy μ2 t2 m2 p2 h2=>hr H2 μ2 x y dx dy Q Q' m2 (p1.mono t2) p2 h2 (k.go (t1.trans t2))
theorem fE {op:Operator}{r:R2}{R:DR2}(ho:OpR X (binaryOp op) r)(hr:di X.K r R)(ha:LE X a Ta)(hb:LE X b Tb):LE X (.BinOp a op b pos) (ak R Ta Tb):=by
  obtain ⟨ta,pa,sa⟩:=ha.ex
  obtain ⟨tb,pb,sb⟩:=hb.ex
  exact ⟨_,A7 ho pa pb,fZ hr sa sb⟩
theorem iH {op:CmpOp}{r:R2}{R:DR2}(ho:OpR X (compareOp op) r)(hr:di X.K r R)(ha:LE X a Ta)(hb:LE X b Tb)(hm:behindInMarks op b=false):LE X (.Compare a [op] [b] pos) (ak R Ta Tb):=by
  obtain ⟨ta,pa,sa⟩:=ha.ex
  obtain ⟨tb,pb,sb⟩:=hb.ex
  exact ⟨_,DI ho pa pb hm,fZ hr sa sb⟩
theorem FT {K:PySem.W.Frag}{t:TE}{T:ETr}(h:Sim K t T):Ew K (Fj t) (TB T):=fun σ H ρ μ Q Q' rl hh k=>
  h σ H ρ μ _ _ rl hh fun v H' d μ' t' m' p' h'=>by
    cases p' with
    | bl c=>exact ⟨c,rfl,k c H' μ' t' m' h'⟩
    | _=>exact False.elim h'
theorem GF {K:PySem.W.Frag}{t:TE}{T:ETr}(h:Sim K t T):Ew K (tB t) (TB T):=fun σ H ρ μ Q Q' rl hh k=>
  h σ H ρ μ _ _ rl hh fun v H' d μ' t' m' p' h'=>by
    cases p' with
    | bl c=>exact ⟨c,rfl,k c H' μ' t' m' h'⟩
    | _=>exact False.elim h'
theorem eX {op:CmpOp}{r:R2}{R:DR2}(ho:OpR X (compareOp op) r)(hr:di X.K r R)(ha:LE X a Ta)(hb:LE X b Tb)(hm:behindInMarks op b=false):LT X (.Compare a [op] [b] pos) (TB (ak R Ta Tb)):=by
  obtain ⟨ta,pa,sa⟩:=ha.ex
  obtain ⟨tb,pb,sb⟩:=hb.ex
  exact ⟨_,Dc ho pa pb hm,FT (fZ hr sa sb)⟩
theorem OpR.or {f:Value→Value→Sem Value}{r r':R2}(h:OpR X f r)(h':OpR X f r'):OpR X f (fun x y H Q=>r x y H Q∨r' x y H Q):=fun pins s σ H x y v u Q I rx ry q=>by
  rcases q with q | q
  · exact h pins s σ H x y v u Q I rx ry q
  · exact h' pins s σ H x y v u Q I rx ry q
theorem iY {K:PySem.W.Frag}{C:Int→Int→Prop}{g:Int→Int→V}{R:DR2}(f:Int→Int→D)(hg:∀ H i j,Dp K H (g i j) (f i j))(hR:∀ i j μ Q,R (.int i) (.int j) μ Q→C i j∧Q (f i j) μ)
    (hn:∀ dx dy μ Q,R dx dy μ Q→(∃ i,dx=.int i)∧∃ j,dy=.int j):di K (rI C g) R:=fun H μ x y dx dy Q Q' m px py h k=>by
  obtain ⟨⟨i,rfl⟩,j,rfl⟩:=hn _ _ _ _ h
  cases px;cases py
  obtain ⟨h1,h2⟩:=hR _ _ _ _ h
  exact ⟨i,j,rfl,rfl,h1,k _ H _ μ (.refl H) m (hg H i j) h2⟩
theorem qM {K:PySem.W.Frag}{g:Int→Int→V}{R:DR2}(f:Int→Int→D)(hg:∀ H i j,Dp K H (g i j) (f i j))(hR:∀ i j μ Q,R (.int i) (.int j) μ Q→Q (f i j) μ)
    (hn:∀ dx dy μ Q,R dx dy μ Q→(∃ i,dx=.int i)∧∃ j,dy=.int j):di K (rI0 g) R:=fun H μ x y dx dy Q Q' m px py h k=>by
  obtain ⟨⟨i,rfl⟩,j,rfl⟩:=hn _ _ _ _ h
  cases px;cases py
  exact ⟨i,j,rfl,rfl,k _ H _ μ (.refl H) m (hg H i j) (hR _ _ _ _ h)⟩
theorem jn (ha:LE X a Ta)(hb:LE X b Tb):LE X (.BinOp a .Sub b pos) (ak ka Ta Tb):=fE GQ (qM (fun i j=>.int (i - j)) (fun _ _ _=>.int _) (fun _ _ _ _ h=>h) (fun dx dy μ Q h=>by cases dx<;>cases dy<;>first | exact ⟨⟨_,rfl⟩,_,rfl⟩ | exact False.elim h)) ha hb
theorem cu.abs {j:Int}(h:cu j):j.natAbs < 2 ^ 256:=by
  have e:(2:Nat) ^ 256=115792089237316195423570985008687907853269984665640564039457584007913129639936:=by decide +kernel
  rw[e]
  obtain ⟨h1,h2⟩:=h
  omega
theorem MulOk.ok {i j:Int}(h:MulOk i j):IntMulOk i j:=by
  rcases h with (⟨h1,h2⟩ | ⟨h1,h2⟩) | ⟨h1,h2⟩
  · exact .of_left (intBits_le_64 h1 h2)
  · exact .of_right (intBits_le_64 h1 h2)
  · exact .of_le (PyProof.Rows.intBits_le h1.abs) (PyProof.Rows.intBits_le h2.abs) (by decide)
theorem CP:OpR X (binaryOp .Mult) (rI MulOk fun i j=>.int (i*j)):=opI fun _ _ _ _ _ _ _ hc q=>mul_int q hc.ok
theorem fh.np {i j:Int}(h:fh j):Builtin.divisionGoesByPylong i j=false:=by
  refine PyProof.noPylong_of_log2 ?_
  have h0:j.natAbs≠0:=by have:=h.1;omega
  have:=(Nat.log2_lt h0).mpr h.2.abs
  omega
theorem El:OpR X (binaryOp .FloorDiv) (rI (fun _ j=>fh j) fun i j=>.int (i.fdiv j)):=opI fun _ _ _ _ _ _ _ hc q=>floordiv_int hc.1 q (.inl hc.np)
theorem eQ (ha:LE X a Ta)(hb:LE X b Tb):LE X (.BinOp a .FloorDiv b pos) (ak je Ta Tb):=fE El (iY (fun i j=>.int (i.fdiv j)) (fun _ _ _=>.int _) (fun _ _ _ _ h=>⟨h.1,h.2⟩) (fun dx dy μ Q h=>by cases dx<;>cases dy<;>first | exact ⟨⟨_,rfl⟩,_,rfl⟩ | exact False.elim h)) ha hb
theorem le_mul (ha:LE X a Ta)(hb:LE X b Tb):LE X (.BinOp a .Mult b pos) (ak eC Ta Tb):=fE CP (iY (fun i j=>.int (i*j)) (fun _ _ _=>.int _) (fun _ _ _ _ h=>⟨h.1,h.2⟩) (fun dx dy μ Q h=>by cases dx<;>cases dy<;>first | exact ⟨⟨_,rfl⟩,_,rfl⟩ | exact False.elim h)) ha hb
theorem fG (ha:LE X a Ta)(hb:LE X b Tb):LE X (.BinOp a .Mod b pos) (ak ly Ta Tb):=fE Eh (iY (fun i j=>.int (i.fmod j)) (fun _ _ _=>.int _) (fun _ _ _ _ h=>⟨h.1,h.2⟩) (fun dx dy μ Q h=>by cases dx<;>cases dy<;>first | exact ⟨⟨_,rfl⟩,_,rfl⟩ | exact False.elim h)) ha hb
theorem le_pow (ha:LE X a Ta)(hb:LE X b Tb):LE X (.BinOp a .Pow b pos) (ak xA Ta Tb):=fE IJ (iY (fun i j=>.int (i ^ j.toNat)) (fun _ _ _=>.int _) (fun _ _ _ _ h=>⟨h.1,h.2⟩) (fun dx dy μ Q h=>by cases dx<;>cases dy<;>first | exact ⟨⟨_,rfl⟩,_,rfl⟩ | exact False.elim h)) ha hb
theorem fV {K:PySem.W.Frag}(p:Int→Int→Bool):di K (rI0 fun i j=>.bl (p i j)) (Bo p):=qM (fun i j=>.bl (p i j)) (fun _ _ _=>.bl _) (fun _ _ _ _ h=>h) (fun dx dy μ Q h=>by cases dx<;>cases dy<;>first | exact ⟨⟨_,rfl⟩,_,rfl⟩ | exact False.elim h)
theorem JA (ha:LE X a Ta)(hb:LE X b Tb):LE X (.Compare a [.Lt] [b] pos) (ak rLt Ta Tb):=iH Fo (fV _) ha hb (dj _)
theorem E8 (ha:LE X a Ta)(hb:LE X b Tb):LE X (.Compare a [.LtE] [b] pos) (ak rLe Ta Tb):=iH KJ (fV _) ha hb (dj _)
theorem JZ (ha:LE X a Ta)(hb:LE X b Tb):LE X (.Compare a [.GtE] [b] pos) (ak rGe Ta Tb):=iH Fh (fV _) ha hb (dj _)
theorem EL (ha:LE X a Ta)(hb:LE X b Tb):LT X (.Compare a [.Lt] [b] pos) (TB (ak rLt Ta Tb)):=eX Fo (fV _) ha hb (dj _)
theorem BR (ha:LE X a Ta)(hb:LE X b Tb):LT X (.Compare a [.Gt] [b] pos) (TB (ak rGt Ta Tb)):=eX JO (fV _) ha hb (dj _)
theorem Fp (ha:LE X a Ta)(hb:LE X b Tb):LT X (.Compare a [.GtE] [b] pos) (TB (ak rGe Ta Tb)):=eX Fh (fV _) ha hb (dj _)
theorem JV {op:UnaryOp}{r:V→Hp→VK→Prop}{R:DR}(ho:UnR X (unaryOp op) r)(hr:J5 X.K r R)(ha:LE X a Ta):LE X (.UnaryOp op a pos) (TUn R Ta):=by
  obtain ⟨ta,pa,sa⟩:=ha.ex
  exact ⟨_,J1 ho pa,fun σ H ρ μ Q Q' rl h k=>sa σ H ρ μ _ _ rl h fun x H1 dx μ1 t1 m1 p1 h1=>hr H1 μ1 x dx Q Q' m1 p1 h1 (k.go t1)⟩
theorem gD (ha:LE X a Ta)(he:∀ whole,isTrue a X.env whole=(do let v ← whole;standAt a.pos;holding [v] (truthy v)):=by intro _;rfl):LT X a (TB Ta):=by
  obtain ⟨ta,pa,sa⟩:=ha.ex
  exact ⟨_,Hv pa he,GF sa⟩
variable {tA tB' tC':TTr} {rest:List Expr}
theorem gO (ha:LT X a tA):LT X (.UnaryOp .Not a pos) (kf tA):=by
  obtain ⟨ta,pa,sa⟩:=ha.ex
  exact ⟨_,FO pa,fun σ H ρ μ Q Q' rl h k=>sa σ H ρ μ _ _ rl h fun c H1 μ1 t1 m1 h1=>k (!c) H1 μ1 t1 m1 h1⟩
theorem LW.lt (h:LW X a tA):LT X a tA:=by
  obtain ⟨ta,pa,sa⟩:=h.ex
  exact ⟨_,pa.pt,sa⟩
theorem FN (ha:LT X a tA):LW X (.BoolOp .Or [a] pos) tA:=by
  obtain ⟨ta,pa,sa⟩:=ha.ex
  exact ⟨_,pw_or1 pa,sa⟩
theorem Fq (ha:LT X a tA)(hb:LW X (.BoolOp .Or (b::rest) pos) tB'):LW X (.BoolOp .Or (a::b::rest) pos) (TOr tA tB'):=by
  obtain ⟨ta,pa,sa⟩:=ha.ex
  obtain ⟨tb,pb,sb⟩:=hb.ex
  refine ⟨_,pw_or pa pb,fun σ H ρ μ Q Q' rl h k=>sa σ H ρ μ _ _ rl h fun c H1 μ1 t1 m1 h1=>?_⟩
  cases c with
  | true=>exact ue (k true H1 μ1 t1 m1 h1)
  | false=>exact vm (sb σ H1 ρ μ1 Q Q' (rl.go t1 m1) h1 fun b H2 μ2 t2=>k b H2 μ2 (t1.trans t2))
theorem jr {op}(h:LE X a Ta):LE X (.BoolOp op [a] pos) Ta:=by
  obtain ⟨ta,pa,sa⟩:=h.ex
  exact ⟨_,Hk pa,sa⟩
theorem i7 (ha:LE X a Ta)(hb:LE X (.BoolOp .And (b::rest) pos) Tb):LE X (.BoolOp .And (a::b::rest) pos) (fR Ta Tb):=by
  obtain ⟨ta,pa,sa⟩:=ha.ex
  obtain ⟨tb,pb,sb⟩:=hb.ex
  refine ⟨_,Ir pa pb,fun σ H ρ μ Q Q' rl h k=>sa σ H ρ μ _ _ rl h fun x H1 dx μ1 t1 m1 p1 h1=>?_⟩
  cases p1 with
  | bl c=>
    refine ⟨c,rfl,?_⟩
    cases c with
    | true=>exact ue (sb σ H1 ρ μ1 Q Q' (rl.go t1 m1) h1 (k.go t1))
    | false=>exact vm (k _ H1 _ μ1 t1 m1 (.bl _) h1)
  | _=>exact False.elim h1
theorem JK (ha:LE X a Ta)(hb:LE X (.BoolOp .Or (b::rest) pos) Tb):LE X (.BoolOp .Or (a::b::rest) pos) (ym Ta Tb):=by
  obtain ⟨ta,pa,sa⟩:=ha.ex
  obtain ⟨tb,pb,sb⟩:=hb.ex
  refine ⟨_,J2 pa pb,fun σ H ρ μ Q Q' rl h k=>sa σ H ρ μ _ _ rl h fun x H1 dx μ1 t1 m1 p1 h1=>?_⟩
  cases p1 with
  | bl c=>
    refine ⟨c,rfl,?_⟩
    cases c with
    | true=>exact ue (k _ H1 _ μ1 t1 m1 (.bl _) h1)
    | false=>exact vm (sb σ H1 ρ μ1 Q Q' (rl.go t1 m1) h1 (k.go t1))
  | _=>exact False.elim h1
theorem tW (ha:LE X a Ta):LE X (.UnaryOp .Not a pos) (jB Ta):=by
  obtain ⟨ta,pa,sa⟩:=ha.ex
  refine ⟨_,Gv pa,fun σ H ρ μ Q Q' rl h k=>sa σ H ρ μ _ _ rl h fun x H1 dx μ1 t1 m1 p1 h1=>?_⟩
  cases p1 with
  | bl c=>exact ⟨c,rfl,k _ H1 _ μ1 t1 m1 (.bl _) h1⟩
  | _=>exact False.elim h1
variable {es:List Expr} {At:ATr}
theorem ag:LA X [] aq:=⟨_,fz,fun σ H ρ μ Q Q' rl h k=>k [] H [] μ (.refl H) rl.mu .nil h⟩
theorem aa (ha:LE X e Ta)(hr:LA X es At)(hs:starEach (e::es) X.env=(false,eval e X.env)::starEach es X.env:=by rfl):LA X (e::es) (af Ta At):=by
  obtain ⟨ta,pa,sa⟩:=ha.ex
  obtain ⟨tr,pr,sr⟩:=hr.ex
  exact ⟨_,cE pa pr hs,fun σ H ρ μ Q Q' rl h k=>sa σ H ρ μ _ _ rl h fun x H1 dx μ1 t1 m1 p1 h1=>sr σ H1 ρ μ1 _ _ (rl.go t1 m1) h1 fun xs H2 ds μ2 t2 m2 p2 h2=>k _ H2 _ μ2 (t1.trans t2) m2 (.cons (p1.mono t2) p2) h2⟩
theorem cg {K:PySem.W.Frag}{H:Hp}{μ:Mu}{p:Addr}{o:HO}(m:bI K H μ)(hp:H p=none):bI K (L2.upd H p o) μ:=m.keep (.new hp) fun a' xs' _ e=>by rw[aB (aR e hp)];exact e
theorem big {n:Nat}(h:n≤1000000):n≤sizeLine:=Nat.le_trans h (by decide)
theorem aT {x1}(h:LA X es At):LE X (.Tuple es x1 pos) (bM At):=by
  obtain ⟨ta,pa,sa⟩:=h.ex
  refine ⟨_,Iw pa,fun σ H ρ μ Q Q' rl h k=>sa σ H ρ μ _ _ rl h fun xs H1 ds μ1 t1 m1 p1 h1=>⟨by rw[p1.length];exact big h1.1,fun p hp=>?_⟩⟩
  exact k _ _ _ μ1 (t1.trans (.new hp)) (cg m1 hp) (.tup (SqT.of aG) (p1.mono (.new hp))) h1.2
theorem vj (h:LA X es At):LE X (.List es pos) (rB At):=by
  obtain ⟨ta,pa,sa⟩:=h.ex
  refine ⟨_,Bn pa,fun σ H ρ μ Q Q' rl h k=>sa σ H ρ μ _ _ rl h fun xs H1 ds μ1 t1 m1 p1 h1=>⟨by rw[p1.length];exact big h1.1,fun p hp=>?_⟩⟩
  refine k _ _ _ (up μ1 p (.lst ds)) (t1.trans (.new hp)) (fun a o e=>?_) (.obj p) (h1.2 p (m1.free hp))
  by_cases ha:a=p
  · subst ha
    rw[aJ] at e;cases e
    exact ⟨xs,aG,p1.mono (.new hp)⟩
  · rw[aY ha] at e
    exact cg m1 hp a o e
def Jp (t:TE):TE:=fun σ H Q=>t σ H fun v H1=>∃ a xs,v=.ref a∧H1 a=some (.lst xs)∧∀ o,Q v (L2.upd H1 a (.frz o (.lst xs)))
theorem jo {t:TE}(h:PE X e t):PE X e (Jp t):=by
  intro pins s σ H Q I hh
  refine thn (h pins s σ H _ I hh) fun u s1 ⟨v,H1,I1,r,a,xs,ev,ea,q⟩=>?_
  obtain ⟨z,its,n,rv,hg⟩:=(show bO X.prog X.w H1 s1.heap a (.lst xs) from I1.hok a _ ea)
  have nl:∀ b o,H1 b=some o→(∀ ys,o≠.lst ys)→b≠a:=fun b o e1 e2 z=>by subst z;rw[ea] at e1;cases e1;exact e2 _ rfl
  refine ⟨v,_,I1.un (h':=s1.heap) (t':=s1.toks) (H':=L2.upd H1 a (.frz { cls:=.type "list", data:=.seq its.toArray n } (.lst xs))) ⟨fun b o e _ _ _=>e,fun b o e _ _ _=>⟨o.slots,e⟩,fun b o e n _=>?_,fun b o e _=>⟨o,e⟩,fun b ys e=>?_,fun b o u e=>?_,fun b ps e=>⟨#[],?_⟩⟩ (fun b u e=>?_),r,q _⟩
  · rw[aB (fun z=>by subst z;rw[ea] at n;cases n)];exact n
  · rw[aB (nl b _ e (fun _=>nofun))];exact e
  · rw[aB (nl b _ e (fun _=>nofun))];exact e
  · rw[aB (nl b _ e (fun _=>nofun)),e];simp
  · by_cases hb:b=a
    · subst hb
      rw[aG] at e;cases e
      exact ⟨hg,z,its,n,rv,hg⟩
    · rw[aB hb] at e
      refine (I1.hok b u e).jS (fun c w _ q=>q) (fun c q=>?_) fun c ys q=>?_
      · rw[aB (nl c _ q (fun _=>nofun))];exact q
      · rw[aB (nl c _ q (fun _=>nofun))];exact q
theorem bu (h:LA X es At):LE X (.List es pos) (cG At):=by
  obtain ⟨ta,pa,sa⟩:=h.ex
  refine ⟨_,jo (Bn pa),fun σ H ρ μ Q Q' rl h k=>sa σ H ρ μ _ _ rl h fun xs H1 ds μ1 t1 m1 p1 h1=>⟨by rw[p1.length];exact big h1.1,fun p hp=>⟨p,xs,rfl,aG,fun o=>?_⟩⟩⟩
  have e:L2.upd (L2.upd H1 p (.lst xs)) p (.frz o (.lst xs))=L2.upd H1 p (.frz o (.lst xs)):=pR
  rw[e]
  exact k _ _ _ μ1 (t1.trans (.new hp)) (cg m1 hp) (.ls (.inl ⟨o,aG⟩) (p1.mono (.new hp))) h1.2
end
end
section
open PySem PySem.Spec PyProof.Rows L2
mutual
def toP:D→PyData
  | .non=>.none
  | .bl b=>.bool b
  | .int i=>.int i
  | .str x=>.str x
  | .tup ds=>.tuple (hE ds)
  | .ls ds=>.list (hE ds)
  | .ty _=>.none
  | .obj _=>.none
def hE:List D→List PyData
  | []=>[]
  | d::r=>toP d::hE r
end
mutual
theorem eR:∀ (n:Nat) (d:D),okD n d=true→(toP d).canLay0=true∧(toP d).depth≤n
  | n,.non,_=>⟨rfl,Nat.zero_le _⟩
  | n,.bl b,_=>⟨rfl,Nat.zero_le _⟩
  | n,.int i,_=>⟨rfl,Nat.zero_le _⟩
  | n,.str x,h=>⟨by cases n<;>exact h,Nat.zero_le _⟩
  | n+1,.tup ds,h=>by
    obtain ⟨h1,h2⟩:=mq n ds h
    exact ⟨h1,Nat.succ_le_succ h2⟩
  | n+1,.ls ds,h=>by
    obtain ⟨h1,h2⟩:=mq n ds h
    exact ⟨h1,Nat.succ_le_succ h2⟩
  | 0,.tup ds,h=>by cases h
  | 0,.ls ds,h=>by cases h
  | n,.ty _,h=>by cases n<;>cases h
  | n,.obj _,h=>by cases n<;>cases h
theorem mq:∀ (n:Nat) (ds:List D),bN n ds=true→PyData.canLayAll0 (hE ds)=true∧PyData.depthAll (hE ds)≤n
  | n,[],_=>⟨rfl,Nat.zero_le _⟩
  | n,d::r,h=>by
    have h':okD n d=true∧bN n r=true:=by simpa[bN] using h
    obtain ⟨a1,a2⟩:=eR n d h'.1
    obtain ⟨b1,b2⟩:=mq n r h'.2
    refine ⟨?_,?_⟩
    · show (PyData.canLay0 (toP d)&&PyData.canLayAll0 (hE r))=true
      rw[a1,b1];rfl
    · show max (PyData.depth (toP d)) (PyData.depthAll (hE r))≤n
      exact Nat.max_le.mpr ⟨a2,b2⟩
end
theorem str_beq (a b:Str):(a == b)=decide (a=b):=by
  by_cases h:a=b
  · subst h;simp
  · rw[decide_eq_false h];exact beq_eq_false_iff_ne.mpr h
mutual
theorem kn:∀ (n m:Nat) (a b:D),okD n a=true→okD m b=true→PyData.eqv (toP a) (toP b)=eqD a b
  | n,m,.non,b,_,hb=>by cases b<;>first | rfl | (cases m<;>cases hb)
  | n,m,.bl x,b,_,hb=>by
    cases b with
    | int y=>simp only[toP,PyData.eqv,eqD];rw[Bool.beq_eq_decide_eq]
    | ty _=>cases m<;>cases hb
    | obj _=>cases m<;>cases hb
    | _=>rfl
  | n,m,.int x,b,_,hb=>by
    cases b with
    | int y=>simp only[toP,PyData.eqv,eqD];rw[Bool.beq_eq_decide_eq]
    | bl y=>simp only[toP,PyData.eqv,eqD];rw[Bool.beq_eq_decide_eq]
    | ty _=>cases m<;>cases hb
    | obj _=>cases m<;>cases hb
    | _=>rfl
  | n,m,.str x,b,_,hb=>by
    cases b with
    | str y=>simp only[toP,PyData.eqv,eqD];exact str_beq x y
    | ty _=>cases m<;>cases hb
    | obj _=>cases m<;>cases hb
    | _=>rfl
  | n+1,m,.tup xs,b,ha,hb=>by
    cases b with
    | tup ys=>
      cases m with
      | zero=>cases hb
      | succ m=>simp only[toP,PyData.eqv,eqD];exact lZ n m xs ys ha hb
    | ty _=>cases m<;>cases hb
    | obj _=>cases m<;>cases hb
    | _=>rfl
  | n+1,m,.ls xs,b,ha,hb=>by
    cases b with
    | ls ys=>
      cases m with
      | zero=>cases hb
      | succ m=>simp only[toP,PyData.eqv,eqD];exact lZ n m xs ys ha hb
    | ty _=>cases m<;>cases hb
    | obj _=>cases m<;>cases hb
    | _=>rfl
  | 0,_,.tup ds,_,h,_=>by cases h
  | 0,_,.ls ds,_,h,_=>by cases h
  | n,_,.ty _,_,h,_=>by cases n<;>cases h
  | n,_,.obj _,_,h,_=>by cases n<;>cases h
theorem lZ:∀ (n m:Nat) (a b:List D),bN n a=true→bN m b=true→PyData.eqvAll (hE a) (hE b)=nE a b
  | _,_,[],[],_,_=>rfl
  | _,_,[],_::_,_,_=>by simp[hE,PyData.eqvAll,nE]
  | _,_,_::_,[],_,_=>by simp[hE,PyData.eqvAll,nE]
  | n,m,a::r,b::s,ha,hb=>by
    have ha':okD n a=true∧bN n r=true:=by simpa[bN] using ha
    have hb':okD m b=true∧bN m s=true:=by simpa[bN] using hb
    show (PyData.eqv (toP a) (toP b)&&PyData.eqvAll (hE r) (hE s))=(eqD a b&&nE r s)
    rw[kn n m a b ha'.1 hb'.1,lZ n m r s ha'.2 hb'.2]
end
section
variable {X:Cx} {pins:List (Addr×Obj)} {σ:L2.St} {H:Hp} {s:Shared}
mutual
theorem cF (I:Inv X pins σ H s):∀ {n:Nat} {v:V} {d:D} {u:Value},Dp X.K H v d→okD n d=true→RelV v u→∃ as,Reads s.heap u (toP d) as
  | n,_,_,u,.non,_,r=>by cases (show u=Value.none from r);exact ⟨_,.none⟩
  | n,_,_,u,.bl b,_,r=>by cases (show u=Value.bool b from r);exact ⟨_,.bool b⟩
  | n,_,_,u,.int i,_,r=>by obtain ⟨t,e⟩:=(show ∃ t,u=Value.int i t from r);subst e;exact ⟨_,.int i t⟩
  | n,_,_,u,.str x,_,r=>by obtain ⟨t,e⟩:=(show ∃ t,u=Value.str x t from r);subst e;exact ⟨_,.str x t⟩
  | n,_,_,u,.ty _,h,_=>by cases n<;>cases h
  | n+1,_,_,u,@Dp.tup _ _ a xs ds q l,h,r=>by
    cases (show u=Value.ref a from r)
    obtain ⟨its,rv,⟨o,e1,e2,k,e3⟩,_⟩:=I.tuple q
    obtain ⟨as,ra⟩:=ft I (n:=n) l h rv
    exact ⟨_,.tuple e1 e2 e3 (by simpa using ra)⟩
  | n+1,_,_,u,@Dp.ls _ _ a xs ds q l,h,r=>by
    cases (show u=Value.ref a from r)
    obtain ⟨its,rv,⟨o,k,e1,e2,_,e3⟩,_⟩:=I.list q.sq
    obtain ⟨as,ra⟩:=ft I (n:=n) l h rv
    exact ⟨_,.list e1 e2 e3 (by simpa using ra)⟩
  | 0,_,_,u,@Dp.tup _ _ a xs ds q l,h,r=>by cases h
  | 0,_,_,u,@Dp.ls _ _ a xs ds q l,h,r=>by cases h
  | n,_,_,u,.obj _,h,_=>by cases n<;>cases h
theorem ft (I:Inv X pins σ H s):∀ {n:Nat} {vs:List V} {ds:List D} {us:List Value},DpL X.K H vs ds→bN n ds=true→Vals vs us→∃ as,ReadsAll s.heap us (hE ds) as
  | n,_,_,_,.nil,_,.nil=>⟨_,.nil⟩
  | n,_,_,_,@DpL.cons _ _ v d vs ds h l,ho,.cons r rs=>by
    have ho':okD n d=true∧bN n ds=true:=by simpa[bN] using ho
    obtain ⟨as,ra⟩:=cF I h ho'.1 r
    obtain ⟨bs,rb⟩:=ft I l ho'.2 rs
    exact ⟨_,.cons ra rb⟩
end
end
def EC (K:PySem.W.Frag)(f:Bool→Bool):R2:=fun x y H Q=>∃ dx dy,Dp K H x dx∧Dp K H y dy∧okD 40 dx=true∧okD 40 dy=true∧Q (.bl (f (eqD dx dy))) H
section
variable {X:Cx} {a b c e:Expr} {Ta Tb Tc:ETr} {pos:Pos}
theorem An (hu:X.A.units+64 < cLine):OpR X (compareOp .Eq) (EC X.K id):=fun pins s σ H x y v u Q I rx ry ⟨dx,dy,px,py,ox,oy,q⟩=>by
  obtain ⟨as,ra⟩:=cF I px ox rx
  obtain ⟨bs,rb⟩:=cF I py oy ry
  obtain ⟨l1,d1⟩:=eR 40 dx ox
  obtain ⟨l2,d2⟩:=eR 40 dy oy
  exact SeqAt.compareEq_reads ra rb l1 l2 (by have:=Nat.min_le_left (toP dx).depth (toP dy).depth;omega) ⟨.bl _,H,I,rfl,by rw[kn 40 40 dx dy ox oy];exact q⟩
theorem G0 (hu:X.A.units+64 < cLine):OpR X (compareOp .NotEq) (EC X.K not):=fun pins s σ H x y v u Q I rx ry ⟨dx,dy,px,py,ox,oy,q⟩=>by
  obtain ⟨as,ra⟩:=cF I px ox rx
  obtain ⟨bs,rb⟩:=cF I py oy ry
  obtain ⟨l1,d1⟩:=eR 40 dx ox
  obtain ⟨l2,d2⟩:=eR 40 dy oy
  exact SeqAt.compareNe_reads ra rb l1 l2 (by have:=Nat.min_le_left (toP dx).depth (toP dy).depth;omega) ⟨.bl _,H,I,rfl,by rw[kn 40 40 dx dy ox oy];exact q⟩
theorem Ay {K:PySem.W.Frag}:di K (EC K id) rEq:=fun H μ x y dx dy Q Q' m px py h k=>⟨dx,dy,px,py,h.1.1,h.1.2,k _ H _ μ (.refl H) m (.bl _) h.2⟩
theorem Ha {K:PySem.W.Frag}:di K (EC K not) rNe:=fun H μ x y dx dy Q Q' m px py h k=>⟨dx,dy,px,py,h.1.1,h.1.2,k _ H _ μ (.refl H) m (.bl _) h.2⟩
theorem le_eq (hu:X.A.units+64 < cLine)(ha:LE X a Ta)(hb:LE X b Tb):LE X (.Compare a [.Eq] [b] pos) (ak rEq Ta Tb):=iH (An hu) Ay ha hb (dj _)
theorem lt_eq (hu:X.A.units+64 < cLine)(ha:LE X a Ta)(hb:LE X b Tb):LT X (.Compare a [.Eq] [b] pos) (TB (ak rEq Ta Tb)):=eX (An hu) Ay ha hb (dj _)
theorem Fm (hu:X.A.units+64 < cLine)(ha:LE X a Ta)(hb:LE X b Tb):LT X (.Compare a [.NotEq] [b] pos) (TB (ak rNe Ta Tb)):=eX (G0 hu) Ha ha hb (dj _)
theorem CD {K:PySem.W.Frag}:J5 K (rU fun i=>.int (-i)) mh:=fun H μ x dx Q Q' m px h k=>by
  cases px with
  | int i=>exact ⟨i,rfl,k _ H _ μ (.refl H) m (.int _) h⟩
  | _=>exact False.elim h
theorem le_neg (ha:LE X a Ta):LE X (.UnaryOp .USub a pos) (TUn mh Ta):=JV Gm CD ha
theorem jf {o:Option D}{f:D→Prop}(h:kO o f):∃ d,o=some d∧f d:=by
  cases o with
  | none=>exact False.elim h
  | some d=>exact ⟨d,rfl,h⟩
theorem b8 {μ:Mu}{a:Addr}{f:List D→Prop}(h:kL μ a f):∃ ds,μ a=some (.lst ds)∧f ds:=by
  unfold kL at h
  cases e:μ a with
  | none=>rw[e] at h;exact False.elim h
  | some o=>cases o with
    | lst ds=>rw[e] at h;exact ⟨ds,rfl,h⟩
    | dct ds=>rw[e] at h;exact False.elim h
theorem AH {μ:Mu}{a:Addr}{f:List (Key×D)→Prop}(h:kD μ a f):∃ ds,μ a=some (.dct ds)∧f ds:=by
  unfold kD at h
  cases e:μ a with
  | none=>rw[e] at h;exact False.elim h
  | some o=>cases o with
    | lst ds=>rw[e] at h;exact False.elim h
    | dct ds=>rw[e] at h;exact ⟨ds,rfl,h⟩
theorem qO {o:Option Nat}{f:Nat→Prop}(h:kN o f):∃ d,o=some d∧f d:=by
  cases o with
  | none=>exact False.elim h
  | some d=>exact ⟨d,rfl,h⟩
theorem A8 {K:PySem.W.Frag}:di K (L2.rIx K) L3.rIx:=fun H μ x y dx dy Q Q' m px py h k=>by
  cases px with
  | @tup a xs ds q l=>
    cases py with
    | int i=>
      obtain ⟨d,e,h'⟩:=jf h
      obtain ⟨v,e1,p⟩:=l.at e
      exact .inr (.inl ⟨a,xs,i,v,rfl,rfl,q,e1,k _ H _ μ (.refl H) m p h'⟩)
    | _=>exact False.elim h
  | @ls a xs ds q l=>
    cases py with
    | int i=>
      obtain ⟨d,e,h'⟩:=jf h
      obtain ⟨v,e1,p⟩:=l.at e
      exact .inl ⟨a,xs,i,v,rfl,rfl,q.sq,e1,k _ H _ μ (.refl H) m p h'⟩
    | _=>exact False.elim h
  | obj a=>
    cases py with
    | int i=>
      obtain ⟨ds,e0,h1⟩:=b8 h
      obtain ⟨d,e,h'⟩:=jf h1
      obtain ⟨xs,ex,l⟩:=m a _ e0
      obtain ⟨v,e1,p⟩:=l.at e
      exact .inl ⟨a,xs,i,v,rfl,rfl,SqL.of ex,e1,k _ H _ μ (.refl H) m p h'⟩
    | _=>exact False.elim h
  | _=>cases py<;>exact False.elim h
theorem aC (ha:LE X a Ta)(hb:LE X b Tb)(hs:ko b:=by intro _ _;rfl):LE X (.Subscript a b pos) (ak L3.rIx Ta Tb):=by
  obtain ⟨ta,pa,sa⟩:=ha.ex
  obtain ⟨tb,pb,sb⟩:=hb.ex
  exact ⟨_,zm BP pa pb hs,fZ A8 sa sb⟩
variable {es:List Expr} {At:ATr} {x:Str} {p:Pos} {id T:String}
def jX (K:PySem.W.Frag)(r:List V→Hp→VK→Prop)(R:FSp):Prop:=∀ H μ xs ds (Q:DK) (Q':VK),bI K H μ→DpL K H xs ds→R ds μ Q→fN K H Q Q'→r xs H Q'
theorem nY {K:PySem.W.Frag}{r:List V→Hp→VK→Prop}{R:FSp}{ta:TA}(hr:jX K r R)(ha:JX K ta At):Sim K (tCB r ta) (ao R At):=fun σ H ρ μ Q Q' rl h k=>
  ha σ H ρ μ _ _ rl h fun xs H1 ds μ1 t1 m1 p1 h1=>hr H1 μ1 xs ds Q Q' m1 p1 h1 (k.go t1)
theorem aQ {r:List V→Hp→VK→Prop}{R:FSp}(hc:bz X (.builtin id) r)(hr:jX X.K r R)(hg:Gl X x)(hm:X.mg x=none)(hv:bootBuiltins x=some (.builtin id))(ha:LA X (e::es) At)(hn:x ≠ "__name__" := by decide)(hdb:(x == ("__debug__" : Str))=false:=by decide)
    (h1:starEach (e::es) X.env=(false,eval e X.env)::starEach es X.env:=by rfl) (h2:(backTo pos (starEach es X.env)).any (·.1)=false:=by rfl):LE X (.Call (.Name x p) (e::es) [] pos) (ao R At):=by
  obtain ⟨ta,pa,sa⟩:=ha.ex
  exact ⟨_,k9 hc hg hm hv pa hn hdb h1 h2,nY hr sa⟩
theorem eg {r:List V→Hp→VK→Prop}{R:FSp}(hc:bz X (.type T) r)(hr:jX X.K r R)(hg:Gl X x)(hm:X.mg x=none)(hv:bootBuiltins x=some (.type T))(ha:LA X (e::es) At)(hn:x ≠ "__name__" := by decide)(hdb:(x == ("__debug__" : Str))=false:=by decide)
    (h1:starEach (e::es) X.env=(false,eval e X.env)::starEach es X.env:=by rfl) (h2:(backTo pos (starEach es X.env)).any (·.1)=false:=by rfl):LE X (.Call (.Name x p) (e::es) [] pos) (ao R At):=by
  obtain ⟨ta,pa,sa⟩:=ha.ex
  exact ⟨_,om hc hg hm hv pa hn hdb h1 h2,nY hr sa⟩
theorem kl {K:PySem.W.Frag}:jX K (fun xs H Q=>∃ i,xs=[.int i]∧Q (.int (if i < 0 then -i else i)) H) sv:=fun H μ xs ds Q Q' m p h k=>by
  unfold sv at h
  split at h
  · cases p with | cons p1 p2=>cases p2;cases p1;exact ⟨_,rfl,k _ H _ μ (.refl H) m (.int _) h⟩
  · exact False.elim h
theorem rV {K:PySem.W.Frag}:jX K (fun xs H Q=>∃ i j,xs=[.int i,.int j]∧Q (.int (if j < i then j else i)) H) oE:=fun H μ xs ds Q Q' m p h k=>by
  unfold oE at h
  split at h
  · cases p with | cons p1 p2=>cases p2 with | cons p2 p3=>cases p3;cases p1;cases p2;exact ⟨_,_,rfl,k _ H _ μ (.refl H) m (.int _) h⟩
  · exact False.elim h
theorem bz.or {f:Value}{r r':List V→Hp→VK→Prop}(h:bz X f r)(h':bz X f r'):bz X f (fun xs H Q=>r xs H Q∨r' xs H Q):=fun pins s σ H xs us Q I rx q=>by
  rcases q with q | q
  · exact h pins s σ H xs us Q I rx q
  · exact h' pins s σ H xs us Q I rx q
theorem b7 {K:PySem.W.Frag}:jX K (fun xs H Q=>(∃ p ys,xs=[.ref p]∧(SqL K H p ys∨SqT K H p ys)∧Q (.int ys.length) H)∨∃ z,xs=[.str z]∧z.length≤sizeLine∧Q (.int z.length) H) df:=fun H μ xs ds Q Q' m p h k=>by
  unfold df at h
  split at h
  · cases p with | cons p1 p2=>cases p2;cases p1 with | tup q l=>exact .inl ⟨_,_,rfl,.inr q,k _ H _ μ (.refl H) m (by rw[l.length];exact .int _) h⟩
  · cases p with | cons p1 p2=>cases p2;cases p1 with | ls q l=>exact .inl ⟨_,_,rfl,.inl q.sq,k _ H _ μ (.refl H) m (by rw[l.length];exact .int _) h⟩
  · cases p with | cons p1 p2=>cases p2;cases p1;exact .inr ⟨_,rfl,big h.1,k _ H _ μ (.refl H) m (.int _) h.2⟩
  · rename_i a
    cases p with | cons p1 p2=>
    cases p2;cases p1
    obtain ⟨ys,e0,h⟩:=b8 h
    obtain ⟨xs,ex,l⟩:=m a _ e0
    exact .inl ⟨_,_,rfl,.inl (SqL.of ex),k _ H _ μ (.refl H) m (by rw[l.length];exact .int _) h⟩
  · exact False.elim h
theorem bc:bz X (.builtin "len") (fun xs H Q=>(∃ p ys,xs=[.ref p]∧(SqL X.K H p ys∨SqT X.K H p ys)∧Q (.int ys.length) H)∨∃ z,xs=[.str z]∧z.length≤sizeLine∧Q (.int z.length) H):=bz.or pX pV
end
end
section
open PySem PySem.Spec PyProof.Rows L2
def tys:List String:=["NoneType", "bool", "int", "str", "tuple", "list"]
def uv:List String:=["bool", "int", "str", "tuple", "list", "dict"]
theorem wg (K:PySem.W.Frag):∀ t∈tys,∀ c∈uv,PySem.W.kitOne K (.type t) (.type c)=some (aZ t c):=by
  intro t ht c hc
  simp only[tys,List.mem_cons,List.not_mem_nil,or_false] at ht
  simp only[uv,List.mem_cons,List.not_mem_nil,or_false] at hc
  rcases ht with rfl | rfl | rfl | rfl | rfl | rfl<;>rcases hc with rfl | rfl | rfl | rfl | rfl | rfl<;>with_unfolding_all rfl
theorem HL {d:D}{t:String}(h:tyD d=some t):t∈tys:=by
  cases d<;>simp[tyD] at h<;>subst h<;>decide
def Fe (K:PySem.W.Frag):List V→Hp→VK→Prop:=fun xs H Q=>∃ x d t c,xs=[x,.ty c]∧Dp K H x d∧tyD d=some t∧c∈uv∧Q (.bl (aZ t c)) H
theorem Co {X:Cx}:bz X (.builtin "isinstance") (Fe X.K):=fun pins s σ H xs us Q I rx ⟨x,d,t,c,ex,px,et,hc,q⟩=>by
  subst ex
  cases rx with | @cons _ u _ _ r1 r2=>cases r2 with | cons r2 r3=>
  cases r3
  cases (show _=Value.type c from r2)
  have e:=wg X.K t (HL et) c hc
  have fin:∀ tk,EP X pins σ Q (.bool (aZ t c)) { s with toks:=tk }:=fun tk=>⟨.bl _,H,I.tok tk,rfl,q⟩
  cases px with
  | non=>cases et;cases (show u=Value.none from r1);exact PySem.W.kia_one PySem.W.kitx_none I.kIn True.intro e (fun z=>nomatch z) fin
  | bl y=>cases et;cases (show u=Value.bool y from r1);exact PySem.W.kia_one PySem.W.kitx_bool I.kIn True.intro e (fun z=>nomatch z) fin
  | int i=>cases et;obtain ⟨t,z⟩:=(show ∃ t,u=Value.int i t from r1);cases z;exact PySem.W.kia_one PySem.W.kitx_int I.kIn True.intro e (fun z=>nomatch z) fin
  | str y=>cases et;obtain ⟨t,z⟩:=(show ∃ t,u=Value.str y t from r1);cases z;exact PySem.W.kia_one PySem.W.kitx_str I.kIn True.intro e (fun z=>nomatch z) fin
  | ty _=>cases et
  | obj _=>cases et
  | @tup a xs ds sq l=>
    cases et
    cases (show u=Value.ref a from r1)
    obtain ⟨its,_,⟨o,h1,h2,_⟩,_⟩:=I.tuple sq
    exact PySem.W.kia_one PySem.W.kitx_tuple I.kIn ⟨o,h1,h2⟩ e (fun z=>nomatch z) fin
  | @ls a xs ds sq l=>
    cases et
    cases (show u=Value.ref a from r1)
    obtain ⟨its,_,⟨o,n,h1,h2,_⟩,_⟩:=I.list sq.sq
    exact PySem.W.kia_one PySem.W.kitx_list I.kIn ⟨o,h1,h2⟩ e (fun z=>nomatch z) fin
section
variable {X:Cx} {a b c e tg o:Expr} {Ta Tb Tc:ETr} {pos:Pos} {es:List Expr} {At:ATr} {x:Str} {p:Pos} {id T:String} {st:Stmt} {rest:List Stmt} {T1 T2:STr} {tA:TTr}
theorem aN:LSs X [] a9:=⟨_,DH,fun σ H ρ μ E E' rl h k=>k.nx _ _ _ _ (.refl H) rl h⟩
theorem aj (h1:LS X st T1)(h2:LSs X rest T2):LSs X (st::rest) (aH T1 T2):=by
  obtain ⟨t1,p1,s1⟩:=h1.ex
  obtain ⟨t2,p2,s2⟩:=h2.ex
  exact ⟨_,zT p1 p2,fun σ H ρ μ E E' rl h k=>s1 σ H ρ μ _ _ rl h ⟨fun σ' H' ρ' μ' t' r' q=>s2 σ' H' ρ' μ' E E' r' q (k.go t'),k.rt,k.bk,k.ct⟩⟩
theorem av (h1:LS X st T1):LSs X [st] T1:=by
  obtain ⟨t1,p1,s1⟩:=h1.ex
  exact ⟨_,CV p1,s1⟩
theorem qg (he:LE X e Ta)(hs:swapsWith e none pos.line X.env=pure false:=by rfl):LS X (.Expr e pos) (jK Ta):=by
  obtain ⟨ta,pa,sa⟩:=he.ex
  exact ⟨_,D9 pa hs,fun σ H ρ μ E E' rl h k=>sa σ H ρ μ _ _ rl h fun v H' d μ' t' m' p' h'=>k.nx _ _ _ _ t' (rl.go t' m') h'⟩
theorem az (he:LE X e Ta):LS X (.Return (some e) pos) (aP Ta):=by
  obtain ⟨ta,pa,sa⟩:=he.ex
  exact ⟨_,Hh pa,fun σ H ρ μ E E' rl h k=>sa σ H ρ μ _ _ rl h k.rt⟩
theorem bh {sa sb:List Stmt}(hc:LT X c tA)(ha:LSs X sa T1)(hb:LSs X sb T2):LS X (.If c sa sb pos) (bV tA T1 T2):=by
  obtain ⟨tc,pc,sc⟩:=hc.ex
  obtain ⟨t1,p1,s1⟩:=ha.ex
  obtain ⟨t2,p2,s2⟩:=hb.ex
  refine ⟨_,JF pc p1 p2,fun σ H ρ μ E E' rl h k=>sc σ H ρ μ _ _ rl h fun q H1 μ1 t1' m1 h1=>?_⟩
  cases q with
  | true=>exact ue (s1 σ H1 ρ μ1 E E' (rl.go t1' m1) h1 (k.go t1'))
  | false=>exact vm (s2 σ H1 ρ μ1 E E' (rl.go t1' m1) h1 (k.go t1'))
theorem oa {K:PySem.W.Frag}(i:Nat):HM K (zO i) (ax i):=fun σ H ρ μ v d k k' rl p h q=>q _ _ _ _ (.refl H) (rl.set p i) h
theorem eV (i:Nat)(hN:X.N.Nodup)(hi:X.N[i]? = some x:=by rfl)(hx:Loc X.env.scope x:=by first | exact Or.inl rfl | exact Or.inr rfl)(hf:X.fn x=true∨X.env.scope.names.lookup x=some .local:=by first | exact .inl rfl | exact .inr rfl | assumption):LG X (.Name x pos) (ax i):=
  ⟨_,pJ hN hi hx hf,oa i⟩
theorem aA (i:Nat){pos':Pos}(hN:X.N.Nodup)(he:LE X e Ta)(hi:X.N[i]? = some x:=by rfl)(hx:Loc X.env.scope x:=by first | exact Or.inl rfl | exact Or.inr rfl)(hs:swapsWith e (some (.Name x pos')) pos.line X.env=pure false:=by rfl)
    (hf:X.fn x=true∨X.env.scope.names.lookup x=some .local:=by first | exact .inl rfl | exact .inr rfl | assumption):LS X (.Assign [.Name x pos'] e pos) (aV Ta (ax i)):=by
  obtain ⟨ta,pa,sa⟩:=he.ex
  exact ⟨_,Iu hN hi hx pa hs hf,fun σ H ρ μ E E' rl h k=>sa σ H ρ μ _ _ rl h fun v H' d μ' t' m' p' h'=>oa i σ H' ρ μ' v d _ _ (rl.go t' m') p' h' (k.go t').nx⟩
theorem Ar (i j:Nat){y:Str}{px py pt:Pos}{kt k2 pt2}(hc:X.calm=true)(hN:X.N.Nodup)(ha:LA X [a,b] At)(hi:X.N[i]? = some x:=by rfl)(hj:X.N[j]? = some y:=by rfl)(hij:i≠j:=by decide)
    (hx:X.env.scope.names.lookup x=some .local:=by rfl) (hy:X.env.scope.names.lookup y=some .local:=by rfl)
    (hw:swappedStores [.Tuple [.Name x px,.Name y py] kt pt] (.Tuple [a,b] k2 pt2) X.env=pure (some [x,y]):=by rfl)
    (hs:swapsWithSole [.Tuple [.Name x px,.Name y py] kt pt] (.Tuple [a,b] k2 pt2) pos.line X.env=pure false:=by rfl) :
    LS X (.Assign [.Tuple [.Name x px,.Name y py] kt pt] (.Tuple [a,b] k2 pt2) pos) (uR i j At):=by
  obtain ⟨ta,pa,sa⟩:=ha.ex
  refine ⟨_,Ht hc hN hi hj hij hx hy pa hw hs,fun σ H ρ μ E E' rl h k=>sa σ H ρ μ _ _ rl h fun vs H' ds μ' t' m' p' h'=>?_⟩
  unfold L3.k2 at h'
  split at h'
  · rename_i dv dw
    cases p' with | cons p1 p2=>cases p2 with | cons p2 p3=>
    cases p3
    exact ⟨_,_,rfl,k.nx _ _ _ _ t' (((rl.go t' m').set p1 i).set p2 j) h'⟩
  · exact False.elim h'
theorem sk {Tk':ETr}{tpos:Pos}(ho:LE X o Ta)(hi:LE X b Tk')(he:LE X e Tb)
    (ha:∀ v,assign (.Subscript o b tpos) X.env v=(do
      let ov ← holding [v] (eval o X.env)
      let iv ← holding [v,ov] (eval b X.env)
      standAt tpos
      holding [v,ov,iv] (setItem ov iv v)
      release [v,ov,iv] []):=by intro _;rfl)
    (hs:swapsWithSole [.Subscript o b tpos] e pos.line X.env=pure false:=by rfl) (hw:swappedStores [.Subscript o b tpos] e X.env=pure none:=by rfl)
    (h1:(assignEach [.Subscript o b tpos] X.env).map (·.2)=[assign (.Subscript o b tpos) X.env]:=by rfl):LS X (.Assign [.Subscript o b tpos] e pos) (gH Ta Tk' Tb):=by
  obtain ⟨to,po,so⟩:=ho.ex
  obtain ⟨ti,pi,si⟩:=hi.ex
  obtain ⟨te,pe,se⟩:=he.ex
  refine ⟨_,HC pe (G3 po pi set_list ha) hs hw h1,fun σ H ρ μ E E' rl h k=>se σ H ρ μ _ _ rl h fun y H1 dy μ1 t1 m1 p1 h1=>so σ H1 ρ μ1 _ _ (rl.go t1 m1) h1 fun ov H2 dov μ2 t2 m2 p2 h2=>
    si σ H2 ρ μ2 _ _ (rl.go (t1.trans t2) m2) h2 fun iv H3 div μ3 t3 m3 p3 h3=>?_⟩
  cases p2 with
  | obj q=>
    cases p3 with
    | int n=>
      obtain ⟨ds,e0,h3'⟩:=b8 h3
      obtain ⟨j,e1,h4⟩:=qO h3'
      obtain ⟨xs,ex,l⟩:=m3 q _ e0
      refine ⟨q,xs,n,j,rfl,rfl,ex,by rw[l.length];exact e1,?_⟩
      have t4:Tk H3 (L2.upd H3 q (.lst (xs.set j y))):=.upd (fun ys z=>by rw[ex] at z;cases z) fun o' u z=>by rw[ex] at z;cases z
      have t14:=t1.trans (t2.trans (t3.trans t4))
      refine k.nx _ _ ρ _ t14 (rl.go t14 (fun a' o' e'=>?_)) h4
      by_cases haq:a'=q
      · subst haq
        rw[aJ] at e';cases e'
        exact ⟨_,aG,(l.set (p1.mono (t2.trans t3)) j).mono t4⟩
      · rw[aY haq] at e'
        exact (m3 a' _ e').ne t4 haq
    | _=>exact False.elim h3
  | _=>cases p3<;>exact False.elim h3
theorem my {body:List Stmt}(hp:PassesOwn (model X.prog X.w) X.A X.env X.xe)(hc:LT X c tA)(hb:LSs X body T1):LS X (.While c body [] pos) (qW tA T1):=by
  obtain ⟨tc,pc,sc⟩:=hc.ex
  obtain ⟨t1,p1,s1⟩:=hb.ex
  refine ⟨_,AD hp pc p1,fun σ H ρ μ E E' rl h k=>?_⟩
  obtain ⟨P,m,h0,hs⟩:=h
  refine ⟨fun n σ' H'=>∃ ρ' μ',Tk H H'∧Rl X.K σ' H' ρ' μ'∧P ρ' μ'∧n=m ρ' μ',⟨_,ρ,μ,.refl H,rl,h0,rfl⟩,?_⟩
  rintro n σ1 H1 ⟨ρ1,μ1,t1',rl1,hP,rfl⟩
  refine sc σ1 H1 ρ1 μ1 _ _ rl1 (hs ρ1 μ1 hP) fun q H2 μ2 t2 m2 h2=>?_
  have t12:=t1'.trans t2
  cases q with
  | true=>
    refine ue ⟨fun σ' H'=>∃ ρ' μ',Tk H H'∧Rl X.K σ' H' ρ' μ'∧P ρ' μ'∧m ρ' μ' < m ρ1 μ1,fun σ' H' ⟨ρ',μ',a1,a2,a3,a4⟩=>⟨_,a4,ρ',μ',a1,a2,a3,rfl⟩,?_⟩
    have h2':=h2
    refine s1 σ1 H2 ρ1 μ2 _ _ (rl1.go t2 m2) h2' ⟨fun σ' H' ρ' μ' t' r' q=>⟨ρ',μ',t12.trans t',r',q.1,q.2⟩,(k.go t12).rt,(k.go t12).nx,fun σ' H' ρ' μ' t' r' q=>⟨ρ',μ',t12.trans t',r',q.1,q.2⟩⟩
  | false=>exact vm (k.nx _ _ _ _ t12 (rl1.go t2 m2) h2)
end
def lift (K:PySem.W.Frag)(sp:FSp):Sp:=fun vs H Q _=>∃ ds μ QQ,DpL K H vs ds∧bI K H μ∧sp ds μ QQ∧fN K H QQ Q
def RT (Q:DK):DK:=fun d μ'=>∃ μ,Sub μ μ'∧Q d μ
def ini (n:Nat)(ds:List D):ST:=ds.map some++List.replicate (n - ds.length) none
theorem Gr:∀ (ds:List D) (n i:Nat) (d:D),lk (ini n ds) i=some d→ds[i]? = some d:=by
  intro ds
  have rep:∀ m i (d:D),lk (List.replicate m none) i=some d→False:=by
    intro m
    induction m with
    | zero=>intro i d h;cases i<;>cases h
    | succ m ih=>intro i d h;cases i with
      | zero=>cases h
      | succ i=>exact ih i d h
  have gen:∀ (ds:List D) m i d,lk (ds.map some++List.replicate m none) i=some d→ds[i]? = some d:=by
    intro ds
    induction ds with
    | nil=>intro m i d h;exact (rep m i d h).elim
    | cons x r ih=>intro m i d h;cases i with
      | zero=>simpa[lk] using h
      | succ i=>simpa using ih m i d h
  exact fun n i d h=>gen ds _ i d h
section
variable {P:Program} {w:World} {K:PySem.W.Frag} {mg:Str→Option Value} {base:Heap}
theorem EY {x qual:Str}{st:Stmt}{f:Addr}{fd:FuncData}{N ps:List Str}{k:Nat}{sp:FSp}{T:STr}(F:Fun K x qual st f fd)(S:aD N ps (au st))(len:∀ ds μ Q,sp ds μ Q→ds.length=ps.length)
    (hb:∀ (cdv:Value) (A:Around) (outer:List Env) (s:Shared) (H:Hp) (E:XK),cO k (A.deeper (envOfC qual (au st) s.heap.objs.size f cdv))→
      LSs (rz CX0 P w K mg base N qual (au st) f cdv A outer s H E).nox (dz st) T)
    (hr:∀ ds μ Q,sp ds μ Q→T { nx:=fun _ μ'=>RT Q .non μ',rt:=RT Q } (ini N.length ds) μ):fo P w K mg base CX0 (k+1) f fd ps (lift K sp):=by
  refine F.ok S (fun vs H Q E h=>?_) (fun cdv A outer s H vs Q E hroom h=>?_)
  · obtain ⟨ds,μ,QQ,l,m,h1,k⟩:=h
    rw[l.length];exact len ds μ QQ h1
  · obtain ⟨ds,μ,QQ,l,m,h1,k⟩:=h
    obtain ⟨t,pt,stt⟩:=(hb cdv A outer s H E hroom).ex
    have hl:vs.length=ds.length:=l.length
    refine ⟨t,pt,stt (L2.start N vs) H (ini N.length ds) μ _ _ ⟨?_,fun i d e=>?_,m⟩ (hr ds μ QQ h1) ⟨fun σ' H' ρ' μ' t' r' q=>?_,fun v H' d μ' t' m' p' q=>?_,fun _ _ _ _ _ _ q=>q,fun _ _ _ _ _ _ q=>q⟩⟩
    · unfold ini L2.start;simp[hl]
    · have e':=Gr ds _ i d e
      obtain ⟨v,e1,p⟩:=l.get e'
      refine ⟨v,?_,p⟩
      unfold L2.start
      have hi:i < vs.length:=(List.getElem?_eq_some_iff.mp e1).1
      rw[List.getElem?_append_left (by simpa using hi),List.getElem?_map,e1]
      rfl
    · obtain ⟨μ2,s2,q2⟩:=q
      exact k _ _ _ μ2 t' (r'.mu.sub s2) .non q2
    · obtain ⟨μ2,s2,q2⟩:=q
      exact k _ _ _ μ2 t' (m'.sub s2) p' q2
end
section
variable {X:Cx} {k:Nat} {f:Addr} {fd:FuncData} {ps:List Str} {sp:FSp} {x:Str} {p pos:Pos} {e:Expr} {es:List Expr} {At:ATr}
theorem CH (F:fo X.prog X.w X.K X.mg X.base CX0 k f fd ps (lift X.K sp))(hr:cO k X.A)(hg:Gl X x)(hm:X.mg x=some (.ref f))(hk:PySem.W.keepIn X.K (.ref f)=true)(hb:Binds X.K fd ps [])
    (ha:LA X (e::es) At) (hdb:(x == ("__debug__" : Str))=false:=by decide) (he:starEach (e::es) X.env=(false,eval e X.env)::starEach es X.env:=by rfl) (hpl:(backTo pos (starEach es X.env)).any (·.1)=false:=by rfl) :
    LE X (.Call (.Name x p) (e::es) [] pos) (ao sp At):=by
  obtain ⟨ta,pa,sa⟩:=ha.ex
  refine ⟨_,Ee F hr hg hm hk hb .nil KY pa hdb he hpl,fun σ H ρ μ Q Q' rl h k=>sa σ H ρ μ _ _ rl h fun xs H1 ds μ1 t1 m1 p1 h1=>?_⟩
  rw[List.append_nil]
  exact ⟨ds,μ1,Q,p1,m1,h1,k.go t1⟩
end
end
section
open PySem PySem.Spec PyProof.Rows L2
theorem DpL.ints {K:PySem.W.Frag}{H:Hp}:∀ ns:List Int,DpL K H (ns.map V.int) (ns.map D.int)
  | []=>.nil
  | n::r=>.cons (.int n) (DpL.ints r)
theorem SqF.only {K:PySem.W.Frag}{H:Hp}{a:Addr}{xs:List V}(hO:Ed H)(h:SqL K H a xs):SqF K H a xs:=by
  rcases h with (h | h) | h
  · rcases hO a with z | ⟨o,ys,z⟩
    · rw[h] at z;cases z
    · rw[h] at z;cases z
  · exact .inl h
  · exact .inr h
theorem KQ {l:PySem.W.OpenLaw}{k:Nat}{q:Program}{loose:List Str}{XP:(Str→Option Value)→Heap→Prop}{YP:World→Heap→Prop}{d:DefRec}{K:Params→PySem.W.Frag}{sp:FSp}{x:Str}
    (hn:l.most=some 63) (hdf:d.params.defaults=[]) (hr:cO k callerA) (hY:∀ (w:World) (h:Heap),YP w h→(K w.params).In h)
    (hl:∀ ns:List Int,ns.length≤63→∀ μ,sp [.ls (ns.map .int)] μ (fun d _=>d=.bl true))
    (F:∀ (w:World) (mg:Str→Option Value) (fa:Addr) (h:Heap),(K w.params).In h→h.Ns mainGlobals mg→mg d.name=some (.ref fa)→
      ∃ fd:FuncData,(∀ (s:Shared) (u:Value),BindsTo s fd ⟨[u],[]⟩ [(x,u)])∧∀ base:Heap,(K w.params).In base→base.Ns mainGlobals mg→fo l.prog w (K w.params) mg base CX0 k fa fd [x] (lift (K w.params) sp)) :
    PySem.W.WalkO q loose XP YP l.row.toRowW d [] (fun f vs=>PySem.call f vs):=
  L2.DZ (n:=63) (k:=k) (x:=x) (CX:=fun _=>CX0) (sp:=fun w=>lift (K w.params) sp) hn (by decide) hdf hr hY F
    (fun w H a ns hl' hO hS=>⟨[.ls (ns.map .int)],fun _=>none,_,.cons (.ls (.only hO hS) (.ints ns)) .nil,(fun a o e=>by cases e),hl ns hl' _,fun v H' d μ' _ _ p e=>by
      have e':d=.bl true:=e
      subst e'
      cases p;rfl⟩) fun _ _ _ _ _ z=>z
end
section
open PySem PySem.Spec PyProof.Rows L2
structure aL (P:Program) (w:World) (K:PySem.W.Frag) (mg:Str→Option Value) (base:Heap) (k:Nat) (x:Str) (ps:List Str) (sp:FSp):Prop where
  ex:∃ f fd,fo P w K mg base CX0 k f fd ps (lift K sp)∧mg x=some (.ref f)∧PySem.W.keepIn K (.ref f)=true∧Binds K fd ps []
section
variable {P:Program} {w:World} {K:PySem.W.Frag} {mg:Str→Option Value} {base:Heap}
theorem aI {x qual:Str}{st:Stmt}{f:Addr}{fd:FuncData}{N ps:List Str}{k:Nat}{sp:FSp}{T:STr}(m:mg x=some (.ref f))(F:Fun K x qual st f fd)(S:aD N ps (au st))(len:∀ ds μ Q,sp ds μ Q→ds.length=ps.length)
    (hr:∀ ds μ Q,sp ds μ Q→T { nx:=fun _ μ'=>RT Q .non μ',rt:=RT Q } (ini N.length ds) μ)
    (b:∀ (kV doc pm:Value) (an:Option Addr) (cdv ct:Value) (us:List Value),us.length=ps.length→bindArgs (PySem.W.fnOf x qual (iE st) (dz st) (au st) .none kV doc pm an cdv ct) ⟨us,[]⟩=pure (ps.zip us))
    (hb:∀ (cdv:Value) (A:Around) (outer:List Env) (s:Shared) (H:Hp) (E:XK),cO k (A.deeper (envOfC qual (au st) s.heap.objs.size f cdv))→(A.deeper (envOfC qual (au st) s.heap.objs.size f cdv)).units+64 < cLine→
      LSs (rz CX0 P w K mg base N qual (au st) f cdv A outer s H E).nox (dz st) T):aL P w K mg base (k+1) x ps sp:=
  ⟨f,fd,EY F S len (fun cdv A outer s H E h=>hb cdv A outer s H E h h.units) hr,m,F.kp,F.binds b⟩
end
theorem ai {X:Cx}{k n:Nat}{x:Str}{ps:List Str}{sp:FSp}{e:Expr}{es:List Expr}{At:ATr}{p pos:Pos}(C:aL X.prog X.w X.K X.mg X.base k x ps sp)(hr:cO n X.A)(hg:Gl X x)
    (ha:LA X (e::es) At) (hle:k≤n:=by decide) (hdb:(x == ("__debug__" : Str))=false:=by decide) (he:starEach (e::es) X.env=(false,eval e X.env)::starEach es X.env:=by rfl) (hpl:(backTo pos (starEach es X.env)).any (·.1)=false:=by rfl) :
    LE X (.Call (.Name x p) (e::es) [] pos) (ao sp At):=by
  obtain ⟨f,fd,F,m,kp,b⟩:=C.ex
  exact CH F (hr.mono hle) hg m kp b ha hdb he hpl
end
section
open PySem PySem.Spec PyProof.Rows L2
def cf (X:Cx)(scope:Scope)(Nc:List Str)(cl:List (Str×Addr))(C:Addr)(s₀:Shared)(H₀:Hp)(ex:List Addr):Cx:=
  { X with env:=compEnvC scope cl C X.env,N:=Nc,s₀:=s₀,H₀:=H₀,outer:=X.stack,ex:=ex,fn:=fun _=>false,pn:=[] }
theorem ua {scope:Scope}{env:Env}(h:∀ y∈scope.names,y.2=.free→∃ c,env.cells.lookup y.1=some c) :
    ∃ cl,closureFor scope env=pure cl∧(∀ x c,cl.lookup x=some c→env.cells.lookup x=some c)∧∀ y∈scope.names,y.2=.free→∃ c,cl.lookup y.1=some c:=by
  have gen:∀ (ns:List (Str×NameKind)) (cs:List (Str×Addr)),(∀ y∈ns,y.2=.free→∃ c,env.cells.lookup y.1=some c)→(∀ x c,cs.lookup x=some c→env.cells.lookup x=some c)→
      ∃ cl,(forIn ns cs fun x r=>if (x.2 == NameKind.free)=true then do let c ← cellOf env x.1;pure (ForInStep.yield ((x.1,c)::r)) else pure (ForInStep.yield r):Sem _)=pure cl∧(∀ x c,cl.lookup x=some c→env.cells.lookup x=some c)∧
        (∀ x,(cs.lookup x).isSome=true→(cl.lookup x).isSome=true)∧∀ y∈ns,y.2=.free→∃ c,cl.lookup y.1=some c:=by
    intro ns
    induction ns with
    | nil=>intro cs _ h2;exact ⟨cs,rfl,h2,fun _ z=>z,fun _ z=>nomatch z⟩
    | cons y r ih=>
      intro cs h1 h2
      obtain ⟨n,k⟩:=y
      by_cases hk:k=.free
      · subst hk
        obtain ⟨c,hc⟩:=h1 (n,.free) List.mem_cons_self rfl
        have h2':∀ x c',((n,c)::cs).lookup x=some c'→env.cells.lookup x=some c':=fun x c' e=>by
          rw[List.lookup_cons] at e
          split at e
          · rename_i hx
            cases e
            have:x=n:=by simpa using hx
            subst this;exact hc
          · exact h2 x c' e
        obtain ⟨cl,e1,e2,e3,e4⟩:=ih ((n,c)::cs) (fun y hy=>h1 y (List.mem_cons_of_mem _ hy)) h2'
        refine ⟨cl,?_,e2,fun x hx=>e3 x ?_,fun y hy hf=>?_⟩
        · rw[List.forIn_cons]
          have:cellOf env n=pure c:=by unfold cellOf;rw[hc]
          simp only[beq_self_eq_true,if_true,this,pure_bind]
          exact e1
        · rw[List.lookup_cons];split
          · rfl
          · exact hx
        · obtain rfl | hy:=List.mem_cons.mp hy
          · have:(cl.lookup n).isSome=true:=e3 n (by simp[List.lookup_cons])
            exact Option.isSome_iff_exists.mp this
          · exact e4 y hy hf
      · obtain ⟨cl,e1,e2,e3,e4⟩:=ih cs (fun y hy=>h1 y (List.mem_cons_of_mem _ hy)) h2
        refine ⟨cl,?_,e2,e3,fun y hy hf=>?_⟩
        · rw[List.forIn_cons]
          have:(k == NameKind.free)=false:=by simpa using hk
          simp only[this,Bool.false_eq_true,if_false,pure_bind]
          exact e1
        · obtain rfl | hy:=List.mem_cons.mp hy
          · exact absurd hf hk
          · exact e4 y hy hf
  obtain ⟨cl,e1,e2,_,e4⟩:=gen scope.names [] h fun x c e=>by cases e
  refine ⟨cl,?_,e2,e4⟩
  show ((forIn scope.names ([]:List (Str×Addr)) fun x r=>if (x.2 == NameKind.free)=true then do let c ← cellOf env x.1;pure (ForInStep.yield ((x.1,c)::r)) else pure (ForInStep.yield r):Sem _) >>= fun s=>pure s)=pure cl
  rw[e1]
  rfl
def Cs (Y:Cx)(ifs:List Expr)(t:TT):Prop:=
  ∀ (pins:List (Addr×Obj)) (s:Shared) (σ:L2.St) (H:Hp) (Q:Bool→Hp→Prop),Inv Y pins σ H s→t σ H Q→
    wpAny (model Y.prog Y.w) Y.A (forIn ifs true fun c r=>if r=true then do let ok ← isTrue c Y.env (eval c Y.env);pure (ForInStep.yield ok) else pure (ForInStep.yield r)) (TP Y pins σ Q) Y.xe s
def LJ:TT:=fun _ H Q=>Q true H
theorem De {Y:Cx}:Cs Y [] LJ:=fun pins s σ H Q I h=>wpAny_tests_nil ⟨H,I,h⟩
theorem C9 {Y:Cx}{c:Expr}{t:TT}(h:PT Y c t):Cs Y [c] t:=fun pins s σ H Q I hh=>wpAny_tests_one (h pins s σ H Q I hh)
def hC (σ:L2.St)(n:Nat)(caps:List Nat):L2.St:=List.replicate n none++caps.map fun i=>(σ[i]?).join
def Wk (σ' σ:L2.St):Prop:=σ'.length=σ.length∧∀ (i:Nat) v,σ'[i]? = some (some v)→σ[i]? = some (some v)
def E6 (wi:TI)(g:TG)(tt:TT)(te:TE)(n:Nat)(caps:List Nat):TE:=fun σ H Q=>wi σ H fun J H1=>∀ D,H1 D=none→
  ∃ W:Nat→Nat→List V→Hp→Prop,(∃ m,W 0 m [] (L2.upd H1 D (.lst [])))∧∀ i m ys H2,W i m ys H2→
    (J.stop i H2∧Q (.ref D) H2)∨(J.go i H2∧∃ N:List V→Hp→Prop,(∀ ys' H',N ys' H'→∃ m',m' < m∧W (i+1) m' ys' H')∧
      ∀ x H3,J.yld i H2 x H3→g x (hC σ n caps) H3 fun σ4 H4=>Wk (hC σ n caps) σ4∧tt σ4 H4 fun b H5=>if b=true then te σ4 H5 fun y H6=>∃ zs,H6 D=some (.lst zs)∧zs.length < sizeLine∧N (zs++[y]) (L2.upd H6 D (.lst (zs++[y]))) else N ys H5)
theorem yu {prog:Program}{w:World}{A:Around}{R:Result→Shared→Prop}{s:Shared}{elt target iter:Expr}{ifs:List Expr}{scope:Scope}{pos:Pos}{it acc:Value}{env:Env}(J:Nat→Shared→Prop)
    (turn:∀ n s,J n s→wpAny (model prog w) A (pyNext it) (fun o t₁=>match o with
      | none=>R (.ok .next) t₁
      | some v=>wpAny (model prog w) A (letOwnedTupleGo target it v) (fun _ t₁=>wpAny (model prog w) A (assign target env v) (fun _ t₂=>
          wpAny (model prog w) A (forIn ifs true fun c r=>
            if r=true then do let ok ← isTrue c env (eval c env);pure (ForInStep.yield ok) else pure (ForInStep.yield r)) (fun ok t₃=>
            if ok=true then wpAny (model prog w) A (eval elt env) (fun x t₄=>
              wpAny (model prog w) A (call (.builtin "list.append") [acc,x]) (fun _ t₅=>∃ m,m < n∧J m t₅) (fun _ _=>False) t₄) (fun _ _=>False) t₃
            else ∃ m,m < n∧J m t₃) (fun _ _=>False) t₂) (fun _ _=>False) t₁) (fun _ _=>False) t₁) (fun _ _=>False) s)
    (n:Nat) (h:J n s):codeAny (model prog w) A (.compLoop (.ListComp elt [⟨target,iter,ifs,0⟩] scope pos) 0 it acc env) R s:=by
  refine codeAny_loop rfl J (fun n s hJ=>?_) n h
  show wpAny _ A ((compTurn (.ListComp elt [⟨target,iter,ifs,0⟩] scope pos) 0 it acc env).onRaise
    (fun x=>do noteFrame x env;theTreesLotGoes x)) _ _ s
  refine wpAny_noted ?_
  rw[compTurn_list]
  refine wpAny_bind (wpAny_standAt (wpAny_bind (wpAny_mono (turn n s hJ) (fun r t₁ g₁=>?_) fun _ _ h'=>h'.elim)))
  cases r with
  | none=>exact wpAny_pure g₁
  | some v=>
    refine wpAny_bind (wpAny_mono g₁ (fun _ t₁' g₁'=>?_) fun _ _ h'=>h'.elim)
    refine wpAny_bind (wpAny_mono g₁' (fun _ t₂ g₂=>wpAny_bind (wpAny_mono g₂ (fun ok t₃ g₃=>?_) fun _ _ h'=>h'.elim)) fun _ _ h'=>h'.elim)
    cases ok with
    | false=>exact wpAny_pure ⟨rfl,g₃⟩
    | true=>
      exact wpAny_bind (wpAny_bind (wpAny_mono g₃ (fun x t₄ g₄=>wpAny_bind (wpAny_mono g₄ (fun _ t₅ g₅=>wpAny_pure (wpAny_pure ⟨rfl,g₅⟩)) fun _ _ h'=>h'.elim)) fun _ _ h'=>h'.elim))
theorem me {σ:L2.St}{n:Nat}{caps:List Nat}{i:Nat}{v:V}(h:(hC σ n caps)[i]? = some (some v)):∃ j k,i=n+j∧caps[j]? = some k∧σ[k]? = some (some v):=by
  unfold hC at h
  by_cases hi:i < n
  · rw[List.getElem?_append_left (by simpa using hi),List.getElem?_replicate,if_pos hi] at h
    cases h
  · rw[List.getElem?_append_right (by simpa using hi)] at h
    rw[List.length_replicate,List.getElem?_map] at h
    cases e:caps[i - n]? with
    | none=>rw[e] at h;cases h
    | some k=>
      rw[e] at h
      have h':(σ[k]?).join=some v:=Option.some.inj h
      cases e2:σ[k]? with
      | none=>rw[e2] at h';cases h'
      | some o=>
        rw[e2] at h'
        have h'':o=some v:=h'
        subst h''
        exact ⟨i - n,k,by omega,e,e2⟩
theorem cR {env:Env}(hk:env.scope.kind=.function):∀ {names:List (Str×NameKind)} {x:Str},env.kindOf x=some .cell→names.lookup x=some .free→
    (names.map fun (n,k)=>if (k == NameKind.free&&env.scope.kind == .function&&env.kindOf n == some .cell) then (n,NameKind.cell) else (n,k)).lookup x=some .cell
  | [],_,_,h=>by simp at h
  | (n,k)::r,x,hc,h=>by
    have ih:=@cR env hk r x hc
    show List.lookup x ((if (k == NameKind.free&&env.scope.kind == .function&&env.kindOf n == some .cell)=true
      then (n,NameKind.cell) else (n,k))::_)=_
    cases hx:x == n with
    | true=>
      simp only[hx,List.lookup_cons] at h
      cases h
      have e:x=n:=by simpa using hx
      subst e
      simp[List.lookup_cons,hk,hc]
    | false=>
      simp only[hx,List.lookup_cons] at h
      by_cases hcc:(k == NameKind.free&&env.scope.kind == .function&&env.kindOf n == some .cell)=true
      · rw[if_pos hcc];simp only[List.lookup_cons,hx];exact ih h
      · rw[if_neg hcc];simp only[List.lookup_cons,hx];exact ih h
theorem jF {env:Env}:∀ {names:List (Str×NameKind)} {x:Str} {k':NameKind},(∀ y∈names,y.2≠.cell)→(k'=.cell∨k'=.free)→
    (x,k')∈(names.map fun (n,k)=>if (k == NameKind.free&&env.scope.kind == .function&&env.kindOf n == some .cell) then (n,NameKind.cell) else (n,k))→(x,NameKind.free)∈names:=by
  intro names x k' hn hk h
  obtain ⟨⟨n,k⟩,hm,e⟩:=List.mem_map.mp h
  dsimp only at e
  split at e
  · rename_i hc
    cases e
    have:k=.free:=by simp at hc;exact hc.1.1
    subst this;exact hm
  · cases e
    rcases hk with rfl | rfl
    · exact absurd rfl (hn _ hm)
    · exact hm
theorem xj {X:Cx}{tg iter elt:Expr}{ifs:List Expr}{scope:Scope}{pos:Pos}{wi:TI}{g:TG}{tt:TT}{te:TE}{Nc:List Str}{n:Nat}{caps:List Nat}
    (hxe:X.xe=fun _ _=>False) (hcalm:X.calm=true) (hi:PI X tg iter wi)
    (hbody:∀ (cl:List (Str×Addr)) (C:Addr) (s₀:Shared) (H₀:Hp) (ex:List Addr),PG (cf X scope Nc cl C s₀ H₀ ex) tg g∧Cs (cf X scope Nc cl C s₀ H₀ ex) ifs tt∧PE (cf X scope Nc cl C s₀ H₀ ex) elt te)
    (hfree:∀ y∈scope.names,y.2=.free→X.env.kindOf y.1=some .cell) (hcell:∀ y∈scope.names,y.2≠.cell) (lS:scope.kind=.function)
    (hnames:∀ y∈scope.names,y.2=.local→scope.names.lookup y.1=some .local) (hlen:Nc.length=n+caps.length)
    (hcap:∀ (j k:Nat),caps[j]? = some k→∃ x,Nc[n+j]? = some x∧X.N[k]? = some x∧scope.names.lookup x=some .free)
    (hs:∀ x,foldedSetIterable iter X.env x=pure x:=by intro _;rfl) :
    PE X (.ListComp elt [⟨tg,iter,ifs,0⟩] scope pos) (E6 wi g tt te n caps):=by
  intro pins s σ H Q I h
  rw[hxe]
  obtain ⟨cl,hclos,clin,clfree⟩:=ua (scope:=scope) (env:=X.env) fun y hy hf=>I.ok.has y.1 (.inl (hfree y hy hf))
  rw[eval_ListComp]
  refine wpAny_comprehension_free (use:=none) rfl hs hclos lS hnames ?_
  have hi':=hi pins s σ H _ I h
  rw[hxe] at hi'
  refine wpAny_mono hi' (fun xv s1 h1=>wpAny_mono h1 (fun itv s2 h2=>?_) fun _ _ z=>z) fun _ _ z=>z
  obtain ⟨it,fp,tn,J,H1,rfl,I2,T,st2,f2,hh⟩:=h2
  -- the new list
  refine wpAny_newObj_type ?_
  have hD:H1 s2.heap.objs.size=none:=I2.hok.fresh (Nat.le_refl _)
  obtain ⟨W,⟨m0,w0⟩,turn⟩:=hh _ hD
  have I3:Inv X pins σ (L2.upd H1 s2.heap.objs.size (.lst [])) { s2 with heap:=s2.heap.push { cls:=.type "list", dict:=none,data:=.seq ([]:List Value).toArray } }:=
    I2.laid (t':=s2.toks) (fun b u e=>Heap.get?_push_of_some _ e) (Nat.le_refl _) ⟨Nat.zero_le _,[],0,.nil,Heap.get?_push_size _ rfl⟩
  have k3:∀ b u,s2.heap.get? b=some u→(s2.heap.push { cls:=.type "list", dict:=none,data:=.seq ([]:List Value).toArray }).get? b=some u:=fun b u e=>Heap.get?_push_of_some _ e
  have fne:∀ b∈fp,b≠s2.heap.objs.size:=fun b hb=>by
    obtain ⟨o,ho,_⟩:=T.obj 0 _ st2 b hb
    exact Nat.ne_of_lt (Heap.lt_size ho)
  generalize eD:s2.heap.objs.size=D at *
  generalize eh3:s2.heap.push { cls:=.type "list", dict:=none,data:=.seq ([]:List Value).toArray }=h3 at *
  generalize eH3:L2.upd H1 D (.lst [])=H3 at *
  have st3:tn 0 h3:=T.keep 0 _ _ st2 fun b hb o e=>k3 b o e
  have f3:∀ b∈fp,sD X pins H3 b:=fun b hb=>⟨by rw[← eH3,aB (fne b hb)];exact (f2 b hb).1,(f2 b hb).2⟩
  have lt3:∀ b∈fp,b < h3.objs.size:=fun b hb=>by
    obtain ⟨o,ho,_⟩:=T.obj 0 _ st3 b hb
    exact Heap.lt_size ho
  generalize es3:({ s2 with heap:=h3 }:Shared)=s3 at *
  have hs3:s3.heap=h3:=by rw[← es3]
  refine wpAny_newFunctionEnv hcell (fun y hy=>(by cases hy)) (fun h4 hns hsb=>?_) lS
  show codeAny _ _ (.compStart _ 0 (.ref it) (.ref D) (compEnvC scope cl s3.heap.objs.size X.env)) (compPost _ _ _ none _ (.ref D) s3.heap.objs.size) _
  have k4:∀ b u,s3.heap.get? b=some u→h4.get? b=some u:=fun b u e=>hsb.extBut b u (Nat.ne_of_lt (Heap.lt_size e)) (Heap.get?_push_of_some _ e)
  have okY:(cf X scope Nc cl s3.heap.objs.size s3 H3 fp).Ok:=by
    refine ⟨I3.ok.mod,lS,I3.ok.glob,I3.ok.blt,Nat.le_refl _,fun x y c e1 e2=>I3.ok.inj x y c (clin _ _ e1) (clin _ _ e2),fun x hx=>?_,fun x c hf=>(by cases hf),I3.ok.hd,I3.ok.frames,.inl rfl,fun b hb=>⟨?_,fun x c e z=>?_⟩,I3.bs,Nat.le_trans I3.ok.bsz I3.sz,fun b o e hb=>?_,fun b hb hz=>?_,I3.stack,I3.wH⟩
    · have hx':(relabel scope X.env).names.lookup x=some .cell∨(relabel scope X.env).names.lookup x=some .free:=hx
      have hm:(x,NameKind.free)∈scope.names:=by
        rcases hx' with q | q
        · exact jF hcell (.inl rfl) (PySem.mem_of_lookup q)
        · exact jF hcell (.inr rfl) (PySem.mem_of_lookup q)
      exact clfree _ hm rfl
    · show b≠s3.heap.objs.size
      rw[hs3];exact Nat.ne_of_lt (lt3 b hb)
    · exact (f3 b hb).2.2.2.2.1 x c (clin _ _ e) z
    · rcases (f3 b hb).2.2.2.1 with z | z
      · exact I3.ok.Cb b o e z
      · exact absurd (Nat.lt_of_lt_of_le (Heap.lt_size e) (Nat.le_trans I3.ok.bsz z)) (Nat.lt_irrefl _)
    · rcases List.mem_cons.mp (I3.vb b hz) with z | z
      · exact (f3 b hb).2.1 z
      · exact (f3 b hb).2.2.1 z
  have Jd:∀ c v,s3.heap.IsCell c v→h4.IsCell c v:=fun c v ⟨o,ho,hd⟩=>⟨o,k4 c o ho,hd⟩
  have J0:Inv (cf X scope Nc cl s3.heap.objs.size s3 H3 fp) [] (hC σ n caps) H3 { s3 with heap:=h4,toks:=s3.toks+([]:List (Str×Value)).length }:=by
    refine ⟨okY,rfl,I3.bare,Un.kept k4,⟨_,hns,fun i x v e1 e2 e3=>?_⟩,fun x c e=>?_,I3.hok.fresh (Nat.le_refl _),fun x c e=>I3.fJ x c (clin _ _ e),(fun p hp=>(by cases hp)),I3.hok.kept k4,?_⟩
    · obtain ⟨j,k,rfl,ej,ek⟩:=me e2
      obtain ⟨x',n1,n2,n3⟩:=hcap j k ej
      have e1':Nc[n+j]? = some x:=e1
      rw[n1] at e1';cases e1'
      have hmem:(x,NameKind.free)∈scope.names:=PySem.mem_of_lookup n3
      have hcellx:X.env.kindOf x=some .cell:=hfree _ hmem rfl
      obtain ⟨m,hn,hl⟩:=I3.loc
      obtain ⟨u,ru,lk⟩:=hl k x v n2 ek (.inr (.inl hcellx))
      refine ⟨u,ru,.inr ⟨.inl (cR I3.ok.kind hcellx n3),?_⟩⟩
      rcases lk with ⟨q,_⟩ | ⟨_,c,ec,ic⟩
      · rw[hcellx] at q;cases q
      · obtain ⟨c',ec'⟩:=clfree _ hmem rfl
        have:=clin _ _ ec'
        rw[ec] at this;cases this
        exact ⟨c,ec',Jd _ _ ic⟩
    · obtain ⟨v,q⟩:=I3.cell x c (clin _ _ e)
      exact ⟨v,Jd _ _ q⟩
    · unfold hC
      show _=Nc.length
      rw[List.length_append,List.length_replicate,List.length_map,hlen]
  obtain ⟨pg,pifs,pelt⟩:=hbody cl s3.heap.objs.size s3 H3 fp
  generalize eY:cf X scope Nc cl s3.heap.objs.size s3 H3 fp=Y at *
  have yP:Y.prog=X.prog:=by rw[← eY];rfl
  have yw:Y.w=X.w:=by rw[← eY];rfl
  have yK:Y.K=X.K:=by rw[← eY];rfl
  have yA:Y.A=X.A:=by rw[← eY];rfl
  have yx:Y.xe=fun _ _=>False:=by rw[← eY];exact hxe
  have yc:Y.calm=true:=by rw[← eY];exact hcalm
  have ye:Y.env=compEnvC scope cl s3.heap.objs.size X.env:=by rw[← eY];rfl
  have yfs:Y.fs=frs X.stack:=by rw[← eY];rfl
  have yex:Y.ex=fp:=by rw[← eY];rfl
  have ys0:Y.s₀=s3:=by rw[← eY];rfl
  have yH0:Y.H₀=H3:=by rw[← eY];rfl
  have ypn:Y.pn=[]:=by rw[← eY];rfl
  have uQ:∀ {H':Hp},(∀ b∈fp,H' b=none)→∀ b∈fp,sD Y [] H' b:=fun hn b hb=>⟨hn b hb,by rw[ye];show b≠s3.heap.objs.size;rw[hs3];exact Nat.ne_of_lt (lt3 b hb),okY.Ad b (by rw[yex];exact hb),.inl (by rw[yex];exact hb),
    fun x c e=>by rw[ye] at e;exact (f3 b hb).2.2.2.2.1 x c (clin _ _ e),fun p hp=>by rw[ypn] at hp;exact nomatch hp⟩
  have tn4:∀ t,tn 0 ({ s3 with heap:=h4,toks:=t }:Shared).heap:=fun t=>T.keep 0 _ _ st3 fun b hb o e=>k4 b o (by rw[hs3];exact e)
  -- the end
  have fin:∀ (s5:Shared) (H5:Hp),Inv Y [] (hC σ n caps) H5 s5→Q (.ref D) H5→compPost (model X.prog X.w) X.A (fun _ _=>False) none (EP X pins σ Q) (.ref D) s3.heap.objs.size (.ok .next) s5:=fun s5 H5 I5 q5=>by
    obtain ⟨m,hn,_⟩:=I5.loc
    rw[ye] at hn
    refine ⟨m,hn,fun h6 hs6=>⟨.ref D,H5,?_,rfl,q5⟩⟩
    have nC:∀ b o,s3.heap.get? b=some o→b≠s3.heap.objs.size:=fun b o e=>Nat.ne_of_lt (Heap.lt_size e)
    have un:=I5.base
    rw[yfs,yex,yH0,ys0] at un
    have hfreeC0:=I5.free
    rw[ye] at hfreeC0
    have hfreeC:H5 s3.heap.objs.size=none:=hfreeC0
    refine I3.Ks (ch:=fp) (s':={ s5 with heap:=h6 }) (by have:=I5.os;rw[ys0] at this;exact this) ⟨fun b o e n1 n2 n3=>(hs6.2 b (nC b o e)).trans (un.keep b o e n1 n2 n3),fun b o e n1 n2 n3=>?_,un.free,fun b o e n1=>?_,un.iX,un.iF,un.i9⟩ (fun b u e=>?_) I5.bare fun b hb=>?_
    · obtain ⟨sl,q⟩:=un.slot b o e n1 n2 n3
      exact ⟨sl,(hs6.2 b (nC b o e)).trans q⟩
    · obtain ⟨o',q⟩:=un.there b o e n1
      exact ⟨o',(hs6.2 b (nC b o e)).trans q⟩
    · have hok5:=I5.hok
      rw[yP,yw] at hok5
      refine (hok5 b u e).jS (fun c w' hc q=>(hs6.2 c ?_).trans q) (fun _ q=>q) fun _ _ q=>q
      rintro rfl
      rcases hc with z | z
      · rw[← z,hfreeC] at e;cases e
      · rw[hfreeC] at z;cases z
    · exact ⟨(f3 b hb).2.2.2.1,(f3 b hb).2.1,(f3 b hb).2.2.2.2.1,(f3 b hb).2.2.2.2.2⟩
  have loop:codeAny (model X.prog X.w) X.A (.compLoop (.ListComp elt [⟨tg,iter,ifs,0⟩] scope pos) 0 (.ref it) (.ref D) (compEnvC scope cl s3.heap.objs.size X.env)) (compPost (model X.prog X.w) X.A (fun _ _=>False) none (EP X pins σ Q) (.ref D) s3.heap.objs.size)
      { s3 with heap:=h4,toks:=s3.toks+([]:List (Str×Value)).length }:=by
    refine yu (fun k s'=>∃ i ys H',Inv Y [] (hC σ n caps) H' s'∧tn i s'.heap∧(∀ b∈fp,H' b=none)∧W i k ys H') ?_ m0 ⟨0,[],H3,J0,tn4 _,fun b hb=>(f3 b hb).1,w0⟩
    rintro k s5 ⟨i,ys,H5,I5,st5,fr5,w5⟩
    rcases turn i k ys H5 w5 with ⟨stop,q⟩ | ⟨go,N,hN,step⟩
    · have d:=T.done Y yP yw yK yc i [] s5 _ H5 (fun _ _=>False) I5 (uQ fr5) st5 stop
      rw[yA] at d
      refine thn d fun r s6 ⟨hr,I6⟩=>?_
      subst hr
      exact fin s6 H5 I6 q
    · have d:=T.item Y yP yw yK yc i [] s5 _ H5 (fun _ _=>False) I5 (uQ fr5) st5 go
      rw[yA] at d
      refine thn d fun r s6 ⟨u,hr,h6⟩=>?_
      subst hr
      refine thn h6 fun _ s7 ⟨x,H7,I7,r7,y7,st7,fr7⟩=>?_
      have I7':=I7.pinned (uQ fr7) (T.obj _ _ st7)
      have a:=pg _ s7 _ H7 x u _ I7' r7 (step x H7 y7)
      rw[yP,yw,yA,yx,ye] at a
      refine thn a fun _ s8 ⟨σ8,H8,I8,wk,q8⟩=>?_
      have b:=pifs _ s8 σ8 H8 _ I8 q8
      rw[yP,yw,yA,yx,ye] at b
      have again:∀ {s9:Shared} {ys9:List V} {H9:Hp},Inv Y ([]++lD fp s7.heap) σ8 H9 s9→N ys9 H9→∃ m,m < k∧∃ i ys H',Inv Y [] (hC σ n caps) H' s9∧tn i s9.heap∧(∀ b∈fp,H' b=none)∧W i m ys H':=fun {s9 ys9 H9} I9 n9=>by
        obtain ⟨m',hm,w9⟩:=hN ys9 H9 n9
        have hp:∀ b∈fp,∀ o,s7.heap.get? b=some o→s9.heap.get? b=some o∧H9 b=none:=fun b hb o e=>
          ⟨(I9.pin (b,o) (List.mem_append_right _ (List.mem_append_right _ (eU hb e)))).1,(I9.pin (b,o) (List.mem_append_right _ (List.mem_append_right _ (eU hb e)))).2.1⟩
        refine ⟨m',hm,i+1,ys9,H9,I9.gR.weak wk.1 wk.2,T.keep _ _ _ st7 fun b hb o e=>(hp b hb o e).1,fun b hb=>?_,w9⟩
        obtain ⟨o,e,_⟩:=T.obj _ _ st7 b hb
        exact (hp b hb o e).2
      refine thn b fun ok s9 ⟨H9,I9,q9⟩=>?_
      cases ok with
      | false=>
        rw[if_neg Bool.false_ne_true] at q9 ⊢
        exact again I9 q9
      | true=>
        rw[if_pos rfl] at q9 ⊢
        have c:=pelt _ s9 σ8 H9 _ I9 q9
        rw[yP,yw,yA,yx,ye] at c
        refine thn c fun v s10 ⟨y,H10,I10,r10,zs,ez,lz,n10⟩=>?_
        have d:=o9 (X:=Y) _ s10 σ8 H10 (.ref D) [y] (.ref D) [v] (fun _ H'=>N (zs++[y]) H') I10 rfl (.cons r10 .nil) ⟨D,zs,y,rfl,rfl,ez,lz,n10⟩
        rw[yP,yw,yA,yx] at d
        exact thn d fun _ s11 ⟨_,H11,I11,_,q11⟩=>again I11 q11
  refine codeAny_compStart_list loop ?_
  exact T.self X.A 0 _ _ _ (tn4 _) loop
end
section
open PySem PySem.Spec PyProof.Rows L2
structure Bm (K:PySem.W.Frag) (J:It) (H1:Hp) (ds:List D):Prop where
  go:∀ i H',Tk H1 H'→i < ds.length→J.go i H'
  yld:∀ i H' x H'',Tk H1 H'→i < ds.length→J.yld i H' x H''→Tk H' H''∧(∃ d,ds[i]? = some d∧Dp K H'' x d)∧∀ μ,bI K H' μ→bI K H'' μ
  stop:∀ i H',Tk H1 H'→ds.length≤i→J.stop i H'
def J9 (K:PySem.W.Frag)(wi:TI)(It':ATr):Prop:=∀ σ H ρ μ (Q:List D→Mu→Prop) (R:It→Hp→Prop),Rl K σ H ρ μ→It' ρ μ Q→(∀ J H1 ds μ1,Tk H H1→bI K H1 μ1→Bm K J H1 ds→Q ds μ1→R J H1)→wi σ H R
structure LI (X:Cx) (tg iter:Expr) (It':ATr):Prop where
  ex:∃ wi,PI X tg iter wi∧J9 X.K wi It'
section
variable {X:Cx} {tg a b c e elt iter:Expr} {Ta Tb Te:ETr} {Tt:TTr} {pos:Pos} {It':ATr} {G:GTr}
theorem A4 {K:PySem.W.Frag}{H:Hp}{p:Addr}{xs:List V}{ds:List D}(q:SqT K H p xs)(l:DpL K H xs ds):Bm K (Itt K p) H ds where
  go:=fun i H' t hi=>by
    have hl:=l.length
    exact ⟨xs,xs[i],t.sqT q,by simp[show i < xs.length by omega]⟩
  yld:=fun i H' x H'' t hi ⟨e,y⟩=>by
    subst e
    have ex:=y xs (t.sqT q)
    obtain ⟨d,ed,p⟩:=l.get' ex
    exact ⟨.refl _,⟨d,ed,p.mono t⟩,fun _ m=>m⟩
  stop:=fun i H' t hi=>⟨xs,t.sqT q,by rw[l.length];exact hi⟩
theorem DM {K:PySem.W.Frag}{H:Hp}{p:Addr}{xs:List V}{ds:List D}(q:SqF K H p xs)(l:DpL K H xs ds):Bm K (Itl K p) H ds where
  go:=fun i H' t hi=>by
    have hl:=l.length
    exact ⟨xs,xs[i],(t.sqF q).sq,by simp[show i < xs.length by omega]⟩
  yld:=fun i H' x H'' t hi ⟨e,y⟩=>by
    subst e
    have ex:=y xs (t.sqF q).sq
    obtain ⟨d,ed,p⟩:=l.get' ex
    exact ⟨.refl _,⟨d,ed,p.mono t⟩,fun _ m=>m⟩
  stop:=fun i H' t hi=>⟨xs,(t.sqF q).sq,by rw[l.length];exact hi⟩
theorem gN (lo:Int)(n:Nat):(dJ lo n).length=n:=by unfold dJ;simp
theorem tJ {K:PySem.W.Frag}{H:Hp}(lo:Int)(n:Nat):Bm K (Itr lo n) H (dJ lo n) where
  go:=fun i H' t hi=>by rw[gN] at hi;exact hi
  yld:=fun i H' x H'' t hi ⟨e,y⟩=>by
    rw[gN] at hi
    subst e y
    exact ⟨.refl _,⟨.int (lo+i),by unfold dJ;simp[hi],.int _⟩,fun _ m=>m⟩
  stop:=fun i H' t hi=>by rw[gN] at hi;exact hi
def KG (a:ETr):ATr:=fun ρ μ Q=>a ρ μ fun x μ1=>match x with
  | .tup ds=>Q ds μ1
  | _=>False
def ILs (a:ETr):ATr:=fun ρ μ Q=>a ρ μ fun x μ1=>match x with
  | .ls ds=>Q ds μ1
  | _=>False
theorem jk {rp rpos:Pos}(hg:Gl X "range")(hm:X.mg "range" = none)(ha:LE X a Ta)(hs:starEach [a] X.env=[(false,eval a X.env)]:=by rfl):LI X tg (.Call (.Name "range" rp) [a] [] rpos) (dA Ta):=by
  obtain ⟨ta,pa,sa⟩:=ha.ex
  refine ⟨_,yk hg hm (cE pa fz hs) hs,fun σ H ρ μ Q R rl h k=>sa σ H ρ μ _ _ rl h fun x H1 d μ1 t1 m1 p1 h1=>?_⟩
  cases p1 with
  | int j=>
    obtain ⟨⟨h2,h3⟩,h4⟩:=h1
    exact ⟨j,rfl,by simpa using h2,by simpa using h3,k _ H1 _ μ1 t1 m1 (tJ 0 _) h4⟩
  | _=>exact False.elim h1
theorem KO {t1:TS}{T1:STr}{g:TG}{E:En}{E':Ends}{K:PySem.W.Frag}{H0 H1:Hp}{J:It}{ds:List D}(sg:HM K g G)(s1:C7 K t1 T1)(k:Aj K H0 E E')(Y:Bm K J H1 ds){σ:L2.St}{ρ:ST}{μ:Mu}(t0:Tk H0 H1)(rl:Rl K σ H1 ρ μ)(h:forR G T1 E ds ρ μ) :
    ∃ W:Nat→Nat→L2.St→Hp→Prop,(∃ m,W 0 m σ H1)∧∀ i m σ H,W i m σ H→
      (J.stop i H∧E'.nx σ H)∨(J.go i H∧∃ N:L2.St→Hp→Prop,(∀ σ' H',N σ' H'→∃ m',m' < m∧W (i+1) m' σ' H')∧∀ x H',J.yld i H x H'→g x σ H' fun σ2 H2=>t1 { E' with nx:=N,ct:=N,bk:=E'.nx } σ2 H2):=by
  refine ⟨fun i m σ' H'=>m=ds.length - i∧i≤ds.length∧Tk H1 H'∧∃ ρ' μ',Rl K σ' H' ρ' μ'∧forR G T1 E (ds.drop i) ρ' μ',⟨ds.length,by simp,Nat.zero_le _,.refl _,ρ,μ,rl,by simpa using h⟩,?_⟩
  rintro i m σ1 H2 ⟨rfl,hi,t12,ρ1,μ1,r1,h1⟩
  by_cases hlt:i < ds.length
  · refine .inr ⟨Y.go i H2 t12 hlt,fun σ' H'=>Tk H1 H'∧∃ ρ' μ',Rl K σ' H' ρ' μ'∧forR G T1 E (ds.drop (i+1)) ρ' μ',fun σ' H' ⟨t',ρ',μ',r',h'⟩=>⟨ds.length - (i+1),by omega,rfl,hlt,t',ρ',μ',r',h'⟩,fun x H3 y=>?_⟩
    obtain ⟨t23,⟨d,ed,pd⟩,mk⟩:=Y.yld i H2 x H3 t12 hlt y
    have e:ds.drop i=d::ds.drop (i+1):=by
      refine (List.drop_eq_getElem_cons hlt).trans ?_
      congr 1
      rw[List.getElem?_eq_getElem hlt] at ed
      exact Option.some.inj ed
    rw[e] at h1
    have t13:=t12.trans t23
    refine sg σ1 H3 ρ1 μ1 _ _ _ _ (r1.go t23 (mk _ r1.mu)) pd h1 fun σ4 H4 ρ4 μ4 t4 r4 h4=>?_
    have t14:=t13.trans t4
    have t04:=t0.trans t14
    exact s1 σ4 H4 ρ4 μ4 _ _ r4 h4 ⟨fun σ' H' ρ' μ' t' r' q=>⟨t14.trans t',ρ',μ',r',q⟩,(k.go t04).rt,(k.go t04).nx,fun σ' H' ρ' μ' t' r' q=>⟨t14.trans t',ρ',μ',r',q⟩⟩
  · have e:i=ds.length:=by omega
    subst e
    rw[List.drop_length] at h1
    exact .inl ⟨Y.stop _ H2 t12 (Nat.le_refl _),k.nx _ _ _ _ (t0.trans t12) r1 h1⟩
theorem gG {body:List Stmt}{T1:STr}(hp:PassesOwn (model X.prog X.w) X.A X.env X.xe)(hc:X.calm=true)(hi:LI X tg iter It')(hG:LG X tg G)(hb:LSs X body T1)(hf:∀ x,foldedSetIterable iter X.env x=pure x:=by intro _;rfl) :
    LS X (.For tg iter body [] pos) (j7 It' G T1):=by
  obtain ⟨wi,pi,si⟩:=hi.ex
  obtain ⟨g,pg,sg⟩:=hG.ex
  obtain ⟨t1,p1,s1⟩:=hb.ex
  exact ⟨_,FG hp hc pi pg p1 hf,fun σ H ρ μ E E' rl h k=>si σ H ρ μ _ _ rl h fun J H1 ds μ1 t1' m1 Y h1=>KO sg s1 k Y t1' (rl.go t1' m1) h1⟩
def xb (K:PySem.W.Frag)(T:ETr):TE:=fun σ H Q'=>∃ ρ μ Q,Rl K σ H ρ μ∧T ρ μ Q∧fN K H Q Q'
def liftT (K:PySem.W.Frag)(T:TTr):TT:=fun σ H Q'=>∃ ρ μ Q,Rl K σ H ρ μ∧T ρ μ Q∧∀ b H' μ',Tk H H'→bI K H' μ'→Q b μ'→Q' b H'
abbrev E1 (K:PySem.W.Frag)(n:Nat)(σ:L2.St)(H:Hp)(k:ST→Mu→Prop)(k':L2.St→Hp→Prop):Prop:=∀ σ' H' ρ' μ',Tk H H'→Rl K σ' H' ρ' μ'→(σ'.length=σ.length∧∀ j,n≤j→σ'[j]? = σ[j]?)→k ρ' μ'→k' σ' H'
def wx (K:PySem.W.Frag)(n:Nat)(G:GTr):TG:=fun v σ H k'=>∃ ρ μ d k,Rl K σ H ρ μ∧Dp K H v d∧G d ρ μ k∧E1 K n σ H k k'
theorem LE.pe (h:LE X e Te):PE X e (xb X.K Te):=by
  obtain ⟨t,p,s⟩:=h.ex
  exact fun pins st σ H Q I ⟨ρ,μ,Q0,rl,hT,k⟩=>p pins st σ H Q I (s σ H ρ μ Q0 Q rl hT k)
structure zG (X:Cx) (ifs:List Expr) (Tt:TTr):Prop where
  pe:Cs X ifs (liftT X.K Tt)
theorem du:zG X [] iW:=⟨fun pins s σ H Q I ⟨ρ,μ,Q0,rl,hT,k⟩=>De pins s σ H Q I (k true H μ (.refl H) rl.mu hT)⟩
theorem qU (h:LT X c Tt):zG X [c] Tt:=by
  obtain ⟨t,p,s⟩:=h.ex
  exact ⟨fun pins st σ H Q I ⟨ρ,μ,Q0,rl,hT,k⟩=>C9 p pins st σ H Q I (s σ H ρ μ Q0 Q rl hT k)⟩
structure LGc (X:Cx) (n:Nat) (tg:Expr) (G:GTr):Prop where
  pe:PG X tg (wx X.K n G)
theorem cJ {x:Str}{n:Nat}(i:Nat)(hN:X.N.Nodup)(hin:i < n:=by decide)(hi:X.N[i]? = some x:=by rfl)(hx:Loc X.env.scope x:=by first | exact Or.inl rfl | exact Or.inr rfl)(hf:X.fn x=true∨X.env.scope.names.lookup x=some .local:=by first | exact .inr rfl | exact .inl rfl | assumption):LGc X n (.Name x pos) (ax i):=
  ⟨fun pins s σ H v u k' I r ⟨ρ,μ,d,k,rl,p,h,post⟩=>pJ hN hi hx hf pins s σ H v u k' I r (post _ H _ μ (.refl H) (rl.set p i) ⟨by simp,fun j hj=>by rw[List.getElem?_set_ne (by omega)]⟩ h)⟩
theorem xh {K:PySem.W.Frag}{σ:L2.St}{H:Hp}{ρ:ST}{μ:Mu}(rl:Rl K σ H ρ μ)(n:Nat)(caps:List Nat):Rl K (hC σ n caps) H (gM ρ n caps) μ:=by
  refine ⟨by unfold hC gM;simp,fun i d e=>?_,rl.mu⟩
  have gen:∀ (n i:Nat),lk (List.replicate n none++caps.map (lk ρ)) i=some d→∃ j,i=n+j∧∃ k,caps[j]? = some k∧lk ρ k=some d:=by
    intro n
    induction n with
    | zero=>
      intro i h
      have h':lk (caps.map (lk ρ)) i=some d:=by simpa using h
      have g2:∀ (cs:List Nat) (i:Nat),lk (cs.map (lk ρ)) i=some d→∃ k,cs[i]? = some k∧lk ρ k=some d:=by
        intro cs
        induction cs with
        | nil=>intro i h;cases i<;>cases h
        | cons c r ih=>intro i h;cases i with
          | zero=>exact ⟨c,rfl,h⟩
          | succ i=>simpa using ih i h
      exact ⟨i,by omega,g2 caps i h'⟩
    | succ n ih=>
      intro i h
      cases i with
      | zero=>cases h
      | succ i=>
        obtain ⟨j,rfl,k,h1,h2⟩:=ih i h
        exact ⟨j,by omega,k,h1,h2⟩
  obtain ⟨j,rfl,k,h1,h2⟩:=gen n i e
  obtain ⟨v,h3,h4⟩:=rl.loc k d h2
  refine ⟨v,?_,h4⟩
  unfold hC
  rw[List.getElem?_append_right (by simp)]
  simp[h1,h3]
theorem C0 {ifs:List Expr}{scope:Scope}{Nc:List Str}{n:Nat}{caps:List Nat}(hxe:X.xe=fun _ _=>False)(hcalm:X.calm=true)(hi:LI X tg iter It')
    (hbody:∀ (cl:List (Str×Addr)) (C:Addr) (s₀:Shared) (H₀:Hp) (ex:List Addr),LGc (cf X scope Nc cl C s₀ H₀ ex) n tg G∧zG (cf X scope Nc cl C s₀ H₀ ex) ifs Tt∧LE (cf X scope Nc cl C s₀ H₀ ex) elt Te)
    (hfree:∀ y∈scope.names,y.2=.free→X.env.kindOf y.1=some .cell) (hcell:∀ y∈scope.names,y.2≠.cell) (lS:scope.kind=.function)
    (hnames:∀ y∈scope.names,y.2=.local→scope.names.lookup y.1=some .local) (hlen:Nc.length=n+caps.length)
    (hcap:∀ (j k:Nat),caps[j]? = some k→∃ x,Nc[n+j]? = some x∧X.N[k]? = some x∧scope.names.lookup x=some .free)
    (hs:∀ x,foldedSetIterable iter X.env x=pure x:=by intro _;rfl) :
    LE X (.ListComp elt [⟨tg,iter,ifs,0⟩] scope pos) (dk It' G Tt Te n caps):=by
  obtain ⟨wi,pi,si⟩:=hi.ex
  refine ⟨_,jo (xj (g:=wx X.K n G) (tt:=liftT X.K Tt) (te:=xb X.K Te) hxe hcalm pi (fun cl C s₀ H₀ ex=>let ⟨h1,h2,h3⟩:=hbody cl C s₀ H₀ ex;⟨h1.pe,h2.pe,h3.pe⟩) hfree hcell lS hnames hlen hcap hs),?_⟩
  intro σ H ρ μ Q Q' rl h k
  refine si σ H ρ μ _ _ rl h fun J H1 ds μ1 t1 m1 Y h1 D hD=>?_
  have hp:=h1 D (m1.free hD)
  have tD:Tk H1 (L2.upd H1 D (.lst [])):=.new hD
  have mD:bI X.K (L2.upd H1 D (.lst [])) (up μ1 D (.lst [])):=fun a o e=>by
    by_cases ha:a=D
    · subst ha
      rw[aJ] at e;cases e
      exact ⟨[],aG,.nil⟩
    · rw[aY ha] at e
      exact cg m1 hD a o e
  refine ⟨fun i m ys H2=>m=ds.length - i∧i≤ds.length∧Tk H1 H2∧∃ μ2,bI X.K H2 μ2∧eE D G Tt Te (gM ρ n caps) (fun μ'=>kL μ' D fun zs=>Q (.ls zs) (dn μ' D)) (ds.drop i) μ2,
    ⟨ds.length,by simp,Nat.zero_le _,tD,_,mD,by simpa using hp⟩,?_⟩
  rintro i m ys H2 ⟨rfl,hi,t12,μ2,m2,h2⟩
  by_cases hlt:i < ds.length
  · refine .inr ⟨Y.go i H2 t12 hlt,fun ys' H'=>Tk H1 H'∧∃ μ',bI X.K H' μ'∧eE D G Tt Te (gM ρ n caps) (fun μ'=>kL μ' D fun zs=>Q (.ls zs) (dn μ' D)) (ds.drop (i+1)) μ',fun ys' H' ⟨t',μ',m',h'⟩=>⟨ds.length - (i+1),by omega,rfl,hlt,t',μ',m',h'⟩,fun x H3 y=>?_⟩
    obtain ⟨t23,⟨d,ed,pd⟩,mk⟩:=Y.yld i H2 x H3 t12 hlt y
    have e:ds.drop i=d::ds.drop (i+1):=by
      refine (List.drop_eq_getElem_cons hlt).trans ?_
      congr 1
      rw[List.getElem?_eq_getElem hlt] at ed
      exact Option.some.inj ed
    rw[e] at h2
    have t13:=t12.trans t23
    have r3:Rl X.K (hC σ n caps) H3 (gM ρ n caps) μ2:=xh (rl.go (t1.trans t13) (mk _ m2)) n caps
    refine ⟨_,_,d,_,r3,pd,h2,fun σ4 H4 ρ4 μ4 t4 r4 kp h4=>⟨⟨kp.1.symm,fun j v ej=>?_⟩,_,_,_,r4,h4,fun b H5 μ5 t5 m5 h5=>?_⟩⟩
    · by_cases hj:n≤j
      · rw[kp.2 j hj];exact ej
      · obtain ⟨j',k',e1,_⟩:=me ej
        omega
    · have t15:=t13.trans (t4.trans t5)
      cases b with
      | false=>exact vm ⟨t15,μ5,m5,h5⟩
      | true=>
        refine ue ⟨_,_,_,r4.go t5 m5,h5,fun v H6 d6 μ6 t6 m6 p6 h6=>?_⟩
        obtain ⟨zs,ez,lz,h7⟩:=b8 h6
        obtain ⟨xs,ex,lx⟩:=m6 D _ ez
        have t67:Tk H6 (L2.upd H6 D (.lst (xs++[v]))):=.upd (fun ys z=>by rw[ex] at z;cases z) fun o' u z=>by rw[ex] at z;cases z
        refine ⟨xs,ex,by rw[lx.length];exact Nat.lt_of_lt_of_le lz (by decide),(t15.trans t6).trans t67,up μ6 D (.lst (zs++[d6])),fun a o ea=>?_,h7⟩
        by_cases ha:a=D
        · subst ha
          rw[aJ] at ea;cases ea
          exact ⟨_,aG,(lx.append (.cons p6 .nil)).mono t67⟩
        · rw[aY ha] at ea
          exact (m6 a _ ea).ne t67 ha
  · have e:i=ds.length:=by omega
    subst e
    rw[List.drop_length] at h2
    obtain ⟨zs,ez,hq⟩:=b8 (show kL μ2 D fun zs=>Q (.ls zs) (dn μ2 D) from h2)
    obtain ⟨xs,ex,lx⟩:=m2 D _ ez
    refine .inl ⟨Y.stop _ H2 t12 (Nat.le_refl _),D,xs,rfl,ex,fun o=>?_⟩
    have t2f:Tk H2 (L2.upd H2 D (.frz o (.lst xs))):=.upd (fun ys z=>by rw[ex] at z;cases z) fun o' u z=>by rw[ex] at z;cases z
    refine k _ _ _ (dn μ2 D) ((t1.trans t12).trans t2f) (fun a o' ea=>?_) (.ls (.inl ⟨o,aG⟩) (lx.mono t2f)) hq
    have ha:a≠D:=fun z=>by subst z;unfold dn at ea;rw[if_pos rfl] at ea;cases ea
    have ea':μ2 a=some o':=by unfold dn at ea;rw[if_neg ha] at ea;exact ea
    exact (m2 a _ ea').ne t2f ha
end
end
section
open PySem PySem.Spec PyProof.Rows L2
def pF (fn:List (Str×NameKind))(XN:List Str)(sc:Scope)(Nc:List Str)(n:Nat)(caps:List Nat):Bool:=
  sc.names.all (fun y=>(y.2 != .free || fn.lookup y.1 == some .cell)&&y.2 != .cell&&(y.2 != .local || sc.names.lookup y.1 == some .local))&&sc.kind == .function&&Nc.length == n+caps.length &&
  (List.range caps.length).all fun j=>match caps[j]? with
    | some k=>(match XN[k]? with
      | some x=>Nc[n+j]? == some x&&sc.names.lookup x == some .free
      | none=>false)
    | none=>false
section
variable {X:Cx} {tg a b c e elt iter:Expr} {Ta Tb Te:ETr} {Tt:TTr} {pos:Pos} {It':ATr} {G:GTr}
theorem bZ {ifs:List Expr}{scope fsc:Scope}(XN Nc:List Str)(n:Nat)(caps:List Nat)(hxe:X.xe=fun _ _=>False)(hcalm:X.calm=true)(hi:LI X tg iter It')
    (hbody:∀ (cl:List (Str×Addr)) (C:Addr) (s₀:Shared) (H₀:Hp) (ex:List Addr),LGc (cf X scope Nc cl C s₀ H₀ ex) n tg G∧zG (cf X scope Nc cl C s₀ H₀ ex) ifs Tt∧LE (cf X scope Nc cl C s₀ H₀ ex) elt Te)
    (hsc:X.env.scope=fsc) (hXN:X.N=XN) (hok:pF fsc.names XN scope Nc n caps=true)
    (hs:∀ x,foldedSetIterable iter X.env x=pure x:=by intro _;rfl) :
    LE X (.ListComp elt [⟨tg,iter,ifs,0⟩] scope pos) (dk It' G Tt Te n caps):=by
  unfold pF at hok
  simp only[Bool.and_eq_true,List.all_eq_true] at hok
  obtain ⟨⟨⟨h1,h2⟩,h3⟩,h4⟩:=hok
  refine C0 hxe hcalm hi hbody (fun y hy hf=>?_) (fun y hy hf=>?_) (by simpa using h2) (fun y hy hf=>?_) (by simpa using h3) (fun j k hj=>?_) hs
  · have:=(h1 y hy).1.1
    show X.env.scope.names.lookup y.1=_
    rw[hsc]
    simpa[hf] using this
  · have:=(h1 y hy).1.2
    simp[hf] at this
  · have:=(h1 y hy).2
    simpa[hf] using this
  · have hl:j < caps.length:=(List.getElem?_eq_some_iff.mp hj).1
    have:=h4 j (List.mem_range.mpr hl)
    rw[hj] at this
    dsimp only at this
    rw[hXN]
    cases e:XN[k]? with
    | none=>rw[e] at this;cases this
    | some x=>
      rw[e] at this
      dsimp only at this
      rw[Bool.and_eq_true] at this
      exact ⟨x,by simpa using this.1,rfl,by simpa using this.2⟩
end
theorem jE:∀ {bs:List Bool} {us:List Value},Vals (bs.map V.bl) us→LSm.BoolsAre us bs
  | [],_,.nil=>.nil
  | b::r,_,.cons h t=>by
    cases (show _=Value.bool b from h)
    exact .cons b (jE t)
theorem pw {X:Cx}(hc:X.calm=true):bz X (.builtin "all") (fun xs H Q=>∃ (p:Addr) (ys:List V) (bs:List Bool),xs=[.ref p]∧SqL X.K H p ys∧ys=bs.map V.bl∧Q (.bl (bs.all id)) H):=fun pins s σ H xs us Q I rx ⟨p,ys,bs,e1,sq,e2,q⟩=>by
  subst e1 e2
  cases rx with | cons r1 r2=>
  cases r2
  cases (show _=Value.ref p from r1)
  obtain ⟨its,rv,pl,_⟩:=I.list sq
  have ils:s.heap.IsList p its.toArray:=by
    obtain ⟨o,n,h1,h2,_,h3⟩:=pl
    exact ⟨o,h1,h2,n,h3⟩
  have bls:=jE rv
  have hlt:p < s.heap.objs.size:=by obtain ⟨_,e,_⟩:=ils;exact Heap.lt_size e
  refine call_all_walk (wpAny_pyIter_list ils ?_)
  refine ⟨s.heap.objs.size,[s.heap.objs.size,p],[s.heap.objs.size],its.toArray.size,_,_,fun i=>(bs[i]?).getD true,rfl,Walks.list (A:=X.A.in1) (I.ok.hd hc) _ p (Nat.ne_of_lt hlt) its.toArray,
    ⟨⟨_,Heap.get?_push_size _ rfl,rfl,rfl⟩,ils.push _⟩,fun i v s' Q' E' gP gQ=>?_,fun h' tk hk=>?_⟩
  · obtain ⟨b,e,rfl⟩:=bls.get i v (by simpa using gP)
    simp only[e,Option.getD_some] at gQ
    exact wpAny_truthy_bool gQ
  · have e:((List.range its.toArray.size).all fun i=>(bs[i]?).getD true)=bs.all id:=by
      rw[List.size_toArray,bls.length];exact LSm.range_all bs
    rw[e]
    exact ⟨.bl _,H,I.kept (LSm.kept_iter hk),rfl,q⟩
theorem DpL.bools {K:PySem.W.Frag}{H:Hp}:∀ {xs:List V} {bs:List Bool},DpL K H xs (bs.map .bl)→xs=bs.map V.bl
  | _,[],.nil=>rfl
  | _,b::r,.cons h l=>by cases h;rw[DpL.bools l];rfl
theorem wU {K:PySem.W.Frag}:jX K (fun xs H Q=>∃ (p:Addr) (ys:List V) (bs:List Bool),xs=[.ref p]∧SqL K H p ys∧ys=bs.map V.bl∧Q (.bl (bs.all id)) H) CJ:=fun H μ xs ds Q Q' m p h k=>by
  unfold CJ at h
  split at h
  · obtain ⟨bs,rfl,h⟩:=h
    cases p with | cons p1 p2=>cases p2;cases p1 with | ls q l=>exact ⟨_,_,bs,rfl,q.sq,l.bools,k _ H _ μ (.refl H) m (.bl _) h⟩
  · exact h.elim
end
section
open PySem PySem.Spec PyProof.Rows L2
def GV (K:PySem.W.Frag)(mg:Str→Option Value)(x:Str)(d:D):Prop:=∃ u v,mg x=some u∧RelV v u∧∀ H,Dp K H v d
theorem aW {X:Cx}{x:Str}{pos:Pos}{d:D}(hg:Gl X x)(h:GV X.K X.mg x d)(hd:(x == ("__debug__" : Str))=false:=by decide):LE X (.Name x pos) (TC d):=by
  obtain ⟨u,v,hm,r,p⟩:=h
  exact ⟨_,CB hg hm r hd,fun σ H ρ μ Q Q' rl h k=>k v H d μ (.refl H) rl.mu (p H) h⟩
section
variable {K:PySem.W.Frag} {h:Heap} {mg:Str→Option Value} {x:Str}
theorem cP {i:Int}{t:Tok}(X:K.In h)(G:h.Ns mainGlobals mg)(a:PySem.W.nsIn K mainGlobals x=some (some (.int i t))):GV K mg x (.int i):=⟨_,.int i,PySem.W.mg_of X G a,⟨t,rfl⟩,fun _=>.int i⟩
theorem He {p:Addr}{o:Obj}{its:Array Value}{n:Nat}{xs:List V}{ds:List D}(X:K.In h)(G:h.Ns mainGlobals mg)(a:PySem.W.nsIn K mainGlobals x=some (some (.ref p)))(l:K.lookup p=some o)(c:o.cls=.type "tuple")(dn:o.dict=none)(d:o.data=.seq its n)
    (z:its.size≤sizeLine) (r:Vals xs its.toList) (q:∀ H,DpL K H xs ds):GV K mg x (.tup ds):=⟨_,.ref p,PySem.W.mg_of X G a,rfl,fun H=>.tup (.inr ⟨o,its,n,l,c,dn,d,z,r⟩) (q H)⟩
end
def kG:ST→List Nat→List D→ST
  | ρ,i::is,d::ds=>kG (ρ.set i (some d)) is ds
  | ρ,_,_=>ρ
def ve (is:List Nat):GTr:=fun d ρ μ k=>match d with
  | .tup ds=>ds.length=is.length∧k (kG ρ is ds) μ
  | _=>False
section
variable {X:Cx} {e tg:Expr} {es:List Expr} {is:List Nat} {pos:Pos} {x:Str} {Ta:ETr} {G:GTr}
end
end
section
open PySem PySem.Spec PyProof.Rows L2
def eJ (tp:Bool)(h:Heap)(it a:Addr)(i:Nat):Prop:=match tp with
  | true=>h.IsTupleIter it a i
  | false=>h.IsListIter it a i
def cT (tp:Bool)(h:Heap)(a:Addr)(xs:Array Value):Prop:=match tp with
  | true=>h.IsTuple a xs
  | false=>h.IsList a xs
theorem eJ.at {tp:Bool}{h g:Heap}{it a:Addr}{i:Nat}(x:eJ tp h it a i)(k:∀ o,h.get? it=some o→g.get? it=some o):eJ tp g it a i:=by
  cases tp with
  | true=>obtain ⟨o,e,r⟩:=x;exact ⟨o,k o e,r⟩
  | false=>obtain ⟨o,e,r⟩:=x;exact ⟨o,k o e,r⟩
theorem cT.at {tp:Bool}{h g:Heap}{a:Addr}{xs:Array Value}(x:cT tp h a xs)(k:∀ o,h.get? a=some o→g.get? a=some o):cT tp g a xs:=by
  cases tp with
  | true=>obtain ⟨o,e,r⟩:=x;exact ⟨o,k o e,r⟩
  | false=>obtain ⟨o,e,r⟩:=x;exact ⟨o,k o e,r⟩
theorem eJ.ex {tp:Bool}{h:Heap}{it a:Addr}{i:Nat}(x:eJ tp h it a i):∃ o,h.get? it=some o∧∃ vs,o.data=.fields vs:=by
  cases tp with
  | true=>obtain ⟨o,e,_,d⟩:=x;exact ⟨o,e,_,d⟩
  | false=>obtain ⟨o,e,_,d⟩:=x;exact ⟨o,e,_,d⟩
section
variable {prog:Program} {w:World} {A:Around} {E:Value→Shared→Prop} {s:Shared}
theorem AS {it t:Addr}{i:Nat}{xs:Array Value}{x:Value}{Q:Value→Shared→Prop}(hi:s.heap.IsTupleIter it t i)(ht:s.heap.IsTuple t xs)(hx:xs[i]? = some x)
    (k:∀ g,g.IsTupleIter it t (i+1)→Heap.SameBut it s.heap g→Q x { s with heap:=g }):wpAny (model prog w) A (Builtin.SmallTypes.nextOf (.ref it)) Q E s:=by
  obtain ⟨ob,gb,cb,db⟩:=id hi
  obtain ⟨ot,gt,_,nt,dt⟩:=ht
  delta Builtin.SmallTypes.nextOf
  refine wpAny_bind (wpAny_callSpecial?_slot (name:=Str.ofString "__next__") hi.typeIs F.slot_tuple_iterator_next (wpAny_call_entry F.slot_tuple_iterator_next hi.typeIs F.entry_tuple_iterator_next ?_ (F.args_tuple_iterator_next_1 _)))
  refine wpAny_bind (m:=field (.ref it) 0) (wpAny_field gb db (x:=.ref t) rfl ?_)
  refine (show wpAny _ _ (if (Value.ref t == Value.none)=true then _ else _) _ _ s from ?_)
  rw[if_neg (show ¬ ((Value.ref t == Value.none)=true) by intro z;cases z)]
  refine wpAny_bind (m:=field (.ref it) 1) (wpAny_field gb db (x:=.int i 0) rfl ?_)
  refine wpAny_bind (m:=seqItems? (.ref t)) (wpAny_seqItems gt dt ?_)
  simp only[hx,Int.toNat_natCast]
  refine wpAny_bind (wpAny_setField gb db (by simp) (wpAny_pure ⟨x,rfl,wpAny_pure (k _ ⟨_,Heap.get?_update_self _ gb (Obj.isFreed_of_fields (Obj.data_mapFields db _)),(Obj.cls_mapFields ..).trans cb,?_⟩ (Heap.SameBut.update ..))⟩))
  rw[Obj.data_mapFields db];simp[rawInt]
theorem km {tp:Bool}{it a:Addr}{i:Nat}{xs:Array Value}{x:Value}{Q:Value→Shared→Prop}(hi:eJ tp s.heap it a i)(hs:cT tp s.heap a xs)(hx:xs[i]? = some x)
    (k:∀ g,eJ tp g it a (i+1)→Heap.SameBut it s.heap g→Q x { s with heap:=g }):wpAny (model prog w) A (Builtin.SmallTypes.nextOf (.ref it)) Q E s:=by
  cases tp with
  | true=>exact AS hi hs hx k
  | false=>exact wpAny_nextOf_list_item hi hs hx k
theorem Df {it t:Addr}{i:Nat}{xs:Array Value}{Q:Value→Shared→Prop}(hh:A.handled=none)(hi:s.heap.IsTupleIter it t i)(ht:s.heap.IsTuple t xs)(hx:xs[i]? = none)
    (k:∀ g e,Heap.ExtBut it s.heap g→(∃ o,g.get? e=some o∧o.cls=.type "StopIteration")→E (.ref e) { s with heap:=g }):wpAny (model prog w) A (Builtin.SmallTypes.nextOf (.ref it)) Q E s:=by
  obtain ⟨ob,gb,cb,db⟩:=id hi
  obtain ⟨ot,gt,_,nt,dt⟩:=ht
  delta Builtin.SmallTypes.nextOf
  refine wpAny_bind (wpAny_callSpecial?_slot (name:=Str.ofString "__next__") hi.typeIs F.slot_tuple_iterator_next (wpAny_call_entry F.slot_tuple_iterator_next hi.typeIs F.entry_tuple_iterator_next ?_ (F.args_tuple_iterator_next_1 _)))
  refine wpAny_bind (m:=field (.ref it) 0) (wpAny_field gb db (x:=.ref t) rfl ?_)
  refine (show wpAny _ _ (if (Value.ref t == Value.none)=true then _ else _) _ _ s from ?_)
  rw[if_neg (show ¬ ((Value.ref t == Value.none)=true) by intro z;cases z)]
  refine wpAny_bind (m:=field (.ref it) 1) (wpAny_field gb db (x:=.int i 0) rfl ?_)
  refine wpAny_bind (m:=seqItems? (.ref t)) (wpAny_seqItems gt dt ?_)
  simp only[hx,Int.toNat_natCast]
  refine wpAny_bind (wpAny_rule (wpAny_bind (wpAny_setField gb db (by simp) (wpAny_bind (m:=newExc (.type "StopIteration") []) ?_))))
  simp only[newExc,newTuple]
  refine wpAny_bind (wpAny_newObj_type (wpAny_bind (m:=firstArgMember _ _) (wpAny_of_eq (a:=Value.none) (by first | rfl | (simp only[firstArgMember];rfl)) (wpAny_newObj_type ?_ (by size_fits)))) (by size_fits))
  simp only[raiseNew]
  refine wpAny_bind <| wpAny_handled ?_
  rw[(show A.in1.handled=none from hh)]
  exact wpAny_bind (wpAny_pure (wpAny_throw (k _ _ (((Heap.SameBut.update ..).extBut.push _).push _) ⟨_,Heap.get?_push_size _ rfl,rfl⟩)))
theorem tP {tp:Bool}{it a:Addr}{i:Nat}{xs:Array Value}{Q:Value→Shared→Prop}(hh:A.handled=none)(hi:eJ tp s.heap it a i)(hs:cT tp s.heap a xs)(hx:xs[i]? = none)
    (k:∀ g e,Heap.ExtBut it s.heap g→(∃ o,g.get? e=some o∧o.cls=.type "StopIteration")→E (.ref e) { s with heap:=g }):wpAny (model prog w) A (Builtin.SmallTypes.nextOf (.ref it)) Q E s:=by
  cases tp with
  | true=>exact Df hh hi hs hx k
  | false=>exact wpAny_nextOf_list_end hh hi hs hx k
structure Zp (z ti to i j a b:Addr):Prop where
  nd:[z,ti,to,i,j].Nodup
  na:a ∉ [z,to,i,j]
  nb:b ∉ [z,to,i,j]
structure ZAt (ta tb:Bool) (h:Heap) (z ti to i j a b:Addr) (k:Nat):Prop where
  zz:PySem.IsZip h z ti to .none
  zt:PySem.IsPair h ti (.ref i) (.ref j)
  zo:∃ u v,PySem.IsPair h to u v
  zi:eJ ta h i a k
  zj:eJ tb h j b k
theorem yz {ta tb:Bool}{z ti to i j a b:Addr}{k:Nat}{xs ys:Array Value}{x y:Value}{Q:Option Value→Shared→Prop}(Z:Zp z ti to i j a b)(S:ZAt ta tb s.heap z ti to i j a b k)(ha:cT ta s.heap a xs)(hb:cT tb s.heap b ys)(hx:xs[k]? = some x)(hy:ys[k]? = some y)
    (q:∀ g,PySem.IsZip g z ti to (rawInt s.heap.objs.size)→PySem.IsPair g ti (.ref i) (.ref j)→PySem.IsPair g to x y→eJ ta g i a (k+1)→eJ tb g j b (k+1)→PySem.IsPair g s.heap.objs.size x y→
      (∀ c o,c≠z→c≠to→c≠i→c≠j→s.heap.get? c=some o→g.get? c=some o)→Q (some (.ref s.heap.objs.size)) { s with heap:=g }):wpAny (model prog w) A (pyNext (.ref z)) Q E s:=by
  obtain ⟨zz,zt,⟨u,v,zo⟩,zi,zj⟩:=S
  obtain ⟨nd,na,nb⟩:=Z
  simp only[List.nodup_cons,List.mem_cons,List.not_mem_nil,or_false,not_or] at nd na nb
  obtain ⟨⟨n1,n2,n3,n4⟩,⟨n5,n6,n7⟩,⟨n8,n9⟩,n10,_⟩:=nd
  obtain ⟨a1,a2,a3,a4⟩:=na
  obtain ⟨b1,b2,b3,b4⟩:=nb
  have hT:s.TypeIs (.ref z) "zip" := ⟨_,zz,rfl⟩
  unfold pyNext
  refine wpAny_bind (wpAny_attempt (wpAny_callSpecial?_slot (name:=Str.ofString "__next__") hT F.slot_zip_next (wpAny_call_entry F.slot_zip_next hT F.entry_zip_next ?_ (F.args_zip_next_1 _))))
  refine wpAny_bind (m:=field (.ref z) 2) (wpAny_field zz rfl (x:=.bool false) rfl ?_)
  refine wpAny_bind (m:=field (.ref z) 3) (wpAny_field zz rfl (x:=.ref ti) rfl (wpAny_bind (wpAny_seqItems zt rfl (wpAny_bind (m:=Builtin.SmallTypes.ownedTupleIsFree (.ref z)) ?_))))
  delta Builtin.SmallTypes.ownedTupleIsFree
  refine wpAny_bind (wpAny_field zz rfl (x:=.none) rfl (wpAny_pure ?_))
  simp only[if_true]
  refine wpAny_bind (wpAny_rule (wpAny_bind (wpAny_field zz rfl (x:=.ref to) rfl (wpAny_bind (wpAny_setField_rec zz (by simp) fun g1 zz1 k1=>wpAny_bind ?_)))))
  have zz1:PySem.IsZip g1 z ti to .ellipsis:=zz1
  simp only[List.zipIdx_nil,List.zipIdx_cons,List.forIn_nil,List.forIn_cons]
  refine wpAny_bind (wpAny_bind (wpAny_onRaise (wpAny_bind (m:=Builtin.SmallTypes.nextOf (.ref i)) (km (s:={ s with heap:=g1 }) (zi.at fun o e=>(k1.2 i (Ne.symm n3)).trans e) (ha.at fun o e=>(k1.2 a a1).trans e) hx fun g2 zi2 k2=>wpAny_pure ?_))))
  have zo2:PySem.IsPair g2 to u v:=(k2.2 to n8).trans ((k1.2 to (Ne.symm n2)).trans zo)
  refine wpAny_bind (wpAny_seqItems zo2 rfl (wpAny_bind (PySem.wpAny_updateSeq_pair zo2 fun g3 zo3 k3=>wpAny_bind (wpAny_letGo (wpAny_pure ?_)))))
  have zo3:PySem.IsPair g3 to x v:=zo3
  refine wpAny_bind (wpAny_bind (wpAny_onRaise (wpAny_bind (m:=Builtin.SmallTypes.nextOf (.ref j)) (km (s:={ s with heap:=g3 }) (zj.at fun o e=>(k3.2 j (Ne.symm n9)).trans ((k2.2 j (Ne.symm n10)).trans ((k1.2 j (Ne.symm n4)).trans e)))
    (hb.at fun o e=>(k3.2 b b2).trans ((k2.2 b b3).trans ((k1.2 b b1).trans e))) hy fun g4 zj4 k4=>wpAny_pure ?_))))
  have zo4:PySem.IsPair g4 to x v:=(k4.2 to n9).trans zo3
  refine wpAny_bind (wpAny_seqItems zo4 rfl (wpAny_bind (PySem.wpAny_updateSeq_pair zo4 fun g5 zo5 k5=>wpAny_bind (wpAny_letGo (wpAny_pure (wpAny_pure ?_))))))
  have zo5:PySem.IsPair g5 to x y:=zo5
  refine wpAny_bind (wpAny_seqItems zo5 rfl (wpAny_bind (wpAny_newTuple (wpAny_bind (m:=Builtin.SmallTypes.ownedTupleHandOut (.ref z) (.ref g5.objs.size)) ?_))))
  have sz:g5.objs.size=s.heap.objs.size:=by rw[k5.1,k4.1,k3.1,k2.1,k1.1]
  have zz5:PySem.IsZip g5 z ti to .ellipsis:=(k5.2 z n2).trans ((k4.2 z n4).trans ((k3.2 z n2).trans ((k2.2 z n3).trans zz1)))
  have zlt:z < g5.objs.size:=Heap.lt_size zz5
  delta Builtin.SmallTypes.ownedTupleHandOut
  have zz6:PySem.IsZip (g5.push { cls:=.type "tuple", data:=.seq #[x,y] }) z ti to .ellipsis:=Heap.get?_push_of_some _ zz5
  refine wpAny_bind (wpAny_setField_rec zz6 (by simp) fun g7 zz7 k7=>?_)
  have zz7:PySem.IsZip g7 z ti to (rawInt g5.objs.size):=zz7
  refine wpAny_setField_rec zz7 (by simp) fun g8 zz8 k8=>wpAny_pure ⟨_,rfl,wpAny_pure ?_⟩
  have up5:∀ c o,c≠z→g5.get? c=some o→g8.get? c=some o:=fun c o c1 e=>(k8.2 c c1).trans ((k7.2 c c1).trans (Heap.get?_push_of_some _ e))
  have KC:PySem.IsPair g8 g5.objs.size x y:=(k8.2 _ (Nat.ne_of_gt zlt)).trans ((k7.2 _ (Nat.ne_of_gt zlt)).trans (Heap.get?_push_size _ rfl))
  have zz8:PySem.IsZip g8 z ti to (rawInt g5.objs.size):=zz8
  rw[sz] at zz8 KC
  have all:∀ c o,c≠z→c≠to→c≠i→c≠j→s.heap.get? c=some o→g8.get? c=some o:=fun c o c1 c2 c3 c4 e=>up5 c o c1 ((k5.2 c c2).trans ((k4.2 c c4).trans ((k3.2 c c2).trans ((k2.2 c c3).trans ((k1.2 c c1).trans e)))))
  have fin:=q g8 zz8 (all ti _ (Ne.symm n1) n5 n6 n7 zt) (up5 to _ (Ne.symm n2) zo5) (zi2.at fun o e=>up5 i o (Ne.symm n3) ((k5.2 i (Ne.symm n8)).trans ((k4.2 i n10).trans ((k3.2 i (Ne.symm n8)).trans e)))) (zj4.at fun o e=>up5 j o (Ne.symm n4) ((k5.2 j (Ne.symm n9)).trans e)) KC all
  rw[← sz] at fin
  exact fin
theorem yZ {ta tb:Bool}{z ti to i j a b:Addr}{k:Nat}{xs ys:Array Value}{Q:Option Value→Shared→Prop}(hh:A.handled=none)(Z:Zp z ti to i j a b)(S:ZAt ta tb s.heap z ti to i j a b k)(ha:cT ta s.heap a xs)(hb:cT tb s.heap b ys)(he:xs[k]? = none∨ys[k]? = none)
    (q:∀ g,(∀ c o,c≠z→c≠to→c≠i→c≠j→s.heap.get? c=some o→g.get? c=some o)→Q none { s with heap:=g }):wpAny (model prog w) A (pyNext (.ref z)) Q E s:=by
  obtain ⟨zz,zt,⟨u,v,zo⟩,zi,zj⟩:=S
  obtain ⟨nd,na,nb⟩:=Z
  simp only[List.nodup_cons,List.mem_cons,List.not_mem_nil,or_false,not_or] at nd na nb
  obtain ⟨⟨n1,n2,n3,n4⟩,⟨n5,n6,n7⟩,⟨n8,n9⟩,n10,_⟩:=nd
  obtain ⟨a1,a2,a3,a4⟩:=na
  obtain ⟨b1,b2,b3,b4⟩:=nb
  have hT:s.TypeIs (.ref z) "zip" := ⟨_,zz,rfl⟩
  have stop:∀ g e,(∃ o,g.get? e=some o∧o.cls=.type "StopIteration")→(∀ c o,c≠z→c≠to→c≠i→c≠j→s.heap.get? c=some o→g.get? c=some o)→
      wpAny (model prog w) A (isInstance (.ref e) (.type "StopIteration") >>= fun y=>if y=true then pure none else throw (.ref e)) Q E { s with heap:=g }:=fun g e ⟨o,ho,hc⟩ al=>by
    refine wpAny_bind <| wpAny_isInstance (T := "StopIteration") (b:=true) ⟨o,ho,hc⟩ isSubtype_stop ?_
    exact wpAny_pure (q g al)
  unfold pyNext
  refine wpAny_bind (wpAny_attempt (wpAny_callSpecial?_slot (name:=Str.ofString "__next__") hT F.slot_zip_next (wpAny_call_entry F.slot_zip_next hT F.entry_zip_next ?_ (F.args_zip_next_1 _))))
  refine wpAny_bind (m:=field (.ref z) 2) (wpAny_field zz rfl (x:=.bool false) rfl ?_)
  refine wpAny_bind (m:=field (.ref z) 3) (wpAny_field zz rfl (x:=.ref ti) rfl (wpAny_bind (wpAny_seqItems zt rfl (wpAny_bind (m:=Builtin.SmallTypes.ownedTupleIsFree (.ref z)) ?_))))
  delta Builtin.SmallTypes.ownedTupleIsFree
  refine wpAny_bind (wpAny_field zz rfl (x:=.none) rfl (wpAny_pure ?_))
  simp only[if_true]
  refine wpAny_bind (wpAny_rule (wpAny_bind (wpAny_field zz rfl (x:=.ref to) rfl (wpAny_bind (wpAny_setField_rec zz (by simp) fun g1 zz1 k1=>wpAny_bind ?_)))))
  have zz1:PySem.IsZip g1 z ti to .ellipsis:=zz1
  simp only[List.zipIdx_nil,List.zipIdx_cons,List.forIn_nil,List.forIn_cons]
  have zi1:eJ ta g1 i a k:=zi.at fun o e=>(k1.2 i (Ne.symm n3)).trans e
  have ha1:cT ta g1 a xs:=ha.at fun o e=>(k1.2 a a1).trans e
  refine wpAny_bind (wpAny_bind (wpAny_onRaise (wpAny_bind (m:=Builtin.SmallTypes.nextOf (.ref i)) ?_)))
  cases hx:xs[k]? with
  | none=>
    refine tP (s:={ s with heap:=g1 }) hh zi1 ha1 hx fun g2 e k2 he2=>?_
    obtain ⟨oe,ge,ce⟩:=he2
    have zz2:PySem.IsZip g2 z ti to .ellipsis:=k2 z _ n3 zz1
    have ez:e≠z:=fun y=>by subst y;rw[zz2] at ge;cases ge;simp at ce
    refine wpAny_setField_rec zz2 (by simp) fun g3 _ k3=>stop g3 e ⟨oe,(k3.2 e ez).trans ge,ce⟩ fun c o c1 _ c3 _ y=>(k3.2 c c1).trans (k2 c o c3 ((k1.2 c c1).trans y))
  | some x=>
    have hy:ys[k]? = none:=by rcases he with h | h;rw[hx] at h;cases h;exact h
    refine km (s:={ s with heap:=g1 }) zi1 ha1 hx fun g2 zi2 k2=>wpAny_pure ?_
    have zo2:PySem.IsPair g2 to u v:=(k2.2 to n8).trans ((k1.2 to (Ne.symm n2)).trans zo)
    refine wpAny_bind (wpAny_seqItems zo2 rfl (wpAny_bind (PySem.wpAny_updateSeq_pair zo2 fun g3 zo3 k3=>wpAny_bind (wpAny_letGo (wpAny_pure ?_)))))
    refine wpAny_bind (wpAny_bind (wpAny_onRaise (wpAny_bind (m:=Builtin.SmallTypes.nextOf (.ref j)) (tP (s:={ s with heap:=g3 }) hh (zj.at fun o e=>(k3.2 j (Ne.symm n9)).trans ((k2.2 j (Ne.symm n10)).trans ((k1.2 j (Ne.symm n4)).trans e)))
      (hb.at fun o e=>(k3.2 b b2).trans ((k2.2 b b3).trans ((k1.2 b b1).trans e))) hy fun g4 e k4 he4=>?_))))
    obtain ⟨oe,ge,ce⟩:=he4
    have zz4:PySem.IsZip g4 z ti to .ellipsis:=k4 z _ n4 ((k3.2 z n2).trans ((k2.2 z n3).trans zz1))
    have ez:e≠z:=fun y=>by subst y;rw[zz4] at ge;cases ge;simp at ce
    refine wpAny_setField_rec zz4 (by simp) fun g5 _ k5=>stop g5 e ⟨oe,(k5.2 e ez).trans ge,ce⟩ fun c o c1 c2 c3 c4 y=>(k5.2 c c1).trans (k4 c o c4 ((k3.2 c c2).trans ((k2.2 c c3).trans ((k1.2 c c1).trans y))))
abbrev itO (tp:Bool)(a:Addr):Obj:={ cls:=.type (match tp with | true => "tuple_iterator" | false => "list_iterator"),data:=.fields #[.ref a,.int 0 0] }
theorem D5 {tp:Bool}{a:Addr}{xs:Array Value}{Q:Value→Shared→Prop}(h:cT tp s.heap a xs)(q:Q (.ref s.heap.objs.size) { s with heap:=s.heap.push (itO tp a) }):wpAny (model prog w) A (pyIter (.ref a)) Q E s:=by
  cases tp with
  | true=>exact wpAny_pyIter_tuple h q
  | false=>exact wpAny_pyIter_list h q
abbrev zg1 (ta:Bool)(h:Heap)(a:Addr):Heap:=h.push (itO ta a)
abbrev zg2 (ta tb:Bool)(h:Heap)(a b:Addr):Heap:=(zg1 ta h a).push (itO tb b)
abbrev zg3 (ta tb:Bool)(h:Heap)(a b:Addr):Heap:=(zg2 ta tb h a b).push { cls:=.type "tuple", data:=.seq #[.ref h.objs.size,.ref (zg1 ta h a).objs.size] }
abbrev zg4 (ta tb:Bool)(h:Heap)(a b:Addr):Heap:=(zg3 ta tb h a b).push { cls:=.type "tuple", data:=.seq #[.none,.none] }
abbrev zg5 (ta tb:Bool)(h:Heap)(a b:Addr):Heap:=(zg4 ta tb h a b).push { cls:=.type "zip", data:=.fields #[.none,.bool false,.bool false,.ref (zg2 ta tb h a b).objs.size,.ref (zg3 ta tb h a b).objs.size] }
theorem z5 (ta tb:Bool)(a b:Addr)(xs ys:Array Value):Meets (Builtin.«zip.__new__» ⟨[.type "zip", .ref a,.ref b],[]⟩) (fun _ R s=>cT ta s.heap a xs∧cT tb s.heap b ys∧R (.ok (.ret (.ref (zg4 ta tb s.heap a b).objs.size))) { s with heap:=zg5 ta tb s.heap a b }):=
  .of_wp fun prog w A R s h=>by
    rcases s with ⟨hp,g,d,tk,os⟩
    obtain ⟨h1,h2,h⟩:=h
    have hs0:=PySem.sub_zip
    have H1:cT ta (Shared.heap ⟨hp,g,d,tk,os⟩) a xs:=h1
    have H2:cT tb (Shared.heap ⟨hp.push (itO ta a),g,d,tk,os⟩) b ys:=cT.at h2 fun o e=>Heap.get?_push_of_some _ e
    wp_walk using D5 H1,D5 H2
    exact ⟨_,rfl,h⟩
theorem yR {ta tb:Bool}{a b:Addr}{xs ys:Array Value}{Q:Value→Shared→Prop}(h1:cT ta s.heap a xs)(h2:cT tb s.heap b ys)
    (q:∀ g,ZAt ta tb g (s.heap.objs.size+4) (s.heap.objs.size+2) (s.heap.objs.size+3) s.heap.objs.size (s.heap.objs.size+1) a b 0→(∀ c o,s.heap.get? c=some o→g.get? c=some o)→Q (.ref (s.heap.objs.size+4)) { s with heap:=g }) :
    wpAny (model prog w) A (call (.type "zip") [.ref a,.ref b]) Q E s:=by
  refine callType_new F.called_zip (by decide) (F.typeCall_zip_2 _ _) (F.newCall_zip_2 _ _) (fun obj=>F.args_object_init_3 obj _ _) F.entry_zip_new (z5 ta tb a b xs ys) ⟨h1,h2,?_⟩
  have s1:(zg1 ta s.heap a).objs.size=s.heap.objs.size+1:=Heap.size_push ..
  have s2:(zg2 ta tb s.heap a b).objs.size=s.heap.objs.size+2:=by rw[Heap.size_push,s1]
  have s3:(zg3 ta tb s.heap a b).objs.size=s.heap.objs.size+3:=by rw[Heap.size_push,s2]
  have s4:(zg4 ta tb s.heap a b).objs.size=s.heap.objs.size+4:=by rw[Heap.size_push,s3]
  have p5:(zg5 ta tb s.heap a b).get? (zg4 ta tb s.heap a b).objs.size=some _:=Heap.get?_push_size _ rfl
  have p4:(zg5 ta tb s.heap a b).get? (zg3 ta tb s.heap a b).objs.size=some _:=Heap.get?_push_of_some _ (Heap.get?_push_size _ rfl)
  have p3:(zg5 ta tb s.heap a b).get? (zg2 ta tb s.heap a b).objs.size=some _:=Heap.get?_push_of_some _ (Heap.get?_push_of_some _ (Heap.get?_push_size _ rfl))
  have p2:(zg5 ta tb s.heap a b).get? (zg1 ta s.heap a).objs.size=some (itO tb b):=Heap.get?_push_of_some _ (Heap.get?_push_of_some _ (Heap.get?_push_of_some _ (Heap.get?_push_size _ rfl)))
  have p1:(zg5 ta tb s.heap a b).get? s.heap.objs.size=some (itO ta a):=Heap.get?_push_of_some _ (Heap.get?_push_of_some _ (Heap.get?_push_of_some _ (Heap.get?_push_of_some _ (Heap.get?_push_size _ rfl))))
  have i1:eJ ta (zg5 ta tb s.heap a b) s.heap.objs.size a 0:=by cases ta<;>exact ⟨_,p1,rfl,rfl⟩
  have i2:eJ tb (zg5 ta tb s.heap a b) (zg1 ta s.heap a).objs.size b 0:=by cases tb<;>exact ⟨_,p2,rfl,rfl⟩
  show _∧_
  rw[s2,s3,s4] at p5
  rw[s1,s2] at p3
  rw[s3] at p4
  rw[s1] at i2
  rw[s4]
  exact ⟨⟨_,p5,rfl⟩,q _ ⟨p5,p3,⟨_,_,p4⟩,i1,i2⟩ fun c o x=>Heap.get?_push_of_some _ (Heap.get?_push_of_some _ (Heap.get?_push_of_some _ (Heap.get?_push_of_some _ (Heap.get?_push_of_some _ x))))⟩
end
def Sq (tp:Bool)(K:PySem.W.Frag)(H:Hp)(a:Addr)(xs:List V):Prop:=match tp with
  | true=>SqT K H a xs
  | false=>SqF K H a xs
theorem Inv.sq {X:Cx}{pins:List (Addr×Obj)}{σ:L2.St}{H:Hp}{s:Shared}{tp:Bool}{a:Addr}{xs:List V}(I:Inv X pins σ H s)(h:Sq tp X.K H a xs):∃ its:List Value,Vals xs its∧cT tp s.heap a its.toArray:=by
  cases tp with
  | true=>obtain ⟨its,r,p,_⟩:=I.tuple h;exact ⟨its,r,p⟩
  | false=>
    obtain ⟨its,r,⟨o,n,e1,e2,_,e3⟩,_⟩:=I.list (SqF.sq h)
    exact ⟨its,r,o,e1,e2,n,e3⟩
theorem Inv.vH {X:Cx}{pins:List (Addr×Obj)}{σ:L2.St}{H:Hp}{s:Shared}{tp:Bool}{a:Addr}{xs ys:List V}(I:Inv X pins σ H s)(h:Sq tp X.K H a xs)(h':Sq tp X.K H a ys):xs=ys:=by
  cases tp with
  | true=>exact I.oS h h'
  | false=>exact I.rJ (SqF.sq h) (SqF.sq h')
def Itz (ta tb:Bool)(K:PySem.W.Frag)(a b:Addr):It:=
  ⟨fun i H=>∃ xs ys x y,Sq ta K H a xs∧Sq tb K H b ys∧xs[i]? = some x∧ys[i]? = some y,
   fun i H v H'=>∃ x y p,(∀ xs,Sq ta K H a xs→xs[i]? = some x)∧(∀ ys,Sq tb K H b ys→ys[i]? = some y)∧v=.ref p∧H p=none∧H'=L2.upd H p (.tup [x,y]),
   fun i H=>∃ xs ys,Sq ta K H a xs∧Sq tb K H b ys∧(xs.length≤i∨ys.length≤i)⟩
theorem BO {P:Program}{w:World}{K:PySem.W.Frag}{es:List Expr}{ek:Nat}{ep:Pos}{ta tb:Bool}{z ti to i j a b:Addr}(Z:Zp z ti to i j a b) :
    Turn P w K (.Tuple es ek ep) (Itz ta tb K a b) [z,ti,to,i,j] z (fun k h=>ZAt ta tb h z ti to i j a b k) where
  mem:=by simp
  obj:=fun k h S c hc=>by
    obtain ⟨zz,zt,⟨u,v,zo⟩,zi,zj⟩:=S
    simp only[List.mem_cons,List.not_mem_nil,or_false] at hc
    rcases hc with rfl | rfl | rfl | rfl | rfl
    · exact ⟨_,zz,fun v y=>by cases y⟩
    · exact ⟨_,zt,fun v y=>by cases y⟩
    · exact ⟨_,zo,fun v y=>by cases y⟩
    · obtain ⟨o,e,vs,d⟩:=zi.ex;exact ⟨o,e,fun v y=>by rw[d] at y;cases y⟩
    · obtain ⟨o,e,vs,d⟩:=zj.ex;exact ⟨o,e,fun v y=>by rw[d] at y;cases y⟩
  keep:=fun k h g S kp=>by
    obtain ⟨zz,zt,⟨u,v,zo⟩,zi,zj⟩:=S
    exact ⟨kp z (by simp) _ zz,kp ti (by simp) _ zt,⟨u,v,kp to (by simp) _ zo⟩,zi.at fun o e=>kp i (by simp) o e,zj.at fun o e=>kp j (by simp) o e⟩
  item:=by
    intro X hP hw hK hc k pins s σ H E I hf S hg
    subst hP hw hK
    obtain ⟨xs,ys,x,y,qa,qb,ex,ey⟩:=hg
    obtain ⟨ia,ra,sa⟩:=Inv.sq I qa
    obtain ⟨ib,rb,sb⟩:=Inv.sq I qb
    obtain ⟨ux,hux,rx⟩:=ra.get ex
    obtain ⟨uy,huy,ry⟩:=rb.get ey
    refine yz Z S sa sb (x:=ux) (y:=uy) (by simpa using hux) (by simpa using huy) fun g zz zt zo zi zj new al=>⟨_,rfl,wpAny_letOwnedTupleGo_zip zz fun g2 zz2 k2=>?_⟩
    have nd:=Z.nd
    simp only[List.nodup_cons,List.mem_cons,List.not_mem_nil,or_false,not_or] at nd
    obtain ⟨⟨n1,n2,n3,n4⟩,_⟩:=nd
    have zlt:z < s.heap.objs.size:=Heap.lt_size S.zz
    have fr:H s.heap.objs.size=none:=I.hok.fresh (Nat.le_refl _)
    have new2:PySem.IsPair g2 s.heap.objs.size ux uy:=(k2.2 _ (Nat.ne_of_gt zlt)).trans new
    have all:∀ c o,c ∉ [z,ti,to,i,j]→s.heap.get? c=some o→g2.get? c=some o:=fun c o hc e=>by
      simp only[List.mem_cons,List.not_mem_nil,or_false,not_or] at hc
      exact (k2.2 c hc.1).trans (al c o hc.1 hc.2.2.1 hc.2.2.2.1 hc.2.2.2.2 e)
    have nfp:∀ c u,H c=some u→c ∉ [z,ti,to,i,j]:=fun c u e hc=>by rw[(hf c hc).1] at e;cases e
    refine ⟨.ref s.heap.objs.size,L2.upd H s.heap.objs.size (.tup [x,y]),?_,rfl,⟨x,y,_,fun xs' q=>by rw[Inv.vH I q qa];exact ex,fun ys' q=>by rw[Inv.vH I q qb];exact ey,rfl,fr,rfl⟩,⟨zz2,(k2.2 ti (Ne.symm n1)).trans zt,⟨_,_,(k2.2 to (Ne.symm n2)).trans zo⟩,zi.at fun o e=>(k2.2 i (Ne.symm n3)).trans e,zj.at fun o e=>(k2.2 j (Ne.symm n4)).trans e⟩,fun c hc=>?_⟩
    · refine L2.Inv.step (s:=s) (H:=H) (H':=L2.upd H s.heap.objs.size (.tup [x,y])) (g':=s.gens) (d':=s.drawn) (t':=s.toks) (h':=g2) (ch:=[z,ti,to,i,j]) I (fun c hc=>⟨(hf c hc).2.2.2.1,(hf c hc).2.1,(hf c hc).2.2.2.2.1,(hf c hc).2.2.2.2.2⟩) (fun c o _ _ hc e _=>all c o hc e) (fun c o _ _ hc e _=>⟨o.slots,all c o hc e⟩) (fun c o hc e n=>?_) (fun c o hc e=>⟨o,all c o hc e⟩)
        (fun c xs e=>?_) (fun c o u e=>?_) (fun c ps e=>⟨#[],?_⟩) (fun m hm=>?_) (fun c u e=>?_) I.bare
      · rw[aB (Nat.ne_of_lt (Heap.lt_size e))];exact n
      · rw[aB (aR e fr)];exact e
      · rw[aB (aR e fr)];exact e
      · rw[aB (aR e fr),e];simp
      · obtain ⟨o,es',ep',ho,r⟩:=hm
        exact ⟨o,es',ep',all _ o (fun hc=>(hf _ hc).2.1 rfl) ho,r⟩
      · by_cases hcT:c=s.heap.objs.size
        · subst hcT
          rw[aG] at e;cases e
          exact ⟨by show 2≤sizeLine;decide,[ux,uy],.cons rx (.cons ry .nil),⟨_,new2⟩⟩
        · rw[aB hcT] at e
          refine (I.hok c u e).jS (fun c' v hc' q=>all c' v ?_ q) (fun c' q=>by rw[aB (aR q fr)];exact q) fun c' xs q=>by rw[aB (aR q fr)];exact q
          rcases hc' with rfl | hc'
          · exact nfp _ _ e
          · exact nfp _ _ hc'
    · have hcl:c≠s.heap.objs.size:=by
        obtain ⟨zz,zt,⟨u,v,zo⟩,zi,zj⟩:=S
        simp only[List.mem_cons,List.not_mem_nil,or_false] at hc
        rcases hc with rfl | rfl | rfl | rfl | rfl
        · exact Nat.ne_of_lt (Heap.lt_size zz)
        · exact Nat.ne_of_lt (Heap.lt_size zt)
        · exact Nat.ne_of_lt (Heap.lt_size zo)
        · obtain ⟨o,e,_⟩:=zi.ex;exact Nat.ne_of_lt (Heap.lt_size e)
        · obtain ⟨o,e,_⟩:=zj.ex;exact Nat.ne_of_lt (Heap.lt_size e)
      rw[aB hcl];exact (hf c hc).1
  done:=by
    intro X hP hw hK hc k pins s σ H E I hf S hg
    subst hP hw hK
    obtain ⟨xs,ys,qa,qb,he⟩:=hg
    obtain ⟨ia,ra,sa⟩:=Inv.sq I qa
    obtain ⟨ib,rb,sb⟩:=Inv.sq I qb
    have la:=ra.length
    have lb:=rb.length
    refine yZ (I.ok.hd hc) Z S sa sb (he.imp (fun h=>by simp;omega) fun h=>by simp;omega) fun g al=>⟨rfl,?_⟩
    have all:∀ c o,c ∉ [z,ti,to,i,j]→s.heap.get? c=some o→g.get? c=some o:=fun c o hc e=>by
      simp only[List.mem_cons,List.not_mem_nil,or_false,not_or] at hc
      exact al c o hc.1 hc.2.2.1 hc.2.2.2.1 hc.2.2.2.2 e
    have nfp:∀ c u,H c=some u→c ∉ [z,ti,to,i,j]:=fun c u e hc=>by rw[(hf c hc).1] at e;cases e
    refine L2.Inv.step (s:=s) (H:=H) (H':=H) (g':=s.gens) (d':=s.drawn) (t':=s.toks) (h':=g) (ch:=[z,ti,to,i,j]) I (fun c hc=>⟨(hf c hc).2.2.2.1,(hf c hc).2.1,(hf c hc).2.2.2.2.1,(hf c hc).2.2.2.2.2⟩) (fun c o _ _ hc e _=>all c o hc e) (fun c o _ _ hc e _=>⟨o.slots,all c o hc e⟩) (fun c o hc e n=>n) (fun c o hc e=>⟨o,all c o hc e⟩)
      (fun c xs e=>e) (fun c o u e=>e) (fun c ps e=>⟨#[],by rw[e];simp⟩) (fun m hm=>?_) (fun c u e=>?_) I.bare
    · obtain ⟨o,es',ep',ho,r⟩:=hm
      exact ⟨o,es',ep',all _ o (fun hc=>(hf _ hc).2.1 rfl) ho,r⟩
    · refine (I.hok c u e).jS (fun c' v hc' q=>all c' v ?_ q) (fun c' q=>q) fun c' xs q=>q
      rcases hc' with rfl | hc'
      · exact nfp _ _ e
      · exact nfp _ _ hc'
  self:=fun _ _ _ _ _ S h=>wpAny_pyIter_zip S.zz h
theorem IZ (n a b:Nat)(ha:a < n)(hb:b < n):Zp (n+4) (n+2) (n+3) n (n+1) a b:=by
  refine ⟨?_,?_,?_⟩
  · show ([n+4,n+2,n+3,n,n+1]:List Nat).Nodup
    simp only[List.nodup_cons,List.mem_cons,List.not_mem_nil,or_false,not_or,List.nodup_nil,and_true,not_false_eq_true]
    and_intros<;>omega
  · show a ∉ ([n+4,n+3,n,n+1]:List Nat)
    simp only[List.mem_cons,List.not_mem_nil,or_false,not_or]
    omega
  · show b ∉ ([n+4,n+3,n,n+1]:List Nat)
    simp only[List.mem_cons,List.not_mem_nil,or_false,not_or]
    omega
theorem EH (n c:Nat)(h:c∈([n+4,n+2,n+3,n,n+1]:List Nat)):n≤c:=by
  simp only[List.mem_cons,List.not_mem_nil,or_false] at h
  omega
section
variable {X:Cx} {ea eb:Expr} {es:List Expr} {ek:Nat} {ep p pos:Pos}
def kQ (tp:Bool)(x:D)(f:List D→Prop):Prop:=match tp,x with
  | true,.tup ds=>f ds
  | false,.ls ds=>f ds
  | _,_=>False
theorem uC {K:PySem.W.Frag}{H:Hp}{tp:Bool}{v:V}{x:D}{f:List D→Prop}(p:Dp K H v x)(h:kQ tp x f):∃ a xs ds,v=.ref a∧Sq tp K H a xs∧DpL K H xs ds∧f ds:=by
  cases tp with
  | true=>cases p with
    | @tup a xs ds q l=>exact ⟨a,xs,ds,rfl,q,l,h⟩
    | _=>exact False.elim h
  | false=>cases p with
    | @ls a xs ds q l=>exact ⟨a,xs,ds,rfl,q,l,h⟩
    | _=>exact False.elim h
theorem Tk.sq {K:PySem.W.Frag}{H H':Hp}{tp:Bool}{a:Addr}{xs:List V}(t:Tk H H')(h:Sq tp K H a xs):Sq tp K H' a xs:=by
  cases tp with
  | true=>exact t.sqT h
  | false=>exact t.sqF h
end
end
section
open PySem PySem.Spec PyProof.Rows L2
def kObj (x:D)(f:Addr→Prop):Prop:=match x with
  | .obj a=>f a
  | _=>False
theorem mM (a:Addr)(f):kObj (.obj a) f=f a:=rfl
section
variable {X:Cx} {o a b c e:Expr} {To Ta Tb Tc Te T T':ETr} {pos:Pos}
theorem LE.imp (h:LE X e T)(k:∀ ρ μ Q,T' ρ μ Q→T ρ μ Q):LE X e T':=by
  obtain ⟨t,p,s⟩:=h.ex
  exact ⟨t,p,fun σ H ρ μ Q Q' rl hh post=>s σ H ρ μ Q Q' rl (k _ _ _ hh) post⟩
theorem JQ {K:PySem.W.Frag}{H:Hp}{μ:Mu}{q:Addr}{u:HO}(m:bI K H μ)(t:Tk H (L2.upd H q u)):bI K (L2.upd H q u) (dn μ q):=fun z y ez=>by
  have zq:z≠q:=fun w=>by subst w;unfold dn at ez;rw[if_pos rfl] at ez;cases ez
  have ez':μ z=some y:=by unfold dn at ez;rw[if_neg zq] at ez;exact ez
  exact (m z _ ez').ne t zq
theorem jb {H:Hp}{q:Addr}{u:HO}{xs:List V}(ex:H q=some (.lst xs)):Tk H (L2.upd H q u):=
  .upd (fun ys z=>by rw[ex] at z;cases z) fun o' w z=>by rw[ex] at z;cases z
theorem E7 {K:PySem.W.Frag}{H:Hp}{μ:Mu}{q:Addr}{xs ys:List V}{ds:List D}(m:bI K H μ)(ex:H q=some (.lst xs))(l:DpL K H ys ds):bI K (L2.upd H q (.lst ys)) (up μ q (.lst ds)):=fun z y ez=>by
  by_cases zq:z=q
  · subst zq
    rw[aJ] at ez;cases ez
    exact ⟨ys,aG,l.mono (jb ex)⟩
  · rw[aY zq] at ez
    exact (m z _ ez).ne (jb ex) zq
def xC (T:ETr):ETr:=fun ρ μ Q=>T ρ μ fun x μ1=>kObj x fun a=>kL μ1 a fun ds=>Q (.ls ds) (dn μ1 a)
theorem HN (h:LE X e T):LE X e (xC T):=by
  obtain ⟨t,p,s⟩:=h.ex
  refine ⟨_,jo p,fun σ H ρ μ Q Q' rl h k=>s σ H ρ μ _ _ rl h fun v H1 d μ1 t1 m1 p1 h1=>?_⟩
  cases p1 with
  | obj q=>
    obtain ⟨ds,e0,h2⟩:=b8 h1
    obtain ⟨xs,ex,l⟩:=m1 q _ e0
    refine ⟨q,xs,rfl,ex,fun u=>?_⟩
    have t2:Tk H1 (L2.upd H1 q (.frz u (.lst xs))):=jb ex
    exact k _ _ _ (dn μ1 q) (t1.trans t2) (JQ m1 t2) (.ls (.inl ⟨u,aG⟩) (l.mono t2)) h2
  | _=>exact False.elim h1
def vo (To Te:ETr):ETr:=fun ρ μ Q=>To ρ μ fun x μ1=>kObj x fun a=>kL μ1 a fun _=>Te ρ μ1 fun y μ2=>kL μ2 a fun ds=>ds.length < 1000000∧Q .non (up μ2 a (.lst (ds++[y])))
theorem le_app {apos cpos:Pos}(ho:LE X o To)(he:LE X e Te)
    (hbase:attributeBase o (Str.ofString "append") X.env (eval o X.env)=eval o X.env:=by rfl)
    (hfew:((backTo cpos (starEach [e] X.env)).all (fun x=>!x.1)&&(backToKw cpos (keywordEach [] X.env)).all (fun x=>x.1.isSome)
      && decide ([e].length+([]:List Keyword).length+(if ([]:List Keyword).isEmpty then 0 else 1) < 30))=true:=by rfl)
    (hline:(apos.endLine == cpos.line)=true:=by rfl) (hs:starEach [e] X.env=(false,eval e X.env)::starEach [] X.env:=by rfl) (hplain:(backTo cpos (starEach [] X.env)).any (·.1)=false:=by rfl) :
    LE X (.Call (.Attribute o (Str.ofString "append") apos) [e] [] cpos) (vo To Te):=by
  obtain ⟨to,po,so⟩:=ho.ex
  obtain ⟨te,pe,se⟩:=he.ex
  refine ⟨_,Ff PySem.F.plainAttrs_list PySem.F.slot_list_append PySem.F.type_list_append o9 po (cE pe fz hs) hbase hfew hline hs hplain,fun σ H ρ μ Q Q' rl h k=>so σ H ρ μ _ _ rl h fun x H1 dx μ1 t1 m1 p1 h1=>?_⟩
  cases p1 with
  | obj q=>
    obtain ⟨ds0,e0,h2⟩:=b8 h1
    obtain ⟨xs0,ex0,_⟩:=m1 q _ e0
    refine ⟨.inl ⟨rfl,_,SqL.of ex0⟩,se σ H1 ρ μ1 _ _ (rl.go t1 m1) h2 fun y H2 dy μ2 t2 m2 p2 h3=>?_⟩
    obtain ⟨ds,e1,lz,h4⟩:=b8 h3
    obtain ⟨xs,ex,l⟩:=m2 q _ e1
    exact ⟨q,xs,y,rfl,rfl,ex,by rw[l.length];exact Nat.lt_of_lt_of_le lz (by decide),k _ _ _ _ ((t1.trans t2).trans (jb ex)) (E7 m2 ex (l.append (.cons p2 .nil))) .non h4⟩
  | _=>exact False.elim h1
def dg:FSp:=fun ds μ Q=>match ds with
  | [.tup xs]=>Q (.tup xs) μ
  | [.ls xs]=>Q (.tup xs) μ
  | [.obj a]=>kL μ a fun xs=>Q (.tup xs) μ
  | _=>False
theorem fX {K:PySem.W.Frag}:jX K (fun xs H Q=>∃ p ys,xs=[.ref p]∧((SqL K H p ys∧∀ l,H l=none→Q (.ref l) (L2.upd H l (.tup ys)))∨(SqT K H p ys∧Q (.ref p) H))) dg:=fun H μ xs ds Q Q' m p h k=>by
  unfold dg at h
  split at h
  · cases p with | cons p1 p2=>cases p2;cases p1 with | tup q l=>exact ⟨_,_,rfl,.inr ⟨q,k _ H _ μ (.refl H) m (.tup q l) h⟩⟩
  · cases p with | cons p1 p2=>cases p2;cases p1 with | ls q l=>exact ⟨_,_,rfl,.inl ⟨q.sq,fun z hz=>k _ _ _ μ (.new hz) (cg m hz) (.tup (SqT.of aG) (l.mono (.new hz))) h⟩⟩
  · rename_i q
    cases p with | cons p1 p2=>
    cases p2;cases p1
    obtain ⟨ys,e0,h⟩:=b8 h
    obtain ⟨xs,ex,l⟩:=m q _ e0
    exact ⟨_,_,rfl,.inl ⟨SqL.of ex,fun z hz=>k _ _ _ μ (.new hz) (cg m hz) (.tup (SqT.of aG) (l.mono (.new hz))) h⟩⟩
  · exact False.elim h
def tR:FSp:=fun ds μ Q=>match ds with
  | [.tup xs]=>∀ p,μ p=none→Q (.obj p) (up μ p (.lst xs))
  | [.ls xs]=>∀ p,μ p=none→Q (.obj p) (up μ p (.lst xs))
  | [.obj a]=>kL μ a fun xs=>∀ p,μ p=none→Q (.obj p) (up μ p (.lst xs))
  | _=>False
def dY:FSp:=fun ds μ Q=>match ds with
  | [.tup xs]=>Q (.ls xs) μ
  | [.ls xs]=>Q (.ls xs) μ
  | [.obj a]=>kL μ a fun xs=>Q (.ls xs) μ
  | _=>False
def GS (Q:VK):VK:=fun v H1=>∃ a xs,v=.ref a∧H1 a=some (.lst xs)∧∀ o,Q v (L2.upd H1 a (.frz o (.lst xs)))
theorem fW {K:PySem.W.Frag}{H:Hp}{μ:Mu}{ys:List V}{ds:List D}{Q:DK}{Q':VK}{z:Addr}(m:bI K H μ)(l:DpL K H ys ds)(h:Q (.ls ds) μ)(k:fN K H Q Q')(hz:H z=none):GS Q' (.ref z) (L2.upd H z (.lst ys)):=
  ⟨z,ys,rfl,aG,fun o=>by
    have e:L2.upd (L2.upd H z (.lst ys)) z (.frz o (.lst ys))=L2.upd H z (.frz o (.lst ys)):=pR
    rw[e]
    exact k _ _ _ μ (.new hz) (cg m hz) (.ls (.inl ⟨o,aG⟩) (l.mono (.new hz))) h⟩
theorem xZ {K:PySem.W.Frag}:jX K (fun xs H Q=>∃ p ys,xs=[.ref p]∧(SqL K H p ys∨SqT K H p ys)∧∀ l,H l=none→GS Q (.ref l) (L2.upd H l (.lst ys))) dY:=fun H μ xs ds Q Q' m p h k=>by
  unfold dY at h
  split at h
  · cases p with | cons p1 p2=>cases p2;cases p1 with | tup q l=>exact ⟨_,_,rfl,.inr q,fun z hz=>fW m l h k hz⟩
  · cases p with | cons p1 p2=>cases p2;cases p1 with | ls q l=>exact ⟨_,_,rfl,.inl q.sq,fun z hz=>fW m l h k hz⟩
  · rename_i q
    cases p with | cons p1 p2=>
    cases p2;cases p1
    obtain ⟨ys,e0,h⟩:=b8 h
    obtain ⟨xs,ex,l⟩:=m q _ e0
    exact ⟨_,_,rfl,.inl (SqL.of ex),fun z hz=>fW m l h k hz⟩
  · exact False.elim h
theorem sd {x:Str}{p:Pos}{At:ATr}(hx:x = "list")(hg:Gl X x)(hm:X.mg x=none)(hv:bootBuiltins x=some (.type "list"))(ha:LA X [e] At)(hn:x ≠ "__name__" := by decide)(hdb:(x == ("__debug__" : Str))=false:=by decide)
    (h1:starEach [e] X.env=(false,eval e X.env)::starEach [] X.env:=by rfl) (h2:(backTo pos (starEach [] X.env)).any (·.1)=false:=by rfl):LE X (.Call (.Name x p) [e] [] pos) (ao dY At):=by
  obtain ⟨ta,pa,sa⟩:=ha.ex
  exact ⟨_,jo (om pI hg hm hv pa hn hdb h1 h2),fun σ H ρ μ Q Q' rl h k=>sa σ H ρ μ _ _ rl h fun xs H1 ds μ1 t1 m1 p1 h1=>xZ H1 μ1 xs ds Q Q' m1 p1 h1 (k.go t1)⟩
def fg:D→Bool
  | .non=>true
  | .bl _=>true
  | .int _=>true
  | .str _=>true
  | _=>false
def inD (x:D)(xs:List D):Bool:=xs.any fun y=>eqD y x
def rIn (neg:Bool):DR2:=fun x y μ Q=>match y with
  | .tup xs=>(fg x=true∧xs.all fg=true)∧Q (.bl (if neg then !inD x xs else inD x xs)) μ
  | .ls xs=>(fg x=true∧xs.all fg=true)∧Q (.bl (if neg then !inD x xs else inD x xs)) μ
  | .obj a=>kL μ a fun xs=>(fg x=true∧xs.all fg=true)∧Q (.bl (if neg then !inD x xs else inD x xs)) μ
  | _=>False
end
end
section
open PySem PySem.Spec PyProof.Rows L2
section
variable {X:Cx} {a b e:Expr} {Ta Tb T:ETr} {pos:Pos}
def Jz (t:TE):TE:=fun σ H Q=>t σ H fun v H1=>Q v H1∨GS Q v H1
theorem w4 {t:TE}(h:PE X e t):PE X e (Jz t):=by
  have g:PE X e (fun σ H Q=>∃ P:VK,Jp t σ H P∧∀ v H',P v H'→Q v H'):=fun pins s σ H Q I ⟨P,hP,k⟩=>
    thn (jo h pins s σ H P I hP) fun u s1 ⟨v,H1,I1,r,q⟩=>⟨v,H1,I1,r,k _ _ q⟩
  intro pins s σ H Q I hh
  refine thn (h pins s σ H _ I hh) fun u s1 ⟨v,H1,I1,r,q⟩=>?_
  rcases q with q | ⟨c,xs,rfl,ec,q⟩
  · exact ⟨v,H1,I1,r,q⟩
  · have hz:=I1.hok c _ ec
    obtain ⟨z,its,n,rv,hg⟩:=hz
    have nl:∀ d o,H1 d=some o→(∀ ys,o≠.lst ys)→d≠c:=fun d o e1 e2 w=>by subst w;rw[ec] at e1;cases e1;exact e2 _ rfl
    refine ⟨.ref c,_,I1.un (h':=s1.heap) (t':=s1.toks) (H':=L2.upd H1 c (.frz { cls:=.type "list", data:=.seq its.toArray n } (.lst xs))) ⟨fun d o e _ _ _=>e,fun d o e _ _ _=>⟨o.slots,e⟩,fun d o e w _=>?_,fun d o e _=>⟨o,e⟩,fun d ys e=>?_,fun d o u e=>?_,fun d ps e=>⟨#[],?_⟩⟩ (fun d u e=>?_),r,q _⟩
    · rw[aB (fun z=>by subst z;rw[ec] at w;cases w)];exact w
    · rw[aB (nl d _ e (fun _=>nofun))];exact e
    · rw[aB (nl d _ e (fun _=>nofun))];exact e
    · rw[aB (nl d _ e (fun _=>nofun)),e];simp
    · by_cases hd:d=c
      · subst hd
        rw[aG] at e;cases e
        exact ⟨hg,z,its,n,rv,hg⟩
      · rw[aB hd] at e
        refine (I1.hok d u e).jS (fun k w _ q=>q) (fun k q=>?_) fun k ys q=>?_
        · rw[aB (nl k _ q (fun _=>nofun))];exact q
        · rw[aB (nl k _ q (fun _=>nofun))];exact q
def Fc (K:PySem.W.Frag):R2:=fun x y H Q=>∃ p q ys,x=.ref p∧y=.ref q∧SqT K H p []∧SqT K H q ys∧Q (.ref q) H
theorem CW:OpR X (binaryOp .Add) (Fc X.K):=fun pins s σ H x y v u Q I rx ry ⟨p,q,ys,e1,e2,hp,hq,h⟩=>by
  subst e1 e2
  cases rx
  cases ry
  obtain ⟨its,r1,p1,_⟩:=I.tuple hp
  obtain ⟨its2,r2,p2,_⟩:=I.tuple hq
  cases r1
  obtain ⟨⟨c1,d1,t1,l1⟩,ho,hc,n,hd⟩:=id p1
  obtain ⟨⟨c2,d2,t2,l2⟩,ho2,hc2,n2,hd2⟩:=id p2
  simp only at hc hd hc2 hd2
  subst hc hd hc2 hd2
  exact concat_meets ⟨_,ho,rfl⟩ ⟨_,ho2,rfl⟩ noFill_tuple_add seq_tuple_add PySem.F.slot_tuple_add PySem.F.entry_tuple_add (PySem.F.args_tuple_add_2 _ _)
    (tuple_addW0 p q #[] its2.toArray n n2 d1 d2 l1 l2 rfl) ⟨ho,ho2,⟨.ref q,H,I,rfl,h⟩⟩
def EO (K:PySem.W.Frag):R2:=fun x y H Q=>∃ p q xs ys,x=.ref p∧y=.ref q∧SqL K H p xs∧SqL K H q ys∧xs.length+ys.length≤sizeLine∧∀ z,H z=none→Q (.ref z) (L2.upd H z (.lst (xs++ys)))
theorem DN:OpR X (binaryOp .Add) (EO X.K):=fun pins s σ H x y v u Q I rx ry ⟨p,q,xs,ys,e1,e2,hp,hq,hz,h⟩=>by
  subst e1 e2
  cases rx
  cases ry
  obtain ⟨its,r1,p1,_⟩:=I.list hp
  obtain ⟨its2,r2,p2,_⟩:=I.list hq
  obtain ⟨⟨c1,d1,t1,l1⟩,n,ho,hc,hx,hd⟩:=id p1
  obtain ⟨⟨c2,d2,t2,l2⟩,n2,ho2,hc2,hx2,hd2⟩:=id p2
  simp only at hc hd hc2 hd2
  subst hc hd hc2 hd2
  have z1:=r1.length
  have z2:=r2.length
  refine concat_meets ⟨_,ho,rfl⟩ ⟨_,ho2,rfl⟩ PySem.noFill_list_add PySem.seq_list_add PySem.F.slot_list_add PySem.F.entry_list_add (PySem.F.args_list_add_2 _ _)
    (list_addW p q its.toArray its2.toArray n n2 d1 d2 l1 l2 (by rw[List.size_toArray,List.size_toArray];omega)) ⟨ho,ho2,?_⟩
  have ea:its.toArray++its2.toArray=(its++its2).toArray:=by simp
  rw[ea]
  exact ⟨.ref _,_,I.LH (t':=s.toks) (r1.append r2) (by rw[List.length_append];omega),rfl,h _ I.fresh⟩
def aK:DR2:=fun x y μ Q=>match x,y with
  | .int i,.int j=>Q (.int (i+j)) μ
  | .str i,.str j=>i.length+j.length≤1000000∧Q (.str (i++j)) μ
  | .tup a,.tup b=>a.length+b.length≤1000000∧Q (.tup (a++b)) μ
  | .ls a,.ls b=>a.length+b.length≤1000000∧Q (.ls (a++b)) μ
  | _,_=>False
def rPl (K:PySem.W.Frag):R2:=fun x y H Q=>(rI0 fun i j=>.int (i+j)) x y H Q∨(∃ i j,x=.str i∧y=.str j∧i.length+j.length≤sizeLine∧Q (.str (i++j)) H)∨EX K x y H Q∨Fc K x y H Q∨EO K x y H Q
theorem Ej:OpR X (binaryOp .Add) (rPl X.K):=fun pins s σ H x y v u Q I rx ry h=>by
  rcases h with h | h | h | h | h
  · exact Ge pins s σ H x y v u Q I rx ry h
  · exact vD pins s σ H x y v u Q I rx ry h
  · exact Ei pins s σ H x y v u Q I rx ry h
  · exact CW pins s σ H x y v u Q I rx ry h
  · exact DN pins s σ H x y v u Q I rx ry h
theorem aE (ha:LE X a Ta)(hb:LE X b Tb):LE X (.BinOp a .Add b pos) (ak aK Ta Tb):=by
  obtain ⟨ta,pa,sa⟩:=ha.ex
  obtain ⟨tb,pb,sb⟩:=hb.ex
  refine ⟨_,w4 (A7 Ej pa pb),fun σ H ρ μ Q Q' rl h k=>sa σ H ρ μ _ _ rl h fun x H1 dx μ1 t1 m1 p1 h1=>sb σ H1 ρ μ1 _ _ (rl.go t1 m1) h1 fun y H2 dy μ2 t2 m2 p2 h2=>?_⟩
  have p1:=p1.mono t2
  have k:=k.go (t1.trans t2)
  cases p1 with
  | int i=>
    cases p2 with
    | int j=>exact .inl ⟨i,j,rfl,rfl,.inl (k _ H2 _ μ2 (.refl H2) m2 (.int _) h2)⟩
    | _=>exact False.elim h2
  | str i=>
    cases p2 with
    | str j=>exact .inr (.inl ⟨i,j,rfl,rfl,big h2.1,.inl (k _ H2 _ μ2 (.refl H2) m2 (.str _) h2.2)⟩)
    | _=>exact False.elim h2
  | @tup q xs ds sq l=>
    cases p2 with
    | @tup q' ys es sq' l'=>
      obtain ⟨hz,h3⟩:=h2
      by_cases hx:xs=[]
      · subst hx
        cases l
        exact .inr (.inr (.inr (.inl ⟨q,q',ys,rfl,rfl,sq,sq',.inl (k _ H2 _ μ2 (.refl H2) m2 (.tup sq' l') h3)⟩)))
      · refine .inr (.inr (.inl ⟨q,q',xs,ys,rfl,rfl,sq,sq',hx,by rw[l.length,l'.length];exact big hz,fun hy=>?_,fun _ z hzn=>.inl ?_⟩))
        · subst hy
          cases l'
          rw[List.append_nil] at h3
          exact .inl (k _ H2 _ μ2 (.refl H2) m2 (.tup sq l) h3)
        · exact k _ _ _ μ2 (.new hzn) (cg m2 hzn) (.tup (SqT.of aG) ((l.append l').mono (.new hzn))) h3
    | _=>exact False.elim h2
  | @ls q xs ds sq l=>
    cases p2 with
    | @ls q' ys es sq' l'=>exact .inr (.inr (.inr (.inr ⟨q,q',xs,ys,rfl,rfl,sq.sq,sq'.sq,by rw[l.length,l'.length];exact big h2.1,fun z hz=>.inr (fW m2 (l.append l') h2.2 k hz)⟩)))
    | _=>exact False.elim h2
  | _=>cases p2<;>exact False.elim h2
abbrev OTr:=ST→Mu→(Option Int→Mu→Prop)→Prop
def ONo:OTr:=fun _ μ Q=>Q none μ
def eA (T:ETr):OTr:=fun ρ μ Q=>T ρ μ fun x μ1=>kI x fun i=>Q (some i) μ1
def K9 (K:PySem.W.Frag)(t:TO)(T:OTr):Prop:=∀ σ H ρ μ (Q:Option Int→Mu→Prop) (Q':Option Int→Hp→Prop),Rl K σ H ρ μ→T ρ μ Q→(∀ i H' μ',Tk H H'→bI K H' μ'→Q i μ'→Q' i H')→t σ H Q'
structure LO (X:Cx) (o:Option Expr) (T:OTr):Prop where
  ex:∃ t,PO X o t∧K9 X.K t T
theorem de:LO X none ONo:=⟨_,D7,fun σ H ρ μ Q Q' rl h k=>k none H μ (.refl H) rl.mu h⟩
theorem cc (h:LE X e T):LO X (some e) (eA T):=by
  obtain ⟨t,p,s⟩:=h.ex
  refine ⟨_,DE p,fun σ H ρ μ Q Q' rl h k=>s σ H ρ μ _ _ rl h fun v H1 d μ1 t1 m1 p1 h1=>?_⟩
  cases p1 with
  | int i=>exact ⟨i,rfl,k _ H1 μ1 t1 m1 h1⟩
  | _=>exact False.elim h1
def cutD {α:Type}(xs:List α)(lo hi:Option Int):List α:=(xs.drop (HT.sIx xs.length 0 lo)).take (HT.sIx xs.length xs.length hi - HT.sIx xs.length 0 lo)
theorem vz {α:Type}{xs:List α}{lo hi:Option Int}(h:HT.sIx xs.length 0 lo=0∧HT.sIx xs.length xs.length hi=xs.length):cutD xs lo hi=xs:=by
  unfold cutD;rw[h.1,h.2];simp
theorem DpL.take {K:PySem.W.Frag}{H:Hp}:∀ {vs:List V} {ds:List D} (n:Nat),DpL K H vs ds→DpL K H (vs.take n) (ds.take n)
  | _,_,0,_=>.nil
  | _,_,_+1,.nil=>.nil
  | _,_,n+1,.cons h l=>.cons h (DpL.take n l)
theorem DpL.drop {K:PySem.W.Frag}{H:Hp}:∀ {vs:List V} {ds:List D} (n:Nat),DpL K H vs ds→DpL K H (vs.drop n) (ds.drop n)
  | _,_,0,l=>l
  | _,_,_+1,.nil=>.nil
  | _,_,n+1,.cons _ l=>DpL.drop n l
theorem DpL.cut {K:PySem.W.Frag}{H:Hp}{vs:List V}{ds:List D}(lo hi:Option Int)(l:DpL K H vs ds):DpL K H (rg vs lo hi) (cutD ds lo hi):=by
  unfold rg cutD;rw[l.length];exact (l.drop _).take _
theorem tH {prog:Program}{w:World}{A:Around}{E:Value→Shared→Prop}{s:Shared}{t sl:Addr}{items:Array Value}{vl vu:Value}{lo hi:Option Int}{Q:Value→Shared→Prop}(ht:IsTup s.heap t items)(hs:s.heap.IsSliceOf sl vl vu .none)(pl:IsPart vl lo)(pu:IsPart vu hi)
    (hw:HT.sIx items.size 0 lo=0∧HT.sIx items.size items.size hi=items.size) (h:Q (.ref t) s):wpAny (model prog w) A (getItem (.ref t) (.ref sl)) Q E s:=by
  obtain ⟨os,hos,hcs,hds⟩:=id hs
  have hTs:s.TypeIs (.ref sl) "slice" := ⟨os,hos,hcs⟩
  unfold getItem
  try with_reducible refine wpAny_holding ?_
  first | refine wpAny_bind (wpAny_pure ?_) | skip
  refine wpAny_bind (wpAny_sequenceKey ht.typeIs (by decide) ?_)
  refine wpAny_bind (wpAny_callSpecial?_slot (name:=Str.ofString "__getitem__") ht.typeIs PyProof.Rows.slot_tuple_getitem (wpAny_call_entry PyProof.Rows.slot_tuple_getitem ht.typeIs entry_tuple_getitem ?_ (args_tuple_getitem _ _)))
  show wpAny _ _ (Builtin.Tuple.tupleItemsOf (.ref t) >>= _) _ _ s
  refine wpAny_bind (tupleItemsOf_ ht ?_)
  refine wpAny_bind <| wpAny_typeOf hTs ?_
  rw[if_pos (by decide)]
  refine wpAny_bind (HT.eK hs pl pu ?_)
  rw[hw.1,hw.2]
  refine (show wpAny _ _ (if (((0:Nat):Int) == 0&&(1:Int) == 1&&(items.size - 0) == items.size)=true then _ else _) _ _ s from ?_)
  rw[if_pos (by simp)]
  unfold Builtin.Tuple.tupleIsExact
  refine wpAny_bind (wpAny_bind (wpAny_typeOf ht.typeIs (wpAny_pure ?_)))
  rw[if_pos (by decide)]
  first
    | exact wpAny_bind (wpAny_rule (wpAny_bind (wpAny_pure (wpAny_pure ⟨_,rfl,wpAny_pure h⟩))))
    | exact wpAny_bind (wpAny_rule (wpAny_pure ⟨_,rfl,wpAny_pure h⟩))
    | exact wpAny_bind (wpAny_bind (wpAny_rule (wpAny_pure (wpAny_pure ⟨_,rfl,wpAny_pure h⟩))))
def Lg (K:PySem.W.Frag):V→Option Int→Option Int→Hp→VK→Prop:=fun x lo hi H Q=>∃ a xs,x=.ref a∧SqT K H a xs∧(HT.sIx xs.length 0 lo=0∧HT.sIx xs.length xs.length hi=xs.length)∧Q (.ref a) H
theorem Av:SlR X (Lg X.K):=fun pins s σ H x v vl vu lo hi sl Q I rx hs pl pu ⟨q,xs,e,hx,hw,h⟩=>by
  subst e
  cases rx
  obtain ⟨its,r,ht,_⟩:=I.tuple hx
  have hlen:its.toArray.size=xs.length:=by rw[List.size_toArray];exact r.length.symm
  exact ⟨"tuple", _,PyProof.Rows.slot_tuple_getitem.lookup,ht.typeIs,tH ht hs pl pu (by rw[hlen];exact hw) ⟨.ref q,H,I,rfl,h⟩⟩
def rSl:D→Option Int→Option Int→Mu→DK→Prop:=fun x lo hi μ Q=>match x with
  | .tup xs=>Q (.tup (cutD xs lo hi)) μ
  | .ls xs=>Q (.ls (cutD xs lo hi)) μ
  | .obj a=>kL μ a fun xs=>Q (.ls (cutD xs lo hi)) μ
  | _=>False
def TSl (a:ETr)(lo hi:OTr):ETr:=fun ρ μ Q=>a ρ μ fun x μ1=>lo ρ μ1 fun l μ2=>hi ρ μ2 fun h μ3=>rSl x l h μ3 Q
theorem eh {lo hi:Option Expr}{Tl Th:OTr}{p2:Pos}(ha:LE X a Ta)(hl:LO X lo Tl)(hh:LO X hi Th):LE X (.Subscript a (.Slice lo hi none p2) pos) (TSl Ta Tl Th):=by
  obtain ⟨ta,pa,sa⟩:=ha.ex
  obtain ⟨tl,pl,sl⟩:=hl.ex
  obtain ⟨th,ph,sh⟩:=hh.ex
  refine ⟨_,w4 (rF (SlR.or Av (SlR.or Hf Eu)) pa pl ph),fun σ H ρ μ Q Q' rl h k=>sa σ H ρ μ _ _ rl h fun x H1 dx μ1 t1 m1 p1 h1=>sl σ H1 ρ μ1 _ _ (rl.go t1 m1) h1 fun i H2 μ2 t2 m2 h2=>sh σ H2 ρ μ2 _ _ (rl.go (t1.trans t2) m2) h2 fun j H3 μ3 t3 m3 h3=>?_⟩
  have p1:=p1.mono (t2.trans t3)
  have k:=k.go (t1.trans (t2.trans t3))
  cases p1 with
  | @tup q xs ds sq l=>
    by_cases hw:HT.sIx xs.length 0 i=0∧HT.sIx xs.length xs.length j=xs.length
    · refine .inl ⟨q,xs,rfl,sq,hw,.inl (k _ H3 _ μ3 (.refl H3) m3 (.tup sq l) ?_)⟩
      rw[l.length] at hw
      have h3:Q (.tup (cutD ds i j)) μ3:=h3
      rw[vz hw] at h3;exact h3
    · exact .inr (.inl ⟨q,xs,rfl,sq,hw,fun z hz=>.inl (k _ _ _ μ3 (.new hz) (cg m3 hz) (.tup (SqT.of aG) ((l.cut i j).mono (.new hz))) h3)⟩)
  | @ls q xs ds sq l=>exact .inr (.inr ⟨q,xs,rfl,sq.sq,fun z hz=>.inr (fW m3 (l.cut i j) h3 k hz)⟩)
  | obj q=>
    obtain ⟨ds,e0,h4⟩:=b8 h3
    obtain ⟨xs,ex,l⟩:=m3 q _ e0
    exact .inr (.inr ⟨q,xs,rfl,SqL.of ex,fun z hz=>.inr (fW m3 (l.cut i j) h4 k hz)⟩)
  | _=>exact False.elim h3
theorem ki {α:Type}(xs:List α)(k:Nat):cutD xs none (some (k:Int))=xs.take k:=by
  unfold cutD
  rw[HT.iS,HT.wN,List.drop_zero,Nat.sub_zero]
  rcases Nat.le_total k xs.length with h | h
  · rw[Nat.min_eq_left h]
  · rw[Nat.min_eq_right h,List.take_length,List.take_of_length_le h]
theorem oC {α:Type}(xs:List α)(k:Nat):cutD xs (some (k:Int)) none=xs.drop k:=by
  unfold cutD
  rw[HT.iS,HT.wN]
  rcases Nat.le_total k xs.length with h | h
  · rw[Nat.min_eq_left h,List.take_of_length_le (by rw[List.length_drop];omega)]
  · rw[Nat.min_eq_right h,List.drop_length,List.drop_of_length_le h];simp
end
end
section
open PySem PySem.Spec PyProof.Rows L2
theorem DpL.ints_of {K:PySem.W.Frag}{H:Hp}:∀ {xs:List V} {ns:List Int},DpL K H xs (ns.map .int)→xs=ns.map V.int
  | _,[],.nil=>rfl
  | _,n::r,.cons h l=>by cases h;rw[DpL.ints_of l];rfl
end
section
open PySem PySem.Spec PyProof.Rows L2
theorem _root_.L2.Inv.frz {X:Cx}{pins:List (Addr×Obj)}{σ:L2.St}{H:Hp}{s:Shared}{c:Addr}{xs:List V}(I1:Inv X pins σ H s)(ec:H c=some (.lst xs)):∃ o,Inv X pins σ (L2.upd H c (.frz o (.lst xs))) s:=by
  obtain ⟨z,its,n,rv,hg⟩:=I1.hok c _ ec
  have nl:∀ d o,H d=some o→(∀ ys,o≠.lst ys)→d≠c:=fun d o e1 e2 w=>by subst w;rw[ec] at e1;cases e1;exact e2 _ rfl
  refine ⟨_,I1.un (h':=s.heap) (t':=s.toks) (H':=L2.upd H c (.frz { cls:=.type "list", data:=.seq its.toArray n } (.lst xs))) ⟨fun d o e _ _ _=>e,fun d o e _ _ _=>⟨o.slots,e⟩,fun d o e w _=>?_,fun d o e _=>⟨o,e⟩,fun d ys e=>?_,fun d o u e=>?_,fun d ps e=>⟨#[],?_⟩⟩ (fun d u e=>?_)⟩
  · rw[aB (fun z=>by subst z;rw[ec] at w;cases w)];exact w
  · rw[aB (nl d _ e (fun _=>nofun))];exact e
  · rw[aB (nl d _ e (fun _=>nofun))];exact e
  · rw[aB (nl d _ e (fun _=>nofun)),e];simp
  · by_cases hd:d=c
    · subst hd
      rw[aG] at e;cases e
      exact ⟨hg,z,its,n,rv,hg⟩
    · rw[aB hd] at e
      refine (I1.hok d u e).jS (fun k w _ q=>q) (fun k q=>?_) fun k ys q=>?_
      · rw[aB (nl k _ q (fun _=>nofun))];exact q
      · rw[aB (nl k _ q (fun _=>nofun))];exact q
end
section
open PySem PySem.Spec PyProof.Rows L2
section
variable {X:Cx} {ea:Expr} {es:List Expr} {ek:Nat} {ep p pos:Pos}
def ik (ds:List D):List D:=(List.range ds.length).zipWith (fun i d=>.tup [.int (i:Nat),d]) ds
def Jg (t:ATr):ATr:=fun ρ μ Q=>t ρ μ fun vs μ1=>match vs with
  | [.ls ds]=>Q (ik ds) μ1
  | _=>False
theorem ou (ds:List D)(i:Nat):(ik ds)[i]? = (ds[i]?).map fun d=>.tup [.int (i:Nat),d]:=by
  unfold ik
  rw[List.getElem?_zipWith]
  by_cases h:i < ds.length
  · rw[List.getElem?_range h,List.getElem?_eq_getElem h];rfl
  · rw[List.getElem?_eq_none_iff.mpr (by simpa using h),List.getElem?_eq_none_iff.mpr (by simpa using h)];rfl
theorem pz (ds:List D):(ik ds).length=ds.length:=by unfold ik;simp
variable {eb:Expr} {tg:Expr} {Ta Tb:ETr}
def qR (a b:ETr):ATr:=fun ρ μ Q=>a ρ μ fun x μ1=>b ρ μ1 fun y μ2=>kI x fun i=>kI y fun j=>((-4611686018427387904≤i∧i < 4611686018427387904)∧-4611686018427387904≤j∧j < 4611686018427387904)∧Q (dJ i (j - i).toNat) μ2
theorem yd {rp rpos:Pos}(hg:Gl X "range")(hm:X.mg "range" = none)(ha:LE X ea Ta)(hb:LE X eb Tb)(hs:starEach [ea,eb] X.env=[(false,eval ea X.env),(false,eval eb X.env)]:=by rfl)(hs2:starEach [eb] X.env=[(false,eval eb X.env)]:=by rfl):LI X tg (.Call (.Name "range" rp) [ea,eb] [] rpos) (qR Ta Tb):=by
  obtain ⟨ta,pa,sa⟩:=ha.ex
  obtain ⟨tb,pb,sb⟩:=hb.ex
  refine ⟨_,yT hg hm (cE pa (cE pb fz hs2) (by rw[hs,hs2])) hs hs2,fun σ H ρ μ Q R rl h k=>sa σ H ρ μ _ _ rl h fun x H1 d μ1 t1 m1 p1 h1=>sb σ H1 ρ μ1 _ _ (rl.go t1 m1) h1 fun y H2 d2 μ2 t2 m2 p2 h2=>?_⟩
  cases p1 with
  | int i=>
    cases p2 with
    | int j=>
      obtain ⟨⟨⟨h3,h4⟩,h5,h6⟩,h7⟩:=h2
      exact ⟨i,j,rfl,⟨by simpa using h3,by simpa using h4,by simpa using h5,by simpa using h6⟩,k _ H2 _ μ2 (t1.trans t2) m2 (tJ i _) h7⟩
    | _=>exact False.elim h2
  | _=>exact False.elim h2
end
end
section
open PySem PySem.Spec PyProof PyProof.Rows L2
theorem d7:∀ {us:List Value} {ns:List Int},IntsAre us ns→∃ ps:List (Int×Tok),us=ps.map (fun p=>Value.int p.1 p.2)∧ps.map Prod.fst=ns
  | _,_,.nil=>⟨[],⟨rfl,rfl⟩⟩
  | _,_,.cons n t h=>by
    obtain ⟨ps,e1,e2⟩:=d7 h
    exact ⟨(n,t)::ps,by rw[e1];rfl,by rw[← e2];rfl⟩
theorem l8 (ps:List (Int×Tok))(i:Nat):numAt ps.toArray i=((ps.map Prod.fst)[i]?).getD 0:=by
  unfold numAt
  simp only[List.getElem?_toArray,List.getElem?_map]
theorem yg {X:Cx}(hc:X.calm=true):bz X (.builtin "max") (fun xs H Q=>∃ (p:Addr) (ns:List Int),xs=[.ref p]∧SqL X.K H p (ns.map V.int)∧ns≠[]∧∀ M,M∈ns→(∀ a∈ns,a≤M)→Q (.int M) H):=fun pins s σ H xs us Q I rx ⟨p,ns,e1,sq,ne,q⟩=>by
  subst e1
  obtain ⟨u,rfl,ru⟩:=vals1 rx
  cases ru
  obtain ⟨its,rv,pl,_⟩:=I.list sq
  obtain ⟨ps,rfl,rfl⟩:=d7 (intsAre_of rv)
  have hn:0 < ps.length:=by cases ps with | nil=>exact absurd rfl ne | cons=>simp
  have il:s.heap.IsList p (intItems ps.toArray):=by
    have:=pl.isList
    simpa[intItems] using this
  refine max_intList (I.ok.hd hc) il (by simpa using hn) fun v h' tk hv hk=>?_
  rcases intItems_at hv with ⟨t,rfl⟩
  obtain ⟨b1,b2⟩:=argBest_gt (numAt ps.toArray) (ps.toArray.size - 1)
  generalize argBest (fun i j=>decide (numAt ps.toArray i > numAt ps.toArray j)) (ps.toArray.size - 1)=k at hv b1 b2
  have hs:ps.toArray.size=ps.length:=by simp
  rw[hs] at b1 b2
  have hk':k < (ps.map Prod.fst).length:=by rw[List.length_map];omega
  refine ⟨.int _,H,I.kept hk,⟨t,rfl⟩,q _ ?_ fun a ha=>?_⟩
  · rw[l8,List.getElem?_eq_getElem hk']
    exact List.getElem_mem hk'
  · obtain ⟨j,hj,rfl⟩:=List.getElem_of_mem ha
    have:=b2 j (by rw[List.length_map] at hj;omega)
    rw[l8 ps j,List.getElem?_eq_getElem hj] at this
    exact this
def wA:FSp:=fun ds μ Q=>match ds with
  | [.ls xs]=>∃ ns:List Int,(xs=ns.map .int∧ns≠[])∧∀ M,M∈ns→(∀ a∈ns,a≤M)→Q (.int M) μ
  | _=>False
theorem Ac {K:PySem.W.Frag}:jX K (fun xs H Q=>∃ (p:Addr) (ns:List Int),xs=[.ref p]∧SqL K H p (ns.map V.int)∧ns≠[]∧∀ M,M∈ns→(∀ a∈ns,a≤M)→Q (.int M) H) wA:=fun H μ xs ds Q Q' m p h k=>by
  unfold wA at h
  split at h
  · obtain ⟨ns,⟨rfl,ne⟩,h⟩:=h
    cases p with | cons p1 p2=>
    cases p2
    cases p1 with
    | @ls q xs ds sq l=>
      have ex:=l.ints_of
      subst ex
      exact ⟨q,ns,rfl,sq.sq,ne,fun M h1 h2=>k _ H _ μ (.refl H) m (.int _) (h M h1 h2)⟩
  · exact h.elim
section
variable {X:Cx} {a b:Expr} {Ta Tb:ETr} {pos:Pos}
end
end
theorem qQ (i j:Int)(μ Q):aK (.int i) (.int j) μ Q=Q (.int (i+j)) μ:=rfl
theorem pU (i j:Str)(μ Q):aK (.str i) (.str j) μ Q=(i.length+j.length≤1000000∧Q (.str (i++j)) μ):=rfl
theorem pP (a b:List D)(μ Q):aK (.tup a) (.tup b) μ Q=(a.length+b.length≤1000000∧Q (.tup (a++b)) μ):=rfl
theorem qm (a b:List D)(μ Q):aK (.ls a) (.ls b) μ Q=(a.length+b.length≤1000000∧Q (.ls (a++b)) μ):=rfl
theorem mL (a:List D)(μ Q):dg [.tup a] μ Q=Q (.tup a) μ:=rfl
theorem kE (a:List D)(μ Q):dg [.ls a] μ Q=Q (.tup a) μ:=rfl
theorem mG (a:Addr)(μ Q):dg [.obj a] μ Q=kL μ a fun xs=>Q (.tup xs) μ:=rfl
theorem mw (a:List D)(μ Q):dY [.tup a] μ Q=Q (.ls a) μ:=rfl
theorem lB (a:List D)(μ Q):dY [.ls a] μ Q=Q (.ls a) μ:=rfl
theorem kr (a:Addr)(μ Q):dY [.obj a] μ Q=kL μ a fun xs=>Q (.ls xs) μ:=rfl
theorem kU (a:List D)(μ Q):tR [.tup a] μ Q = ∀ p,μ p=none→Q (.obj p) (up μ p (.lst a)):=rfl
theorem mK (a:List D)(μ Q):tR [.ls a] μ Q = ∀ p,μ p=none→Q (.obj p) (up μ p (.lst a)):=rfl
theorem lY (a:Addr)(μ Q):tR [.obj a] μ Q=kL μ a fun xs=>∀ p,μ p=none→Q (.obj p) (up μ p (.lst xs)):=rfl
theorem Cg (a:List D)(lo hi)(μ Q):rSl (.tup a) lo hi μ Q=Q (.tup (cutD a lo hi)) μ:=rfl
theorem AW (a:List D)(lo hi)(μ Q):rSl (.ls a) lo hi μ Q=Q (.ls (cutD a lo hi)) μ:=rfl
theorem Bg (a:Addr)(lo hi)(μ Q):rSl (.obj a) lo hi μ Q=kL μ a fun xs=>Q (.ls (cutD xs lo hi)) μ:=rfl
theorem Af (n:Bool)(x:D)(a:List D)(μ Q):L3.rIn n x (.tup a) μ Q=((fg x=true∧a.all fg=true)∧Q (.bl (if n then !inD x a else inD x a)) μ):=rfl
theorem zJ (n:Bool)(x:D)(a:List D)(μ Q):L3.rIn n x (.ls a) μ Q=((fg x=true∧a.all fg=true)∧Q (.bl (if n then !inD x a else inD x a)) μ):=rfl
theorem Bt (n:Bool)(x:D)(a:Addr)(μ Q):L3.rIn n x (.obj a) μ Q=kL μ a fun xs=>(fg x=true∧xs.all fg=true)∧Q (.bl (if n then !inD x xs else inD x xs)) μ:=rfl
theorem uf (a:Addr)(μ Q):df [.obj a] μ Q=kL μ a fun xs=>Q (.int xs.length) μ:=rfl
theorem u5 (x:Str)(μ Q):df [.str x] μ Q=(x.length≤1000000∧Q (.int x.length) μ):=rfl
theorem zH (μ Q):rIs .non .non μ Q=Q (.bl true) μ:=rfl
theorem Bf (i:Int)(μ Q):rIs (.int i) .non μ Q=Q (.bl false) μ:=rfl
theorem AO (i:List D)(μ Q):rIs (.tup i) .non μ Q=Q (.bl false) μ:=rfl
theorem lN (μ Q):uG .non .non μ Q=Q (.bl false) μ:=rfl
theorem lq (i:Int)(μ Q):uG (.int i) .non μ Q=Q (.bl true) μ:=rfl
theorem l9 (i:List D)(μ Q):uG (.tup i) .non μ Q=Q (.bl true) μ:=rfl
theorem uh (c:String)(i:List D)(μ Q):yp c (.ls i) μ Q=Q (.bl (aZ "list" c)) μ:=rfl
theorem tQ (c:String)(i:Str)(μ Q):yp c (.str i) μ Q=Q (.bl (aZ "str" c)) μ:=rfl
theorem vE (c:String)(μ Q):yp c .non μ Q=Q (.bl (aZ "NoneType" c)) μ:=rfl
theorem b6 (k:Nat)(ds:List D):atD ds (k:Int)=ds[k]?:=by
  unfold atD L2.atI L2.ixN
  rw[if_pos (Int.natCast_nonneg k)]
  by_cases h:k < ds.length
  · rw[if_pos (by omega)];simp
  · rw[if_neg (by omega)];simp;omega
theorem xo (ds:List D):atD ds 0=ds[0]?:=b6 0 ds
theorem xm (ds:List D):atD ds 1=ds[1]?:=b6 1 ds
theorem xg (ds:List D):atD ds 2=ds[2]?:=b6 2 ds
theorem wC (ds:List D):atD ds 3=ds[3]?:=b6 3 ds
theorem wc (ds:List D):atD ds 4=ds[4]?:=b6 4 ds
theorem wY (ds:List D):atD ds 5=ds[5]?:=b6 5 ds
theorem qw (n k:Nat):L2.ixN n (k:Int)=if k < n then some k else none:=by
  unfold L2.ixN
  rw[if_pos (Int.natCast_nonneg k)]
  by_cases h:k < n
  · rw[if_pos (by omega),if_pos h];simp
  · rw[if_neg (by omega),if_neg h]
theorem iD:aZ "int" "int" = true:=by decide
theorem iQ:aZ "int" "bool" = false:=by decide
theorem ij:aZ "bool" "bool" = true:=by decide
theorem iL:aZ "bool" "int" = true:=by decide
theorem gZ:aZ "tuple" "tuple" = true:=by decide
theorem iR:aZ "int" "tuple" = false:=by decide
theorem gU:aZ "bool" "tuple" = false:=by decide
theorem fm0 {a n:Int}(h:0 < n):0≤a.fmod n:=Int.fmod_nonneg_of_pos a h
theorem fm1 {a n:Int}(h:0 < n):a.fmod n < n:=Int.fmod_lt_of_pos a h
theorem BF (A B:Prop):kIf true A B=A:=rfl
theorem Bk (A B:Prop):kIf false A B=B:=rfl
theorem AI (p:Prop) [Decidable p] (A B:Prop):kIf (decide p) A B=if p then A else B:=by by_cases h:p<;>simp[h,kIf]
theorem zP (c:Bool)(A B:Prop):kIf (!c) A B=kIf c B A:=by cases c<;>rfl
theorem za (c:Bool)(f):kB (.bl c) f=f c:=rfl
theorem t9 (c:Int)(f):kI (.int c) f=f c:=rfl
theorem qp (c:D)(f):kO (some c) f=f c:=rfl
theorem vB (c:List D)(f):kS (.tup c) f=f c:=rfl
theorem Bi (c:List D)(f):kS (.ls c) f=f c:=rfl
theorem vx (a b:D)(f):k2 [a,b] f=f a b:=rfl
theorem p9 (c:Nat)(f):kN (some c) f=f c:=rfl
theorem xq (μ:Mu)(a:Addr)(ds:List D)(f):kL (up μ a (.lst ds)) a f=f ds:=by unfold kL;rw[aJ]
theorem Je {μ:Mu}{a:Addr}{ds:List D}(h:μ a=some (.lst ds))(f):kL μ a f=f ds:=by unfold kL;rw[h]
theorem kP (a:Addr)(n:Int)(y:D)(μ:Mu)(f):CM (.obj a) (.int n) y μ f=kL μ a fun ds=>kN (L2.ixN ds.length n) fun j=>f (up μ a (.lst (ds.set j y))):=rfl
theorem vJ (i j:Int)(μ Q):ka (.int i) (.int j) μ Q=Q (.int (i - j)) μ:=rfl
theorem uq (i j:Int)(μ Q):eC (.int i) (.int j) μ Q=(MulOk i j∧Q (.int (i*j)) μ):=rfl
theorem uB (i j:Int)(μ Q):je (.int i) (.int j) μ Q=(fh j∧Q (.int (i.fdiv j)) μ):=rfl
theorem uK (i j:Int)(μ Q):ly (.int i) (.int j) μ Q=(j≠0∧Q (.int (i.fmod j)) μ):=rfl
theorem ur (i j:Int)(μ Q):xA (.int i) (.int j) μ Q=(sf i j∧Q (.int (i ^ j.toNat)) μ):=rfl
theorem uV (i:Int)(μ Q):mh (.int i) μ Q=Q (.int (-i)) μ:=rfl
theorem zg (i j:Int)(μ Q):rLt (.int i) (.int j) μ Q=Q (.bl (decide (i < j))) μ:=rfl
theorem AR (i j:Int)(μ Q):rLe (.int i) (.int j) μ Q=Q (.bl (decide (i≤j))) μ:=rfl
theorem AK (i j:Int)(μ Q):rGt (.int i) (.int j) μ Q=Q (.bl (decide (j < i))) μ:=rfl
theorem As (i j:Int)(μ Q):rGe (.int i) (.int j) μ Q=Q (.bl (decide (j≤i))) μ:=rfl
theorem Cd (x y:D)(μ Q):L3.rEq x y μ Q=((okD 40 x=true∧okD 40 y=true)∧Q (.bl (eqD x y)) μ):=rfl
theorem y2 (x y:D)(μ Q):L3.rNe x y μ Q=((okD 40 x=true∧okD 40 y=true)∧Q (.bl (!eqD x y)) μ):=rfl
theorem kx (ds:List D)(i:Int)(μ Q):L3.rIx (.tup ds) (.int i) μ Q=kO (atD ds i) fun d=>Q d μ:=rfl
theorem y4 (ds:List D)(i:Int)(μ Q):L3.rIx (.ls ds) (.int i) μ Q=kO (atD ds i) fun d=>Q d μ:=rfl
theorem Cj (a:Addr)(i:Int)(μ Q):L3.rIx (.obj a) (.int i) μ Q=kL μ a fun ds=>kO (atD ds i) fun d=>Q d μ:=rfl
theorem u6 (c:String)(i:Int)(μ Q):yp c (.int i) μ Q=Q (.bl (aZ "int" c)) μ:=rfl
theorem vP (c:String)(i:Bool)(μ Q):yp c (.bl i) μ Q=Q (.bl (aZ "bool" c)) μ:=rfl
theorem vt (c:String)(i:List D)(μ Q):yp c (.tup i) μ Q=Q (.bl (aZ "tuple" c)) μ:=rfl
theorem vq (i:Int)(μ Q):sv [.int i] μ Q=Q (.int (if i < 0 then -i else i)) μ:=rfl
theorem tN (i j:Int)(μ Q):KW [.int i,.int j] μ Q=Q (.int (if j > i then j else i)) μ:=rfl
theorem tZ (i j:Int)(μ Q):oE [.int i,.int j] μ Q=Q (.int (if j < i then j else i)) μ:=rfl
theorem vc (i:Int)(μ Q):Kl [.int i] μ Q=Q (.int i) μ:=rfl
theorem tL (i:Bool)(μ Q):Kl [.bl i] μ Q=Q (.int (if i then 1 else 0)) μ:=rfl
theorem vO (i:List D)(μ Q):df [.tup i] μ Q=Q (.int i.length) μ:=rfl
theorem tS (i:List D)(μ Q):df [.ls i] μ Q=Q (.int i.length) μ:=rfl
local macro_rules | `(tactic| walk_at "rd")=>`(tactic| try simp only[ah,TC,ak,TUn,fR,ym,jB,TB,GI,TOr,kf,Gz,vv,aq,af,bM,cG,rB,ao,a9,aH,vM,zK,jK,aP,Au,bV,ax,aV,uR,gH,j7,dA,f7, 
  BF,Bk,AI,zP,za,t9,qp,vB,Bi,vx,p9,xq,kP,qQ,pU,pP,qm,vo,mM,xC,mL,kE,mG,mw,lB,kr,kU,mK,lY,TSl,ONo,eA,Cg,AW,Bg,Af,zJ,Bt,uf,u5,zH,Bf,AO,lN,lq,l9,uh,tQ,vE,vJ,uq,uB,uK,ur,uV,zg,AR,AK,As,Cd,y2,kx,y4,Cj,u6,vP,vt,vq,tN,tZ,vc,tL,vO,tS,
  lk,ini,List.map,List.length,List.replicate,List.append,List.set,List.cons_append,List.nil_append,Nat.sub_self,Nat.reduceSub,Nat.reduceAdd,
  xo,xm,xg,wC,wc,wY,List.getElem?_cons_zero,List.getElem?_cons_succ,aJ,Nat.reduceLT,Nat.reduceLeDiff,if_true,if_false,true_and,and_true,Bool.not_true,Bool.not_false,Nat.lt_add_one,Nat.zero_lt_succ,Nat.succ_lt_succ_iff,Nat.zero_lt_one,
  decide_eq_true_eq,Bool.false_eq_true,ite_false,ite_true,ne_eq,not_false_eq_true,Int.reduceToNat,Int.reducePow,Int.reduceNeg,Int.reduceSub,Int.reduceAdd,Int.reduceMul,Int.reduceEq,okD,bN,eqD,nE,Bool.and_self,Bool.and_true,Bool.true_and,iD,iQ,ij,iL,gZ,iR,gU])
local macro_rules | `(tactic| walk_at "ok")=>`(tactic| (simp only[L3.fh,L3.MulOk,L3.S64,L3.cu,L3.sf] at *;omega))
def Box (μ:Mu)(b:Addr):Prop:=∃ g s c:Int,μ b=some (.lst [.int g,.int s,.int c])∧0≤s∧s < 2147483647
structure l5 (b:Addr) (μ μ':Mu):Prop where
  box:Box μ' b
  oth:∀ a,a≠b→μ' a=μ a
theorem l5.trans {b:Addr}{μ μ1 μ2:Mu}(x:l5 b μ μ1)(y:l5 b μ1 μ2):l5 b μ μ2:=⟨y.box,fun a h=>(y.oth a h).trans (x.oth a h)⟩
theorem sP (x y:Int):Int.gcd y (x.fmod y)=Int.gcd x y:=by
  rw[Int.fmod_def,Int.gcd_sub_mul_left_right,Int.gcd_comm]
theorem A6 (a:Int):(if a < 0 then -a else a)=(a.natAbs:Int):=by
  split<;>omega
def mz (i:Nat):ST→Mu→Nat:=fun ρ _=>match lk ρ i with
  | some (.int z)=>z.toNat
  | _=>0
structure Fr (p q:Int):Prop where
  q0:0 < q
  q1:q < 100000000000
  p0:-100000000000 < p
  p1:p < 100000000000
  g:Int.gcd p q=1
theorem fO {a b:Int}(h:0 < b):a.fdiv b=a / b:=Int.fdiv_eq_ediv_of_nonneg a (Int.le_of_lt h)
def cx:FSp:=fun ds μ Q=>match ds with
  | [.ls xs]=>(∃ ns:List Int,xs=ns.map .int∧ns.length≤63)∧∀ μ',Q (.bl true) μ'
  | _=>False
theorem qX:∀ ds μ Q,cx ds μ Q→ds.length=1:=by
  unfold cx
  walk_at "ln"
theorem jd (ns:List Int)(h:ns.length≤63)(μ:Mu):cx [.ls (ns.map .int)] μ (fun d _=>d=.bl true):=⟨⟨ns,rfl,h⟩,fun _=>rfl⟩
local macro_rules | `(tactic| walk_at "rd")=>`(tactic| try simp only[ah,TC,ak,TUn,fR,ym,jB,TB,GI,TOr,kf,Gz,vv,aq,af,bM,cG,rB,ao,a9,aH,vM,zK,jK,aP,Au,bV,ax,aV,uR,gH,j7,dA,f7,dk,eE,gM,iW,KG,ILs,
  BF,Bk,AI,zP,za,t9,qp,vB,Bi,vx,p9,xq,kP,qQ,pU,pP,qm,vo,mM,xC,mL,kE,mG,mw,lB,kr,kU,mK,lY,TSl,ONo,eA,Cg,AW,Bg,Af,zJ,Bt,uf,u5,zH,Bf,AO,lN,lq,l9,uh,tQ,vE,vJ,uq,uB,uK,ur,uV,zg,AR,AK,As,Cd,y2,kx,y4,Cj,u6,vP,vt,vq,tN,tZ,vc,tL,vO,tS,
  lk,ini,List.map,List.length,List.replicate,List.append,List.set,List.cons_append,List.nil_append,Nat.sub_self,Nat.reduceSub,Nat.reduceAdd,
  xo,xm,xg,wC,wc,wY,List.getElem?_cons_zero,List.getElem?_cons_succ,aJ,rL,Nat.reduceLT,Nat.reduceLeDiff,if_true,if_false,true_and,and_true,Bool.not_true,Bool.not_false,Nat.lt_add_one,Nat.zero_lt_succ,Nat.succ_lt_succ_iff,Nat.zero_lt_one,
  decide_eq_true_eq,Bool.false_eq_true,ite_false,ite_true,ne_eq,not_false_eq_true,Int.reduceToNat,Int.reducePow,Int.reduceNeg,Int.reduceSub,Int.reduceAdd,Int.reduceMul,Int.reduceEq,okD,bN,eqD,nE,Bool.and_self,Bool.and_true,Bool.true_and,iD,iQ,ij,iL,gZ,iR,gU])
structure IsPart (a b p q:Int):Prop where
  q0:0 < q
  g:Int.gcd p q=1
  e:p*b=a*q
  pa:p.natAbs≤a.natAbs
  qb:q.natAbs≤b.natAbs
theorem mJ {g c:Int}(hg:0 < g):c.natAbs≤(g*c).natAbs:=by
  rw[Int.natAbs_mul]
  exact Nat.le_mul_of_pos_left _ (by omega)
theorem Cy {a b:Int}(hb:b≠0):IsPart a b (a.fdiv (if b < 0 then -(Int.gcd a b:Int) else Int.gcd a b)) (b.fdiv (if b < 0 then -(Int.gcd a b:Int) else Int.gcd a b)):=by
  have gp:0 < Int.gcd a b:=Int.gcd_pos_of_ne_zero_right a hb
  have gz:0 < (Int.gcd a b:Int):=by omega
  obtain ⟨c,hc⟩:=Int.gcd_dvd_left a b
  obtain ⟨d,hd⟩:=Int.gcd_dvd_right a b
  have g1:=Int.gcd_ediv_gcd_ediv_gcd gp
  have e1:a / (Int.gcd a b:Int)=c:=Int.ediv_eq_of_eq_mul_right (by omega) hc
  have e2:b / (Int.gcd a b:Int)=d:=Int.ediv_eq_of_eq_mul_right (by omega) hd
  rw[e1,e2] at g1
  generalize (Int.gcd a b:Int)=g at *
  clear e1 e2 gp
  subst hc hd
  have p1:=mJ (c:=c) gz
  have p2:=mJ (c:=d) gz
  split
  · rename_i hneg
    have d0:d < 0:=by
      rcases Int.lt_trichotomy d 0 with h | h | h
      · exact h
      · subst h;omega
      · have:=Int.mul_pos gz h;omega
    have x1:(g*c).fdiv (-g) = -c:=by rw[show g*c = -g * -c by rw[Int.neg_mul_neg]];exact Int.mul_fdiv_cancel_left _ (by omega)
    have x2:(g*d).fdiv (-g) = -d:=by rw[show g*d = -g * -d by rw[Int.neg_mul_neg]];exact Int.mul_fdiv_cancel_left _ (by omega)
    rw[x1,x2]
    refine ⟨by omega,by rw[Int.neg_gcd,Int.gcd_neg];exact g1,?_,by omega,by omega⟩
    rw[Int.neg_mul,Int.mul_neg,Int.mul_left_comm,Int.mul_assoc]
  · rename_i hneg
    have d0:0 < d:=by
      rcases Int.lt_trichotomy d 0 with h | h | h
      · have:=Int.mul_neg_of_pos_of_neg gz h;omega
      · subst h;omega
      · exact h
    have x1:(g*c).fdiv g=c:=Int.mul_fdiv_cancel_left _ (by omega)
    have x2:(g*d).fdiv g=d:=Int.mul_fdiv_cancel_left _ (by omega)
    rw[x1,x2]
    refine ⟨d0,g1,?_,by omega,by omega⟩
    rw[Int.mul_left_comm,Int.mul_assoc]
theorem Dl {p q p' q':Int}(q0:0 < q)(q0':0 < q')(g:Int.gcd p q=1)(g':Int.gcd p' q'=1)(e:p*q'=p'*q):p=p'∧q=q':=by
  have h1:q ∣ q':=by
    have:q ∣ p*q':=⟨p',by rw[e,Int.mul_comm]⟩
    have h:=Int.dvd_gcd_mul_iff_dvd_mul.mpr this
    rw[Int.gcd_comm,g] at h
    simpa using h
  have h2:q' ∣ q:=by
    have:q' ∣ p'*q:=⟨p,by rw[← e,Int.mul_comm]⟩
    have h:=Int.dvd_gcd_mul_iff_dvd_mul.mpr this
    rw[Int.gcd_comm,g'] at h
    simpa using h
  have e3:q=q':=Int.dvd_antisymm (by omega) (by omega) h1 h2
  subst e3
  exact ⟨Int.eq_of_mul_eq_mul_right (by omega) e,rfl⟩
theorem IsPart.same {a b p q a' b' p' q':Int}(h:IsPart a b p q)(h':IsPart a' b' p' q')(hb:b≠0)(hb':b'≠0)(e:a*b'=a'*b):p=p'∧q=q':=by
  refine Dl h.q0 h'.q0 h.g h'.g ?_
  have e1:=h.e
  have e2:=h'.e
  have x:(p*q')*(b*b')=(p'*q)*(b*b'):=by
    calc (p*q')*(b*b')=(p*b)*(q'*b'):=by ac_rfl
      _=(a*q)*(q'*b'):=by rw[e1]
      _=(a*b')*(q*q'):=by ac_rfl
      _=(a'*b)*(q*q'):=by rw[e]
      _=(a'*q')*(q*b):=by ac_rfl
      _=(p'*b')*(q*b):=by rw[e2]
      _=(p'*q)*(b*b'):=by ac_rfl
  exact Int.eq_of_mul_eq_mul_right (Int.mul_ne_zero hb hb') x
def bH:FSp:=fun ds μ Q=>match ds with
  | [.int a,.int b]=>Q (.int (Int.gcd a b)) μ
  | _=>False
theorem nj:∀ ds μ Q,bH ds μ Q→ds.length=2:=by
  unfold bH
  walk_at "ln"
def jO:STr:=aH (aV (ao sv (af (ah 0) (aq))) (ax 2)) (aH (aV (ao sv (af (ah 1) (aq))) (ax 3)) (aH (qW (TB (ak rGt (ah 3) (TC (.int 0)))) (aH (aV (ak ly (ah 2) (ah 3)) (ax 4)) (aH (aV (ah 3) (ax 2)) (aV (ah 4) (ax 3))))) (aP (ah 2))))
theorem pS:∀ ds μ Q,bH ds μ Q→jO { nx:=fun _ μ'=>RT Q .non μ',rt:=RT Q } (ini 5 ds) μ:=by
  intro ds μ Q k
  unfold bH at k
  split at k
  case h_2=>exact k.elim
  rename_i a b
  unfold jO
  walk_at "rd"
  refine ⟨fun ρ μ'=>μ'=μ∧∃ (x y:Int) (z:Option D),ρ=[some (.int a),some (.int b),some (.int x),some (.int y),z]∧0≤x∧0≤y∧Int.gcd x y=Int.gcd a b,mz 3,⟨rfl,_,_,_,rfl,?_,?_,?_⟩,?_⟩
  · split<;>omega
  · split<;>omega
  · rw[A6,A6];unfold Int.gcd;rw[Int.natAbs_natCast,Int.natAbs_natCast]
  · rintro ρ _ ⟨rfl,x,y,z,rfl,x0,y0,e⟩
    walk_at "rd"
    split
    · rename_i hy
      refine ⟨by omega,⟨_,_,_,rfl,y0,fm0 hy,?_⟩,?_⟩
      · rw[sP];exact e
      · have:=fm1 (a:=x) hy
        have:=fm0 (a:=x) hy
        simp only[mz,lk]
        omega
    · rename_i hy
      have hy0:y=0:=by omega
      subst hy0
      rw[Int.gcd_zero_right] at e
      have hx:x=(Int.gcd a b:Int):=by omega
      subst hx
      exact ⟨_,.refl _,k⟩
def cD:FSp:=fun ds μ Q=>match ds with
  | [.int a,.int b]=>(b≠0∧cu b)∧∀ p q,IsPart a b p q→Q (.tup [.int p,.int q]) μ
  | _=>False
theorem Bz:∀ ds μ Q,cD ds μ Q→ds.length=2:=by
  unfold cD
  walk_at "ln"
def Az:STr:=aH (aV (ao bH (af (ah 0) (af (ah 1) (aq)))) (ax 2)) (aH (bV (TB (ak rLt (ah 1) (TC (.int 0)))) (aV (TUn mh (ah 2)) (ax 2)) (a9)) (aP (bM (af (ak je (ah 0) (ah 2)) (af (ak je (ah 1) (ah 2)) (aq))))))
theorem Em:∀ ds μ Q,cD ds μ Q→Az { nx:=fun _ μ'=>RT Q .non μ',rt:=RT Q } (ini 3 ds) μ:=by
  intro ds μ Q h
  unfold cD at h
  split at h
  case h_2=>exact h.elim
  rename_i a b
  obtain ⟨⟨hb,hm⟩,k⟩:=h
  have P:=k _ _ (Cy (a:=a) hb)
  have gp:0 < Int.gcd a b:=Int.gcd_pos_of_ne_zero_right a hb
  have gl:Int.gcd a b≤b.natAbs:=Int.gcd_le_natAbs_right a hb
  unfold Az
  walk_at "rd"
  show (if b < 0 then _ else _)
  split
  · rename_i hn
    rw[if_pos hn] at P
    have dv:fh (-(Int.gcd a b:Int)):=by walk_at "ok"
    exact ⟨dv,dv,_,.refl _,P⟩
  · rename_i hn
    rw[if_neg hn] at P
    have dv:fh (Int.gcd a b:Int):=by walk_at "ok"
    exact ⟨dv,dv,_,.refl _,P⟩
structure FrB (lo hi p q:Int):Prop where
  q0:0 < q
  q1:q≤10000002
  g:Int.gcd p q=1
  ge:lo*q≤p
  le:p≤hi*q
structure FrA (lo hi p q:Int):Prop extends FrB lo hi p q where
  ab:lo*q < p
structure FrL (hi p q:Int):Prop extends FrB 0 hi p q where
  ab:0 < p
  be:p < hi*q
theorem yD {a b:Int}(b0:0 < b):∃ g p q:Int,0 < g∧a=g*p∧b=g*q∧a.fdiv (Int.gcd a b)=p∧b.fdiv (Int.gcd a b)=q∧0 < q∧q≤b∧Int.gcd p q=1:=by
  have gp:0 < Int.gcd a b:=Int.gcd_pos_of_ne_zero_right a (by omega)
  have gz:0 < (Int.gcd a b:Int):=by omega
  obtain ⟨c,hc⟩:=Int.gcd_dvd_left a b
  obtain ⟨d,hd⟩:=Int.gcd_dvd_right a b
  have g1:=Int.gcd_ediv_gcd_ediv_gcd gp
  have e1:a / (Int.gcd a b:Int)=c:=Int.ediv_eq_of_eq_mul_right (by omega) hc
  have e2:b / (Int.gcd a b:Int)=d:=Int.ediv_eq_of_eq_mul_right (by omega) hd
  rw[e1,e2] at g1
  refine ⟨_,c,d,gz,hc,hd,by rw[fO gz];exact e1,by rw[fO gz];exact e2,?_,?_,g1⟩
  all_goals generalize (Int.gcd a b:Int)=g at *
  · rcases Int.lt_trichotomy d 0 with h | h | h
    · have:=Int.mul_neg_of_pos_of_neg gz h;omega
    · subst h;omega
    · exact h
  · have d0:0 < d:=by
      rcases Int.lt_trichotomy d 0 with h | h | h
      · have:=Int.mul_neg_of_pos_of_neg gz h;omega
      · subst h;omega
      · exact h
    have h:=Int.mul_le_mul_of_nonneg_right (show (1:Int)≤g by omega) (show (0:Int)≤d by omega)
    omega
theorem mX:(Str.ofString "still" = Str.ofString "step")=False:=eq_false (by decide +kernel)
theorem l7:(Str.ofString "still" = Str.ofString "swell")=False:=eq_false (by decide +kernel)
theorem mP:(Str.ofString "still" = Str.ofString "heed")=False:=eq_false (by decide +kernel)
theorem ny:(Str.ofString "still" = Str.ofString "calm")=False:=eq_false (by decide +kernel)
theorem mY:(Str.ofString "step" = Str.ofString "still")=False:=eq_false (by decide +kernel)
theorem nU:(Str.ofString "step" = Str.ofString "swell")=False:=eq_false (by decide +kernel)
theorem qr:(Str.ofString "step" = Str.ofString "heed")=False:=eq_false (by decide +kernel)
theorem qV:(Str.ofString "step" = Str.ofString "calm")=False:=eq_false (by decide +kernel)
theorem kY:(Str.ofString "swell" = Str.ofString "still")=False:=eq_false (by decide +kernel)
theorem nc:(Str.ofString "swell" = Str.ofString "step")=False:=eq_false (by decide +kernel)
theorem mZ:(Str.ofString "swell" = Str.ofString "heed")=False:=eq_false (by decide +kernel)
theorem nr:(Str.ofString "swell" = Str.ofString "calm")=False:=eq_false (by decide +kernel)
theorem nq:(Str.ofString "heed" = Str.ofString "still")=False:=eq_false (by decide +kernel)
theorem qH:(Str.ofString "heed" = Str.ofString "step")=False:=eq_false (by decide +kernel)
theorem nk:(Str.ofString "heed" = Str.ofString "swell")=False:=eq_false (by decide +kernel)
theorem qS:(Str.ofString "heed" = Str.ofString "calm")=False:=eq_false (by decide +kernel)
theorem nI:(Str.ofString "calm" = Str.ofString "still")=False:=eq_false (by decide +kernel)
theorem qo:(Str.ofString "calm" = Str.ofString "step")=False:=eq_false (by decide +kernel)
theorem nD:(Str.ofString "calm" = Str.ofString "swell")=False:=eq_false (by decide +kernel)
theorem pM:(Str.ofString "calm" = Str.ofString "heed")=False:=eq_false (by decide +kernel)
theorem oH:PyData.strOk (Str.ofString "still")=true:=by decide +kernel
theorem rN:PyData.strOk (Str.ofString "step")=true:=by decide +kernel
theorem oY:PyData.strOk (Str.ofString "swell")=true:=by decide +kernel
theorem sj:PyData.strOk (Str.ofString "heed")=true:=by decide +kernel
theorem sC:PyData.strOk (Str.ofString "calm")=true:=by decide +kernel
abbrev fr (p q:Int):D:=.tup [.int p,.int q]
inductive uH:Str→D→Prop
  | jL {p q:Int} (w:FrB 1 60 p q):uH (Str.ofString "still") (.tup [.str "still", fr p q])
  | calm {p q r s x y l h:Int} (w:FrB 1 60 p q) (t:FrB 1 60 r s) (wt:p*s≤r*q) (u:FrA 0 60 x y) (l0:0≤l) (lh:l≤h) (h1:h≤60):uH (Str.ofString "calm") (.tup [.str "calm", fr p q,fr x y,.int l,.int h,fr r s])
  | BA {p q r s x y a b:Int} (w:FrB 1 60 p q) (t:FrB 1 60 r s) (wt:p*s≤r*q) (u:FrA 0 60 x y) (g:FrA 0 1 a b):uH (Str.ofString "heed") (.tup [.str "heed", fr p q,fr x y,fr a b,fr r s])
  | step {p q r s x y a b:Int} (w:FrB 1 60 p q) (t:FrB 1 60 r s) (wt:p*s≤r*q) (u:FrA 0 60 x y) (g:FrL 1 a b):uH (Str.ofString "step") (.tup [.str "step", fr p q,fr x y,fr a b,fr r s])
  | mB {p q r s x y a b:Int} (w:FrB 1 60 p q) (t:FrB 1 60 r s) (wt:p*s≤r*q) (u:FrA 1 60 x y) (g:FrL 1 a b):uH (Str.ofString "swell") (.tup [.str "swell", fr p q,fr x y,fr a b,fr r s])
theorem dN (i:Decidable (Str.ofString "still" = Str.ofString "step")):@decide (Str.ofString "still" = Str.ofString "step") i=false:=by cases i with | isTrue h=>exact absurd h (by rw[mX];exact not_false) | isFalse _=>rfl
theorem dm (i:Decidable (Str.ofString "still" = Str.ofString "swell")):@decide (Str.ofString "still" = Str.ofString "swell") i=false:=by cases i with | isTrue h=>exact absurd h (by rw[l7];exact not_false) | isFalse _=>rfl
theorem dI (i:Decidable (Str.ofString "still" = Str.ofString "heed")):@decide (Str.ofString "still" = Str.ofString "heed") i=false:=by cases i with | isTrue h=>exact absurd h (by rw[mP];exact not_false) | isFalse _=>rfl
theorem dH (i:Decidable (Str.ofString "still" = Str.ofString "calm")):@decide (Str.ofString "still" = Str.ofString "calm") i=false:=by cases i with | isTrue h=>exact absurd h (by rw[ny];exact not_false) | isFalse _=>rfl
theorem dQ (i:Decidable (Str.ofString "step" = Str.ofString "still")):@decide (Str.ofString "step" = Str.ofString "still") i=false:=by cases i with | isTrue h=>exact absurd h (by rw[mY];exact not_false) | isFalse _=>rfl
theorem dW (i:Decidable (Str.ofString "step" = Str.ofString "swell")):@decide (Str.ofString "step" = Str.ofString "swell") i=false:=by cases i with | isTrue h=>exact absurd h (by rw[nU];exact not_false) | isFalse _=>rfl
theorem e5 (i:Decidable (Str.ofString "step" = Str.ofString "heed")):@decide (Str.ofString "step" = Str.ofString "heed") i=false:=by cases i with | isTrue h=>exact absurd h (by rw[qr];exact not_false) | isFalse _=>rfl
theorem eP (i:Decidable (Str.ofString "step" = Str.ofString "calm")):@decide (Str.ofString "step" = Str.ofString "calm") i=false:=by cases i with | isTrue h=>exact absurd h (by rw[qV];exact not_false) | isFalse _=>rfl
theorem da (i:Decidable (Str.ofString "swell" = Str.ofString "still")):@decide (Str.ofString "swell" = Str.ofString "still") i=false:=by cases i with | isTrue h=>exact absurd h (by rw[kY];exact not_false) | isFalse _=>rfl
theorem dO (i:Decidable (Str.ofString "swell" = Str.ofString "step")):@decide (Str.ofString "swell" = Str.ofString "step") i=false:=by cases i with | isTrue h=>exact absurd h (by rw[nc];exact not_false) | isFalse _=>rfl
theorem dG (i:Decidable (Str.ofString "swell" = Str.ofString "heed")):@decide (Str.ofString "swell" = Str.ofString "heed") i=false:=by cases i with | isTrue h=>exact absurd h (by rw[mZ];exact not_false) | isFalse _=>rfl
theorem dX (i:Decidable (Str.ofString "swell" = Str.ofString "calm")):@decide (Str.ofString "swell" = Str.ofString "calm") i=false:=by cases i with | isTrue h=>exact absurd h (by rw[nr];exact not_false) | isFalse _=>rfl
theorem dP (i:Decidable (Str.ofString "heed" = Str.ofString "still")):@decide (Str.ofString "heed" = Str.ofString "still") i=false:=by cases i with | isTrue h=>exact absurd h (by rw[nq];exact not_false) | isFalse _=>rfl
theorem eT (i:Decidable (Str.ofString "heed" = Str.ofString "step")):@decide (Str.ofString "heed" = Str.ofString "step") i=false:=by cases i with | isTrue h=>exact absurd h (by rw[qH];exact not_false) | isFalse _=>rfl
theorem dS (i:Decidable (Str.ofString "heed" = Str.ofString "swell")):@decide (Str.ofString "heed" = Str.ofString "swell") i=false:=by cases i with | isTrue h=>exact absurd h (by rw[nk];exact not_false) | isFalse _=>rfl
theorem eM (i:Decidable (Str.ofString "heed" = Str.ofString "calm")):@decide (Str.ofString "heed" = Str.ofString "calm") i=false:=by cases i with | isTrue h=>exact absurd h (by rw[qS];exact not_false) | isFalse _=>rfl
theorem dR (i:Decidable (Str.ofString "calm" = Str.ofString "still")):@decide (Str.ofString "calm" = Str.ofString "still") i=false:=by cases i with | isTrue h=>exact absurd h (by rw[nI];exact not_false) | isFalse _=>rfl
theorem eL (i:Decidable (Str.ofString "calm" = Str.ofString "step")):@decide (Str.ofString "calm" = Str.ofString "step") i=false:=by cases i with | isTrue h=>exact absurd h (by rw[qo];exact not_false) | isFalse _=>rfl
theorem dM (i:Decidable (Str.ofString "calm" = Str.ofString "swell")):@decide (Str.ofString "calm" = Str.ofString "swell") i=false:=by cases i with | isTrue h=>exact absurd h (by rw[nD];exact not_false) | isFalse _=>rfl
theorem eW (i:Decidable (Str.ofString "calm" = Str.ofString "heed")):@decide (Str.ofString "calm" = Str.ofString "heed") i=false:=by cases i with | isTrue h=>exact absurd h (by rw[pM];exact not_false) | isFalse _=>rfl
theorem pL (a:Str)(i:Decidable (a=a)):@decide (a=a) i=true:=by cases i with | isTrue _=>rfl | isFalse h=>exact absurd rfl h
def kLs (x:D)(f:List D→Prop):Prop:=match x with
  | .ls ds=>f ds
  | _=>False
def cB (sp:FSp)(ds:List D)(μ:Mu)(Q:DK):Prop:=sp ds μ Q
def LEN (ds:List D)(P:Prop):Prop:=ds.length≤1000000∧P
theorem FK (d:D)(r:ST)(μ:Mu)(Q:DK):ah 0 (some d::r) μ Q=Q d μ:=propext Iff.rfl
theorem C8 (x0:Option D)(r:ST)(d:D)(μ:Mu)(k:ST→Mu→Prop):ax 0 d (x0::r) μ k=k (some d::r) μ:=propext Iff.rfl
theorem Gf (x0:Option D)(d:D)(r:ST)(μ:Mu)(Q:DK):ah 1 (x0::some d::r) μ Q=Q d μ:=propext Iff.rfl
theorem EA (x0 x1:Option D)(r:ST)(d:D)(μ:Mu)(k:ST→Mu→Prop):ax 1 d (x0::x1::r) μ k=k (x0::some d::r) μ:=propext Iff.rfl
theorem Ga (x0 x1:Option D)(d:D)(r:ST)(μ:Mu)(Q:DK):ah 2 (x0::x1::some d::r) μ Q=Q d μ:=propext Iff.rfl
theorem DV (x0 x1 x2:Option D)(r:ST)(d:D)(μ:Mu)(k:ST→Mu→Prop):ax 2 d (x0::x1::x2::r) μ k=k (x0::x1::some d::r) μ:=propext Iff.rfl
theorem Fz (x0 x1 x2:Option D)(d:D)(r:ST)(μ:Mu)(Q:DK):ah 3 (x0::x1::x2::some d::r) μ Q=Q d μ:=propext Iff.rfl
theorem CZ (x0 x1 x2 x3:Option D)(r:ST)(d:D)(μ:Mu)(k:ST→Mu→Prop):ax 3 d (x0::x1::x2::x3::r) μ k=k (x0::x1::x2::some d::r) μ:=propext Iff.rfl
theorem Ij (x0 x1 x2 x3:Option D)(d:D)(r:ST)(μ:Mu)(Q:DK):ah 4 (x0::x1::x2::x3::some d::r) μ Q=Q d μ:=propext Iff.rfl
theorem DS (x0 x1 x2 x3 x4:Option D)(r:ST)(d:D)(μ:Mu)(k:ST→Mu→Prop):ax 4 d (x0::x1::x2::x3::x4::r) μ k=k (x0::x1::x2::x3::some d::r) μ:=propext Iff.rfl
theorem HW (x0 x1 x2 x3 x4:Option D)(d:D)(r:ST)(μ:Mu)(Q:DK):ah 5 (x0::x1::x2::x3::x4::some d::r) μ Q=Q d μ:=propext Iff.rfl
theorem Dq (x0 x1 x2 x3 x4 x5:Option D)(r:ST)(d:D)(μ:Mu)(k:ST→Mu→Prop):ax 5 d (x0::x1::x2::x3::x4::x5::r) μ k=k (x0::x1::x2::x3::x4::some d::r) μ:=propext Iff.rfl
theorem FJ (x0 x1 x2 x3 x4 x5:Option D)(d:D)(r:ST)(μ:Mu)(Q:DK):ah 6 (x0::x1::x2::x3::x4::x5::some d::r) μ Q=Q d μ:=propext Iff.rfl
theorem Es (x0 x1 x2 x3 x4 x5 x6:Option D)(r:ST)(d:D)(μ:Mu)(k:ST→Mu→Prop):ax 6 d (x0::x1::x2::x3::x4::x5::x6::r) μ k=k (x0::x1::x2::x3::x4::x5::some d::r) μ:=propext Iff.rfl
theorem HV (x0 x1 x2 x3 x4 x5 x6:Option D)(d:D)(r:ST)(μ:Mu)(Q:DK):ah 7 (x0::x1::x2::x3::x4::x5::x6::some d::r) μ Q=Q d μ:=propext Iff.rfl
theorem C1 (x0 x1 x2 x3 x4 x5 x6 x7:Option D)(r:ST)(d:D)(μ:Mu)(k:ST→Mu→Prop):ax 7 d (x0::x1::x2::x3::x4::x5::x6::x7::r) μ k=k (x0::x1::x2::x3::x4::x5::x6::some d::r) μ:=propext Iff.rfl
theorem FP (x0 x1 x2 x3 x4 x5 x6 x7:Option D)(d:D)(r:ST)(μ:Mu)(Q:DK):ah 8 (x0::x1::x2::x3::x4::x5::x6::x7::some d::r) μ Q=Q d μ:=propext Iff.rfl
theorem C6 (x0 x1 x2 x3 x4 x5 x6 x7 x8:Option D)(r:ST)(d:D)(μ:Mu)(k:ST→Mu→Prop):ax 8 d (x0::x1::x2::x3::x4::x5::x6::x7::x8::r) μ k=k (x0::x1::x2::x3::x4::x5::x6::x7::some d::r) μ:=propext Iff.rfl
theorem Lf (d:D)(ρ:ST)(μ:Mu)(Q:DK):TC d ρ μ Q=Q d μ:=propext Iff.rfl
theorem Hi (r:DR2)(a b:ETr)(ρ:ST)(μ:Mu)(Q:DK):ak r a b ρ μ Q=a ρ μ fun x μ1=>b ρ μ1 fun y μ2=>r x y μ2 Q:=propext Iff.rfl
theorem Kj (r:DR)(a:ETr)(ρ:ST)(μ:Mu)(Q:DK):TUn r a ρ μ Q=a ρ μ fun x μ1=>r x μ1 Q:=propext Iff.rfl
theorem CU (a b:ETr)(ρ:ST)(μ:Mu)(Q:DK):fR a b ρ μ Q=a ρ μ fun x μ1=>kB x fun c=>kIf c (b ρ μ1 Q) (Q (.bl false) μ1):=propext Iff.rfl
theorem Hx (a b:ETr)(ρ:ST)(μ:Mu)(Q:DK):ym a b ρ μ Q=a ρ μ fun x μ1=>kB x fun c=>kIf c (Q (.bl true) μ1) (b ρ μ1 Q):=propext Iff.rfl
theorem D6 (a:ETr)(ρ:ST)(μ:Mu)(Q:DK):jB a ρ μ Q=a ρ μ fun x μ1=>kB x fun c=>Q (.bl (!c)) μ1:=propext Iff.rfl
theorem Lr (t:ETr)(ρ:ST)(μ:Mu)(Q:Bool→Mu→Prop):TB t ρ μ Q=t ρ μ fun x μ1=>kB x fun c=>Q c μ1:=propext Iff.rfl
theorem Jq (t u:TTr)(ρ:ST)(μ:Mu)(Q:Bool→Mu→Prop):TOr t u ρ μ Q=t ρ μ fun c μ1=>kIf c (Q true μ1) (u ρ μ1 Q):=propext Iff.rfl
theorem HQ (t:TTr)(ρ:ST)(μ:Mu)(Q:Bool→Mu→Prop):kf t ρ μ Q=t ρ μ fun c μ1=>Q (!c) μ1:=propext Iff.rfl
theorem IE (ρ:ST)(μ:Mu)(Q:List D→Mu→Prop):aq ρ μ Q=Q [] μ:=propext Iff.rfl
theorem EB (a:ETr)(r:ATr)(ρ:ST)(μ:Mu)(Q:List D→Mu→Prop):af a r ρ μ Q=a ρ μ fun x μ1=>r ρ μ1 fun xs μ2=>Q (x::xs) μ2:=propext Iff.rfl
theorem Hc (t:ATr)(ρ:ST)(μ:Mu)(Q:DK):bM t ρ μ Q=t ρ μ fun ds μ1=>LEN ds (Q (.tup ds) μ1):=propext Iff.rfl
theorem Gg (t:ATr)(ρ:ST)(μ:Mu)(Q:DK):cG t ρ μ Q=t ρ μ fun ds μ1=>LEN ds (Q (.ls ds) μ1):=propext Iff.rfl
theorem FR (t:ATr)(ρ:ST)(μ:Mu)(Q:DK):rB t ρ μ Q=t ρ μ fun ds μ1=>LEN ds (∀ p,μ1 p=none→Q (.obj p) (up μ1 p (.lst ds))):=propext Iff.rfl
theorem Ds (sp:FSp)(t:ATr)(ρ:ST)(μ:Mu)(Q:DK):ao sp t ρ μ Q=t ρ μ fun ds μ1=>cB sp ds μ1 Q:=propext Iff.rfl
theorem Ez (nx:ST→Mu→Prop)(rt:DK)(bk ct:ST→Mu→Prop)(ρ:ST)(μ:Mu):a9 ⟨nx,rt,bk,ct⟩ ρ μ=nx ρ μ:=propext Iff.rfl
theorem FH (t u:STr)(nx:ST→Mu→Prop)(rt:DK)(bk ct:ST→Mu→Prop)(ρ:ST)(μ:Mu):aH t u ⟨nx,rt,bk,ct⟩ ρ μ=t ⟨u ⟨nx,rt,bk,ct⟩,rt,bk,ct⟩ ρ μ:=propext Iff.rfl
theorem C3 (e:ETr)(nx:ST→Mu→Prop)(rt:DK)(bk ct:ST→Mu→Prop)(ρ:ST)(μ:Mu):jK e ⟨nx,rt,bk,ct⟩ ρ μ=e ρ μ fun _ μ1=>nx ρ μ1:=propext Iff.rfl
theorem HG (e:ETr)(nx:ST→Mu→Prop)(rt:DK)(bk ct:ST→Mu→Prop)(ρ:ST)(μ:Mu):aP e ⟨nx,rt,bk,ct⟩ ρ μ=e ρ μ rt:=propext Iff.rfl
theorem ID (c:TTr)(t u:STr)(nx:ST→Mu→Prop)(rt:DK)(bk ct:ST→Mu→Prop)(ρ:ST)(μ:Mu):bV c t u ⟨nx,rt,bk,ct⟩ ρ μ=c ρ μ fun b μ1=>kIf b (t ⟨nx,rt,bk,ct⟩ ρ μ1) (u ⟨nx,rt,bk,ct⟩ ρ μ1):=propext Iff.rfl
theorem GB (e:ETr)(g:GTr)(nx:ST→Mu→Prop)(rt:DK)(bk ct:ST→Mu→Prop)(ρ:ST)(μ:Mu):aV e g ⟨nx,rt,bk,ct⟩ ρ μ=e ρ μ fun d μ1=>g d ρ μ1 nx:=propext Iff.rfl
theorem FY (i j:Nat)(a:ATr)(nx:ST→Mu→Prop)(rt:DK)(bk ct:ST→Mu→Prop)(ρ:ST)(μ:Mu):uR i j a ⟨nx,rt,bk,ct⟩ ρ μ=a ρ μ fun ds μ1=>k2 ds fun v w=>ax i v ρ μ1 fun ρ2 μ2=>ax j w ρ2 μ2 nx:=propext Iff.rfl
theorem BD (o k e:ETr)(nx:ST→Mu→Prop)(rt:DK)(bk ct:ST→Mu→Prop)(ρ:ST)(μ:Mu):gH o k e ⟨nx,rt,bk,ct⟩ ρ μ=e ρ μ fun y μ1=>o ρ μ1 fun x μ2=>k ρ μ2 fun z μ3=>CM x z y μ3 fun μ4=>nx ρ μ4:=propext Iff.rfl
theorem FE (it:ATr)(g:GTr)(b:STr)(nx:ST→Mu→Prop)(rt:DK)(bk ct:ST→Mu→Prop)(ρ:ST)(μ:Mu):j7 it g b ⟨nx,rt,bk,ct⟩ ρ μ=it ρ μ fun ds μ1=>forR g b ⟨nx,rt,bk,ct⟩ ds ρ μ1:=propext Iff.rfl
theorem yo (a:ETr)(ρ:ST)(μ:Mu)(Q:List D→Mu→Prop):dA a ρ μ Q=a ρ μ fun x μ1=>kI x fun j=>(-4611686018427387904≤j∧j < 4611686018427387904)∧Q (dJ 0 j.toNat) μ1:=propext Iff.rfl
theorem vV (a:ETr)(ρ:ST)(μ:Mu)(Q:List D→Mu→Prop):Jg (af a aq) ρ μ Q=a ρ μ fun x μ1=>kLs x fun ds=>Q (ik ds) μ1:=propext (Iff.of_eq (congrArg (a ρ μ) (funext fun x=>funext fun μ1=>by cases x<;>rfl)))
theorem xF (a b:ETr)(ρ:ST)(μ:Mu)(Q:List D→Mu→Prop):qR a b ρ μ Q=a ρ μ fun x μ1=>b ρ μ1 fun y μ2=>kI x fun i=>kI y fun j=>((-4611686018427387904≤i∧i < 4611686018427387904)∧-4611686018427387904≤j∧j < 4611686018427387904)∧Q (dJ i (j - i).toNat) μ2:=propext Iff.rfl
theorem IH (a:ETr)(ρ:ST)(μ:Mu)(Q:DK):xC a ρ μ Q=a ρ μ fun x μ1=>kObj x fun b=>kL μ1 b fun ds=>Q (.ls ds) (dn μ1 b):=propext Iff.rfl
theorem GU (To Te:ETr)(ρ:ST)(μ:Mu)(Q:DK):vo To Te ρ μ Q=To ρ μ fun x μ1=>kObj x fun a=>kL μ1 a fun _=>Te ρ μ1 fun y μ2=>kL μ2 a fun ds=>ds.length < 1000000∧Q .non (up μ2 a (.lst (ds++[y]))):=propext Iff.rfl
theorem Ki (a:ETr)(lo hi:OTr)(ρ:ST)(μ:Mu)(Q:DK):TSl a lo hi ρ μ Q=a ρ μ fun x μ1=>lo ρ μ1 fun l μ2=>hi ρ μ2 fun h μ3=>rSl x l h μ3 Q:=propext Iff.rfl
theorem JM (ρ:ST)(μ:Mu)(Q:Option Int→Mu→Prop):ONo ρ μ Q=Q none μ:=propext Iff.rfl
theorem Ik (T:ETr)(ρ:ST)(μ:Mu)(Q:Option Int→Mu→Prop):eA T ρ μ Q=T ρ μ fun x μ1=>kI x fun i=>Q (some i) μ1:=propext Iff.rfl
theorem FV (i0 i1:Nat)(d0 d1:D)(ρ:ST)(μ:Mu)(k:ST→Mu→Prop):ve [i0,i1] (.tup [d0,d1]) ρ μ k=ax i0 d0 ρ μ fun ρ1 _=>ax i1 d1 ρ1 μ fun ρ2 _=>k ρ2 μ:=by simp[ve,kG,ax]
theorem JR (P:Prop):LEN [] P=P:=by simp[LEN]
theorem Kh (x0:D)(P:Prop):LEN [x0] P=P:=by simp[LEN]
theorem Kc (x0 x1:D)(P:Prop):LEN [x0,x1] P=P:=by simp[LEN]
theorem Jy (x0 x1 x2:D)(P:Prop):LEN [x0,x1,x2] P=P:=by simp[LEN]
theorem Jj (x0 x1 x2 x3:D)(P:Prop):LEN [x0,x1,x2,x3] P=P:=by simp[LEN]
theorem Km (x0 x1 x2 x3 x4:D)(P:Prop):LEN [x0,x1,x2,x3,x4] P=P:=by simp[LEN]
theorem KS (x0 x1 x2 x3 x4 x5:D)(P:Prop):LEN [x0,x1,x2,x3,x4,x5] P=P:=by simp[LEN]
theorem Kf (x0 x1 x2 x3 x4 x5 x6:D)(P:Prop):LEN [x0,x1,x2,x3,x4,x5,x6] P=P:=by simp[LEN]
theorem IS (x0 x1 x2 x3 x4 x5 x6 x7 x8:D)(P:Prop):LEN [x0,x1,x2,x3,x4,x5,x6,x7,x8] P=P:=by simp[LEN]
theorem Hl (x0 x1 x2 x3 x4 x5 x6 x7 x8 x9:D)(P:Prop):LEN [x0,x1,x2,x3,x4,x5,x6,x7,x8,x9] P=P:=by simp[LEN]
theorem HX (x0:D)(r:List D)(μ:Mu)(Q:DK):L3.rIx (.tup (x0::r)) (.int 0) μ Q=Q x0 μ:=by rw[kx];exact congrArg (fun o=>kO o fun d=>Q d μ) (b6 0 _)
theorem HR (x0 x1:D)(r:List D)(μ:Mu)(Q:DK):L3.rIx (.tup (x0::x1::r)) (.int 1) μ Q=Q x1 μ:=by rw[kx];exact congrArg (fun o=>kO o fun d=>Q d μ) (b6 1 _)
theorem FU (x0 x1 x2:D)(r:List D)(μ:Mu)(Q:DK):L3.rIx (.tup (x0::x1::x2::r)) (.int 2) μ Q=Q x2 μ:=by rw[kx];exact congrArg (fun o=>kO o fun d=>Q d μ) (b6 2 _)
theorem Gs (x0 x1 x2 x3:D)(r:List D)(μ:Mu)(Q:DK):L3.rIx (.tup (x0::x1::x2::x3::r)) (.int 3) μ Q=Q x3 μ:=by rw[kx];exact congrArg (fun o=>kO o fun d=>Q d μ) (b6 3 _)
theorem GR (i j:Int)(μ:Mu)(Q:DK):L3.rEq (.int i) (.int j) μ Q=Q (.bl (decide (i=j))) μ:=by simp[L3.rEq,okD,eqD]
theorem GH (i j:Int)(μ:Mu)(Q:DK):L3.rNe (.int i) (.int j) μ Q=Q (.bl (!decide (i=j))) μ:=by simp[L3.rNe,okD,eqD]
theorem GL (i j:Str)(μ:Mu)(Q:DK):L3.rEq (.str i) (.str j) μ Q=((PyData.strOk i=true∧PyData.strOk j=true)∧Q (.bl (decide (i=j))) μ):=by simp[L3.rEq,okD,eqD]
theorem FW (i:Int)(μ:Mu)(Q:DK):cB sv [.int i] μ Q=Q (.int (if i < 0 then -i else i)) μ:=propext Iff.rfl
theorem GK (i j:Int)(μ:Mu)(Q:DK):cB oE [.int i,.int j] μ Q=Q (.int (min i j)) μ:=by show Q (.int (if j < i then j else i)) μ=_;congr 2;omega
theorem yW (a:List D)(μ:Mu)(Q:DK):cB dg [.ls a] μ Q=Q (.tup a) μ:=propext Iff.rfl
theorem z9 (a:Addr)(μ:Mu)(Q:DK):cB dg [.obj a] μ Q=kL μ a fun xs=>Q (.tup xs) μ:=propext Iff.rfl
theorem Bx (a:List D)(μ:Mu)(Q:DK):cB dY [.tup a] μ Q=Q (.ls a) μ:=propext Iff.rfl
theorem Gj (a:Addr)(μ:Mu)(Q:DK):cB df [.obj a] μ Q=kL μ a fun xs=>Q (.int xs.length) μ:=propext Iff.rfl
theorem Fx (x:Str)(μ:Mu)(Q:DK):cB df [.str x] μ Q=(x.length≤1000000∧Q (.int x.length) μ):=propext Iff.rfl
theorem Aa (a:List D)(μ:Mu)(Q:DK):cB df [.tup a] μ Q=Q (.int a.length) μ:=propext Iff.rfl
theorem z3 (a:List D)(μ:Mu)(Q:DK):cB df [.ls a] μ Q=Q (.int a.length) μ:=propext Iff.rfl
theorem Jo (n:Nat)(i:Int):okD n (.int i)=true:=by cases n<;>simp[okD]
theorem Ke (n:Nat)(i:Bool):okD n (.bl i)=true:=by cases n<;>simp[okD]
theorem Kt (n:Nat):okD n .non=true:=by cases n<;>simp[okD]
theorem IU (n:Nat)(x:Str):okD n (.str x)=PyData.strOk x:=by cases n<;>simp[okD]
theorem JW (n:Nat)(ds:List D):okD (n+1) (.tup ds)=bN n ds:=by simp[okD]
theorem Kr (n:Nat)(ds:List D):okD (n+1) (.ls ds)=bN n ds:=by simp[okD]
theorem E3 (i j:Int):eqD (.int i) (.int j)=decide (i=j):=by simp[eqD]
theorem EF (i j:Str):eqD (.str i) (.str j)=decide (i=j):=by simp[eqD]
theorem Eg (A B:Prop):kIf true A B=A:=propext Iff.rfl
theorem CT (A B:Prop):kIf false A B=B:=propext Iff.rfl
theorem DY (c:Bool)(f):kB (.bl c) f=f c:=propext Iff.rfl
theorem z4 (c:Int)(f):kI (.int c) f=f c:=propext Iff.rfl
theorem zW (c:List D)(f):kS (.tup c) f=f c:=propext Iff.rfl
theorem Dm (c:List D)(f):kS (.ls c) f=f c:=propext Iff.rfl
theorem zQ (a b:D)(f):k2 [a,b] f=f a b:=propext Iff.rfl
theorem xH (c:Nat)(f):kN (some c) f=f c:=propext Iff.rfl
theorem vk (a:Addr)(n:Int)(y:D)(μ:Mu)(f):CM (.obj a) (.int n) y μ f=kL μ a fun ds=>kN (L2.ixN ds.length n) fun j=>f (up μ a (.lst (ds.set j y))):=propext Iff.rfl
theorem yt (i j:Int)(μ Q):aK (.int i) (.int j) μ Q=Q (.int (i+j)) μ:=propext Iff.rfl
theorem yL (i j:Str)(μ Q):aK (.str i) (.str j) μ Q=(i.length+j.length≤1000000∧Q (.str (i++j)) μ):=propext Iff.rfl
theorem yb (a b:List D)(μ Q):aK (.tup a) (.tup b) μ Q=(a.length+b.length≤1000000∧Q (.tup (a++b)) μ):=propext Iff.rfl
theorem zM (i j:Int)(μ Q):ka (.int i) (.int j) μ Q=Q (.int (i - j)) μ:=propext Iff.rfl
theorem BI (i j:Int)(μ Q):eC (.int i) (.int j) μ Q=(MulOk i j∧Q (.int (i*j)) μ):=propext Iff.rfl
theorem zd (i j:Int)(μ Q):je (.int i) (.int j) μ Q=(fh j∧Q (.int (i.fdiv j)) μ):=propext Iff.rfl
theorem yX (i j:Int)(μ Q):ly (.int i) (.int j) μ Q=(j≠0∧Q (.int (i.fmod j)) μ):=propext Iff.rfl
theorem zu (i j:Int)(μ Q):xA (.int i) (.int j) μ Q=(sf i j∧Q (.int (i ^ j.toNat)) μ):=propext Iff.rfl
theorem BV (i:Int)(μ Q):mh (.int i) μ Q=Q (.int (-i)) μ:=propext Iff.rfl
theorem Dx (i j:Int)(μ Q):rLt (.int i) (.int j) μ Q=Q (.bl (decide (i < j))) μ:=propext Iff.rfl
theorem Cu (i j:Int)(μ Q):rLe (.int i) (.int j) μ Q=Q (.bl (decide (i≤j))) μ:=propext Iff.rfl
theorem Dk (i j:Int)(μ Q):rGt (.int i) (.int j) μ Q=Q (.bl (decide (j < i))) μ:=propext Iff.rfl
theorem Ep (i j:Int)(μ Q):rGe (.int i) (.int j) μ Q=Q (.bl (decide (j≤i))) μ:=propext Iff.rfl
theorem D8 (a:Addr)(i:Int)(μ Q):L3.rIx (.obj a) (.int i) μ Q=kL μ a fun ds=>kO (atD ds i) fun d=>Q d μ:=propext Iff.rfl
theorem Er (a:List D)(lo hi)(μ Q):rSl (.tup a) lo hi μ Q=Q (.tup (cutD a lo hi)) μ:=propext Iff.rfl
theorem DO (a:List D)(lo hi)(μ Q):rSl (.ls a) lo hi μ Q=Q (.ls (cutD a lo hi)) μ:=propext Iff.rfl
theorem wJ (ds:List D)(i:Int)(μ Q):L3.rIx (.tup ds) (.int i) μ Q=kO (atD ds i) fun d=>Q d μ:=propext Iff.rfl
theorem wB (ds:List D)(i:Int)(μ Q):L3.rIx (.ls ds) (.int i) μ Q=kO (atD ds i) fun d=>Q d μ:=propext Iff.rfl
theorem wj (x y:D)(μ Q):L3.rEq x y μ Q=((okD 40 x=true∧okD 40 y=true)∧Q (.bl (eqD x y)) μ):=propext Iff.rfl
theorem vZ (x y:D)(μ Q):L3.rNe x y μ Q=((okD 40 x=true∧okD 40 y=true)∧Q (.bl (!eqD x y)) μ):=propext Iff.rfl
theorem kif {p:Prop} [Decidable p] {A B:Prop}(h1:p→A)(h2:¬ p→B):kIf (decide p) A B:=by
  by_cases h:p
  · rw[decide_eq_true h];exact h1 h
  · rw[decide_eq_false h];exact h2 h
theorem Kx {p:Prop} [Decidable p] {A B:Prop}(h1:¬ p→A)(h2:p→B):kIf (!decide p) A B:=by
  by_cases h:p
  · rw[decide_eq_true h];exact h2 h
  · rw[decide_eq_false h];exact h1 h
theorem wZ {o:Option D}{d:D}{f:D→Prop}(e:o=some d)(h:f d):kO o f:=by rw[e];exact h
theorem cv {μ:Mu}{a:Addr}{ds:List D}{f:List D→Prop}(e:μ a=some (.lst ds))(h:f ds):kL μ a f:=by rw[Je e];exact h
section
open PySem PySem.Spec PyProof.Rows L2
def E4 (kvs:List (Str×D))(s:Str):Option D:=(kvs.find? fun kv=>decide (kv.1=s)).map (·.2)
def wu (K:PySem.W.Frag):List DictEntry→List (Str×D)→Prop
  | [],[]=>True
  | e::es,(x,d)::r=>(∃ t,e.key=.str x t)∧(∃ v,RelV v e.val∧∀ H,Dp K H v d)∧wu K es r
  | _,_=>False
theorem rh (s x:Str)(t:Tok):Value.isStrOf s (.str x t)=decide (x=s):=by
  by_cases h:x=s
  · subst h;simp[Value.isStrOf]
  · rw[decide_eq_false h];simp[Value.isStrOf];first | exact h | exact fun z=>h z.symm
theorem wu.find {K:PySem.W.Frag}(s:Str):∀ {es:List DictEntry} {kvs:List (Str×D)},wu K es kvs→
    match E4 kvs s with
    | none=>(es.find? fun e=>Value.isStrOf s e.key)=none
    | some d=>∃ e v,(es.find? fun e=>Value.isStrOf s e.key)=some e∧RelV v e.val∧∀ H,Dp K H v d
  | [],[],_=>rfl
  | e::es,(x,d)::r,h=>by
    obtain ⟨⟨t,ht⟩,⟨v,rv,pv⟩,hr⟩:=h
    have ih:=wu.find s hr
    unfold E4 at ih ⊢
    rw[List.find?_cons,List.find?_cons,ht,rh]
    by_cases hx:x=s
    · simp only[decide_eq_true hx,Option.map_some]
      exact ⟨e,v,rfl,rv,pv⟩
    · simp only[decide_eq_false hx]
      exact ih
  | [],_::_,h=>False.elim h
  | _::_,[],h=>False.elim h
section
variable {X:Cx} {a b c e:Expr} {Ta Tb Te:ETr} {pos gpos:Pos} {x:Str} {kvs:List (Str×D)}
end
def Ia (b:Bool):D→Bool
  | .bl c=>c == b
  | _=>false
def pY (neg:Bool):DR2:=fun x y μ Q=>match y with
  | .bl b=>Q (.bl (if neg then !Ia b x else Ia b x)) μ
  | _=>False
def fD (b:Bool):V→Bool
  | .bl c=>c == b
  | _=>false
theorem sS {K:PySem.W.Frag}{H:Hp}{v:V}{d:D}(b:Bool)(h:Dp K H v d):fD b v=Ia b d:=by cases h<;>rfl
theorem rP {v:V}{u:Value}(b:Bool)(r:RelV v u):plainIs u (.bool b)=true∧(u == .bool b)=fD b v:=by
  cases v with
  | bl c=>cases r;exact ⟨rfl,by cases b<;>cases c<;>decide⟩
  | int i=>obtain ⟨t,rfl⟩:=r;exact ⟨rfl,by simp[fD,beq_eq_false_iff_ne]⟩
  | str i=>obtain ⟨t,rfl⟩:=r;exact ⟨rfl,by simp[fD,beq_eq_false_iff_ne]⟩
  | flt i=>obtain ⟨t,rfl⟩:=r;exact ⟨rfl,by simp[fD,beq_eq_false_iff_ne]⟩
  | byt i=>obtain ⟨t,rfl⟩:=r;exact ⟨rfl,by simp[fD,beq_eq_false_iff_ne]⟩
  | _=>cases r;exact ⟨rfl,by simp[fD,beq_eq_false_iff_ne]⟩
theorem Gi {X:Cx}:OpR X (compareOp .Is) (fun x y H Q=>∃ b,y=.bl b∧Q (.bl (fD b x)) H):=by
  intro pins s σ H x y v u Q I rx ry h
  obtain ⟨b,rfl,q⟩:=h
  cases (show u=Value.bool b from ry)
  obtain ⟨h1,h2⟩:=rP b rx
  exact wpAny_is_plain h1 (by rw[h2];exact ⟨.bl _,H,I,rfl,q⟩)
theorem DC {X:Cx}:OpR X (compareOp .IsNot) (fun x y H Q=>∃ b,y=.bl b∧Q (.bl (!fD b x)) H):=by
  intro pins s σ H x y v u Q I rx ry h
  obtain ⟨b,rfl,q⟩:=h
  cases (show u=Value.bool b from ry)
  obtain ⟨h1,h2⟩:=rP b rx
  exact wpAny_isNot_plain h1 (by rw[h2];exact ⟨.bl _,H,I,rfl,q⟩)
theorem Dg {K:PySem.W.Frag}:di K (fun x y H Q=>∃ b,y=.bl b∧Q (.bl (fD b x)) H) (pY false):=fun H μ x y dx dy Q Q' m px py h k=>by
  cases py with
  | bl b=>exact ⟨b,rfl,k _ H _ μ (.refl H) m (by rw[sS b px];exact .bl _) h⟩
  | _=>exact False.elim h
theorem AX {K:PySem.W.Frag}:di K (fun x y H Q=>∃ b,y=.bl b∧Q (.bl (!fD b x)) H) (pY true):=fun H μ x y dx dy Q Q' m px py h k=>by
  cases py with
  | bl b=>exact ⟨b,rfl,k _ H _ μ (.refl H) m (by rw[sS b px];exact .bl _) h⟩
  | _=>exact False.elim h
section
variable {X:Cx} {a b:Expr} {Ta Tb:ETr} {pos:Pos}
theorem F8 (ha:LE X a Ta)(hb:LE X b Tb):LE X (.Compare a [.Is] [b] pos) (ak (pY false) Ta Tb):=iH Gi Dg ha hb (dj _)
theorem wW (ha:LE X a Ta)(hb:LE X b Tb):LT X (.Compare a [.IsNot] [b] pos) (TB (ak (pY true) Ta Tb)):=eX DC AX ha hb (dj _)
end
end
section
open PySem PySem.Spec PyProof.Rows L2
def cI (kvs:List (Key×D))(k:Key):Option D:=(kvs.find? fun kv=>decide (kv.1=k)).map (·.2)
def putD (kvs:List (Key×D))(k:Key)(v:D):List (Key×D):=
  if (kvs.any fun kv=>decide (kv.1=k))=true then kvs.map (fun kv=>if kv.1=k then (kv.1,v) else kv) else kvs++[(k,v)]
def xD (x:D)(f:Key→Prop):Prop:=match x with
  | .int i=>f (.inl i)
  | .str s=>f (.inr s)
  | _=>False
theorem DpK.nil {K:PySem.W.Frag}{H:Hp}:DpK K H [] []:=⟨rfl,.nil⟩
theorem DpK.cons {K:PySem.W.Frag}{H:Hp}{k:Key}{v:V}{d:D}{xs:List (Key×V)}{kvs:List (Key×D)}(h:Dp K H v d)(r:DpK K H xs kvs):DpK K H ((k,v)::xs) ((k,d)::kvs):=
  ⟨by simp[r.1],.cons h r.2⟩
theorem DpK.ind {K:PySem.W.Frag}{H:Hp}{P:List (Key×V)→List (Key×D)→Prop}(h0:P [] [])(h1:∀ k v d xs kvs,Dp K H v d→DpK K H xs kvs→P xs kvs→P ((k,v)::xs) ((k,d)::kvs)) :
    ∀ {xs:List (Key×V)} {kvs:List (Key×D)},DpK K H xs kvs→P xs kvs
  | [],[],_=>h0
  | [],_::_,h=>by cases h.1
  | _::_,[],h=>by cases h.1
  | (k,v)::xs,(k',d)::kvs,h=>by
    obtain ⟨h2,h3⟩:=h
    simp only[List.map_cons,List.cons.injEq] at h2
    obtain ⟨rfl,h2⟩:=h2
    cases h3 with
    | cons p l=>exact h1 k v d xs kvs p ⟨h2,l⟩ (DpK.ind h0 h1 ⟨h2,l⟩)
theorem DpK.look {K:PySem.W.Frag}{H:Hp}{xs:List (Key×V)}{kvs:List (Key×D)}(h:DpK K H xs kvs)(k:Key) :
    (cI kvs k=none∧f9 xs k=none)∨∃ v d,cI kvs k=some d∧f9 xs k=some v∧Dp K H v d:=by
  refine DpK.ind (P:=fun xs kvs=>(cI kvs k=none∧f9 xs k=none)∨∃ v d,cI kvs k=some d∧f9 xs k=some v∧Dp K H v d) (.inl ⟨rfl,rfl⟩) (fun j v d xs kvs p _ ih=>?_) h
  by_cases e:j=k
  · refine .inr ⟨v,d,?_,iB (p:=(j,v)) e,p⟩
    unfold cI;rw[List.find?_cons];simp[e]
  · have e1:cI ((j,d)::kvs) k=cI kvs k:=by unfold cI;rw[List.find?_cons];simp[e]
    rw[e1,iC (p:=(j,v)) e]
    exact ih
theorem DpK.any {K:PySem.W.Frag}{H:Hp}{xs:List (Key×V)}{kvs:List (Key×D)}(h:DpK K H xs kvs)(k:Key):(xs.any fun kv=>decide (kv.1=k))=kvs.any fun kv=>decide (kv.1=k):=by
  refine DpK.ind (P:=fun xs kvs=>(xs.any fun kv=>decide (kv.1=k))=kvs.any fun kv=>decide (kv.1=k)) rfl (fun j v d xs kvs p _ ih=>?_) h
  rw[List.any_cons,List.any_cons,ih]
theorem DpK.put {K:PySem.W.Frag}{H:Hp}{xs:List (Key×V)}{kvs:List (Key×D)}(h:DpK K H xs kvs)(k:Key){v:V}{d:D}(p:Dp K H v d):DpK K H (putK xs k v) (putD kvs k d):=by
  unfold putK putD
  rw[h.any k]
  split
  · refine DpK.ind (P:=fun xs kvs=>DpK K H (xs.map fun kv=>if kv.1=k then (kv.1,v) else kv) (kvs.map fun kv=>if kv.1=k then (kv.1,d) else kv)) .nil (fun j v' d' xs kvs p' _ ih=>?_) h
    rw[List.map_cons,List.map_cons]
    by_cases e:j=k
    · rw[if_pos e,if_pos e];exact .cons p ih
    · rw[if_neg e,if_neg e];exact .cons p' ih
  · refine DpK.ind (P:=fun xs kvs=>DpK K H (xs++[(k,v)]) (kvs++[(k,d)])) (.cons p .nil) (fun j v' d' xs kvs p' _ ih=>?_) h
    exact .cons p' ih
theorem DpK.length {K:PySem.W.Frag}{H:Hp}{xs:List (Key×V)}{kvs:List (Key×D)}(h:DpK K H xs kvs):xs.length=kvs.length:=by
  have:=h.2.length
  simpa using this
theorem sG {K:PySem.W.Frag}{H:Hp}{y:V}{dy:D}{f:Key→Prop}(p:Dp K H y dy)(h:xD dy f):∃ k,y=kV k∧f k:=by
  cases p with
  | int i=>exact ⟨.inl i,rfl,h⟩
  | str s=>exact ⟨.inr s,rfl,h⟩
  | _=>exact False.elim h
theorem kJ {K:PySem.W.Frag}{H:Hp}{x:V}{dx:D}{f:Addr→Prop}(p:Dp K H x dx)(h:kObj dx f):∃ a,x=.ref a∧f a:=by
  cases p with
  | obj a=>exact ⟨a,rfl,h⟩
  | _=>exact False.elim h
theorem uj {H:Hp}{q:Addr}{u:HO}{xs:List (Key×V)}(ex:H q=some (.dK xs)):Tk H (L2.upd H q u):=
  .upd (fun ys z=>by rw[ex] at z;cases z) fun o' w z=>by rw[ex] at z;cases z
theorem GD {K:PySem.W.Frag}{H:Hp}{μ:Mu}{q:Addr}{xs ys:List (Key×V)}{ds:List (Key×D)}(m:bI K H μ)(ex:H q=some (.dK xs))(l:DpK K H ys ds):bI K (L2.upd H q (.dK ys)) (up μ q (.dct ds)):=fun z y ez=>by
  by_cases zq:z=q
  · subst zq
    rw[aJ] at ez;cases ez
    exact ⟨ys,aG,l.mono (uj ex)⟩
  · rw[aY zq] at ez
    exact (m z _ ez).ne (uj ex) zq
theorem xr {K:PySem.W.Frag}{H:Hp}{μ:Mu}{q:Addr}{ys:List (Key×V)}{ds:List (Key×D)}(m:bI K H μ)(hq:H q=none)(l:DpK K H ys ds):bI K (L2.upd H q (.dK ys)) (up μ q (.dct ds)):=fun z y ez=>by
  by_cases zq:z=q
  · subst zq
    rw[aJ] at ez;cases ez
    exact ⟨ys,aG,l.mono (.new hq)⟩
  · rw[aY zq] at ez
    exact cg m hq z y ez
section
variable {X:Cx} {o i a b c e value:Expr} {To Ti Ta Tb Te:ETr} {pos tpos:Pos}
theorem hu1 (hu:X.A.units+64 < cLine):X.A.units+1 < cLine:=by omega
def zZ (To Ti:ETr):ETr:=fun ρ μ Q=>To ρ μ fun x μ1=>Ti ρ μ1 fun y μ2=>kObj x fun a=>kD μ2 a fun kvs=>xD y fun k=>kO (cI kvs k) fun d=>Q d μ2
theorem DX (hu:X.A.units+64 < cLine)(ho:LE X o To)(hi:LE X i Ti)(hs:G8 i:=by intro _ _;rfl):LE X (.Subscript o i pos) (zZ To Ti):=by
  obtain ⟨to,po,so⟩:=ho.ex
  obtain ⟨ti,pi,si⟩:=hi.ex
  refine ⟨_,DF (hu1 hu) po pi hs,fun σ H ρ μ Q Q' rl h k=>so σ H ρ μ _ _ rl h fun x H1 dx μ1 t1 m1 p1 h1=>si σ H1 ρ μ1 _ _ (rl.go t1 m1) h1 fun y H2 dy μ2 t2 m2 p2 h2=>?_⟩
  obtain ⟨q,rfl,h2⟩:=kJ p1 h2
  obtain ⟨kvs,e0,h2⟩:=AH h2
  obtain ⟨kk,rfl,h2⟩:=sG p2 h2
  obtain ⟨d,e1,h2⟩:=jf h2
  obtain ⟨xs,ex,l⟩:=m2 q _ e0
  rcases l.look kk with ⟨z,_⟩ | ⟨v,d',z,ev,pv⟩
  · rw[z] at e1;cases e1
  · rw[z] at e1;cases e1
    exact ⟨q,v,rfl,by rw[← ev];exact r9.k ex,k _ H2 _ μ2 (t1.trans t2) m2 pv h2⟩
def Ak (To Ti Te:ETr):STr:=fun E ρ μ=>Te ρ μ fun v μ1=>To ρ μ1 fun x μ2=>Ti ρ μ2 fun y μ3=>kObj x fun a=>kD μ3 a fun kvs=>xD y fun k=>kvs.length < 1000000∧E.nx ρ (up μ3 a (.dct (putD kvs k v)))
theorem Dv (hu:X.A.units+64 < cLine)(ho:LE X o To)(hi:LE X i Ti)(he:LE X value Te)(hs:swapsWith value (some (.Subscript o i tpos)) pos.line X.env=pure false:=by rfl) :
    LS X (.Assign [.Subscript o i tpos] value pos) (Ak To Ti Te):=by
  obtain ⟨to,po,so⟩:=ho.ex
  obtain ⟨ti,pi,si⟩:=hi.ex
  obtain ⟨te,pe,se⟩:=he.ex
  refine ⟨_,D3 (hu1 hu) po pi pe hs,fun σ H ρ μ E E' rl h k=>se σ H ρ μ _ _ rl h fun v H1 dv μ1 t1 m1 p1 h1=>so σ H1 ρ μ1 _ _ (rl.go t1 m1) h1 fun x H2 dx μ2 t2 m2 p2 h2=>
    si σ H2 ρ μ2 _ _ (rl.go (t1.trans t2) m2) h2 fun y H3 dy μ3 t3 m3 p3 h3=>?_⟩
  obtain ⟨q,rfl,h3⟩:=kJ p2 h3
  obtain ⟨kvs,e0,h3⟩:=AH h3
  obtain ⟨kk,rfl,h3⟩:=sG p3 h3
  obtain ⟨xs,ex,l⟩:=m3 q _ e0
  have t4:Tk H3 (L2.upd H3 q (.dK (putK xs kk v))):=uj ex
  have t14:=t1.trans (t2.trans (t3.trans t4))
  refine ⟨q,_,rfl,ub.k ex (by rw[l.length];exact Nat.lt_of_lt_of_le h3.1 (by decide)),k.nx _ _ ρ _ t14 (rl.go t14 (GD m3 ex (l.put kk (p1.mono (t2.trans t3))))) h3.2⟩
def zx (f:Int→Int→Int)(i:Nat)(Te:ETr):STr:=fun E ρ μ=>kO (lk ρ i) fun d=>kI d fun m=>Te ρ μ fun w μ1=>kI w fun n=>ax i (.int (f m n)) ρ μ1 E.nx
theorem Dz {te:TE}{K:PySem.W.Frag}{f:Int→Int→Int}{j:Nat}(se:Sim K te Te):C7 K (Jw j te (ipI f)) (zx f j Te):=fun σ H ρ μ E E' rl h k=>by
  obtain ⟨d,e1,h⟩:=jf h
  obtain ⟨v,ev,pv⟩:=rl.loc j d e1
  cases pv with
  | int m=>
    refine ⟨.int m,ev,se σ H ρ μ _ _ rl h fun w H1 dw μ1 t1 m1 p1 h1=>?_⟩
    cases p1 with
    | int n=>exact ⟨m,n,rfl,rfl,k.nx _ _ _ _ t1 ((rl.go t1 m1).set (.int _) j) h1⟩
    | _=>exact False.elim h1
  | _=>exact False.elim h
theorem o8 (j:Nat){x:Str}(hN:X.N.Nodup)(he:LE X e Te)(hi:X.N[j]? = some x:=by rfl)(hx:Loc X.env.scope x:=by first | exact Or.inl rfl | exact Or.inr rfl)(hf:X.fn x=true∨X.env.scope.names.lookup x=some .local:=by first | exact .inl rfl | exact .inr rfl | assumption) :
    LS X (.AugAssign (.Name x tpos) .Add e pos) (zx (fun m n=>m+n) j Te):=by
  obtain ⟨te,pe,se⟩:=he.ex
  exact ⟨_,Ii hN hi hx pe Ho hf,Dz se⟩
theorem D2:LE X (.Dict [] [] pos) (fun ρ μ Q=>∀ p,μ p=none→Q (.obj p) (up μ p (.dct []))):=
  ⟨_,AV,fun σ H ρ μ Q Q' rl h k p hp=>k _ _ _ _ (.new hp) (xr rl.mu hp .nil) (.obj p) (h p (rl.mu.free hp))⟩
theorem DpK.zip {K:PySem.W.Frag}{H:Hp}:∀ {ks:List Key} {vs:List V} {ds:List D},DpL K H vs ds→DpK K H (ks.zip vs) (ks.zip ds)
  | [],_,_,_=>by simp;exact .nil
  | _::_,_,_,.nil=>by simp;exact .nil
  | k::ks,_,_,.cons p l=>.cons p (DpK.zip l)
end
end
section
open PySem PySem.Spec PyProof.Rows L2
theorem yE:typeLookup (.type "list") (Str.ofString "keys")=pure none:=am_miss_of_fast (by kernel_rfl)
theorem Gw {prog:Program}{w:World}{A:Around}{E:Value→Shared→Prop}{s:Shared}{a:Addr}{o:Obj}{xs:Array Value}{k:Nat}{Q:Option Value→Shared→Prop}
    (hx:s.heap.get? a=some o) (hc:o.cls=.type "list") (hdat:o.data=.seq xs k) (hd:o.dict=none) (hA:A.handled=none)
    (h:∀ h' tk,(∀ b ob,s.heap.get? b=some ob→h'.get? b=some ob)→Q none { s with heap:=h',toks:=tk }) :
    wpAny (model prog w) A (getAttr? (.ref a) "keys") Q E s:=by
  obtain ⟨c,dct,dat,sl⟩:=o
  simp only at hc hdat hd
  subst hc hdat hd
  obtain ⟨hp,g,d,tk,os⟩:=s
  have hT:∀ tk',(⟨hp,g,d,tk',os⟩:Shared).TypeIs (.ref a) "list" := fun _=>⟨_,hx,rfl⟩
  have f1:=sub_AttributeError
  have f3:=F.slot_list_getattribute.lookup
  have f4:=F.slot_list_getattribute.bind (.ref a)
  have f5:=am_list_getattr_none
  unfold getAttr? getAttrBy? getAttrBy
  repeat (any_goals (first | assumption | exact hT _ | ((with_reducible show wpAny _ _ (call (Value.builtin "list.__getattribute__") _ _) _ _ _);refine call_meets F.slot_list_getattribute (hT _) am_entry_list_getattribute (F.args_list_getattribute_2 _ _) (meets_getattribute_miss_list a xs k sl (Str.ofString "keys") _ yE (by decide +kernel) (by decide +kernel)) ⟨hx,hA,fun h' tk' e hx'=>?_⟩) | wp_step))
  obtain ⟨t',u',he⟩:=hx'.there
  show wpAny _ _ (getattributeRaised _ _ _ _ _ _ _) _ _ _
  unfold getattributeRaised
  repeat (any_goals (first | assumption | wp_step))
  exact h _ _ hx'.keeps
theorem gY:plainId "dict.update.loop" = true:=by decide +kernel
theorem sX:entryFor table "dict.update.loop" = some Builtin.«dict.update.loop»:=entryFor_of_fast (by kernel_rfl)
inductive cS {prog:Program} {w:World} {κ:Type} [DecidableEq κ] (knd:KeyKind prog w κ) (h:Heap):List Value→List (κ×Value)→Prop
  | nil:cS knd h [] []
  | cons {a:Addr} {u v:Value} {k:κ} {us:List Value} {r:List (κ×Value)}:IsTup h a #[u,v]→knd.is k u=true→cS knd h us r→cS knd h (.ref a::us) ((k,v)::r)
section
variable {prog:Program} {w:World} {κ:Type} [DecidableEq κ] {knd:KeyKind prog w κ}
theorem cS.keeps {h h':Heap}(kp:∀ b o,h.get? b=some o→o.cls=.type "tuple" → h'.get? b=some o):∀ {us:List Value} {r:List (κ×Value)},cS knd h us r→cS knd h' us r
  | _,_,.nil=>.nil
  | _,_,.cons t k r=>.cons (by obtain ⟨o,e,c,n,d⟩:=t;exact ⟨o,kp _ o e c,c,n,d⟩) k (r.keeps kp)
theorem tF {A:Around}{R:Result→Shared→Prop}{d it l:Addr}{items:Array Value}(hA:A.handled=none)(n1:d≠it)(n2:l≠it)(n3:l≠d) :
    ∀ (us:List Value) (r:List (κ×Value)) (i:Nat) (kvs:List (κ×Value)) (s:Shared),items.toList.drop i=us→cS knd s.heap us r→s.heap.IsListIter it l i→s.heap.IsList l items→s.heap.DictOf knd d kvs→kvs.length+r.length≤sizeLine→
      (∀ h' tk,h'.DictOf knd d (merged kvs r)→(∀ b o,b≠it→b≠d→s.heap.get? b=some o→h'.get? b=some o)→R (.ok (.ret .none)) { s with heap:=h',toks:=tk })→
      wpAny (model prog w) A.in1 (Builtin.«dict.update.loop» ⟨[.ref d,.ref it,rawInt i,.none],[]⟩) (fun fin s'=>match fin with | .done f=>R (.ok f) s' | .again c'=>c'.quiet=true∧codeAny (model prog w) A c' R s') (fun e s'=>R (.error e) s') s
  | [],r,i,kvs,s,hd,P,hit,hl,hm,hz,h=>by
    cases P
    have hx:items[i]? = none:=by
      have:items.toList.length≤i:=by
        have:=congrArg List.length hd
        simp at this;simp;omega
      simpa using this
    show wpAny _ _ (pyNext (.ref it) >>= _) _ _ _
    refine wpAny_bind (wpAny_pyNext_list_end (by exact hA) hit hl hx fun h' k=>?_)
    show wpAny _ _ (Builtin.Dict.addKeywords d [] >>= _) _ _ _
    refine wpAny_bind (wpAny_pure (wpAny_pure ?_))
    refine h h' s.toks ?_ fun b o hb _ e=>k b o hb e
    obtain ⟨o,es,ep,ho,rest⟩:=hm
    exact ⟨o,es,ep,k d o n1 ho,rest⟩
  | u::us,r,i,kvs,s,hd,P,hit,hl,hm,hz,h=>by
    cases P with
    | @cons a ku v k _ r tp hk P=>
    have hx:items[i]? = some (.ref a):=by
      have:items.toList[i]? = some (.ref a):=by
        have:=congrArg (fun l=>l[0]?) hd
        simpa using this
      simpa using this
    have hd':items.toList.drop (i+1)=us:=by
      have:=congrArg List.tail hd
      simpa using this
    show wpAny _ _ (pyNext (.ref it) >>= _) _ _ _
    refine wpAny_bind (wpAny_pyNext_list_item hit hl hx fun h1 it1 k1=>?_)
    have ne_it:∀ b o,s.heap.get? b=some o→o.cls≠.type "list_iterator" → b≠it:=fun b o e c z=>by
      subst z
      obtain ⟨o',e',c',_⟩:=hit
      rw[e] at e';cases e';exact c c'
    have tp1:IsTup h1 a #[ku,v]:=by
      obtain ⟨o,e,c,n,dd⟩:=tp
      exact ⟨o,(k1.2 a (ne_it a o e (by rw[c];decide))).trans e,c,n,dd⟩
    obtain ⟨o,e,c,n,dd⟩:=tp1
    have hm1:h1.DictOf knd d kvs:=by
      obtain ⟨o,es,ep,ho,rest⟩:=hm
      exact ⟨o,es,ep,(k1.2 d n1).trans ho,rest⟩
    have hl1:h1.IsList l items:=by
      obtain ⟨o,e,c,n,dd⟩:=hl
      exact ⟨o,(k1.2 l n2).trans e,c,n,dd⟩
    dsimp only
    refine wpAny_bind (wpAny_holding ?_)
    refine wpAny_bind (wpAny_tryCatch ?_)
    unfold Builtin.Dict.pairItems
    refine wpAny_bind (wpAny_typeOf (T := "tuple") ⟨o,e,c⟩ ?_)
    rw[if_pos (by decide)]
    refine wpAny_bind (wpAny_seqItems e dd (wpAny_pure ?_))
    show wpAny _ _ (holding [ku,v] (dictSet d ku v)) _ _ _
    refine wpAny_holding (wpAny_dictSet_pairs (hsz:=by have:=hz;simp at this;omega) hk hm1 fun h2 hm2 k2=>?_)
    refine wpAny_pure ?_
    refine ⟨plainId_quiet gY _,codeAny_builtin sX ?_⟩
    rw[Around.under_plainId gY _]
    have kp:∀ b o,b≠it→b≠d→s.heap.get? b=some o→h2.get? b=some o:=fun b o b1 b2 q=>(k2.2 b b2).trans ((k1.2 b b1).trans q)
    have ci:((i:Int)+1)=((i+1:Nat):Int):=by push_cast;rfl
    have nd:∀ b o,s.heap.get? b=some o→o.cls≠.type "dict" → b≠d:=fun b o q c z=>by
      subst z
      obtain ⟨o',_,_,e',ex,_⟩:=hm
      rw[q] at e';cases e';exact c ex.1
    show wpAny _ _ (Builtin.«dict.update.loop» ⟨[.ref d,.ref it,rawInt ((i:Int)+1),.none],[]⟩) _ _ _
    rw[ci]
    refine tF hA n1 n2 n3 us r (i+1) (stored kvs k v) _ hd' (P.keeps fun b o q c=>kp b o (ne_it b o q (by rw[c];decide)) (nd b o q (by rw[c];decide)) q) ?_ ?_ hm2 ?_ ?_
    · obtain ⟨o,e,c⟩:=it1
      exact ⟨o,(k2.2 it (Ne.symm n1)).trans e,c⟩
    · obtain ⟨o,e,c⟩:=hl1
      exact ⟨o,(k2.2 l n3).trans e,c⟩
    · have:=stored_length_le kvs k v
      simp at hz;omega
    · intro h' tk hm' kp'
      exact h h' tk hm' fun b o b1 b2 q=>kp' b o b1 b2 (kp b o b1 b2 q)
end
end
section
open PySem PySem.Spec PyProof.Rows L2
section
variable {prog:Program} {w:World} {κ:Type} [DecidableEq κ] {knd:KeyKind prog w κ}
theorem jY {A:Around}{E:Value→Shared→Prop}{s:Shared}{l:Addr}{o:Obj}{items:Array Value}{k:Nat}{r:List (κ×Value)}{Q:Value→Shared→Prop}(hA:A.handled=none)
    (hx:s.heap.get? l=some o) (hc:o.cls=.type "list") (hdat:o.data=.seq items k) (hd:o.dict=none) (P:cS knd s.heap items.toList r) (hz:r.length≤sizeLine)
    (h:∀ h' tk,h'.DictOf knd s.heap.objs.size (merged [] r)→(∀ b o,s.heap.get? b=some o→h'.get? b=some o)→Q (.ref s.heap.objs.size) { s with heap:=h',toks:=tk }) :
    wpAny (model prog w) A (call (.type "dict") [.ref l]) Q E s:=by
  refine callType_codes (Q₁:=fun obj s₁=>obj=.ref s.heap.objs.size∧s₁={ s with heap:=s.heap.push { cls:=.type "dict", data:=.dict #[] } }) F.kt_called_dict (F.kt_typeCall_dict_1 _) F.entry_dict_init (kt_code_dict_new _ ⟨rfl,rfl⟩) ?_
  rintro obj s₁ ⟨rfl,rfl⟩
  have Cz:(s.heap.push { cls:=.type "dict", data:=.dict #[] }).DictOf knd s.heap.objs.size []:=Heap.DictOf.new s.heap
  have hx1:(s.heap.push { cls:=.type "dict", data:=.dict #[] }).get? l=some o:=Heap.get?_push_of_some _ hx
  have ll:l < s.heap.objs.size:=Heap.lt_size hx
  refine ⟨Cz.typeIs,F.args_dict_init_2 _ _,?_⟩
  unfold Builtin.«dict.__init__»
  refine wpAny_bind ?_
  unfold Builtin.Dict.selfAndRest
  refine wpAny_bind (wpAny_notOrdered_dict Cz.typeIs ?_)
  show wpAny _ _ (pure (s.heap.objs.size,[Value.ref l])) _ _ _
  refine wpAny_pure ?_
  show wpAny _ _ (Builtin.Dict.updateFrom "dict.__init__" s.heap.objs.size (.ref l) [] .none) _ _ _
  unfold Builtin.Dict.updateFrom
  refine wpAny_bind (wpAny_typeOf (T := "list") ⟨o,hx1,hc⟩ ?_)
  rw[if_pos (by decide)]
  refine wpAny_bind (Gw hx1 hc hdat hd hA fun h1 tk1 kp1=>?_)
  rw[if_pos (by decide)]
  refine wpAny_bind (wpAny_rule ?_)
  have hx2:h1.get? l=some o:=kp1 _ _ hx1
  have hl2:h1.IsList l items:=⟨o,hx2,hc,k,hdat⟩
  have lt1:s.heap.objs.size < h1.objs.size:=by
    obtain ⟨o',es,ep,ho,_⟩:=Cz
    exact Heap.lt_size (kp1 _ _ ho)
  refine wpAny_bind (wpAny_pyIter_list hl2 ?_)
  refine wpAny_bind (wpAny_pure (wpAny_pure ?_))
  refine ⟨plainId_quiet gY _,codeAny_builtin sX ?_⟩
  rw[Around.under_plainId gY _]
  have kp2:∀ b o,s.heap.get? b=some o→(h1.push { cls:=.type "list_iterator", data:=.fields #[.ref l,.int 0 0] }).get? b=some o:=fun b o q=>Heap.get?_push_of_some _ (kp1 _ _ (Heap.get?_push_of_some _ q))
  refine tF (A:=A.in1) (knd:=knd) (it:=h1.objs.size) (d:=s.heap.objs.size) (l:=l) (items:=items) (R:=wants (fun r s₂=>r=Value.none∧Q (Value.ref s.heap.objs.size) s₂) E) hA (Nat.ne_of_lt lt1) (Nat.ne_of_lt (Nat.lt_trans ll lt1)) (Nat.ne_of_lt ll) items.toList r 0 [] _ rfl ?_ ?_ ?_ ?_ (by simpa using hz) ?_
  · exact P.keeps fun b o q _=>kp2 b o q
  · exact ⟨_,Heap.get?_push_size _ rfl,rfl,rfl⟩
  · exact ⟨o,Heap.get?_push_of_some _ hx2,hc,k,hdat⟩
  · obtain ⟨o',es,ep,ho,rest⟩:=Cz
    exact ⟨o',es,ep,Heap.get?_push_of_some _ (kp1 _ _ ho),rest⟩
  · intro h' tk hm' kp'
    refine ⟨rfl,h h' tk hm' fun b o q=>?_⟩
    have hb:b < s.heap.objs.size:=Heap.lt_size q
    exact kp' b o (Nat.ne_of_lt (Nat.lt_trans hb lt1)) (Nat.ne_of_lt hb) (kp2 b o q)
end
def dK:Key→D
  | .inl i=>.int i
  | .inr s=>.str s
def uD (kv:Key×D):D:=.tup [dK kv.1,kv.2]
def fC (kvs more:List (Key×D)):List (Key×D):=more.foldl (fun acc kv=>putD acc kv.1 kv.2) kvs
inductive cM (K:PySem.W.Frag) (H:Hp):List V→List (Key×V)→Prop
  | nil:cM K H [] []
  | cons {a:Addr} {k:Key} {v:V} {ys:List V} {r:List (Key×V)}:SqT K H a [kV k,v]→cM K H ys r→cM K H (.ref a::ys) ((k,v)::r)
theorem cM.at {X:Cx}{pins:List (Addr×Obj)}{σ:L2.St}{H:Hp}{s:Shared}(I:Inv X pins σ H s):∀ {ys:List V} {kvs:List (Key×V)} {us:List Value},cM X.K H ys kvs→Vals ys us→∃ r,cS (bG X.prog X.w) s.heap us r∧KV kvs r
  | _,_,_,.nil,.nil=>⟨[],.nil,.nil⟩
  | _,_,_,@cM.cons _ _ a k v ys r sq h,.cons ru rs=>by
    cases (show _=Value.ref a from ru)
    obtain ⟨r,p,q⟩:=h.at I rs
    obtain ⟨its,vs,it,_⟩:=I.tuple sq
    cases vs with | @cons _ u1 _ _ r1 vs=>cases vs with | @cons _ u2 _ _ r2 vs=>
    cases vs
    exact ⟨(k,u2)::r,.cons it (xt r1) p,.cons ⟨rfl,r2⟩ q⟩
theorem uI {X:Cx}(hc:X.calm=true):bz X (.type "dict") (fun xs H Q=>∃ l ys kvs,xs=[.ref l]∧SqL X.K H l ys∧cM X.K H ys kvs∧kvs.length≤sizeLine∧∀ p,H p=none→Q (.ref p) (L2.upd H p (.dK (eS [] kvs)))):=by
  intro pins s σ H xs us Q I rx h
  obtain ⟨l,ys,kvs,rfl,sq,pv,hz,q⟩:=h
  obtain ⟨u,rfl,ru⟩:=vals1 rx
  cases (show u=Value.ref l from ru)
  obtain ⟨its,vs,pl,_⟩:=I.list sq
  obtain ⟨o,n,e,c,hd,hdat⟩:=pl
  obtain ⟨r,pr,kv⟩:=pv.at I vs
  refine jY (knd:=bG X.prog X.w) (I.ok.hd hc) e c hdat hd (r:=r) (by simpa using pr) (by rw[← kv.length];exact hz) fun h' tk dd kp=>?_
  have hl:(eS [] kvs).length≤sizeLine:=by have:=gC kvs [];simp at this;omega
  exact ⟨.ref s.heap.objs.size,_,I.laid (a:=s.heap.objs.size) (o:=.dK (eS [] kvs)) kp (Nat.le_refl _) (Ax hl (beq_eq_false_iff_ne.mpr (Ne.symm (Nat.ne_of_lt I.big))) (KV.merge kv .nil) dd),rfl,q _ (I.hok.fresh (Nat.le_refl _))⟩
def xf:FSp:=fun ds μ Q=>match ds with
  | [.ls xs]=>∃ kvs:List (Key×D),xs=kvs.map uD∧kvs.length≤1000000∧∀ p,μ p=none→Q (.obj p) (up μ p (.dct (fC [] kvs)))
  | _=>False
theorem Fy {K:PySem.W.Frag}{H:Hp}{v:V}{k:Key}(h:Dp K H v (dK k)):v=kV k:=by
  cases k with
  | inl i=>cases h;rfl
  | inr s=>cases h;rfl
theorem cM.of {K:PySem.W.Frag}{H:Hp}:∀ {kvs:List (Key×D)} {xs:List V},DpL K H xs (kvs.map uD)→∃ r,cM K H xs r∧DpK K H r kvs
  | [],_,h=>by cases h;exact ⟨[],.nil,.nil⟩
  | kv::kvs,_,h=>by
    obtain ⟨k,d⟩:=kv
    cases h with
    | cons p l=>
      obtain ⟨r,h1,h2⟩:=cM.of l
      cases p with
      | tup sq lp=>
        cases lp with | cons p1 lp=>cases lp with | cons p2 lp=>
        cases lp
        cases Fy p1
        exact ⟨(k,_)::r,.cons sq h1,.cons p2 h2⟩
theorem DpK.merge {K:PySem.W.Frag}{H:Hp}{xs:List (Key×V)}{kvs:List (Key×D)}(h:DpK K H xs kvs):∀ {axs:List (Key×V)} {akvs:List (Key×D)},DpK K H axs akvs→DpK K H (eS axs xs) (fC akvs kvs):=
  DpK.ind (P:=fun xs kvs=>∀ {axs:List (Key×V)} {akvs:List (Key×D)},DpK K H axs akvs→DpK K H (eS axs xs) (fC akvs kvs)) (fun h=>h) (fun k v d xs kvs p _ ih axs akvs ha=>ih (ha.put k p)) h
theorem Cn {K:PySem.W.Frag}:jX K (fun xs H Q=>∃ l ys kvs,xs=[.ref l]∧SqL K H l ys∧cM K H ys kvs∧kvs.length≤sizeLine∧∀ p,H p=none→Q (.ref p) (L2.upd H p (.dK (eS [] kvs)))) xf:=fun H μ xs ds Q Q' m p h k=>by
  unfold xf at h
  split at h
  · obtain ⟨kvs,rfl,hl,h⟩:=h
    cases p with | cons p1 p2=>
    cases p2
    cases p1 with
    | ls q l=>
      obtain ⟨r,h1,h2⟩:=cM.of l
      exact ⟨_,_,r,rfl,q.sq,h1,by rw[h2.length];exact big hl,fun z hz=>k _ _ _ _ (.new hz) (xr m hz (h2.merge .nil)) (.obj z) (h z (m.free hz))⟩
  · exact False.elim h
end
section
open PySem PySem.Spec PyProof.Rows L2
section
variable {X:Cx} {o i a b c e value:Expr} {To Ti Ta Tb Te:ETr} {pos tpos apos cpos:Pos}
def HH (To Ti:ETr):ETr:=fun ρ μ Q=>To ρ μ fun x μ1=>kObj x fun a=>kL μ1 a fun _=>Ti ρ μ1 fun y μ2=>kI y fun j=>(-9223372036854775808≤j∧j < 9223372036854775808)∧kL μ2 a fun ds=>kN (L2.ixN ds.length j) fun k=>kO ds[k]? fun d=>Q d (up μ2 a (.lst (ds.eraseIdx k)))
theorem AQ {n k:Nat}{j:Int}(h:L2.ixN n j=some k):seqIndex? j n=some k:=by
  unfold L2.ixN at h
  unfold seqIndex?
  split at h
  · split at h
    · cases h
      rename_i h1 h2
      simp[show ¬ (j < 0) by omega,h1,h2]
    · cases h
  · split at h
    · cases h
      rename_i h1 h2
      simp[show j < 0 by omega]
      omega
    · cases h
theorem DpL.erase {K:PySem.W.Frag}{H:Hp}:∀ {vs:List V} {ds:List D} (i:Nat),DpL K H vs ds→DpL K H (vs.eraseIdx i) (ds.eraseIdx i)
  | _,_,_,.nil=>by simp;exact .nil
  | _,_,0,.cons _ l=>l
  | _,_,i+1,.cons q l=>.cons q (DpL.erase i l)
theorem Ig (ho:LE X o To)(hi:LE X i Ti)
    (hbase:attributeBase o "pop" X.env (eval o X.env)=eval o X.env:=by rfl)
    (hfew:((backTo cpos (starEach [i] X.env)).all (fun x=>!x.1)&&(backToKw cpos (keywordEach [] X.env)).all (fun x=>x.1.isSome)
      && decide (([i]:List Expr).length+([]:List Keyword).length+(if ([]:List Keyword).isEmpty then 0 else 1) < 30))=true:=by rfl)
    (hline:(apos.endLine == cpos.line)=true:=by rfl) (hs:starEach [i] X.env=(false,eval i X.env)::starEach [] X.env:=by rfl) (hplain:(backTo cpos (starEach [] X.env)).any (·.1)=false:=by rfl) :
    LE X (.Call (.Attribute o "pop" apos) [i] [] cpos) (HH To Ti):=by
  obtain ⟨to,po,so⟩:=ho.ex
  obtain ⟨ti,pi,si⟩:=hi.ex
  refine ⟨_,Ff PySem.F.plainAttrs_list PySem.F.slot_list_pop PySem.F.type_list_pop zb po (cE pi fz hs) hbase hfew hline hs hplain,fun σ H ρ μ Q Q' rl h k=>so σ H ρ μ _ _ rl h fun x H1 dx μ1 t1 m1 p1 h1=>?_⟩
  obtain ⟨q,rfl,h1⟩:=kJ p1 h1
  obtain ⟨ds0,e0,h1⟩:=b8 h1
  obtain ⟨xs0,ex0,_⟩:=m1 q _ e0
  refine ⟨.inl ⟨rfl,_,SqL.of ex0⟩,si σ H1 ρ μ1 _ _ (rl.go t1 m1) h1 fun y H2 dy μ2 t2 m2 p2 h2=>?_⟩
  cases p2 with
  | int j=>
    obtain ⟨hr,h2⟩:=h2
    obtain ⟨ds,e2,h3⟩:=b8 (show kL μ2 q _ from h2)
    obtain ⟨kk,e3,h3⟩:=qO h3
    obtain ⟨d,e4,h3⟩:=jf h3
    obtain ⟨xs,ex,l⟩:=m2 q _ e2
    obtain ⟨v,ev,pv⟩:=l.get e4
    have e3':L2.ixN xs.length j=some kk:=by rw[l.length];exact e3
    exact ⟨q,xs,j,kk,v,rfl,rfl,ex,by omega,by omega,AQ e3',ev,k _ _ _ _ ((t1.trans t2).trans (jb ex)) (E7 m2 ex (l.erase kk)) (pv.mono (jb ex)) h3⟩
  | _=>exact False.elim h2
end
noncomputable def md (h:Heap) (dx:PyData) (y:Value):Bool:=@decide (∃ d as,Reads h y d as∧PyData.canLay0 d=true∧PyData.eqv d dx=true) (Classical.propDecidable _)
theorem Dt {h:Heap}{dx d:PyData}{y:Value}{as:List Addr}(r:Reads h y d as)(hd:d.canLay0=true):md h dx y=PyData.eqv d dx:=by
  unfold md
  cases e:PyData.eqv d dx with
  | true=>exact @decide_eq_true _ (Classical.propDecidable _) ⟨d,as,r,hd,e⟩
  | false=>
    refine @decide_eq_false _ (Classical.propDecidable _) ?_
    rintro ⟨d',as',r',hd',e'⟩
    cases SeqAt.Reads.unique _ _ _ _ _ hd r r'
    rw[e] at e';cases e'
theorem wX {n:Nat}:∀ {ds:List D} {d:D},bN n ds=true→d∈ds→okD n d=true
  | x::r,d,h,hm=>by
    have h':okD n x=true∧bN n r=true:=by simpa[bN] using h
    rcases List.mem_cons.mp hm with rfl | hm
    · exact h'.1
    · exact wX h'.2 hm
section
variable {X:Cx} {pins:List (Addr×Obj)} {σ:L2.St} {H:Hp} {s:Shared}
theorem item_at (I:Inv X pins σ H s){vs:List V}{ds:List D}{us:List Value}(l:DpL X.K H vs ds)(r:Vals vs us)(ok:bN 38 ds=true){dy:D}{y:Value}{bs:List Addr}(oy:okD 38 dy=true)(ry:Reads s.heap y (toP dy) bs)(hu:X.A.units+64 < cLine)
    {m:Nat} {u:Value} (hm:us[m]? = some u):∃ d,ds[m]? = some d∧md s.heap (toP dy) u=eqD d dy∧SeqAt.EqAt X.A.in1 s u y (md s.heap (toP dy) u):=by
  have hlt:m < vs.length:=by rw[r.length];exact (List.getElem?_eq_some_iff.mp hm).1
  obtain ⟨u',e1,rv⟩:=r.get (List.getElem?_eq_getElem hlt)
  rw[hm] at e1;cases e1
  obtain ⟨d,ed,pd⟩:=l.get' (List.getElem?_eq_getElem hlt)
  have od:=wX ok (List.mem_of_getElem? ed)
  obtain ⟨as,ra⟩:=cF I pd od rv
  obtain ⟨l1,d1⟩:=eR 38 d od
  obtain ⟨l2,d2⟩:=eR 38 dy oy
  have e:=Dt (dx:=toP dy) ra l1
  refine ⟨d,ed,by rw[e,kn 38 38 d dy od oy],?_⟩
  rw[e]
  exact SeqAt.eqAt_reads _ _ _ s _ _ _ _ ra ry l1 l2 (by have:=Nat.min_le_left (toP d).depth (toP dy).depth;rw[Around.in1_units];omega)
end
def yG (ds:List D)(x:D):Option Nat:=ds.findIdx? fun y=>eqD y x
section
variable {X:Cx} {o i a b c e value:Expr} {To Ti Ta Tb Te:ETr} {pos tpos apos cpos:Pos}
def inG (x:D)(ds:List D):Bool:=ds.any fun y=>eqD y x
def Fb (K:PySem.W.Frag)(neg:Bool):L2.R2:=fun x y H Q=>∃ p xs ds dx,y=.ref p∧(SqL K H p xs∨SqT K H p xs)∧DpL K H xs ds∧Dp K H x dx∧bN 38 ds=true∧okD 38 dx=true∧Q (.bl (if neg then !inG dx ds else inG dx ds)) H
theorem zI {pins:List (Addr×Obj)}{σ:L2.St}{H:Hp}{s:Shared}(I:Inv X pins σ H s)(hu:X.A.units+64 < cLine){vs:List V}{ds:List D}{us:List Value}(l:DpL X.K H vs ds)(r:Vals vs us)(ok:bN 38 ds=true){dy:D}{y:Value}{bs:List Addr}(oy:okD 38 dy=true)(ry:Reads s.heap y (toP dy) bs) :
    (∀ w,w∈us.toArray→SeqAt.EqAt X.A.in1 s w y (md s.heap (toP dy) w))∧us.toArray.any (md s.heap (toP dy))=inG dy ds:=by
  have hl:ds.length=us.length:=by rw[← l.length,r.length]
  constructor
  · intro w hw
    obtain ⟨m,hm,rfl⟩:=Array.mem_iff_getElem.mp hw
    obtain ⟨d,_,_,e3⟩:=item_at I l r ok oy ry hu (m:=m) (u:=us.toArray[m]) (by simp at hm ⊢)
    exact e3
  · unfold inG
    rw[show us.toArray.any (md s.heap (toP dy))=us.any (md s.heap (toP dy)) by simp]
    rw[Bool.eq_iff_iff,List.any_eq_true,List.any_eq_true]
    constructor
    · rintro ⟨w,hw,e⟩
      obtain ⟨m,hm,rfl⟩:=List.mem_iff_getElem.mp hw
      obtain ⟨d,e1,e2,_⟩:=item_at I l r ok oy ry hu (m:=m) (u:=us[m]) (by simp)
      exact ⟨d,List.mem_of_getElem? e1,by rw[← e2];exact e⟩
    · rintro ⟨d,hd,e⟩
      obtain ⟨m,hm,rfl⟩:=List.mem_iff_getElem.mp hd
      obtain ⟨d',e1,e2,_⟩:=item_at I l r ok oy ry hu (m:=m) (u:=us[m]'(by omega)) (by simp)
      rw[List.getElem?_eq_getElem hm] at e1;cases e1
      exact ⟨us[m]'(by omega),List.getElem_mem _,by rw[e2];exact e⟩
theorem Gk (hu:X.A.units+64 < cLine):OpR X (compareOp .In) (Fb X.K false):=by
  intro pins s σ H x y v u Q I rx ry h
  obtain ⟨p,xs,ds,dx,rfl,hq,l,px,o1,o2,q⟩:=h
  cases (show u=Value.ref p from ry)
  obtain ⟨bs,rb⟩:=cF I px o2 rx
  rcases hq with hq | hq
  · obtain ⟨its,r,pl,hz⟩:=I.list hq
    obtain ⟨h1,h2⟩:=zI I hu l r o1 o2 rb
    exact SeqAt.in_listAt _ pl.isList h1 ⟨.bl _,H,I,rfl,by rw[h2];exact q⟩
  · obtain ⟨its,r,pl,hz⟩:=I.tuple hq
    obtain ⟨h1,h2⟩:=zI I hu l r o1 o2 rb
    exact SeqAt.in_tupleAt _ pl h1 ⟨.bl _,H,I,rfl,by rw[h2];exact q⟩
def LV (μ:Mu)(x:D)(f:List D→Prop):Prop:=match x with
  | .tup ds=>f ds
  | .ls ds=>f ds
  | .obj a=>kL μ a f
  | _=>False
def Cw (neg:Bool):DR2:=fun x y μ Q=>LV μ y fun ds=>(bN 38 ds=true∧okD 38 x=true)∧Q (.bl (if neg then !inG x ds else inG x ds)) μ
theorem CO {K:PySem.W.Frag}(neg:Bool):di K (Fb K neg) (Cw neg):=fun H μ x y dx dy Q Q' m px py h k=>by
  cases py with
  | tup sq l=>exact ⟨_,_,_,dx,rfl,.inr sq,l,px,h.1.1,h.1.2,k _ H _ μ (.refl H) m (.bl _) h.2⟩
  | ls sq l=>exact ⟨_,_,_,dx,rfl,.inl sq.sq,l,px,h.1.1,h.1.2,k _ H _ μ (.refl H) m (.bl _) h.2⟩
  | obj q=>
    obtain ⟨ds,e0,h⟩:=b8 (show kL μ q _ from h)
    obtain ⟨xs,ex,l⟩:=m q _ e0
    exact ⟨_,_,_,dx,rfl,.inl (SqL.of ex),l,px,h.1.1,h.1.2,k _ H _ μ (.refl H) m (.bl _) h.2⟩
  | _=>exact False.elim h
theorem II (hu:X.A.units+64 < cLine)(ha:LE X a Ta)(hb:LE X b Tb)(hm:behindInMarks .In b=false:=by rfl):LT X (.Compare a [.In] [b] pos) (TB (ak (Cw false) Ta Tb)):=eX (Gk hu) (CO false) ha hb hm
end
end
section
open PySem PySem.Spec PyProof.Rows L2
def Ic (K:PySem.W.Frag)(n:Nat)(t:TGs)(is:List Nat):Prop:=∀ σ H ρ μ vs ds (k:ST→Mu→Prop) (k':L2.St→Hp→Prop),Rl K σ H ρ μ→DpL K H vs ds→ds.length=is.length→k (kG ρ is ds) μ→E1 K n σ H k k'→t vs σ H k'
structure Dr (X:Cx) (n:Nat) (es:List Expr) (is:List Nat):Prop where
  ex:∃ t,PGs X es t∧Ic X.K n t is
section
variable {X:Cx} {e tg:Expr} {es:List Expr} {is:List Nat} {pos:Pos} {x:Str} {n:Nat}
theorem lJ:Dr X n [] []:=⟨_,C4,fun σ H ρ μ vs ds k k' rl l hl h q=>by
  cases ds with
  | nil=>cases l;exact ⟨rfl,q _ _ _ _ (.refl H) rl ⟨rfl,fun _ _=>rfl⟩ h⟩
  | cons=>cases hl⟩
theorem cY (i:Nat)(hN:X.N.Nodup)(h2:Dr X n es is)(hin:i < n:=by decide)(hi:X.N[i]? = some x:=by rfl)(hx:Loc X.env.scope x:=by first | exact Or.inl rfl | exact Or.inr rfl)(hf:X.fn x=true∨X.env.scope.names.lookup x=some .local:=by first | exact .inr rfl | exact .inl rfl | assumption)
    (hs:(assignEach (.Name x pos::es) X.env).map (·.2)=assign (.Name x pos) X.env::(assignEach es X.env).map (·.2):=by rfl):Dr X n (.Name x pos::es) (i::is):=by
  obtain ⟨t,pt,st⟩:=h2.ex
  refine ⟨_,A2 (pJ hN hi hx hf) pt hs,fun σ H ρ μ vs ds k k' rl l hl h q=>?_⟩
  cases l with
  | nil=>cases hl
  | @cons v d vs ds p l=>
    refine ⟨v,vs,rfl,st _ H _ μ vs ds k k' (rl.set p i) l (by simpa using hl) h fun σ' H' ρ' μ' t' r' hk kk=>q σ' H' ρ' μ' t' r' ⟨?_,fun j hj=>?_⟩ kk⟩
    · rw[hk.1];simp
    · rw[hk.2 j hj,List.getElem?_set_ne (by omega)]
theorem pC {k:Nat}(hc:X.calm=true)(h:Dr X n es is)(hn:(assignEach es X.env).length=is.length:=by rfl)(hst:(assignEach es X.env).findIdx? (·.1)=none:=by rfl):LGc X n (.Tuple es k pos) (ve is):=by
  obtain ⟨t,pt,st⟩:=h.ex
  refine ⟨fun pins s σ H v u k' I r ⟨ρ,μ,d,k,rl,p,h,post⟩=>HZ hc pt hn hst pins s σ H v u k' I r ?_⟩
  cases p with
  | @tup a xs ds sq l=>exact ⟨a,xs,rfl,sq,by rw[l.length];exact h.1,st σ H ρ μ xs ds k k' rl l h.1 h.2 post⟩
  | _=>exact False.elim h
end
section
variable {X:Cx} {o i a b c e value:Expr} {To Ti Ta Tb Te:ETr} {pos tpos apos cpos:Pos}
end
section
variable {P:Program} {w:World} {K:PySem.W.Frag} {mg:Str→Option Value} {base:Heap}
end
end
section
open PySem PySem.Spec PyProof.Rows L2
section
variable {X:Cx} {tg a ea eb:Expr} {Ta:ETr} {es:List Expr} {ek:Nat} {ep p pos:Pos}
def LN (K:PySem.W.Frag)(tl:TE):TI:=fun σ H R=>tl σ H fun x H1=>∃ q,x=.ref q∧(((∃ xs,SqL K H1 q xs)∧R (Itl K q) H1)∨((∃ xs,SqT K H1 q xs)∧R (Itt K q) H1))
theorem Fu {tl:TE}(hl:PE X a tl):PI X tg a (LN X.K tl):=by
  intro pins s σ H R I h
  refine thn (hl pins s σ H _ I h) fun v s1 ⟨x,H1,I1,r1,q,ex,qq⟩=>?_
  subst ex
  cases (show v=Value.ref q from r1)
  have fp:∀ b∈[s1.heap.objs.size],_:=fun b hb=>by
    have e:b=s1.heap.objs.size:=by simpa using hb
    subst e
    exact I1.Dw (Nat.le_refl _) (I1.hok.fresh (Nat.le_refl _))
  rcases qq with ⟨⟨xs,sq⟩,qq⟩ | ⟨⟨xs,sq⟩,qq⟩
  · obtain ⟨its,rv,pl,hz⟩:=I1.list sq
    exact wpAny_pyIter_list pl.isList ⟨s1.heap.objs.size,[s1.heap.objs.size],_,_,H1,rfl,I1.kept (t':=s1.toks) (fun b o e=>Heap.get?_push_of_some _ e),xM q _,⟨_,Heap.get?_push_size _ rfl,rfl,rfl⟩,fp,qq⟩
  · obtain ⟨its,rv,pl,hz⟩:=I1.tuple sq
    exact wpAny_pyIter_tuple (show s1.heap.IsTuple q its.toArray from pl) ⟨s1.heap.objs.size,[s1.heap.objs.size],_,_,H1,rfl,I1.kept (t':=s1.toks) (fun b o e=>Heap.get?_push_of_some _ e),uk q _,⟨_,Heap.get?_push_size _ rfl,rfl,rfl⟩,fp,qq⟩
theorem c7 (ha:LE X a Ta):LI X tg a (f7 Ta):=by
  obtain ⟨ta,pa,sa⟩:=ha.ex
  refine ⟨_,Fu pa,fun σ H ρ μ Q R rl h k=>sa σ H ρ μ _ _ rl h fun x H1 d μ1 t1 m1 p1 h1=>?_⟩
  cases p1 with
  | @tup p xs ds q l=>exact ⟨p,rfl,.inr ⟨⟨xs,q⟩,k _ H1 ds μ1 t1 m1 (A4 q l) h1⟩⟩
  | @ls p xs ds q l=>exact ⟨p,rfl,.inl ⟨⟨xs,q.sq⟩,k _ H1 ds μ1 t1 m1 (DM q l) h1⟩⟩
  | _=>exact False.elim h1
def JT (K:PySem.W.Frag)(t:TA):TI:=fun σ H R=>t σ H fun vs H1=>∃ (ta tb:Bool) (a b:Addr),vs=[.ref a,.ref b]∧(∃ xs,Sq ta K H1 a xs)∧(∃ ys,Sq tb K H1 b ys)∧R (Itz ta tb K a b) H1
theorem CA {t:TA}(hg:Gl X "zip")(hm:X.mg "zip" = none)(ha:PA X [ea,eb] t)(hs:starEach [ea,eb] X.env=[(false,eval ea X.env),(false,eval eb X.env)]:=by rfl)(hs2:starEach [eb] X.env=[(false,eval eb X.env)]:=by rfl) :
    PI X (.Tuple es ek ep) (.Call (.Name "zip" p) [ea,eb] [] pos) (JT X.K t):=by
  intro pins s σ H R I h
  refine Call_ (gJ I hg hm boot_zip (PyProof.Rows.callWith_type1 (thn (ha pos pins s σ H _ I h) fun us s1 ⟨vs,H1,I1,r1,ta,tb,a,b,e,⟨xs,qa⟩,⟨ys,qb⟩,q⟩=>?_) (by rw[hs,hs2]) (by rw[hs2];rfl)))
  subst e
  cases r1 with | cons r rr=>cases rr with | cons r' rr=>
  cases rr
  cases (show _=Value.ref a from r)
  cases (show _=Value.ref b from r')
  obtain ⟨ia,ra,sa⟩:=Inv.sq I1 qa
  obtain ⟨ib,rb,sb⟩:=Inv.sq I1 qb
  have alt:a < s1.heap.objs.size:=by cases ta<;>(obtain ⟨o,e,_⟩:=sa;exact Heap.lt_size e)
  have blt:b < s1.heap.objs.size:=by cases tb<;>(obtain ⟨o,e,_⟩:=sb;exact Heap.lt_size e)
  refine yR sa sb fun g S kp=>wpAny_pyIter_zip S.zz ⟨s1.heap.objs.size+4,[s1.heap.objs.size+4,s1.heap.objs.size+2,s1.heap.objs.size+3,s1.heap.objs.size,s1.heap.objs.size+1],_,_,H1,rfl,I1.kept (t':=s1.toks) kp,BO (IZ _ _ _ alt blt),S,fun c hc=>?_,q⟩
  exact I1.Dw (EH _ _ hc) (I1.hok.fresh (EH _ _ hc))
def wL (t:ATr):ATr:=fun ρ μ Q=>t ρ μ fun vs μ1=>k2 vs fun x y=>kS x fun ds=>kS y fun es=>Q (List.zipWith (fun d e=>.tup [d,e]) ds es) μ1
theorem uc {K:PySem.W.Frag}{H:Hp}{v:V}{x:D}{f:List D→Prop}(p:Dp K H v x)(h:kS x f):∃ (tp:Bool) (a:Addr) (xs:List V) (ds:List D),v=.ref a∧Sq tp K H a xs∧DpL K H xs ds∧kQ tp x f:=by
  cases p with
  | @tup a xs ds q l=>exact ⟨true,a,xs,ds,rfl,q,l,h⟩
  | @ls a xs ds q l=>exact ⟨false,a,xs,ds,rfl,q,l,h⟩
  | _=>exact False.elim h
theorem wM {At:ATr}(hg:Gl X "zip")(hm:X.mg "zip" = none)(ha:LA X [ea,eb] At)
    (hs:starEach [ea,eb] X.env=[(false,eval ea X.env),(false,eval eb X.env)]:=by rfl) (hs2:starEach [eb] X.env=[(false,eval eb X.env)]:=by rfl) :
    LI X (.Tuple es ek ep) (.Call (.Name "zip" p) [ea,eb] [] pos) (wL At):=by
  obtain ⟨t,pt,st⟩:=ha.ex
  refine ⟨_,CA hg hm pt hs hs2,fun σ H ρ μ Q R rl h k=>st σ H ρ μ _ _ rl h fun vs H1 ds μ1 t1 m1 p1 h1=>?_⟩
  unfold L3.k2 at h1
  split at h1
  case h_2=>exact False.elim h1
  cases p1 with | cons pa p2=>cases p2 with | cons pb p3=>
  cases p3
  obtain ⟨ta,a,xs,dx,rfl,qa,la,h2⟩:=uc pa h1
  obtain ⟨a',xs',dx',ea',qa',la',h2⟩:=uC pa h2
  cases ea'
  obtain ⟨tb,b,ys,dy,rfl,qb,lb,h3⟩:=uc pb h2
  obtain ⟨b',ys',dy',eb',qb',lb',h3⟩:=uC pb h3
  cases eb'
  refine ⟨ta,tb,a,b,rfl,⟨xs',qa'⟩,⟨ys',qb'⟩,k _ H1 _ μ1 t1 m1 ⟨fun i H' tk hi=>?_,fun i H' v H'' tk hi yv=>?_,fun i H' tk hi=>?_⟩ h3⟩
  · have l1:=la'.length
    have l2:=lb'.length
    rw[List.length_zipWith] at hi
    exact ⟨xs',ys',xs'[i],ys'[i],tk.sq qa',tk.sq qb',by simp[show i < xs'.length by omega],by simp[show i < ys'.length by omega]⟩
  · obtain ⟨x,y,q,fx,fy,rfl,fr,rfl⟩:=yv
    obtain ⟨d,ed,pd⟩:=la'.get' (fx _ (tk.sq qa'))
    obtain ⟨e,ee,pe⟩:=lb'.get' (fy _ (tk.sq qb'))
    have tn:Tk H' (L2.upd H' q (.tup [x,y])):=.new fr
    exact ⟨tn,⟨.tup [d,e],by simp[List.getElem?_zipWith,ed,ee],.tup (SqT.of aG) (.cons ((pd.mono tk).mono tn) (.cons ((pe.mono tk).mono tn) .nil))⟩,fun μ' m'=>cg m' fr⟩
  · have l1:=la'.length
    have l2:=lb'.length
    rw[List.length_zipWith] at hi
    exact ⟨xs',ys',tk.sq qa',tk.sq qb',by omega⟩
variable {i o:Expr} {Ti To:ETr}
end
end
section
open PySem PySem.Spec PyProof.Rows L2
def ltS (x y:Str):Bool:=decide (x.cps.toList < y.cps.toList)
theorem h8:∀ {us:List Value} {ss:List Str},StrsAre us ss→Vals (ss.map V.str) us
  | _,_,.nil=>.nil
  | _,_,.cons n t h=>.cons ⟨t,rfl⟩ (h8 h)
theorem wV:∀ {us:List Value} {ss:List Str},Vals (ss.map V.str) us→StrsAre us ss
  | _,[],h=>by cases h;exact .nil
  | _,s::r,h=>by
    cases h with
    | cons q h=>obtain ⟨t,rfl⟩:=(show ∃ t,_=Value.str s t from q);exact .cons s t (wV h)
def HB (K:PySem.W.Frag):List V→Hp→VK→Prop:=fun xs H Q=>∃ (p:Addr) (ss:List Str),xs=[.ref p]∧SqL K H p (ss.map V.str)∧ss.length < 64∧∀ ss':List Str,ss'.Perm ss→ss'.Pairwise (fun a b=>ltS b a=false)→∀ z,H z=none→Q (.ref z) (L2.upd H z (.lst (ss'.map V.str)))
theorem xw:∀ (p:Str) (l:List Str),risingS p l=true→(p::l).Pairwise (fun a b=>ltS b a=false):=by
  have tr:∀ a b c:Str,ltS b a=false→ltS c b=false→ltS c a=false:=by
    intro a b c h1 h2
    unfold ltS at *
    rw[decide_eq_false_iff_not,List.not_lt] at *
    exact List.le_trans h1 h2
  intro p l
  induction l generalizing p with
  | nil=>intro _;exact List.pairwise_singleton _ _
  | cons x r ih=>
    intro h
    have h':ltCps x.cps.toList p.cps.toList=false∧risingS x r=true:=by
      have:(!ltCps x.cps.toList p.cps.toList&&risingS x r)=true:=h
      simpa using this
    have hx:=ih x h'.2
    have hpx:ltS x p=false:=by unfold ltS;rw[← ltCps_eq];exact h'.1
    refine List.pairwise_cons.mpr ⟨fun y hy=>?_,hx⟩
    rcases List.mem_cons.mp hy with rfl | hy
    · exact hpx
    · exact tr p x y hpx ((List.pairwise_cons.mp hx).1 y hy)
theorem xW:∀ (l:List Str),sortedS l=true→l.Pairwise (fun a b=>ltS b a=false)
  | [],_=>.nil
  | p::l,h=>xw p l h
theorem vF {X:Cx}:bz X (.builtin "sorted") (HB X.K):=fun pins s σ H xs us Q I rx ⟨p,ss,e1,sq,hl,q⟩=>by
  subst e1
  obtain ⟨u,rfl,ru⟩:=vals1 rx
  cases (show u=Value.ref p from ru)
  obtain ⟨its,rv,pl,hz⟩:=I.list sq
  have hi:StrsAre its ss:=wV rv
  have hlen:its.length < 64:=by have:=rv.length;simp at this;omega
  refine sorted_strs pl.isList hi hlen fun out ss' a1 a2 a3=>?_
  obtain ⟨n,en⟩:=sortedAll_at s.heap its out
  refine ⟨.ref _,_,I.laid (t':=s.toks) (o:=.lst (ss'.map V.str)) (fun b o e=>sortedAll_old e) (Nat.le_succ _) ?_,rfl,q ss' a2 (xW _ a3) _ (I.hok.fresh (Nat.le_succ _))⟩
  have z1:ss'.length=ss.length:=a2.length_eq
  exact ⟨by rw[List.length_map,z1];exact Nat.le_of_lt (Nat.lt_of_lt_of_le hl (by decide)),out.toList,n,h8 a1,by simpa[seqObj] using en⟩
def ui:FSp:=fun ds μ Q=>match ds with
  | [.ls xs]=>∃ ss:List Str,(xs=ss.map .str∧ss.length < 64)∧∀ ss':List Str,ss'.Perm ss→ss'.Pairwise (fun a b=>ltS b a=false)→Q (.ls (ss'.map .str)) μ
  | _=>False
theorem DpL.strs {K:PySem.W.Frag}{H:Hp}:∀ ss:List Str,DpL K H (ss.map V.str) (ss.map D.str)
  | []=>.nil
  | s::r=>.cons (.str s) (DpL.strs r)
theorem DpL.h8 {K:PySem.W.Frag}{H:Hp}:∀ {xs:List V} {ss:List Str},DpL K H xs (ss.map .str)→xs=ss.map V.str
  | _,[],.nil=>rfl
  | _,s::r,.cons h l=>by cases h;rw[DpL.h8 l];rfl
section
variable {X:Cx} {e a b:Expr} {x:Str} {p pos:Pos} {At:ATr} {Ta Tb:ETr}
theorem Aw (hg:Gl X x)(hm:X.mg x=none)(hv:bootBuiltins x=some (.builtin "sorted"))(ha:LA X [e] At)(hn:x ≠ "__name__" := by decide)(hdb:(x == ("__debug__" : Str))=false:=by decide)
    (h1:starEach [e] X.env=(false,eval e X.env)::starEach [] X.env:=by rfl) (h2:(backTo pos (starEach [] X.env)).any (·.1)=false:=by rfl):LE X (.Call (.Name x p) [e] [] pos) (ao ui At):=by
  obtain ⟨ta,pa,sa⟩:=ha.ex
  refine ⟨_,jo (k9 vF hg hm hv pa hn hdb h1 h2),fun σ H ρ μ Q Q' rl h k=>sa σ H ρ μ _ _ rl h fun xs H1 ds μ1 t1 m1 p1 h1=>?_⟩
  unfold ui at h1
  split at h1
  · obtain ⟨ss,⟨rfl,hl⟩,h2⟩:=h1
    cases p1 with | cons p1 p2=>
    cases p2
    cases p1 with
    | @ls a ys _ q l=>
      cases DpL.h8 l
      refine ⟨a,ss,rfl,q.sq,hl,fun ss' a2 a3 z hz=>⟨z,_,rfl,aG,fun o=>?_⟩⟩
      have e:L2.upd (L2.upd H1 z (.lst (ss'.map V.str))) z (.frz o (.lst (ss'.map V.str)))=L2.upd H1 z (.frz o (.lst (ss'.map V.str))):=pR
      rw[e]
      exact k _ _ _ μ1 (t1.trans (.new hz)) (cg m1 hz) (.ls (.inl ⟨o,aG⟩) (.strs ss')) (h2 ss' a2 a3)
  · exact False.elim h1
end
end
section
open PySem PySem.Spec PyProof.Rows L2
end
theorem Gh (c b:Bool)(μ:Mu)(Q:DK):pY true (.bl c) (.bl b) μ Q=Q (.bl (!(c == b))) μ:=propext Iff.rfl
theorem GC (c b:Bool)(μ:Mu)(Q:DK):pY false (.bl c) (.bl b) μ Q=Q (.bl (c == b)) μ:=propext Iff.rfl
theorem CN (a b:ETr)(ρ:ST)(μ:Mu)(Q:DK):zZ a b ρ μ Q=a ρ μ fun x μ1=>b ρ μ1 fun y μ2=>kObj x fun a=>kD μ2 a fun kvs=>xD y fun k=>kO (cI kvs k) fun d=>Q d μ2:=propext Iff.rfl
theorem DU (a b e:ETr)(nx:ST→Mu→Prop)(rt:DK)(bk ct:ST→Mu→Prop)(ρ:ST)(μ:Mu):Ak a b e ⟨nx,rt,bk,ct⟩ ρ μ=e ρ μ fun v μ1=>a ρ μ1 fun x μ2=>b ρ μ2 fun y μ3=>kObj x fun a=>kD μ3 a fun kvs=>xD y fun k=>kvs.length < 1000000∧nx ρ (up μ3 a (.dct (putD kvs k v))):=propext Iff.rfl
theorem Im (f:Int→Int→Int)(i:Nat)(e:ETr)(nx:ST→Mu→Prop)(rt:DK)(bk ct:ST→Mu→Prop)(ρ:ST)(μ:Mu):zx f i e ⟨nx,rt,bk,ct⟩ ρ μ=ah i ρ μ fun d _=>kI d fun m=>e ρ μ fun w μ1=>kI w fun n=>ax i (.int (f m n)) ρ μ1 nx:=propext Iff.rfl
theorem HY (a b:ETr)(ρ:ST)(μ:Mu)(Q:DK):HH a b ρ μ Q=a ρ μ fun x μ1=>kObj x fun a=>kL μ1 a fun _=>b ρ μ1 fun y μ2=>kI y fun j=>(-9223372036854775808≤j∧j < 9223372036854775808)∧kL μ2 a fun ds=>kN (L2.ixN ds.length j) fun k=>kO ds[k]? fun d=>Q d (up μ2 a (.lst (ds.eraseIdx k))):=propext Iff.rfl
theorem G2 (a:ETr)(ρ:ST)(μ:Mu)(Q:List D→Mu→Prop):f7 a ρ μ Q=a ρ μ fun x μ1=>kS x fun ds=>Q ds μ1:=propext Iff.rfl
theorem DA (t:ATr)(ρ:ST)(μ:Mu)(Q:List D→Mu→Prop):wL t ρ μ Q=t ρ μ fun vs μ1=>k2 vs fun x y=>kS x fun ds=>kS y fun es=>Q (List.zipWith (fun d e=>.tup [d,e]) ds es) μ1:=propext Iff.rfl
theorem F6 (n:Bool)(x:D)(ds:List D)(μ:Mu)(Q:DK):Cw n x (.tup ds) μ Q=((bN 38 ds=true∧okD 38 x=true)∧Q (.bl (if n then !inG x ds else inG x ds)) μ):=propext Iff.rfl
theorem Hr (s:Str)(f:L2.Key→Prop):xD (.str s) f=f (.inr s):=propext Iff.rfl
theorem Jt {μ:Mu}{a:Addr}{ds:List (L2.Key×D)}(h:μ a=some (.dct ds))(f):kD μ a f=f ds:=by unfold kD;rw[h]
theorem EZ {μ:Mu}{a:Addr}{ds:List (L2.Key×D)}{f:List (L2.Key×D)→Prop}(e:μ a=some (.dct ds))(h:f ds):kD μ a f:=by rw[Jt e];exact h
theorem Eb (xs:List D)(μ:Mu)(Q:DK):cB xf [.ls xs] μ Q=(∃ kvs:List (L2.Key×D),xs=kvs.map uD∧kvs.length≤1000000∧∀ p,μ p=none→Q (.obj p) (up μ p (.dct (fC [] kvs)))):=propext Iff.rfl
theorem IsPart.of_eq {a b c d x y:Int}(h:IsPart a b x y)(hb:0 < b)(hd:0 < d)(e:a*d=c*b):IsPart c d x y:=by
  have xd:x*d=c*y:=by
    refine Int.eq_of_mul_eq_mul_right (a:=b) (by omega) ?_
    calc x*d*b=(x*b)*d:=by ac_rfl
      _=(a*y)*d:=by rw[h.e]
      _=(a*d)*y:=by ac_rfl
      _=(c*b)*y:=by rw[e]
      _=c*y*b:=by ac_rfl
  have y0:=h.q0
  have dx:x ∣ c:=by
    have:x ∣ y*c:=⟨d,by rw[Int.mul_comm y c];exact xd.symm⟩
    have h':=Int.dvd_gcd_mul_iff_dvd_mul.mpr this
    rw[h.g] at h'
    simpa using h'
  have dy:y ∣ d:=by
    have:y ∣ x*d:=⟨c,by rw[xd,Int.mul_comm]⟩
    have h':=Int.dvd_gcd_mul_iff_dvd_mul.mpr this
    rw[Int.gcd_comm,h.g] at h'
    simpa using h'
  refine ⟨h.q0,h.g,xd,?_,Nat.le_of_dvd (by omega) (Int.natAbs_dvd_natAbs.mpr dy)⟩
  by_cases hc:c=0
  · subst hc
    have:x=0:=by
      rcases Int.mul_eq_zero.mp (show x*d=0 by rw[xd,Int.zero_mul]) with z | z
      · exact z
      · omega
    rw[this];exact Nat.le_refl _
  · exact Nat.le_of_dvd (by omega) (Int.natAbs_dvd_natAbs.mpr dx)
structure Vl (d:D) (a b:Int):Prop where
  ex:∃ p q,d=fr p q∧IsPart a b p q
  b0:0 < b
theorem Vl.of_eq {d:D}{a b a' b':Int}(h:Vl d a b)(hb:0 < b')(e:a*b'=a'*b):Vl d a' b':=by
  obtain ⟨⟨p,q,rfl,P⟩,b0⟩:=h
  exact ⟨⟨p,q,rfl,P.of_eq b0 hb e⟩,hb⟩
theorem HU {lo hi p q:Int}(h:FrB lo hi p q):Vl (fr p q) p q:=⟨⟨p,q,rfl,h.q0,h.g,rfl,Nat.le_refl _,Nat.le_refl _⟩,h.q0⟩
theorem qf {a b x y:Int}(h:IsPart a b x y)(b0:0 < b):Vl (fr x y) a b:=⟨⟨x,y,rfl,h⟩,b0⟩
theorem IM {p q a b:Int}(g:Int)(q0:0 < q)(b0:0 < b)(e:p*b=a*q):p*g / q=a*g / b:=by
  calc p*g / q=(p*g)*b / (q*b):=(Int.mul_ediv_mul_of_pos_left _ _ b0).symm
    _=(a*g)*q / (b*q):=by rw[show p*g*b=(p*b)*g by ac_rfl,e,Int.mul_comm q b,show a*q*g=a*g*q by ac_rfl]
    _=a*g / b:=Int.mul_ediv_mul_of_pos_left _ _ q0
theorem BW {p q a b:Int}(q0:0 < q)(b0:0 < b)(e:p*b=a*q):p / q=a / b:=by
  have:=IM 1 q0 b0 e
  simpa using this
theorem Jl {p q r s a b c e:Int}(q0:0 < q)(s0:0 < s)(b0:0 < b)(e0:0 < e)(h1:p*b=a*q)(h2:r*e=c*s):(p*s < r*q)↔(a*e < c*b):=by
  have k1:(p*s)*(b*e)=(a*e)*(q*s):=by
    calc (p*s)*(b*e)=(p*b)*(s*e):=by ac_rfl
      _=(a*q)*(s*e):=by rw[h1]
      _=(a*e)*(q*s):=by ac_rfl
  have k2:(r*q)*(b*e)=(c*b)*(q*s):=by
    calc (r*q)*(b*e)=(r*e)*(q*b):=by ac_rfl
      _=(c*s)*(q*b):=by rw[h2]
      _=(c*b)*(q*s):=by ac_rfl
  have be:0 < b*e:=Int.mul_pos b0 e0
  have qs:0 < q*s:=Int.mul_pos q0 s0
  constructor
  · intro h
    have:=Int.mul_lt_mul_of_pos_right h be
    rw[k1,k2] at this
    exact Int.lt_of_mul_lt_mul_right this (Int.le_of_lt qs)
  · intro h
    have:=Int.mul_lt_mul_of_pos_right h qs
    rw[← k1,← k2] at this
    exact Int.lt_of_mul_lt_mul_right this (Int.le_of_lt be)
def Le (a A:Int):Prop:=-A≤a∧a≤A
theorem Le.mono {a A B:Int}(h:Le a A)(hb:A≤B):Le a B:=⟨by have:=h.1;omega,by have:=h.2;omega⟩
theorem Le.of {a A:Int}(h0:0≤a)(h1:a≤A):Le a A:=⟨by omega,h1⟩
theorem Le.add {a b A B:Int}(h:Le a A)(k:Le b B):Le (a+b) (A+B):=⟨by have:=h.1;have:=k.1;omega,by have:=h.2;have:=k.2;omega⟩
theorem Le.sub {a b A B:Int}(h:Le a A)(k:Le b B):Le (a - b) (A+B):=⟨by have:=h.1;have:=k.2;omega,by have:=h.2;have:=k.1;omega⟩
theorem Le.neg {a A:Int}(h:Le a A):Le (-a) A:=⟨by have:=h.2;omega,by have:=h.1;omega⟩
theorem Le.abs {a A:Int}(h:Le a A):(a.natAbs:Int)≤A:=by have:=h.1;have:=h.2;omega
theorem Le.BG {a A:Int}(h:(a.natAbs:Int)≤A):Le a A:=⟨by omega,by omega⟩
theorem Le.mul {a b A B:Int}(h:Le a A)(k:Le b B):Le (a*b) (A*B):=by
  refine .BG ?_
  rw[Int.natAbs_mul,Int.natCast_mul]
  have a0:(0:Int)≤(a.natAbs:Int):=Int.natCast_nonneg _
  have b0:(0:Int)≤(b.natAbs:Int):=Int.natCast_nonneg _
  exact Int.mul_le_mul h.abs k.abs b0 (Int.le_trans a0 h.abs)
abbrev Bd (a:Int):Prop:=Le a 1000000000000000000000000000000
theorem Bd.m {a:Int}(h:Bd a):cu a:=by have:=h.1;have:=h.2;unfold cu;omega
theorem Bd.mm {a b:Int}(h:Bd a)(k:Bd b):cu (a*b):=by
  have:=(h.mul k).1;have:=(h.mul k).2
  unfold cu;omega
theorem Bd.mul {a b:Int}(h:Bd a)(k:Bd b):MulOk a b:=.inr ⟨h.m,k.m⟩
theorem IsPart.bp {a b x y:Int}(h:IsPart a b x y)(ha:Bd a):Bd x:=.BG (by have:=h.pa;have:=ha.abs;omega)
theorem IsPart.bq {a b x y:Int}(h:IsPart a b x y)(hb:Bd b):Bd y:=.BG (by have:=h.qb;have:=hb.abs;omega)
inductive Wd | jL | step | mB | BA | calm
  deriving DecidableEq
structure RN where
  wd:Wd
  p:Int
  q:Int
  x:Int
  y:Int
  a:Int
  b:Int
  l:Int
  h:Int
  r:Int
  s:Int
def Wd.str:Wd→Str
  | .jL=>Str.ofString "still"
  | .step=>Str.ofString "step"
  | .mB=>Str.ofString "swell"
  | .BA=>Str.ofString "heed"
  | .calm=>Str.ofString "calm"
def RN.toD (R:RN):D:=match R.wd with
  | .jL=>.tup [.str "still", fr R.p R.q]
  | .step=>.tup [.str "step", fr R.p R.q,fr R.x R.y,fr R.a R.b,fr R.r R.s]
  | .mB=>.tup [.str "swell", fr R.p R.q,fr R.x R.y,fr R.a R.b,fr R.r R.s]
  | .BA=>.tup [.str "heed", fr R.p R.q,fr R.x R.y,fr R.a R.b,fr R.r R.s]
  | .calm=>.tup [.str "calm", fr R.p R.q,fr R.x R.y,.int R.l,.int R.h,fr R.r R.s]
structure RN.Ok (R:RN):Prop where
  w:FrB 1 60 R.p R.q
  t:FrB 1 60 R.r R.s
  wt:R.p*R.s≤R.r*R.q
  u:FrA 0 60 R.x R.y
  u1:R.wd=.mB→R.y < R.x
  g:FrA 0 1 R.a R.b
  d1:R.wd=.step∨R.wd=.mB→R.a < R.b
  l0:0≤R.l
  lh:R.l≤R.h
  h1:R.h≤60
  st:R.wd=.jL→R.r=R.p∧R.s=R.q
theorem GN {lo hi:Int}(h0:lo < 1)(h1:1≤hi):FrA lo hi 1 1:=⟨⟨by decide,by decide,by decide,by omega,by omega⟩,by omega⟩
theorem ES {p q:Int}(h:FrL 1 p q):FrA 0 1 p q:=⟨h.toFrB,by have:=h.ab;omega⟩
theorem uH.rn {w:Str}{d:D}(h:uH w d):∃ R:RN,R.Ok∧d=R.toD∧R.wd.str=w:=by
  cases h with
  | @jL p q w=>exact ⟨⟨.jL,p,q,1,1,1,1,0,0,p,q⟩,⟨w,w,Int.le_refl _,GN (by decide) (by decide),nofun,GN (by decide) (by decide),(fun z=>by rcases z with z | z<;>cases z),Int.le_refl 0,Int.le_refl 0,(show (0:Int)≤60 by decide),fun _=>⟨rfl,rfl⟩⟩,rfl,rfl⟩
  | @calm p q r s x y l h w t wt u l0 lh h1=>exact ⟨⟨.calm,p,q,x,y,1,1,l,h,r,s⟩,⟨w,t,wt,u,nofun,GN (by decide) (by decide),(fun z=>by rcases z with z | z<;>cases z),l0,lh,h1,nofun⟩,rfl,rfl⟩
  | @BA p q r s x y a b w t wt u g=>exact ⟨⟨.BA,p,q,x,y,a,b,0,0,r,s⟩,⟨w,t,wt,u,nofun,g,(fun z=>by rcases z with z | z<;>cases z),Int.le_refl 0,Int.le_refl 0,(show (0:Int)≤60 by decide),nofun⟩,rfl,rfl⟩
  | @step p q r s x y a b w t wt u g=>
    have d1:a < b:=by have:=g.be;omega
    exact ⟨⟨.step,p,q,x,y,a,b,0,0,r,s⟩,⟨w,t,wt,u,nofun,ES g,fun _=>d1,Int.le_refl 0,Int.le_refl 0,(show (0:Int)≤60 by decide),nofun⟩,rfl,rfl⟩
  | @mB p q r s x y a b w t wt u g=>
    have d1:a < b:=by have:=g.be;omega
    have y0:=u.q0
    have u2:=u.ab
    have u3:FrA 0 60 x y:=⟨⟨u.q0,u.q1,u.g,by omega,u.le⟩,by omega⟩
    exact ⟨⟨.mB,p,q,x,y,a,b,0,0,r,s⟩,⟨w,t,wt,u3,fun _=>(by omega:y < x),ES g,fun _=>d1,Int.le_refl 0,Int.le_refl 0,(show (0:Int)≤60 by decide),nofun⟩,rfl,rfl⟩
structure Hd where
  good:Int
  mark:Int
  Ca:Int
  wt:Int
structure Hd.Ok (h:Hd):Prop where
  g0:0≤h.good
  g1:h.good≤1000000
  m0:0≤h.mark
  m1:h.mark≤1000000
  l0:0≤h.Ca
  l1:h.Ca≤1000000
  w0:0≤h.wt
def Hd.toD (h:Hd):D:=.tup [.int h.good,.int h.mark,.int h.Ca,.int h.wt]
def Hd.bad (h:Hd):Int:=h.mark+h.Ca
def Hd.many (h:Hd):Int:=h.good+h.bad
def RN.idle (R:RN)(h:Hd):Prop:=R.wd=.jL∨h.good+h.mark+h.Ca=0
instance (R:RN) (h:Hd):Decidable (R.idle h):=by unfold RN.idle;infer_instance
theorem Le.div {a b A:Int}(h:Le a A)(hb:0 < b)(hA:0≤A):Le (a / b) A:=by
  constructor
  · rw[Int.le_ediv_iff_mul_le hb]
    have:=h.1
    have:A*1≤A*b:=Int.mul_le_mul_of_nonneg_left (by omega) hA
    rw[Int.neg_mul];omega
  · refine Int.ediv_le_of_le_mul hb ?_
    have:=h.2
    have:A*1≤A*b:=Int.mul_le_mul_of_nonneg_left (by omega) hA
    omega
local macro_rules | `(tactic| walk_at "rd")=>`(tactic| try simp only[ah,TC,ak,TUn,fR,ym,jB,TB,GI,TOr,kf,Gz,vv,aq,af,bM,cG,rB,ao,a9,aH,vM,zK,jK,aP,Au,bV,ax,aV,uR,gH,j7,dA,f7,dk,eE,gM,iW,KG,ILs,
  BF,Bk,AI,zP,za,t9,qp,vB,Bi,vx,p9,xq,kP,qQ,pU,pP,qm,vo,mM,xC,mL,kE,mG,mw,lB,kr,kU,mK,lY,TSl,ONo,eA,Cg,AW,Bg,Af,zJ,Bt,uf,u5,zH,Bf,AO,lN,lq,l9,uh,tQ,vE,vJ,uq,uB,uK,ur,uV,zg,AR,AK,As,Cd,y2,kx,y4,Cj,u6,vP,vt,vq,tN,tZ,vc,tL,vO,tS,
  lk,ini,List.map,List.length,List.replicate,List.append,List.set,List.cons_append,List.nil_append,Nat.sub_self,Nat.reduceSub,Nat.reduceAdd,
  xo,xm,xg,wC,wc,wY,List.getElem?_cons_zero,List.getElem?_cons_succ,aJ,rL,Nat.reduceLT,Nat.reduceLeDiff,if_true,if_false,true_and,and_true,Bool.not_true,Bool.not_false,Nat.lt_add_one,Nat.zero_lt_succ,Nat.succ_lt_succ_iff,Nat.zero_lt_one,
  decide_eq_true_eq,Bool.false_eq_true,ite_false,ite_true,ne_eq,not_false_eq_true,Int.reduceToNat,Int.reducePow,Int.reduceNeg,Int.reduceSub,Int.reduceAdd,Int.reduceMul,Int.reduceEq,okD,bN,eqD,nE,Bool.and_self,Bool.and_true,Bool.true_and,ve,kG,decide_true,decide_false,Bool.or_true,Bool.or_false,Bool.true_or,Bool.false_or,Bool.and_false,Bool.false_and,and_self,dN,dm,dI,dH,dQ,dW,e5,eP,da,dO,dG,dX,dP,eT,dS,eM,dR,eL,dM,eW,pL,oH,rN,oY,sj,sC,iD,iQ,ij,iL,gZ,iR,gU])
def fY:FSp:=fun ds μ Q=>match ds with
  | [d1,d2]=>∃ a b c e,((Vl d1 a b∧Vl d2 c e)∧Bd a∧Bd b∧Bd c∧Bd e)∧∀ z,Vl z (a*e+c*b) (b*e)→Q z μ
  | _=>False
theorem A3:∀ ds μ Q,fY ds μ Q→ds.length=2:=by
  unfold fY
  walk_at "ln"
def zE:STr:=aP (ao cD (af (ak aK (ak eC (ak L3.rIx (ah 0) (TC (.int 0))) (ak L3.rIx (ah 1) (TC (.int 1)))) (ak eC (ak L3.rIx (ah 1) (TC (.int 0))) (ak L3.rIx (ah 0) (TC (.int 1))))) (af (ak eC (ak L3.rIx (ah 0) (TC (.int 1))) (ak L3.rIx (ah 1) (TC (.int 1)))) (aq))))
theorem Ek:∀ ds μ Q,fY ds μ Q→zE { nx:=fun _ μ'=>RT Q .non μ',rt:=RT Q } (ini 2 ds) μ:=by
  intro ds μ Q h
  unfold fY at h
  split at h
  case h_2=>exact h.elim
  rename_i d1 d2
  unfold zE
  walk_at "rd"
  obtain ⟨a,b,c,e,⟨⟨V1,V2⟩,Ba,Bb,Bc,Be⟩,k⟩:=h
  obtain ⟨⟨p,q,rfl,P⟩,b0⟩:=V1
  obtain ⟨⟨r,s,rfl,S⟩,e0⟩:=V2
  have q0:=P.q0
  have s0:=S.q0
  have be:0 < b*e:=Int.mul_pos b0 e0
  have qs:0 < q*s:=Int.mul_pos q0 s0
  have Bp:=P.bp Ba
  have Bq:=P.bq Bb
  have Br:=S.bp Bc
  have Bs:=S.bq Be
  walk_at "rd"
  refine ⟨Bp.mul Bs,Br.mul Bq,Bq.mul Bs,⟨by omega,Bq.mm Bs⟩,fun x y Pt=>⟨_,.refl _,k _ ⟨⟨x,y,rfl,Pt.of_eq qs be ?_⟩,be⟩⟩⟩
  calc (p*s+r*q)*(b*e)=(p*b)*(s*e)+(r*e)*(q*b):=by rw[Int.add_mul];congr 1<;>ac_rfl
    _=(a*q)*(s*e)+(c*s)*(q*b):=by rw[P.e,S.e]
    _=(a*e+c*b)*(q*s):=by rw[Int.add_mul];congr 1<;>ac_rfl
def fT:FSp:=fun ds μ Q=>match ds with
  | [d1,d2]=>∃ a b c e,((Vl d1 a b∧Vl d2 c e)∧Bd a∧Bd b∧Bd c∧Bd e)∧Q (.bl (decide (a*e < c*b))) μ
  | _=>False
theorem Bw:∀ ds μ Q,fT ds μ Q→ds.length=2:=by
  unfold fT
  walk_at "ln"
def zA:STr:=aP (ak rLt (ak eC (ak L3.rIx (ah 0) (TC (.int 0))) (ak L3.rIx (ah 1) (TC (.int 1)))) (ak eC (ak L3.rIx (ah 1) (TC (.int 0))) (ak L3.rIx (ah 0) (TC (.int 1)))))
theorem DL:∀ ds μ Q,fT ds μ Q→zA { nx:=fun _ μ'=>RT Q .non μ',rt:=RT Q } (ini 2 ds) μ:=by
  intro ds μ Q h
  unfold fT at h
  split at h
  case h_2=>exact h.elim
  rename_i d1 d2
  unfold zA
  walk_at "rd"
  obtain ⟨a,b,c,e,⟨⟨V1,V2⟩,Ba,Bb,Bc,Be⟩,k⟩:=h
  obtain ⟨⟨p,q,rfl,P⟩,b0⟩:=V1
  obtain ⟨⟨r,s,rfl,S⟩,e0⟩:=V2
  walk_at "rd"
  refine ⟨(P.bp Ba).mul (S.bq Be),(S.bp Bc).mul (P.bq Bb),_,.refl _,?_⟩
  rw[show decide (p*s < r*q)=decide (a*e < c*b) from decide_eq_decide.mpr (Jl P.q0 S.q0 b0 e0 P.e S.e)]
  exact k
def cm:FSp:=fun ds μ Q=>match ds with
  | [d1]=>∃ a b,(Vl d1 a b∧Bd b)∧Q (.int (a / b)) μ
  | _=>False
theorem qe:∀ ds μ Q,cm ds μ Q→ds.length=1:=by
  unfold cm
  walk_at "ln"
def mC:STr:=aP (ak je (ak L3.rIx (ah 0) (TC (.int 0))) (ak L3.rIx (ah 0) (TC (.int 1))))
theorem sE:∀ ds μ Q,cm ds μ Q→mC { nx:=fun _ μ'=>RT Q .non μ',rt:=RT Q } (ini 1 ds) μ:=by
  intro ds μ Q h
  unfold cm at h
  split at h
  case h_2=>exact h.elim
  rename_i d1
  unfold mC
  walk_at "rd"
  obtain ⟨a,b,⟨⟨⟨p,q,rfl,P⟩,b0⟩,Bb⟩,k⟩:=h
  have q0:=P.q0
  walk_at "rd"
  rw[fO q0,BW q0 b0 P.e]
  exact ⟨⟨by omega,(P.bq Bb).m⟩,_,.refl _,k⟩
def bQ:FSp:=fun ds μ Q=>match ds with
  | [d1]=>∃ a b,(Vl d1 a b∧Bd b)∧Q (.int (-((-a) / b))) μ
  | _=>False
theorem rH:∀ ds μ Q,bQ ds μ Q→ds.length=1:=by
  unfold bQ
  walk_at "ln"
def oR:STr:=aP (TUn mh (ak je (TUn mh (ak L3.rIx (ah 0) (TC (.int 0)))) (ak L3.rIx (ah 0) (TC (.int 1)))))
theorem uX:∀ ds μ Q,bQ ds μ Q→oR { nx:=fun _ μ'=>RT Q .non μ',rt:=RT Q } (ini 1 ds) μ:=by
  intro ds μ Q h
  unfold bQ at h
  split at h
  case h_2=>exact h.elim
  rename_i d1
  unfold oR
  walk_at "rd"
  obtain ⟨a,b,⟨⟨⟨p,q,rfl,P⟩,b0⟩,Bb⟩,k⟩:=h
  have q0:=P.q0
  walk_at "rd"
  rw[fO q0,BW (p:=-p) (a:=-a) q0 b0 (by rw[Int.neg_mul,Int.neg_mul,P.e])]
  exact ⟨⟨by omega,(P.bq Bb).m⟩,_,.refl _,k⟩
theorem sI {xs:List D}{d:D}(h:xs[xs.length - 1]? = some d)(h0:xs≠[]):atD xs ((xs.length:Int) - 1)=some d:=by
  have:0 < xs.length:=List.length_pos_iff.mpr h0
  have e:((xs.length:Int) - 1)=((xs.length - 1:Nat):Int):=by omega
  rw[e,b6,h]
theorem AM {xs:List D}{d:D}(h:xs[xs.length - 1]? = some d)(h0:xs≠[]):atD xs (-1)=some d:=by
  have:0 < xs.length:=List.length_pos_iff.mpr h0
  unfold atD L2.atI L2.ixN
  rw[if_neg (by decide),if_pos (by omega)]
  have e:(-1+(xs.length:Int)).toNat=xs.length - 1:=by omega
  show xs[(-1+(xs.length:Int)).toNat]? = some d
  rw[e];exact h
theorem RN.tup (R:RN)(hst:R.wd=.jL→R.r=R.p∧R.s=R.q):∃ xs,R.toD=.tup xs∧xs[0]? = some (.str R.wd.str)∧xs[1]? = some (fr R.p R.q)∧xs[xs.length - 1]? = some (fr R.r R.s)∧xs≠[]:=by
  obtain ⟨wd,p,q,x,y,a,b,l,h,r,s⟩:=R
  cases wd
  · obtain ⟨e1,e2⟩:=hst rfl
    dsimp only at e1 e2
    subst e1 e2
    exact ⟨_,rfl,rfl,rfl,rfl,nofun⟩
  all_goals exact ⟨_,rfl,rfl,rfl,rfl,nofun⟩
def bD:FSp:=fun ds μ Q=>match ds with
  | [d]=>∃ R:RN,(R.Ok∧d=R.toD)∧Q (fr R.r R.s) μ
  | _=>False
theorem kF:∀ ds μ Q,bD ds μ Q→ds.length=1:=by
  unfold bD
  walk_at "ln"
def fu:STr:=aP (ak L3.rIx (ah 0) (ak ka (ao df (af (ah 0) (aq))) (TC (.int 1))))
theorem o7:∀ ds μ Q,bD ds μ Q→fu { nx:=fun _ μ'=>RT Q .non μ',rt:=RT Q } (ini 1 ds) μ:=by
  intro ds μ Q h
  unfold bD at h
  split at h
  case h_2=>exact h.elim
  rename_i d
  unfold fu
  walk_at "rd"
  obtain ⟨R,⟨K,rfl⟩,k⟩:=h
  obtain ⟨xs,e,_,_,e3,e4⟩:=R.tup K.st
  rw[e]
  walk_at "rd"
  rw[sI e3 e4]
  exact ⟨_,.refl _,k⟩
def IP:=Jn @FK <| Jn @C8 <| Jn @Gf <| Jn @EA <| Jn @Ga <| Jn @DV <| Jn @Fz <| Jn @CZ <| Jn @Ij <| Jn @DS <| Jn @HW <| Jn @Dq <| Jn @FJ <| Jn @Es <| Jn @HV <| Jn @C1 <| Jn @FP <| Jn @C6 <| Jn @Lf <| Jn @Hi <| Jn @Kj <| Jn @CU <| Jn @Hx <| Jn @D6 <| Jn @Lr <| Jn @Jq <| Jn @HQ <| Jn @IE <| Jn @EB <| Jn @Hc <| Jn @Gg <| Jn @FR <| Jn @Ds <| Jn @Ez <| Jn @FH <| Jn @C3 <| Jn @HG <| Jn @ID <| Jn @GB <| Jn @FY <| Jn @BD <| Jn @FE <| Jn @yo <| Jn @xF <| Jn @IH <| Jn @GU <| Jn @Ki <| Jn @JM <| Jn @Ik <| Jn @FV <| Jn @JR <| Jn @Kh <| Jn @Kc <| Jn @Jy <| Jn @Jj <| Jn @Km <| Jn @KS <| Jn @Kf <| Jn @IS <| Jn @Hl <| Jn @HX <| Jn @HR <| Jn @FU <| Jn @Gs <| Jn @Eg <| Jn @CT <| Jn @DY <| Jn @z4 <| Jn @zW <| Jn @Dm <| Jn @zQ <| Jn @xH <| Jn @xq <| Jn @vk <| Jn @yt <| Jn @yL <| Jn @yb <| Jn @zM <| Jn @BI <| Jn @zd <| Jn @yX <| Jn @zu <| Jn @BV <| Jn @Dx <| Jn @Cu <| Jn @Dk <| Jn @Ep <| Jn @D8 <| Jn @Er <| Jn @DO <| Jn @GR <| Jn @GH <| Jn @GL <| Jn @FW <| Jn @GK <| Jn @yW <| Jn @z9 <| Jn @Bx <| Jn @Gj <| @Fx
def Kb:=Jn @oH <| Jn @rN <| Jn @oY <| Jn @sj <| @sC
local macro_rules | `(tactic| walk_at "go")=>`(tactic| try simp only[↓IP,Kb,↓vV,↓mM,dN,dm,dI,dH,dQ,dW,e5,eP,da,dO,dG,dX,dP,eT,dS,eM,dR,eL,dM,eW,pL,Jo,Ke,Kt,IU,JW,Kr,E3,EF,Aa,z3,wJ,wB,wj,vZ,true_and,and_true,and_self,Bool.not_true,Bool.not_false,decide_true,decide_false,Bool.or_true,Bool.or_false,Bool.true_or,Bool.false_or,Bool.and_false,Bool.false_and,Bool.and_true,Bool.true_and,Int.reduceToNat,Int.reducePow,Int.reduceNeg,Int.reduceSub,Int.reduceAdd,Int.reduceMul,Int.reduceEq,Int.reduceLT,Int.reduceLE,Int.reduceBEq,rL,iD,iQ,ij,iL,gZ,iR,gU,if_true,if_false,Bool.false_eq_true,reduceCtorEq,decide_eq_true_eq])
local macro_rules | `(tactic| walk_at "ini")=>`(tactic| simp only[ini,List.map,List.length,List.replicate,Nat.reduceSub,Nat.reduceAdd,Nat.sub_self,List.cons_append,List.nil_append,List.append_nil])
theorem G4 {xs:List D}{P:D→Prop}(h:∀ d∈xs,P d){k:Int}(k0:0≤k)(k1:k < xs.length):∃ d,atD xs k=some d∧P d:=by
  obtain ⟨j,rfl⟩:=Int.eq_ofNat_of_zero_le k0
  rw[b6]
  have hj:j < xs.length:=by omega
  exact ⟨xs[j],by simp[hj],h _ (List.getElem_mem hj)⟩
def IsL (hi:Int)(d:D):Prop:=∃ p q,d=fr p q∧FrL hi p q
def IsI (lo hi:Int)(d:D):Prop:=∃ i:Int,d=.int i∧lo≤i∧i≤hi
theorem bU {P:D→Prop}:∀ d∈([]:List D),P d:=fun _ h=>nomatch h
theorem aw {P:D→Prop}{a:D}{xs:List D}(h:P a)(k:∀ d∈xs,P d):∀ d∈a::xs,P d:=fun d hd=>by
  rcases List.mem_cons.mp hd with e | e
  · rw[e];exact h
  · exact k d e
local macro_rules | `(tactic| walk_at "all")=>`(tactic| repeat' (first | exact bU | refine aw ?_ ?_))
structure mW (b p:Addr) (xs:List D) (μ μ':Mu):Prop where
  box:Box μ' b
  ne:p≠b
  new:μ p=none
  at':μ' p=some (.lst xs)
  oth:∀ a,a≠b→a≠p→μ' a=μ a
theorem mW.go {b p:Addr}{xs:List D}{μ μ1 μ2:Mu}(h:mW b p xs μ μ1)(B:l5 b μ1 μ2):mW b p xs μ μ2:=
  ⟨B.box,h.ne,h.new,by rw[B.oth p h.ne];exact h.at',fun a h1 h2=>by rw[B.oth a h1];exact h.oth a h1 h2⟩
theorem mW.set {b p:Addr}{xs ys:List D}{μ μ1:Mu}(h:mW b p xs μ μ1):mW b p ys μ (up μ1 p (.lst ys)):=by
  obtain ⟨g,s,c,e,hh⟩:=h.box
  exact ⟨⟨g,s,c,by rw[aY h.ne.symm];exact e,hh⟩,h.ne,h.new,aJ,fun a h1 h2=>by rw[aY h2];exact h.oth a h1 h2⟩
theorem Gq (μ:Mu)(p:Addr):Sub (dn μ p) μ:=fun a o e=>by
  unfold dn at e
  split at e
  · cases e
  · exact e
theorem mW.fin {b p:Addr}{xs:List D}{μ μ1:Mu}(h:mW b p xs μ μ1):l5 b μ (dn μ1 p):=by
  obtain ⟨g,s,c,e,hh⟩:=h.box
  refine ⟨⟨g,s,c,?_,hh⟩,fun a ha=>?_⟩
  · unfold dn;rw[if_neg h.ne.symm];exact e
  · unfold dn
    split
    · rename_i z;subst z;exact h.new.symm
    · rename_i z;exact h.oth a ha z
theorem mW.rt {b p:Addr}{xs:List D}{μ μ1:Mu}{Q:DK}{d:D}(h:mW b p xs μ μ1)(k:∀ μ',l5 b μ μ'→Q d μ'):RT Q d μ1:=⟨_,Gq μ1 p,k _ h.fin⟩
theorem v7 {n b:Int}(b0:0 < b):-((-n) / b)=(n+b - 1) / b:=by
  have h1:=Int.ediv_mul_le (n+b - 1) (show b≠0 by omega)
  have h2:=Int.lt_ediv_add_one_mul_self (n+b - 1) b0
  generalize (n+b - 1) / b=q at *
  have e:(q+1)*b=q*b+b:=by rw[Int.add_mul,Int.one_mul]
  have k1:-q≤(-n) / b:=by
    rw[Int.le_ediv_iff_mul_le b0,Int.neg_mul];omega
  have k2:(-n) / b < -q+1:=by
    rw[Int.ediv_lt_iff_lt_mul b0,Int.add_mul,Int.neg_mul,Int.one_mul];omega
  omega
abbrev KL (hs:List Hd):List D:=hs.map Hd.toD
theorem fU {p:Addr}{G:GTr}{tt:TTr}{te:ETr}{ρc:ST}{K:Mu→Prop}(P:List D→Mu→Prop)(hnil:∀ μ,P [] μ→K μ)
    (hcons:∀ d r μ (N:Mu→Prop),P (d::r) μ→(∀ μ',P r μ'→N μ')→G d ρc μ fun ρ1 μ1=>tt ρ1 μ1 fun b μ2=>kIf b (te ρ1 μ2 fun y μ3=>kL μ3 p fun zs=>zs.length < 1000000∧N (up μ3 p (.lst (zs++[y])))) (N μ2)) :
    ∀ (ds:List D) (μ:Mu),P ds μ→eE p G tt te ρc K ds μ
  | [],μ,h=>hnil μ h
  | d::r,μ,h=>hcons d r μ _ h fun μ' q=>fU P hnil hcons r μ' q
theorem ug (n:Nat):∀ hs:List Hd,bN (n+1) (KL hs)=true
  | []=>rfl
  | h::r=>by
    show (okD (n+1) h.toD&&bN (n+1) (KL r))=true
    rw[ug n r]
    simp[Hd.toD,okD,bN]
theorem JC (d0:D)(r:List D)(f:D→Prop):kO (atD (d0::r) 0) f=f d0:=by rw[xo];rfl
theorem J6 (d0 d1:D)(r:List D)(f:D→Prop):kO (atD (d0::d1::r) 1) f=f d1:=by rw[xm];rfl
theorem Jh (d0 d1 d2:D)(r:List D)(f:D→Prop):kO (atD (d0::d1::d2::r) 2) f=f d2:=by rw[xg];rfl
theorem IW (d0 d1 d2 d3:D)(r:List D)(f:D→Prop):kO (atD (d0::d1::d2::d3::r) 3) f=f d3:=by rw[wC];rfl
theorem JB (d0 d1 d2 d3 d4:D)(r:List D)(f:D→Prop):kO (atD (d0::d1::d2::d3::d4::r) 4) f=f d4:=by rw[wc];rfl
theorem JG (d0 d1 d2 d3 d4 d5:D)(r:List D)(f:D→Prop):kO (atD (d0::d1::d2::d3::d4::d5::r) 5) f=f d5:=by rw[wY];rfl
def BU (G:GTr)(tt:TTr)(te:ETr)(ρc:ST)(ds:List D)(μ:Mu)(Q:DK):Prop:=∀ p,μ p=none→eE p G tt te ρc (fun μ'=>kL μ' p fun zs=>Q (.ls zs) (dn μ' p)) ds (up μ p (.lst []))
theorem Ex (it:ATr)(G:GTr)(tt:TTr)(te:ETr)(n:Nat)(caps:List Nat)(ρ:ST)(μ:Mu)(Q:DK):dk it G tt te n caps ρ μ Q=it ρ μ fun ds μ1=>BU G tt te (gM ρ n caps) ds μ1 Q:=propext Iff.rfl
theorem Gp (ρ:ST)(μ:Mu)(Q:Bool→Mu→Prop):iW ρ μ Q=Q true μ:=propext Iff.rfl
section
variable {G:GTr} {tt:TTr} {te:ETr} {ρc:ST} {ds:List D} {μ:Mu} {Q:DK}
theorem zV (I:List D→List D→Prop)(h0:I ds [])(hl:ds.length≤999999)
    (step:∀ d r zs μ',Sub μ μ'→I (d::r) zs→∀ (N:Option D→Mu→Prop),(∀ oy,I r (zs++oy.toList)→N oy μ')→G d ρc μ' fun ρ1 μ1=>tt ρ1 μ1 fun b μ2=>kIf b (te ρ1 μ2 fun y μ3=>N (some y) μ3) (N none μ2))
    (k:∀ zs,I [] zs→Q (.ls zs) μ):BU G tt te ρc ds μ Q:=by
  intro p hp
  refine fU (fun r μ'=>∃ zs,I r zs∧zs.length+r.length≤ds.length∧μ'=up μ p (.lst zs)) ?_ ?_ _ _ ⟨[],h0,by simp,rfl⟩
  · rintro μ' ⟨zs,hI,_,rfl⟩
    refine cv aJ ?_
    rw[EU hp];exact k zs hI
  · rintro d r μ' N ⟨zs,hI,hz,rfl⟩ hN
    rw[List.length_cons] at hz
    refine step d r zs _ (Sub.new hp) hI (fun oy μ3=>match oy with
      | some y=>kL μ3 p fun zs=>zs.length < 1000000∧N (up μ3 p (.lst (zs++[y])))
      | none=>N μ3) ?_
    intro oy hoy
    cases oy with
    | none=>exact hN _ ⟨zs,by simpa using hoy,by omega,rfl⟩
    | some y=>
      refine cv aJ ⟨by omega,hN _ ⟨zs++[y],hoy,by rw[List.length_append];simp;omega,?_⟩⟩
      rw[rL]
theorem kK {α:Type}(xs:List α)(t:α→D)(h:α→Option D)(hds:ds=xs.map t)(hl:xs.length≤999999)
    (step:∀ x∈xs,∀ μ',Sub μ μ'→∀ (N:Option D→Mu→Prop),N (h x) μ'→G (t x) ρc μ' fun ρ1 μ1=>tt ρ1 μ1 fun b μ2=>kIf b (te ρ1 μ2 fun y μ3=>N (some y) μ3) (N none μ2))
    (k:Q (.ls (xs.filterMap h)) μ):BU G tt te ρc ds μ Q:=by
  subst hds
  refine zV (fun r zs=>∃ a c,xs=a++c∧r=c.map t∧zs=a.filterMap h) ⟨[],xs,rfl,rfl,rfl⟩ (by simpa using hl) ?_ ?_
  · rintro d r zs μ' sb ⟨a,c,e,er,rfl⟩ N hN
    cases c with
    | nil=>cases er
    | cons x c=>
    cases er
    refine step x (by rw[e];simp) μ' sb N (hN _ ⟨a++[x],c,by rw[e];simp,rfl,?_⟩)
    rw[List.filterMap_append]
    cases hx:h x<;>simp[hx]
  · rintro zs ⟨a,c,e,er,rfl⟩
    have:c=[]:=by cases c with | nil=>rfl | cons=>cases er
    subst this
    rw[List.append_nil] at e
    subst e;exact k
theorem cW {α:Type}(xs:List α)(t:α→D)(h:α→D)(hds:ds=xs.map t)(hl:xs.length≤999999)
    (step:∀ x∈xs,∀ μ',Sub μ μ'→∀ (N:DK),N (h x) μ'→G (t x) ρc μ' fun ρ1 μ1=>te ρ1 μ1 N)
    (k:Q (.ls (xs.map h)) μ):BU G iW te ρc ds μ Q:=by
  refine kK xs t (fun x=>some (h x)) hds hl (fun x hx μ' s N n=>?_) (by rw[show (fun x=>some (h x))=some ∘ h from rfl,List.filterMap_eq_map];exact k)
  exact step x hx μ' s (fun y μ3=>N (some y) μ3) n
end
section
open PySem PySem.Spec PyProof.Rows L2
section
variable {prog:Program} {w:World} {A:Around} {E:Value→Shared→Prop} {s:Shared}
end
section
variable {X:Cx} {ea eb:Expr} {Ta Tb:ETr} {p p2 pos rpos:Pos}
end
end
section
open PySem PySem.Spec PyProof.Rows L2
section
variable {prog:Program} {w:World} {A:Around} {E:Value→Shared→Prop} {s:Shared}
end
theorem yO {X:Cx}(hc:X.calm=true):bz X (.builtin "sum") (fun xs H Q=>∃ (p:Addr) (ns:List Int),xs=[.ref p]∧SqL X.K H p (ns.map V.int)∧Q (.int ns.sum) H):=fun pins s σ H xs us Q I rx ⟨p,ns,e1,sq,q⟩=>by
  subst e1
  obtain ⟨u,rfl,ru⟩:=vals1 rx
  cases ru
  obtain ⟨its,rv,pl,_⟩:=I.list sq
  obtain ⟨ps,rfl,rfl⟩:=d7 (intsAre_of rv)
  have il:s.heap.IsList p (intItems ps.toArray):=by
    have:=pl.isList
    simpa[intItems] using this
  refine sum_intListG (I.ok.hd hc) il fun h' tk t' hk=>?_
  have e:preSum (numAt ps.toArray) ps.toArray.size=(ps.map Prod.fst).sum:=by
    rw[preSum_eq,List.take_of_length_le (by simp)]
  rw[e]
  exact ⟨.int _,H,I.kept hk,⟨t',rfl⟩,q⟩
def wQ:FSp:=fun ds μ Q=>match ds with
  | [.ls xs]=>∃ ns:List Int,xs=ns.map .int∧Q (.int ns.sum) μ
  | _=>False
theorem Al {K:PySem.W.Frag}:jX K (fun xs H Q=>∃ (p:Addr) (ns:List Int),xs=[.ref p]∧SqL K H p (ns.map V.int)∧Q (.int ns.sum) H) wQ:=fun H μ xs ds Q Q' m p h k=>by
  unfold wQ at h
  split at h
  · obtain ⟨ns,rfl,h⟩:=h
    cases p with | cons p1 p2=>
    cases p2
    cases p1 with
    | @ls q xs ds sq l=>
      have ex:=l.ints_of
      subst ex
      exact ⟨q,ns,rfl,sq.sq,k _ H _ μ (.refl H) m (.int _) h⟩
  · exact h.elim
end
section
open PySem PySem.Spec PyProof.Rows L2
section
variable {prog:Program} {w:World} {A:Around} {E:Value→Shared→Prop} {s:Shared}
theorem BZ {tp:Bool}{e it a:Addr}{i:Nat}{xs:Array Value}{x old:Value}{Q:Option Value→Shared→Prop}(en:IsEnum s.heap e it i old)(li:eJ tp s.heap it a i)(se:cT tp s.heap a xs)(hx:xs[i]? = some x)(ne:e≠it)
    (q:∀ g,IsEnumOut g e it ((i:Int)+1) x s.heap.objs.size→eJ tp g it a (i+1)→g.get? s.heap.objs.size=some { cls:=.type "tuple", data:=.seq #[.int i s.toks,x] }→
      (∀ c o,c≠e→c≠it→s.heap.get? c=some o→g.get? c=some o)→Q (some (.ref s.heap.objs.size)) { s with heap:=g,toks:=s.toks+1 }):wpAny (model prog w) A (pyNext (.ref e)) Q E s:=by
  have ty:s.TypeIs (.ref e) "enumerate" := ⟨_,en,rfl⟩
  unfold pyNext
  refine wpAny_bind (wpAny_attempt (wpAny_callSpecial?_slot (name:=Str.ofString "__next__") ty F.slot_enumerate_next (wpAny_call_entry F.slot_enumerate_next ty F.entry_enumerate_next ?_ (F.args_enumerate_next_1 _))))
  refine wpAny_bind (m:=field (.ref e) 2) (wpAny_field en rfl (x:=.ref it) rfl (wpAny_bind (m:=Builtin.SmallTypes.nextOf (.ref it)) (km li se hx fun g1 li1 k1=>?_)))
  have en1:IsEnum g1 e it i old:=(k1.2 e ne).trans en
  refine wpAny_bind (m:=field (.ref e) 3) (wpAny_field (s:={ s with heap:=g1 }) en1 rfl (x:=rawInt i) rfl (wpAny_bind (m:=field (.ref e) 4) (wpAny_field (s:={ s with heap:=g1 }) en1 rfl (x:=.none) rfl (wpAny_bind (m:=mkInt i) (wpAny_mkInt ?_)))))
  refine wpAny_bind (m:=setField (.ref e) 3 (rawInt ((i:Int)+1))) (wpAny_setField_rec en1 (by simp) fun g2 en2 k2=>?_)
  have en2:IsEnum g2 e it ((i:Int)+1) old:=en2
  refine wpAny_bind (m:=setField (.ref e) 4 .none) (wpAny_setField_rec en2 (by simp) fun g3 en3 k3=>?_)
  have en3:IsEnum g3 e it ((i:Int)+1) old:=en3
  refine wpAny_bind (m:=newTuple [.int i s.toks,x]) (wpAny_newTuple ?_)
  have sz:g3.objs.size=s.heap.objs.size:=by rw[k3.1,k2.1,k1.1]
  have en4:IsEnum (g3.push { cls:=.type "tuple", data:=.seq #[.int i s.toks,x] }) e it ((i:Int)+1) old:=Heap.get?_push_of_some _ en3
  have elt:e < g3.objs.size:=Heap.lt_size en3
  refine wpAny_bind (m:=Builtin.SmallTypes.ownedTupleIsFree (.ref e)) ?_
  delta Builtin.SmallTypes.ownedTupleIsFree
  refine wpAny_bind (wpAny_field (s:={ s with heap:=g3.push { cls:=.type "tuple", data:=.seq #[.int i s.toks,x] },toks:=s.toks+1 }) en4 rfl (x:=.none) rfl (wpAny_pure ?_))
  simp only[if_true]
  refine wpAny_bind (wpAny_rule (wpAny_bind (wpAny_field en4 rfl (x:=old) rfl (wpAny_bind (wpAny_setField_rec en4 (by simp) fun g5 en5 k5=>?_)))))
  have en5:IsEnum g5 e it ((i:Int)+1) x:=en5
  refine wpAny_bind (m:=Builtin.SmallTypes.ownedTupleHandOut (.ref e) (.ref g3.objs.size)) ?_
  delta Builtin.SmallTypes.ownedTupleHandOut
  refine wpAny_bind (wpAny_setField_rec en5 (by simp) fun g6 en6 k6=>?_)
  have en6:IsEnumOut g6 e it ((i:Int)+1) x g3.objs.size:=en6
  refine wpAny_setField_rec en6 (by simp) fun g7 en7 k7=>?_
  have en7:IsEnumOut g7 e it ((i:Int)+1) x g3.objs.size:=en7
  have up3:∀ c o,c≠e→g3.get? c=some o→g7.get? c=some o:=fun c o c1 h=>(k7.2 c c1).trans ((k6.2 c c1).trans ((k5.2 c c1).trans (Heap.get?_push_of_some _ h)))
  have new:g7.get? g3.objs.size=some { cls:=.type "tuple", data:=.seq #[.int i s.toks,x] }:=(k7.2 _ (Nat.ne_of_gt elt)).trans ((k6.2 _ (Nat.ne_of_gt elt)).trans ((k5.2 _ (Nat.ne_of_gt elt)).trans (Heap.get?_push_size _ rfl)))
  rw[sz] at en7 new
  have fin:=q g7 en7 (li1.at fun o h=>up3 it o (Ne.symm ne) ((k3.2 it (Ne.symm ne)).trans ((k2.2 it (Ne.symm ne)).trans h))) new fun c o c1 c2 h=>up3 c o c1 ((k3.2 c c1).trans ((k2.2 c c1).trans ((k1.2 c c2).trans h)))
  rw[← sz] at fin
  exact wpAny_bind (wpAny_letGo (wpAny_pure ⟨_,rfl,wpAny_pure fin⟩))
theorem Dd {tp:Bool}{e it a:Addr}{i:Nat}{xs:Array Value}{old:Value}{Q:Option Value→Shared→Prop}(hh:A.handled=none)(en:IsEnum s.heap e it i old)(li:eJ tp s.heap it a i)(se:cT tp s.heap a xs)(hx:xs[i]? = none)
    (q:∀ g,Heap.ExtBut it s.heap g→Q none { s with heap:=g }):wpAny (model prog w) A (pyNext (.ref e)) Q E s:=by
  have ty:s.TypeIs (.ref e) "enumerate" := ⟨_,en,rfl⟩
  unfold pyNext
  refine wpAny_bind (wpAny_attempt (wpAny_callSpecial?_slot (name:=Str.ofString "__next__") ty F.slot_enumerate_next (wpAny_call_entry F.slot_enumerate_next ty F.entry_enumerate_next ?_ (F.args_enumerate_next_1 _))))
  refine wpAny_bind (m:=field (.ref e) 2) (wpAny_field en rfl (x:=.ref it) rfl (wpAny_bind (m:=Builtin.SmallTypes.nextOf (.ref it)) (tP hh li se hx fun g z kp sz=>?_)))
  obtain ⟨o,ho,hc⟩:=sz
  exact wpAny_bind (wpAny_isInstance (T := "StopIteration") (b:=true) ⟨o,ho,hc⟩ isSubtype_stop (wpAny_pure (q _ kp)))
theorem B0 (tp:Bool)(a:Addr)(xs:Array Value):Meets (Builtin.«enumerate.__new__» ⟨[.type "enumerate", .ref a],[]⟩) (fun _ R s=>cT tp s.heap a xs∧
      R (.ok (.ret (.ref (s.heap.push (itO tp a)).objs.size))) { s with heap:=(s.heap.push (itO tp a)).push { cls:=.type "enumerate", data:=.fields #[.none,.bool false,.ref s.heap.objs.size,rawInt 0,.none,.none] } }):=
  .of_wp fun prog w A R s h=>by
    rcases s with ⟨hp,g,d,tk,os⟩
    obtain ⟨h1,h⟩:=h
    have hs0:=sub_enumerate
    have H1:cT tp (Shared.heap ⟨hp,g,d,tk,os⟩) a xs:=h1
    wp_walk
    refine wpAny_stack_any fun stk=>wpAny_pure ?_
    split
    · rename_i c _ _ _ _ _
      cases (c == Value.type "enumerate")<;>(wp_walk using D5 H1;exact ⟨_,rfl,h⟩)
    · wp_walk using D5 H1
      exact ⟨_,rfl,h⟩
theorem vI {tp:Bool}{a:Addr}{xs:Array Value}{Q:Value→Shared→Prop}(h1:cT tp s.heap a xs)
    (q:∀ g,IsEnum g (s.heap.objs.size+1) s.heap.objs.size 0 .none→eJ tp g s.heap.objs.size a 0→(∀ c o,s.heap.get? c=some o→g.get? c=some o)→Q (.ref (s.heap.objs.size+1)) { s with heap:=g }) :
    wpAny (model prog w) A (call (.type "enumerate") [.ref a]) Q E s:=by
  refine callType_new F.called_enumerate (by decide) (F.typeCall_enumerate_1 _) (F.newCall_enumerate_1 _) (fun obj=>F.args_object_init_2 obj _) F.entry_enumerate_new (B0 tp a xs) ⟨h1,?_⟩
  have s1:(s.heap.push (itO tp a)).objs.size=s.heap.objs.size+1:=Heap.size_push ..
  have new:IsEnum ((s.heap.push (itO tp a)).push { cls:=.type "enumerate", data:=.fields #[.none,.bool false,.ref s.heap.objs.size,rawInt 0,.none,.none] }) (s.heap.push (itO tp a)).objs.size s.heap.objs.size 0 .none:=Heap.get?_push_size _ rfl
  refine ⟨⟨_,new,rfl⟩,?_⟩
  rw[s1] at new ⊢
  refine q _ new ?_ fun c o h=>Heap.get?_push_of_some _ (Heap.get?_push_of_some _ h)
  have z:=Heap.get?_push_of_some { cls:=.type "enumerate", data:=.fields #[.none,.bool false,.ref s.heap.objs.size,rawInt 0,.none,.none] } (Heap.get?_push_size s.heap (o:=itO tp a) (by cases tp<;>rfl))
  cases tp<;>exact ⟨_,z,rfl,rfl⟩
end
def Itn (tp:Bool)(K:PySem.W.Frag)(a:Addr):It:=
  ⟨fun i H=>∃ xs x,Sq tp K H a xs∧xs[i]? = some x,
   fun i H v H'=>∃ x p,(∀ xs,Sq tp K H a xs→xs[i]? = some x)∧v=.ref p∧H p=none∧H'=L2.upd H p (.tup [.int i,x]),
   fun i H=>∃ xs,Sq tp K H a xs∧xs.length≤i⟩
structure NAt (tp:Bool) (h:Heap) (e it a:Addr) (k:Nat):Prop where
  en:∃ old,IsEnum h e it k old
  li:eJ tp h it a k
theorem BC {P:Program}{w:World}{K:PySem.W.Frag}{es:List Expr}{ek:Nat}{ep:Pos}{tp:Bool}{e it a:Addr}(n1:e≠it) :
    Turn P w K (.Tuple es ek ep) (Itn tp K a) [e,it] e (fun k h=>NAt tp h e it a k) where
  mem:=by simp
  obj:=fun k h S c hc=>by
    obtain ⟨⟨old,en⟩,li⟩:=S
    simp only[List.mem_cons,List.not_mem_nil,or_false] at hc
    rcases hc with rfl | rfl
    · exact ⟨_,en,fun v y=>by cases y⟩
    · obtain ⟨o,ho,vs,hd⟩:=li.ex;exact ⟨o,ho,fun v y=>by rw[hd] at y;cases y⟩
  keep:=fun k h g S kp=>by
    obtain ⟨⟨old,en⟩,li⟩:=S
    exact ⟨⟨old,kp e (by simp) _ en⟩,li.at fun o q=>kp it (by simp) o q⟩
  item:=by
    intro X hP hw hK hc k pins s σ H E I hf S hg
    subst hP hw hK
    obtain ⟨xs,x,qa,ex⟩:=hg
    obtain ⟨⟨old,en⟩,li⟩:=S
    obtain ⟨ia,ra,sa⟩:=Inv.sq I qa
    obtain ⟨ux,hux,rx⟩:=ra.get ex
    have elt:e < s.heap.objs.size:=Heap.lt_size en
    have fr:H s.heap.objs.size=none:=I.hok.fresh (Nat.le_refl _)
    refine BZ en li sa (x:=ux) (by simpa using hux) n1 fun g eo li2 new al=>⟨_,rfl,wpAny_letOwnedTupleGo_enum eo fun g2 en2 k2=>?_⟩
    have k2:Heap.SameBut e g g2:=k2
    have all:∀ c o,c ∉ [e,it]→s.heap.get? c=some o→g2.get? c=some o:=fun c o hc q=>by
      simp only[List.mem_cons,List.not_mem_nil,or_false,not_or] at hc
      exact (k2.2 c hc.1).trans (al c o hc.1 hc.2 q)
    have new2:g2.get? s.heap.objs.size=some { cls:=.type "tuple", data:=.seq #[.int k s.toks,ux] }:=(k2.2 _ (Nat.ne_of_gt elt)).trans new
    have nfp:∀ c u,H c=some u→c ∉ [e,it]:=fun c u q hc=>by rw[(hf c hc).1] at q;cases q
    refine ⟨.ref s.heap.objs.size,L2.upd H s.heap.objs.size (.tup [.int k,x]),?_,rfl,⟨x,_,fun xs' q=>by rw[Inv.vH I q qa];exact ex,rfl,fr,rfl⟩,⟨⟨_,en2⟩,li2.at fun o q=>(k2.2 it (Ne.symm n1)).trans q⟩,fun c hc=>?_⟩
    · refine L2.Inv.step (s:=s) (H:=H) (H':=L2.upd H s.heap.objs.size (.tup [.int k,x])) (g':=s.gens) (d':=s.drawn) (t':=s.toks+1) (h':=g2) (ch:=[e,it]) I (fun c hc=>⟨(hf c hc).2.2.2.1,(hf c hc).2.1,(hf c hc).2.2.2.2.1,(hf c hc).2.2.2.2.2⟩) (fun c o _ _ hc q _=>all c o hc q) (fun c o _ _ hc q _=>⟨o.slots,all c o hc q⟩) (fun c o hc q n=>?_) (fun c o hc q=>⟨o,all c o hc q⟩)
        (fun c xs q=>?_) (fun c o u q=>?_) (fun c ps q=>⟨#[],?_⟩) (fun m hm=>?_) (fun c u q=>?_) I.bare
      · rw[aB (Nat.ne_of_lt (Heap.lt_size q))];exact n
      · rw[aB (aR q fr)];exact q
      · rw[aB (aR q fr)];exact q
      · rw[aB (aR q fr),q];simp
      · obtain ⟨o,es',ep',ho,r⟩:=hm
        exact ⟨o,es',ep',all _ o (fun hc=>(hf _ hc).2.1 rfl) ho,r⟩
      · by_cases hcT:c=s.heap.objs.size
        · subst hcT
          rw[aG] at q;cases q
          exact ⟨by show 2≤sizeLine;decide,[.int k s.toks,ux],.cons ⟨s.toks,rfl⟩ (.cons rx .nil),⟨_,new2⟩⟩
        · rw[aB hcT] at q
          refine (I.hok c u q).jS (fun c' v hc' z=>all c' v ?_ z) (fun c' z=>by rw[aB (aR z fr)];exact z) fun c' xs z=>by rw[aB (aR z fr)];exact z
          rcases hc' with rfl | hc'
          · exact nfp _ _ q
          · exact nfp _ _ hc'
    · have hcl:c≠s.heap.objs.size:=by
        simp only[List.mem_cons,List.not_mem_nil,or_false] at hc
        rcases hc with rfl | rfl
        · exact Nat.ne_of_lt elt
        · obtain ⟨o,q,_⟩:=li.ex;exact Nat.ne_of_lt (Heap.lt_size q)
      rw[aB hcl];exact (hf c hc).1
  done:=by
    intro X hP hw hK hc k pins s σ H E I hf S hg
    subst hP hw hK
    obtain ⟨xs,qa,he⟩:=hg
    obtain ⟨⟨old,en⟩,li⟩:=S
    obtain ⟨ia,ra,sa⟩:=Inv.sq I qa
    have la:=ra.length
    obtain ⟨f0,f1,f2,f3,f4,f5⟩:=hf it (by simp)
    exact Dd (I.ok.hd hc) en li sa (by simp;omega) fun g eb=>⟨rfl,I.turned (t':=s.toks) (fun b o hb q=>eb b o hb q) f0 f1 f3 f4 f5⟩
  self:=fun _ _ _ _ _ S h=>by
    obtain ⟨⟨old,en⟩,_⟩:=S
    exact wpAny_pyIter_enum en h
def K6 (K:PySem.W.Frag)(t:TA):TI:=fun σ H R=>t σ H fun vs H1=>∃ (tp:Bool) (a:Addr),vs=[.ref a]∧(∃ xs,Sq tp K H1 a xs)∧R (Itn tp K a) H1
section
variable {X:Cx} {ea:Expr} {es:List Expr} {ek:Nat} {ep p pos:Pos}
theorem Hw {t:TA}(hg:Gl X "enumerate")(hm:X.mg "enumerate" = none)(ha:PA X [ea] t)(hs:starEach [ea] X.env=[(false,eval ea X.env)]:=by rfl) :
    PI X (.Tuple es ek ep) (.Call (.Name "enumerate" p) [ea] [] pos) (K6 X.K t):=by
  intro pins s σ H R I h
  refine Call_ (gJ I hg hm boot_enumerate (PyProof.Rows.callWith_type1 (thn (ha pos pins s σ H _ I h) fun us s1 ⟨vs,H1,I1,r1,q1⟩=>?_) (by rw[hs];rfl) rfl))
  obtain ⟨tp,a,e,⟨xs,qa⟩,q⟩:=q1
  subst e
  cases r1 with | cons r rr=>
  cases rr
  cases (show _=Value.ref a from r)
  obtain ⟨ia,ra,sa⟩:=Inv.sq I1 qa
  refine vI sa fun g en li kp=>wpAny_pyIter_enum en ?_
  refine ⟨s1.heap.objs.size+1,[s1.heap.objs.size+1,s1.heap.objs.size],_,_,H1,rfl,I1.kept (t':=s1.toks) kp,BC (tp:=tp) (a:=a) (Nat.succ_ne_self _),⟨⟨_,en⟩,li⟩,fun c hc=>?_,q⟩
  have hc':s1.heap.objs.size≤c:=by
    simp only[List.mem_cons,List.not_mem_nil,or_false] at hc
    rcases hc with rfl | rfl
    · exact Nat.le_succ _
    · exact Nat.le_refl _
  exact I1.Dw hc' (I1.hok.fresh hc')
def AZ (t:ATr):ATr:=fun ρ μ Q=>t ρ μ fun vs μ1=>match vs with
  | [x]=>kS x fun ds=>Q (ik ds) μ1
  | _=>False
theorem DG {At:ATr}(hg:Gl X "enumerate")(hm:X.mg "enumerate" = none)(ha:LA X [ea] At)(hs:starEach [ea] X.env=[(false,eval ea X.env)]:=by rfl) :
    LI X (.Tuple es ek ep) (.Call (.Name "enumerate" p) [ea] [] pos) (AZ At):=by
  obtain ⟨t,pt,st⟩:=ha.ex
  refine ⟨_,Hw hg hm pt hs,fun σ H ρ μ Q R rl h k=>st σ H ρ μ _ _ rl h fun vs H1 ds μ1 t1 m1 p1 h1=>?_⟩
  split at h1
  case h_2=>exact False.elim h1
  cases p1 with | cons pa p2=>
  cases p2
  obtain ⟨tp,a,xs,dx,rfl,qa,la,h2⟩:=uc pa h1
  obtain ⟨a',xs',dx',ea',qa',la',h2⟩:=uC pa h2
  cases ea'
  refine ⟨tp,a,rfl,⟨xs',qa'⟩,k _ H1 _ μ1 t1 m1 ⟨fun i H' tk hi=>?_,fun i H' v H'' tk hi yv=>?_,fun i H' tk hi=>?_⟩ h2⟩
  · have l1:=la'.length
    rw[pz] at hi
    exact ⟨xs',xs'[i],tk.sq qa',by simp[show i < xs'.length by omega]⟩
  · obtain ⟨x,q,fx,rfl,fr,rfl⟩:=yv
    have ex:=fx _ (tk.sq qa')
    obtain ⟨d,ed,pd⟩:=la'.get' ex
    have tn:Tk H' (L2.upd H' q (.tup [.int i,x])):=.new fr
    exact ⟨tn,⟨.tup [.int i,d],by rw[ou,ed];rfl,.tup (SqT.of aG) (.cons (.int _) (.cons ((pd.mono tk).mono tn) .nil))⟩,fun μ' m'=>cg m' fr⟩
  · rw[pz] at hi
    exact ⟨xs',tk.sq qa',by rw[la'.length];exact hi⟩
end
end
section
open PySem PySem.Spec PyProof PyProof.Rows L2
section
variable {w:World} {prog:Program} {A:Around} {E:Value→Shared→Prop}
section
variable {R:Result→Shared→Prop} {I:Addr} {fp wr:List Addr} {n:Nat} {P:Nat→Value→Prop} {St:Nat→Heap→Prop}
end
variable {s:Shared}
end
section
variable {X:Cx} {e d:Expr} {p pos kp:Pos} {Te Td:ETr}
end
end
section
open PySem PySem.Spec PyProof.Rows L2
def qj (It':ATr)(G:GTr)(tt:TTr)(te:ETr)(n:Nat)(caps:List Nat):ETr:=fun ρ μ Q=>It' ρ μ fun ds μ1=>∀ p,μ1 p=none→eE p G tt te (gM ρ n caps) (fun μ'=>Q (.obj p) μ') ds (up μ1 p (.lst []))
theorem yF {K:PySem.W.Frag}{wi:TI}{It':ATr}{G:GTr}{Tt:TTr}{Te:ETr}{n:Nat}{caps:List Nat}(si:J9 K wi It'):Sim K (E6 wi (wx K n G) (liftT K Tt) (xb K Te) n caps) (qj It' G Tt Te n caps):=by
  intro σ H ρ μ Q Q' rl h k
  refine si σ H ρ μ _ _ rl h fun J H1 ds μ1 t1 m1 Y h1 D hD=>?_
  have hp:=h1 D (m1.free hD)
  have tD:Tk H1 (L2.upd H1 D (.lst [])):=.new hD
  have mD:bI K (L2.upd H1 D (.lst [])) (up μ1 D (.lst [])):=fun a o e=>by
    by_cases ha:a=D
    · subst ha
      rw[aJ] at e;cases e
      exact ⟨[],aG,.nil⟩
    · rw[aY ha] at e
      exact cg m1 hD a o e
  refine ⟨fun i m ys H2=>m=ds.length - i∧i≤ds.length∧Tk H1 H2∧∃ μ2,bI K H2 μ2∧eE D G Tt Te (gM ρ n caps) (fun μ'=>Q (.obj D) μ') (ds.drop i) μ2,
    ⟨ds.length,by simp,Nat.zero_le _,tD,_,mD,by simpa using hp⟩,?_⟩
  rintro i m ys H2 ⟨rfl,hi,t12,μ2,m2,h2⟩
  by_cases hlt:i < ds.length
  · refine .inr ⟨Y.go i H2 t12 hlt,fun ys' H'=>Tk H1 H'∧∃ μ',bI K H' μ'∧eE D G Tt Te (gM ρ n caps) (fun μ'=>Q (.obj D) μ') (ds.drop (i+1)) μ',fun ys' H' ⟨t',μ',m',h'⟩=>⟨ds.length - (i+1),by omega,rfl,hlt,t',μ',m',h'⟩,fun x H3 y=>?_⟩
    obtain ⟨t23,⟨d,ed,pd⟩,mk⟩:=Y.yld i H2 x H3 t12 hlt y
    have e:ds.drop i=d::ds.drop (i+1):=by
      refine (List.drop_eq_getElem_cons hlt).trans ?_
      congr 1
      rw[List.getElem?_eq_getElem hlt] at ed
      exact Option.some.inj ed
    rw[e] at h2
    have t13:=t12.trans t23
    have r3:Rl K (hC σ n caps) H3 (gM ρ n caps) μ2:=xh (rl.go (t1.trans t13) (mk _ m2)) n caps
    refine ⟨_,_,d,_,r3,pd,h2,fun σ4 H4 ρ4 μ4 t4 r4 kp h4=>⟨⟨kp.1.symm,fun j v ej=>?_⟩,_,_,_,r4,h4,fun b H5 μ5 t5 m5 h5=>?_⟩⟩
    · by_cases hj:n≤j
      · rw[kp.2 j hj];exact ej
      · obtain ⟨j',k',e1,_⟩:=me ej
        omega
    · have t15:=t13.trans (t4.trans t5)
      cases b with
      | false=>exact vm ⟨t15,μ5,m5,h5⟩
      | true=>
        refine ue ⟨_,_,_,r4.go t5 m5,h5,fun v H6 d6 μ6 t6 m6 p6 h6=>?_⟩
        obtain ⟨zs,ez,lz,h7⟩:=b8 h6
        obtain ⟨xs,ex,lx⟩:=m6 D _ ez
        have t67:Tk H6 (L2.upd H6 D (.lst (xs++[v]))):=.upd (fun ys z=>by rw[ex] at z;cases z) fun o' u z=>by rw[ex] at z;cases z
        refine ⟨xs,ex,by rw[lx.length];exact Nat.lt_of_lt_of_le lz (by decide),(t15.trans t6).trans t67,up μ6 D (.lst (zs++[d6])),fun a o ea=>?_,h7⟩
        by_cases ha:a=D
        · subst ha
          rw[aJ] at ea;cases ea
          exact ⟨_,aG,(lx.append (.cons p6 .nil)).mono t67⟩
        · rw[aY ha] at ea
          exact (m6 a _ ea).ne t67 ha
  · have e:i=ds.length:=by omega
    subst e
    rw[List.drop_length] at h2
    exact .inl ⟨Y.stop _ H2 t12 (Nat.le_refl _),k _ _ _ μ2 (t1.trans t12) m2 (.obj _) h2⟩
section
variable {X:Cx} {o i:Expr} {To Ti:ETr} {apos cpos:Pos}
end
end
section
open PySem PySem.Spec PyProof.Rows L2
section
variable {X:Cx} {o i:Expr} {To Ti:ETr} {apos cpos:Pos}
end
end
section
open PySem PySem.Spec PyProof.Rows L2
theorem zf {M:Model}{A:Around}{E:Value→Shared→Prop}{s:Shared}{β:Type}(f:Nat→β→Sem (ForInStep β))(Iv:Nat→β→Shared→Prop)(Q:β→Shared→Prop)(n:Nat)
    (turn:∀ i b s,i < n→Iv i b s→wpAny M A (f i b) (fun r s'=>match r with | .yield b'=>Iv (i+1) b' s' | .done b'=>Q b' s') E s)
    (fin:∀ b s,Iv n b s→Q b s) (b:β) (h:Iv 0 b s):wpAny M A (forIn [0:n] b f) Q E s:=by
  rw[Std.Legacy.Range.forIn_eq_forIn_range'];refine wpAny_forIn_list f (fun r b s=>∃ i,r=List.range' i (n - i)∧i≤n∧Iv i b s) Q ?_ ?_ _ b ⟨0,by simp[Std.Legacy.Range.size],Nat.zero_le _,h⟩
  · rintro x rest b s ⟨i,e,hi,hv⟩
    cases hn:n - i with
    | zero=>rw[hn] at e;cases e
    | succ k=>
      rw[hn,List.range'_succ] at e
      obtain ⟨rfl,rfl⟩:=List.cons.inj e
      refine wpAny_mono (turn x b s (by omega) hv) (fun r s' q=>?_) fun _ _ q=>q
      cases r with
      | yield b'=>exact ⟨x+1,by rw[show n - (x+1)=k by omega],by omega,q⟩
      | done b'=>exact q
  · rintro b s ⟨i,e,hi,hv⟩
    have:n - i=0:=by
      cases hn:n - i with
      | zero=>rfl
      | succ k=>rw[hn,List.range'_succ] at e;cases e
    rw[show i=n by omega] at hv
    exact fin b s hv
theorem sZ (l:Addr)(items:Array Value)(n:Nat)(dd:Option Addr)(sl:Array (Option Value))(x:Value)(e:Value→Bool)(j:Nat)(hj:j < items.size)(hit:e items[j]=true)(hno:∀ m (hm:m < items.size),m < j→e items[m]=false) :
    Meets (Builtin.«tuple.index» ⟨[.ref l,x],[]⟩)
      (fun A R s=>s.heap.get? l=some { cls:=.type "tuple", dict:=dd,data:=.seq items n,slots:=sl }∧(∀ y,y∈items→SeqAt.EqAt A.in1 s y x (e y))∧R (.ok (.ret (.int j s.toks))) { s with toks:=s.toks+1 }):=
  .of_wp fun prog w A R s h=>by
    rcases s with ⟨hp,g,d,tk,os⟩
    obtain ⟨hl,he,h⟩:=h
    wp_walk using AutoSeq1.wpAny_loadPart' hl,zf _ (fun i (b:Option Fin×Unit) s'=>b.1=none∧s'=⟨hp,g,d,tk,os⟩∧i≤j) _ _
    case turn=>
      rintro i b s' hi ⟨hb,rfl,hij⟩
      have hi':i < items.size:=by omega
      rw[show items[i]? = some items[i] from Array.getElem?_eq_getElem hi']
      refine wpAny_bind (he _ (Array.getElem_mem hi') prog w _ _ ?_)
      by_cases z:i=j
      · subst z
        rw[hit]
        wp_walk
        exact ⟨_,rfl,h⟩
      · rw[hno i hi' (by omega)]
        wp_walk
        exact ⟨rfl,rfl,by omega⟩
    case fin=>
      rintro b s' ⟨hb,rfl,hij⟩
      omega
    case h=>exact ⟨rfl,rfl,Nat.zero_le _⟩
theorem Cf {X:Cx}(hu:X.A.units+64 < cLine):MtM X "tuple.index" (fun x vs H Q=>∃ p xs y ds dy,∃ j:Nat,x=.ref p∧vs=[y]∧SqT X.K H p xs∧DpL X.K H xs ds∧Dp X.K H y dy∧bN 38 ds=true∧okD 38 dy=true∧yG ds dy=some j∧Q (.int j) H):=by
  intro pins s σ H x vs v us Q I rx rv h
  obtain ⟨p,xs,y,ds,dy,j,rfl,rfl,sq,l,py,ok,oy,hj,q⟩:=h
  cases (show v=Value.ref p from rx)
  obtain ⟨u,rfl,ru⟩:=rv.one
  obtain ⟨its,r,⟨o,e,c,n,hdat⟩,_⟩:=I.tuple sq
  obtain ⟨bs,rb⟩:=cF I py oy ru
  have he:s.heap.get? p=some ⟨.type "tuple", o.dict,.seq its.toArray n,o.slots⟩:=by
    rw[e];obtain ⟨c',dd,dt,sl⟩:=o;simp only at c hdat;subst c hdat;rfl
  unfold yG at hj
  rw[List.findIdx?_eq_some_iff_getElem] at hj
  obtain ⟨h1,h2,h3⟩:=hj
  have hl:ds.length=its.length:=by rw[← l.length,r.length]
  have at':∀ m (hm:m < its.toArray.size),∃ d,ds[m]? = some d∧md s.heap (toP dy) its.toArray[m]=eqD d dy∧SeqAt.EqAt X.A.in1 s its.toArray[m] u (md s.heap (toP dy) its.toArray[m]):=fun m hm=>
    item_at I l r ok oy rb hu (by simp at hm ⊢)
  refine call_meets F.slot_tuple_index ⟨_,he,rfl⟩ F.entry_tuple_index (F.args_tuple_index_2 _ _) (sZ p its.toArray n o.dict o.slots u (md s.heap (toP dy)) j (by simp;omega) ?_ ?_) ⟨he,fun w hw=>?_,?_⟩
  · obtain ⟨d,e1,e2,_⟩:=at' j (by simp;omega)
    rw[e2]
    rw[List.getElem?_eq_getElem h1] at e1;cases e1
    exact h2
  · intro m hm hlt
    obtain ⟨d,e1,e2,_⟩:=at' m hm
    rw[e2]
    have hm':m < ds.length:=by simp at hm;omega
    rw[List.getElem?_eq_getElem hm'] at e1;cases e1
    have:=h3 m hlt
    simpa using this
  · obtain ⟨m,hm,rfl⟩:=Array.mem_iff_getElem.mp hw
    obtain ⟨d,_,_,e3⟩:=at' m hm
    exact e3
  · exact ⟨.int j,H,I.tok _,⟨_,rfl⟩,q⟩
theorem Hg {X:Cx}{o e:Expr}{es:List Expr}{to:TE}{t:TA}{name:Str}{apos cpos:Pos}{id:String}{r:V→List V→Hp→VK→Prop}(slot:Slot "tuple" name id)(hty:typeOf (.builtin id)=pure (.type "method_descriptor"))(hm:MtM X id r)(ho:PE X o to)(ha:PA X (e::es) t)
    (hbase:attributeBase o name X.env (eval o X.env)=eval o X.env:=by rfl)
    (hfew:((backTo cpos (starEach (e::es) X.env)).all (fun x=>!x.1)&&(backToKw cpos (keywordEach [] X.env)).all (fun x=>x.1.isSome)
      && decide ((e::es).length+([]:List Keyword).length+(if ([]:List Keyword).isEmpty then 0 else 1) < 30))=true:=by rfl)
    (hline:(apos.endLine == cpos.line)=true:=by rfl) (hs:starEach (e::es) X.env=(false,eval e X.env)::starEach es X.env:=by rfl) (hplain:(backTo cpos (starEach es X.env)).any (·.1)=false:=by rfl) :
    PE X (.Call (.Attribute o name apos) (e::es) [] cpos) (fun σ H Q=>to σ H fun x H1=>(∃ p xs,x=.ref p∧SqT X.K H1 p xs)∧t σ H1 fun xs H2=>r x xs H2 Q):=by
  intro pins s σ H Q I h
  refine wpAny_Call_method_late hbase hfew hline rfl (thn (ho pins s σ H _ I h) fun v s1 ⟨x,H1,I1,r1,⟨p,ys,ex,sq⟩,q1⟩=>?_)
  subst ex
  cases (show v=Value.ref p from r1)
  obtain ⟨ob,he,hc,hd⟩:=I1.Gu sq
  refine ⟨"tuple", id,PySem.F.plainAttrs_tuple,slot,hty,⟨ob,he,hc⟩,(fun a e=>by cases e;exact ⟨ob,he,hd⟩),?_⟩
  have hA:=ha cpos pins s1 σ H1 _ I1 q1
  rw[hs] at hA ⊢
  refine Calls.callWith_builtin (by show (false || (backTo cpos (starEach es X.env)).any (·.1))=false;rw[hplain]<;>rfl) (Calls.evalArgs_plain ?_)
  exact thn hA fun us s2 ⟨vs,H2,I2,r2,q2⟩=>hm pins s2 σ H2 _ vs _ us Q I2 r1 r2 q2
def kTp (x:D)(f:List D→Prop):Prop:=match x with
  | .tup ds=>f ds
  | _=>False
def qz (To Ti:ETr):ETr:=fun ρ μ Q=>To ρ μ fun x μ1=>kTp x fun ds=>Ti ρ μ1 fun y μ2=>(bN 38 ds=true∧okD 38 y=true)∧kN (yG ds y) fun j=>Q (.int j) μ2
theorem xB {X:Cx}{o i:Expr}{apos cpos:Pos}{To Ti:ETr}(hu:X.A.units+64 < cLine)(ho:LE X o To)(hi:LE X i Ti)
    (hbase:attributeBase o "index" X.env (eval o X.env)=eval o X.env:=by rfl)
    (hfew:((backTo cpos (starEach [i] X.env)).all (fun x=>!x.1)&&(backToKw cpos (keywordEach [] X.env)).all (fun x=>x.1.isSome)
      && decide (([i]:List Expr).length+([]:List Keyword).length+(if ([]:List Keyword).isEmpty then 0 else 1) < 30))=true:=by rfl)
    (hline:(apos.endLine == cpos.line)=true:=by rfl) (hs:starEach [i] X.env=(false,eval i X.env)::starEach [] X.env:=by rfl) (hplain:(backTo cpos (starEach [] X.env)).any (·.1)=false:=by rfl) :
    LE X (.Call (.Attribute o "index" apos) [i] [] cpos) (qz To Ti):=by
  obtain ⟨to,po,so⟩:=ho.ex
  obtain ⟨ti,pi,si⟩:=hi.ex
  refine ⟨_,Hg PySem.F.slot_tuple_index PySem.F.type_tuple_index (Cf hu) po (cE pi fz hs) hbase hfew hline hs hplain,fun σ H ρ μ Q Q' rl h k=>so σ H ρ μ _ _ rl h fun x H1 dx μ1 t1 m1 p1 h1=>?_⟩
  cases p1 with
  | @tup a xs ds sq l=>
    refine ⟨⟨a,xs,rfl,sq⟩,si σ H1 ρ μ1 _ _ (rl.go t1 m1) h1 fun y H2 dy μ2 t2 m2 p2 h2=>?_⟩
    obtain ⟨⟨o1,o2⟩,h2⟩:=h2
    obtain ⟨j,ej,h2⟩:=qO h2
    cases (Dp.tup sq l).mono t2 with
    | tup sq' l'=>exact ⟨a,_,y,ds,dy,j,rfl,rfl,sq',l',p2,o1,o2,ej,k _ H2 _ μ2 (t1.trans t2) m2 (.int _) h2⟩
  | _=>exact False.elim h1
end
section
open PySem PySem.Spec PyProof.Rows L2
section
variable {X:Cx} {a b c d:Expr} {ta tb tc td:TE} {Ta Tb Tc Td:ETr} {pos:Pos} {o1 o2 o3:CmpOp} {r1 r2 r3:L2.R2} {R1 R2 R3:DR2}
end
end
section
open PySem PySem.Spec PyProof.Rows L2
section
variable {X:Cx} {tg a b:Expr} {Ta Tb:ETr} {pos:Pos}
def JJ (x:Str):List D:=x.cps.toList.map fun c=>.str ⟨#[c]⟩
def IL (a:ETr):ATr:=fun ρ μ Q=>a ρ μ fun x μ1=>match x with
  | .str z=>z.cps.all (· < 128)=true∧Q (JJ z) μ1
  | _=>False
def oh:DR2:=fun x y μ Q=>match x,y with
  | .str z,.int i=>z.length≤1000000∧kN (atI z.cps.toList i) fun c=>Q (.str ⟨#[c]⟩) μ
  | _,_=>False
theorem wR {K:PySem.W.Frag}:di K L2.FZ oh:=fun H μ x y dx dy Q Q' m px py h k=>by
  cases px with
  | str z=>
    cases py with
    | int i=>
      obtain ⟨h1,h2⟩:=h
      obtain ⟨c,ec,h3⟩:=qO h2
      exact ⟨z,i,c,rfl,rfl,Nat.le_trans h1 (by decide),ec,k _ H _ μ (.refl H) m (.str _) h3⟩
    | _=>exact False.elim h
  | _=>exact False.elim (by cases py<;>exact h)
theorem Hn (ha:LE X a Ta)(hb:LE X b Tb)(hs:ko b:=by intro _ _;rfl):LE X (.Subscript a b pos) (ak oh Ta Tb):=by
  obtain ⟨ta,pa,sa⟩:=ha.ex
  obtain ⟨tb,pb,sb⟩:=hb.ex
  exact ⟨_,zm zD pa pb hs,fZ wR sa sb⟩
def Ky:V→Option Int→Option Int→Hp→VK→Prop:=fun x lo hi H Q=>∃ z,x=.str z∧z.length≤sizeLine∧Q (.str (Txt.slice z lo hi)) H
theorem part_of {v:Value}{o:Option Int}(h:PySem.IsPart v o):∃ p:Option (Int×Tok),v=partValue p∧p.map (·.1)=o:=by
  cases h with
  | none=>exact ⟨none,rfl,rfl⟩
  | int i t=>exact ⟨some (i,t),rfl,rfl⟩
theorem GY:SlR X Ky:=by
  intro pins s σ H x v vl vu lo hi sl Q I rx hs pl pu h
  obtain ⟨z,rfl,hz,q⟩:=h
  obtain ⟨t,rfl⟩:=rx
  obtain ⟨pl',rfl,el⟩:=part_of pl
  obtain ⟨pu',rfl,eu⟩:=part_of pu
  refine ⟨"str", _,F.slot_str_getitem.lookup,typeIs_str _ _ _,wpAny_getItem_str_slice (l:=pl') (u:=pu') (st:=none) hs rfl ?_⟩
  have e:slicePicked z pl' pu' none=Builtin.Str.strSliceIndices lo hi 1 z.length:=by unfold slicePicked;rw[el,eu];rfl
  have le:=Txt.slice_le z lo hi
  unfold sliceMade
  rw[e]
  unfold Txt.slice at q le
  split
  · rename_i c
    rw[if_pos (by simpa using c)] at q
    exact ⟨.str z,H,I,⟨t,rfl⟩,q⟩
  · rename_i c
    rw[if_neg (by simpa using c)] at q le
    exact ⟨Nat.le_trans le hz,.str _,H,I.tok _,⟨_,rfl⟩,q⟩
def zp (Ta:ETr)(Tl Th:OTr):ETr:=fun ρ μ Q=>Ta ρ μ fun x μ1=>Tl ρ μ1 fun i μ2=>Th ρ μ2 fun j μ3=>match x with
  | .str z=>z.length≤1000000∧Q (.str (Txt.slice z i j)) μ3
  | _=>False
theorem zc {lo hi:Option Expr}{Tl Th:OTr}{p2:Pos}(ha:LE X a Ta)(hl:LO X lo Tl)(hh:LO X hi Th):LE X (.Subscript a (.Slice lo hi none p2) pos) (zp Ta Tl Th):=by
  obtain ⟨ta,pa,sa⟩:=ha.ex
  obtain ⟨tl,pl,sl⟩:=hl.ex
  obtain ⟨th,ph,sh⟩:=hh.ex
  refine ⟨_,rF GY pa pl ph,fun σ H ρ μ Q Q' rl h k=>sa σ H ρ μ _ _ rl h fun x H1 dx μ1 t1 m1 p1 h1=>sl σ H1 ρ μ1 _ _ (rl.go t1 m1) h1 fun i H2 μ2 t2 m2 h2=>sh σ H2 ρ μ2 _ _ (rl.go (t1.trans t2) m2) h2 fun j H3 μ3 t3 m3 h3=>?_⟩
  cases p1 with
  | str z=>exact ⟨z,rfl,Nat.le_trans h3.1 (by decide),k _ H3 _ μ3 (t1.trans (t2.trans t3)) m3 (.str _) h3.2⟩
  | _=>exact False.elim h3
end
end
section
open PySem PySem.Spec PyProof.Rows L2
def tyO (μ:Mu):D→Option String
  | .obj a=>(match μ a with
    | some (.dct _)=>some "dict"
    | some (.lst _)=>some "list"
    | none=>none)
  | d=>tyD d
theorem Dn (K:PySem.W.Frag):∀ c∈uv,PySem.W.kitOne K (.type "dict") (.type c)=some (aZ "dict" c):=by
  intro c hc
  simp only[uv,List.mem_cons,List.not_mem_nil,or_false] at hc
  rcases hc with rfl | rfl | rfl | rfl | rfl | rfl<;>with_unfolding_all rfl
def GA (K:PySem.W.Frag):List V→Hp→VK→Prop:=fun xs H Q=>Fe K xs H Q∨∃ a t c,xs=[.ref a,.ty c]∧((∃ ys,H a=some (.lst ys))∧t = "list" ∨ (∃ ys,H a=some (.dK ys))∧t = "dict")∧c∈uv∧Q (.bl (aZ t c)) H
theorem yN {X:Cx}:bz X (.builtin "isinstance") (GA X.K):=fun pins s σ H xs us Q I rx h=>by
  rcases h with h | ⟨a,t,c,ex,ha,hc,q⟩
  · exact Co pins s σ H xs us Q I rx h
  subst ex
  cases rx with | @cons _ u _ _ r1 r2=>cases r2 with | cons r2 r3=>
  cases r3
  cases (show _=Value.type c from r2)
  cases (show u=Value.ref a from r1)
  have fin:∀ tk,EP X pins σ Q (.bool (aZ t c)) { s with toks:=tk }:=fun tk=>⟨.bl _,H,I.tok tk,rfl,q⟩
  rcases ha with ⟨⟨ys,ea⟩,rfl⟩ | ⟨⟨ys,ea⟩,rfl⟩
  · obtain ⟨_,_,_,_,_,e⟩:=I.GX ea
    exact PySem.W.kia_one PySem.W.kitx_list I.kIn ⟨_,e,rfl⟩ (wg X.K "list" (by decide) c hc) (fun z=>nomatch z) fin
  · obtain ⟨_,_,_,_,o,es,ep,h1,h2,_⟩:=(show bO X.prog X.w H s.heap a (.dK ys) from I.hok a _ ea)
    exact PySem.W.kia_one PySem.W.kitx_dict I.kIn ⟨o,h1,h2.1⟩ (Dn X.K c hc) (fun z=>nomatch z) fin
def dh (c:String):DR:=fun x μ Q=>match tyO μ x with
  | some t=>Q (.bl (aZ t c)) μ
  | none=>False
theorem iu {X:Cx}{x y:Str}{p p2 pos:Pos}{c:String}{e:Expr}{Ta:ETr}(hg:Gl X x)(hm:X.mg x=none)(hv:bootBuiltins x=some (.builtin "isinstance"))(ha:LE X e Ta)(hg2:Gl X y)(hm2:X.mg y=none)(hv2:bootBuiltins y=some (.type c))(hc:c∈uv:=by decide)
    (hn:x ≠ "__name__" := by decide) (hdb:(x == ("__debug__" : Str))=false:=by decide) (hn2:y ≠ "__name__" := by decide) (hdb2:(y == ("__debug__" : Str))=false:=by decide)
    (h0:starEach [.Name y p2] X.env=[(false,eval (.Name y p2) X.env)]:=by rfl) (h1:starEach (e::[.Name y p2]) X.env=(false,eval e X.env)::starEach [.Name y p2] X.env:=by rfl) (h2:(backTo pos (starEach [.Name y p2] X.env)).any (·.1)=false:=by rfl) :
    LE X (.Call (.Name x p) [e,.Name y p2] [] pos) (TUn (dh c) Ta):=by
  obtain ⟨ta,pa,sa⟩:=ha.ex
  refine ⟨_,k9 yN hg hm hv (cE pa (cE (Di hg2 hm2 hv2 (v:=.ty c) rfl hn2 hdb2) fz h0) h1) hn hdb h1 h2,fun σ H ρ μ Q Q' rl h k=>sa σ H ρ μ _ _ rl h fun v H1 d μ1 t1 m1 p1 h1=>?_⟩
  have h1':(match tyO μ1 d with | some t=>Q (.bl (aZ t c)) μ1 | none=>False):=h1
  cases p1 with
  | obj a=>
    cases e:μ1 a with
    | none=>simp only[tyO,e] at h1'
    | some o=>
      cases o with
      | lst ds=>
        simp only[tyO,e] at h1'
        obtain ⟨ys,ea,_⟩:=m1 a _ e
        exact .inr ⟨a,_,c,rfl,.inl ⟨⟨ys,ea⟩,rfl⟩,hc,k _ H1 _ μ1 t1 m1 (.bl _) h1'⟩
      | dct ds=>
        simp only[tyO,e] at h1'
        obtain ⟨ys,ea,_⟩:=m1 a _ e
        exact .inr ⟨a,_,c,rfl,.inr ⟨⟨ys,ea⟩,rfl⟩,hc,k _ H1 _ μ1 t1 m1 (.bl _) h1'⟩
  | non=>exact .inl ⟨_,_,_,c,rfl,.non,rfl,hc,k _ H1 _ μ1 t1 m1 (.bl _) h1'⟩
  | bl b=>exact .inl ⟨_,_,_,c,rfl,.bl b,rfl,hc,k _ H1 _ μ1 t1 m1 (.bl _) h1'⟩
  | int b=>exact .inl ⟨_,_,_,c,rfl,.int b,rfl,hc,k _ H1 _ μ1 t1 m1 (.bl _) h1'⟩
  | str b=>exact .inl ⟨_,_,_,c,rfl,.str b,rfl,hc,k _ H1 _ μ1 t1 m1 (.bl _) h1'⟩
  | ty b=>exact False.elim h1'
  | tup a l=>exact .inl ⟨_,_,_,c,rfl,.tup a l,rfl,hc,k _ H1 _ μ1 t1 m1 (.bl _) h1'⟩
  | ls a l=>exact .inl ⟨_,_,_,c,rfl,.ls a l,rfl,hc,k _ H1 _ μ1 t1 m1 (.bl _) h1'⟩
def pB:ETr:=fun ρ μ Q=>∀ p,μ p=none→Q (.obj p) (up μ p (.dct []))
theorem pQ {X:Cx}{pos:Pos}:LE X (.Dict [] [] pos) pB:=D2
end
section
open PySem PySem.Spec PyProof.Rows L2
section
variable {X:Cx} {o i:Expr} {apos cpos:Pos}
theorem rW:∀ {zs:List Str} {us:List Value},Vals (zs.map V.str) us→∃ l:List (Str×Tok),us=strValues l∧l.map (·.1)=zs
  | [],_,.nil=>⟨[],rfl,rfl⟩
  | z::zs,_,.cons ⟨t,e⟩ r=>by
    obtain ⟨l,h1,h2⟩:=rW r
    exact ⟨(z,t)::l,by rw[e,h1];rfl,by rw[← h2];rfl⟩
theorem Cq:MtM X "str.join" (fun x vs H Q=>∃ sep p zs,x=.str sep∧vs=[.ref p]∧SqL X.K H p (zs.map V.str)∧JoinOk sep zs=true∧Q (.str (Txt.join sep zs)) H):=by
  intro pins s σ H x vs v us Q I rx rv h
  obtain ⟨sep,p,zs,rfl,rfl,sq,ok,q⟩:=h
  obtain ⟨t,rfl⟩:=rx
  obtain ⟨u,rfl,ru⟩:=rv.one
  cases (show u=Value.ref p from ru)
  obtain ⟨its,r,pl,_⟩:=I.list sq
  obtain ⟨l,rfl,e⟩:=rW r
  exact SC.join pl.isList e ok fun t' k=>⟨.str _,H,I.tok _,⟨_,rfl⟩,q⟩
theorem F9 {e:Expr}{es:List Expr}{to:TE}{t:TA}{name:Str}{id:String}{r:V→List V→Hp→VK→Prop}(slot:Slot "str" name id)(hty:typeOf (.builtin id)=pure (.type "method_descriptor"))(hm:MtM X id r)(ho:PE X o to)(ha:PA X (e::es) t)
    (hbase:attributeBase o name X.env (eval o X.env)=eval o X.env:=by rfl)
    (hfew:((backTo cpos (starEach (e::es) X.env)).all (fun x=>!x.1)&&(backToKw cpos (keywordEach [] X.env)).all (fun x=>x.1.isSome)
      && decide ((e::es).length+([]:List Keyword).length+(if ([]:List Keyword).isEmpty then 0 else 1) < 30))=true:=by rfl)
    (hline:(apos.endLine == cpos.line)=true:=by rfl) (hs:starEach (e::es) X.env=(false,eval e X.env)::starEach es X.env:=by rfl) (hplain:(backTo cpos (starEach es X.env)).any (·.1)=false:=by rfl) :
    PE X (.Call (.Attribute o name apos) (e::es) [] cpos) (fun σ H Q=>to σ H fun x H1=>(∃ z,x=.str z)∧t σ H1 fun xs H2=>r x xs H2 Q):=by
  intro pins s σ H Q I h
  refine wpAny_Call_method_late hbase hfew hline rfl (thn (ho pins s σ H _ I h) fun v s1 ⟨x,H1,I1,r1,⟨z,ex⟩,q1⟩=>?_)
  subst ex
  obtain ⟨tk,rfl⟩:=r1
  refine ⟨"str", id,PySem.F.plainAttrs_str,slot,hty,typeIs_str _ _ _,(fun a e=>nomatch e),?_⟩
  have hA:=ha cpos pins s1 σ H1 _ I1 q1
  rw[hs] at hA ⊢
  refine Calls.callWith_builtin (by show (false || (backTo cpos (starEach es X.env)).any (·.1))=false;rw[hplain]<;>rfl) (Calls.evalArgs_plain ?_)
  exact thn hA fun us s2 ⟨vs,H2,I2,r2,q2⟩=>hm pins s2 σ H2 (.str z) vs _ us Q I2 ⟨tk,rfl⟩ r2 q2
def gT:List D→Option (List Str)
  | []=>some []
  | .str z::r=>(gT r).map (z::·)
  | _::_=>none
theorem wm {K:PySem.W.Frag}{H:Hp}:∀ {xs:List V} {ds:List D} {zs:List Str},DpL K H xs ds→gT ds=some zs→xs=zs.map V.str
  | _,_,_,.nil,e=>by simp only[gT,Option.some.injEq] at e;subst e;rfl
  | _,d::ds,zs,.cons h l,e=>by
    cases h with
    | str z=>
      simp only[gT] at e
      cases e1:gT ds with
      | none=>rw[e1] at e;cases e
      | some ys=>
        rw[e1] at e
        cases e
        rw[wm l e1];rfl
    | _=>cases e
def wb (To Ti:ETr):ETr:=fun ρ μ Q=>To ρ μ fun x μ1=>match x with
  | .str sep=>Ti ρ μ1 fun y μ2=>match y with
    | .ls ds=>∃ zs,gT ds=some zs∧JoinOk sep zs=true∧Q (.str (Txt.join sep zs)) μ2
    | _=>False
  | _=>False
theorem Ef {To Ti:ETr}(ho:LE X o To)(hi:LE X i Ti)
    (hbase:attributeBase o "join" X.env (eval o X.env)=eval o X.env:=by rfl)
    (hfew:((backTo cpos (starEach [i] X.env)).all (fun x=>!x.1)&&(backToKw cpos (keywordEach [] X.env)).all (fun x=>x.1.isSome)
      && decide (([i]:List Expr).length+([]:List Keyword).length+(if ([]:List Keyword).isEmpty then 0 else 1) < 30))=true:=by rfl)
    (hline:(apos.endLine == cpos.line)=true:=by rfl) (hs:starEach [i] X.env=(false,eval i X.env)::starEach [] X.env:=by rfl) (hplain:(backTo cpos (starEach [] X.env)).any (·.1)=false:=by rfl) :
    LE X (.Call (.Attribute o "join" apos) [i] [] cpos) (wb To Ti):=by
  obtain ⟨to,po,so⟩:=ho.ex
  obtain ⟨ti,pi,si⟩:=hi.ex
  refine ⟨_,F9 PySem.F.slot_str_join PySem.F.type_str_join Cq po (cE pi fz hs) hbase hfew hline hs hplain,fun σ H ρ μ Q Q' rl h k=>so σ H ρ μ _ _ rl h fun x H1 dx μ1 t1 m1 p1 h1=>?_⟩
  cases p1 with
  | str z=>
    refine ⟨⟨z,rfl⟩,si σ H1 ρ μ1 _ _ (rl.go t1 m1) h1 fun y H2 dy μ2 t2 m2 p2 h2=>?_⟩
    cases p2 with
    | @ls a xs ds sq l=>
      obtain ⟨zs,e,ok,h2⟩:=h2
      have:=wm l e
      subst this
      exact ⟨z,a,zs,rfl,rfl,sq.sq,ok,k _ H2 _ μ2 (t1.trans t2) m2 (.str _) h2⟩
    | _=>exact False.elim h2
  | _=>exact False.elim h1
end
theorem join_list:∀ (cs:List Nat),(Txt.join (Str.ofString "") (cs.map fun c=>⟨#[c]⟩)).cps.toList=cs:=by
  intro cs
  show (Builtin.Str.glued (Str.ofString "") _).cps.toList=cs
  rw[StrLaws.glued_eq_join]
  have e0:(Str.ofString "").cps = #[]:=by decide +kernel
  induction cs with
  | nil=>rfl
  | cons c r ih=>
    cases r with
    | nil=>rfl
    | cons d r=>
      simp only[List.map_cons,Str.join] at ih ⊢
      show ((#[c]++(Str.ofString "").cps)++_).toList=_
      rw[Array.toList_append,ih,e0];simp
theorem Dh (zs:List Str)(h:∀ z∈zs,z.length=1)(hl:zs.length≤1000):JoinOk (Str.ofString "") zs=true:=by
  unfold JoinOk
  rw[StrLaws.joinTotal]
  have e0:(Str.ofString "").length=0:=by decide +kernel
  have es:(zs.map (·.length)).sum=zs.length:=by
    clear hl
    induction zs with
    | nil=>rfl
    | cons z r ih=>rw[List.map_cons,List.sum_cons,h z List.mem_cons_self,ih fun y hy=>h y (List.mem_cons_of_mem _ hy),List.length_cons];omega
  rw[es,e0]
  have:Builtin.Str.tooLong (zs.length+zs.length*0)=false:=decide_eq_false (Nat.not_lt.mpr (Nat.le_trans (show zs.length+zs.length*0≤1000 by omega) (by decide)))
  rw[this];rfl
end
section
open PySem PySem.Spec PyProof PyProof.Rows L2
section
variable {X:Cx} {o:Expr} {apos cpos pos p:Pos} {x:Str}
end
end
section
open PySem PySem.Spec PyProof.Rows L2
end
structure WE where
  nm:Str
  pc:Int
  rm:D
  ma:D
  so:D
def WE.toD (w:WE):D:=.tup [.str w.nm,.int w.pc,w.rm,w.ma,w.so]
structure WE.Ok (w:WE):Prop where
  n:PyData.strOk w.nm=true
  ne:w.nm≠Str.ofString ""
  p0:1≤w.pc
  p1:w.pc≤20
structure SE where
  nm:Str
  r0:Str
  rd:List Str
  bt:Int
  bg:D
  mn:D
  R:RN
def SE.road (s:SE):List Str:=s.r0::s.rd
def SE.toD (s:SE):D:=.tup [.str s.nm,.tup (s.road.map .str),.int s.bt,s.bg,s.mn,s.R.toD]
structure SE.Ok (s:SE):Prop where
  n:PyData.strOk s.nm=true
  r:∀ x∈s.road,PyData.strOk x=true
  b0:1≤s.bt
  b1:s.bt≤8
  R:s.R.Ok
  bo:okD 38 s.bg=true
  mo:okD 38 s.mn=true
def SE.lim (s:SE):Int:=s.R.r / s.R.s
theorem SE.Ok.lim {s:SE}(h:s.Ok):1≤s.lim∧s.lim≤60:=by
  have t:=h.R.t
  have q0:=t.q0
  have h1:=t.ge
  have h2:=t.le
  exact ⟨(Int.le_ediv_iff_mul_le q0).mpr h1,Int.ediv_le_of_le_mul q0 h2⟩
structure PE' (ws:List WE) (ss:List SE):Prop where
  w:∀ x∈ws,x.Ok
  s:∀ x∈ss,x.Ok
  rd:∀ x∈ss,x.road.Sublist (ws.map WE.nm)
  wl:ws.length≤8
  sl:ss.length≤8
  nd:(ss.map SE.nm).Nodup
  wn:(ws.map WE.nm).Nodup
theorem PE'.all {ws:List WE}{ss:List SE}(h:PE' ws ss):∀ x∈ss,∀ n∈x.road,∃ y∈ws,y.nm=n:=fun x hx n hn=>List.mem_map.mp ((h.rd x hx).subset hn)
theorem PE'.on {ws:List WE}{ss:List SE}(h:PE' ws ss):∀ x∈ss,∃ y∈ws,y.nm=x.r0:=fun x hx=>h.all x hx x.r0 List.mem_cons_self
theorem D4 (w:Str)(os:List Str):inG (.str w) (os.map .str)=decide (w∈os):=by
  unfold inG
  rw[List.any_map,Bool.eq_iff_iff,List.any_eq_true,decide_eq_true_eq]
  constructor
  · rintro ⟨x,hx,e⟩
    have:x=w:=by simpa[eqD] using e
    exact this ▸ hx
  · exact fun h=>⟨w,h,by simp[eqD]⟩
theorem wI {os:List Str}{k:Nat}(h:∀ x∈os,PyData.strOk x=true):bN k (os.map .str)=true:=by
  induction os with
  | nil=>simp[bN]
  | cons a r ih=>
    rw[List.map_cons,bN,Bool.and_eq_true]
    exact ⟨by cases k<;>simpa[okD] using h a List.mem_cons_self,ih fun n z=>h n (List.mem_cons_of_mem _ z)⟩
structure SOk (x:Int×Int):Prop where
  d0:0 < x.2
  g:Int.gcd x.1 x.2=1
  n:Le x.1 (1000*x.2)
def frS (x:Int×Int):D:=fr x.1 x.2
theorem SOk.vl {x:Int×Int}(h:SOk x):Vl (frS x) x.1 x.2:=⟨⟨x.1,x.2,rfl,h.d0,h.g,rfl,Nat.le_refl _,Nat.le_refl _⟩,h.d0⟩
def K4 (t x:Int×Int):Int×Int:=(t.1*x.2+x.1*t.2,t.2*x.2)
def cH:List (Int×Int)→Int
  | []=>1
  | x::r=>x.2*cH r
theorem ei:∀ {xs:List (Int×Int)},(∀ x∈xs,SOk x)→1≤cH xs
  | [],_=>Int.le_refl _
  | x::r,h=>by
    have h1:=ei fun y hy=>h y (List.mem_cons_of_mem _ hy)
    have h2:=(h x List.mem_cons_self).d0
    show 1≤x.2*cH r
    have:=Int.mul_le_mul (show 1≤x.2 by omega) h1 (by decide) (by omega)
    omega
structure Sm (t:Int×Int) (r:List (Int×Int)) (k:Nat):Prop where
  b0:0 < t.2
  pr:t.2*cH r≤100000000000000000000000
  a:Le t.1 (1000*k*t.2)
  k:k+r.length≤8
  o:∀ x∈r,SOk x
theorem Sm.item {t x:Int×Int}{r:List (Int×Int)}{k:Nat}(h:Sm t (x::r) k):Bd x.1∧Bd x.2:=by
  have hx:=h.o x List.mem_cons_self
  have d0:=hx.d0
  have p1:=ei fun y hy=>h.o y (List.mem_cons_of_mem _ hy)
  have b0:=h.b0
  have hb:x.2≤100000000000000000000000:=by
    have e:t.2*cH (x::r)=x.2*(t.2*cH r):=by show t.2*(x.2*cH r)=_;rw[Int.mul_left_comm]
    have h1:1≤t.2*cH r:=by
      have:=Int.mul_le_mul (show 1≤t.2 by omega) p1 (by decide) (by omega)
      omega
    have:=Int.mul_le_mul_of_nonneg_left h1 (show 0≤x.2 by omega)
    have:=h.pr
    rw[e] at this
    omega
  exact ⟨hx.n.mono (by omega),Le.of (by omega) (by omega)⟩
theorem Sm.next {t x:Int×Int}{r:List (Int×Int)}{k:Nat}(h:Sm t (x::r) k):Sm (K4 t x) r (k+1):=by
  have hx:=h.o x List.mem_cons_self
  have d0:=hx.d0
  have b0:=h.b0
  refine ⟨Int.mul_pos b0 d0,?_,?_,by have:=h.k;simp at this;omega,fun y hy=>h.o y (List.mem_cons_of_mem _ hy)⟩
  · have:=h.pr
    show t.2*x.2*cH r≤_
    rw[Int.mul_assoc]
    exact this
  · have h1:=h.a.mul (Le.of (a:=x.2) (A:=x.2) (by omega) (Int.le_refl _))
    have h2:=hx.n.mul (Le.of (a:=t.2) (A:=t.2) (by omega) (Int.le_refl _))
    refine (h1.add h2).mono (Int.le_of_eq ?_)
    show 1000*(k:Int)*t.2*x.2+1000*x.2*t.2=1000*((k+1:Nat):Int)*(t.2*x.2)
    rw[Int.natCast_succ]
    rw[show 1000*((k:Int)+1)=1000*k+1000 by omega,Int.add_mul,Int.mul_assoc (1000*(k:Int)),Int.mul_assoc 1000 x.2 t.2,Int.mul_comm x.2 t.2]
theorem Sm.less {t x:Int×Int}{r:List (Int×Int)}{k:Nat}(h:Sm t (x::r) k):Sm t r k:=by
  have hx:=h.o x List.mem_cons_self
  have d0:=hx.d0
  have b0:=h.b0
  have o':=fun y hy=>h.o y (List.mem_cons_of_mem x hy)
  refine ⟨b0,?_,h.a,by have:=h.k;simp at this;omega,o'⟩
  have p1:=ei o'
  have e:t.2*cH (x::r)=x.2*(t.2*cH r):=by show t.2*(x.2*cH r)=_;rw[Int.mul_left_comm]
  have h1:0≤t.2*cH r:=Int.mul_nonneg (by omega) (by omega)
  have:=Int.mul_le_mul_of_nonneg_right (show 1≤x.2 by omega) h1
  have:=h.pr
  rw[e] at this
  omega
abbrev ShF:=Str→Int×Int
structure KN (f:ShF) (ss:List SE):Prop where
  o:∀ s∈ss,SOk (f s.nm)
  p:cH (ss.map fun s=>f s.nm)≤100000000000000000000000
def iZ (f:ShF)(n:Str)(x:Int×Int):ShF:=fun w=>if w=n then x else f w
theorem lg {f:ShF}:∀ {ss:List SE},(∀ s∈ss,SOk (f s.nm)∧(f s.nm).2≤96)→cH (ss.map fun s=>f s.nm)≤96 ^ ss.length
  | [],_=>Int.le_refl _
  | s::r,h=>by
    have ih:=lg fun y hy=>h y (List.mem_cons_of_mem s hy)
    obtain ⟨h1,h2⟩:=h s List.mem_cons_self
    have p1:=ei (xs:=r.map fun s=>f s.nm) fun x hx=>by
      obtain ⟨y,yi,rfl⟩:=List.mem_map.mp hx
      exact (h y (List.mem_cons_of_mem s yi)).1
    show (f s.nm).2*_≤96 ^ (r.length+1)
    rw[Int.pow_succ,Int.mul_comm]
    exact Int.mul_le_mul ih h2 (by have:=h1.d0;omega) (by omega)
theorem EI {n:Nat}(h:n≤7):(96:Int) ^ n≤96 ^ 7:=by
  match n,h with
  | 0,_=>decide
  | 1,_=>decide
  | 2,_=>decide
  | 3,_=>decide
  | 4,_=>decide
  | 5,_=>decide
  | 6,_=>decide
  | 7,_=>decide
theorem KN.one {f:ShF}{ss:List SE}{n:Str}{x:Int×Int}(h:∀ s∈ss,SOk (f s.nm)∧(f s.nm).2≤96)(hl:ss.length≤8)(nd:(ss.map SE.nm).Nodup)(hx:SOk x)(hd:x.2≤1000000000):KN (iZ f n x) ss:=by
  have key:∀ (r:List SE),(∀ s∈r,SOk (f s.nm)∧(f s.nm).2≤96)→(r.map SE.nm).Nodup→r.length≤8→cH (r.map fun s=>iZ f n x s.nm)≤1000000000*96 ^ (r.length - 1)∨(n ∉ r.map SE.nm∧cH (r.map fun s=>iZ f n x s.nm)≤96 ^ r.length):=by
    intro r
    induction r with
    | nil=>exact fun _ _ _=>.inr ⟨(fun z=>nomatch z),Int.le_refl _⟩
    | cons s r ih=>
      intro hr hn hl
      rw[List.map_cons] at hn;rw[List.nodup_cons] at hn
      have hr':=fun y hy=>hr y (List.mem_cons_of_mem s hy)
      obtain ⟨h1,h2⟩:=hr s List.mem_cons_self
      have hl':r.length≤7:=by simpa using hl
      have ok':∀ x'∈r.map fun s=>iZ f n x s.nm,SOk x':=fun x' hx'=>by
        obtain ⟨y,hy,rfl⟩:=List.mem_map.mp hx'
        show SOk (iZ f n x y.nm)
        unfold iZ
        split
        · exact hx
        · exact (hr' y hy).1
      have p1:=ei ok'
      show (iZ f n x s.nm).2*_≤1000000000*96 ^ (r.length+1 - 1)∨(n ∉ s.nm::r.map SE.nm∧(iZ f n x s.nm).2*_≤96 ^ (r.length+1))
      rw[Nat.add_sub_cancel]
      by_cases e:s.nm=n
      · refine .inl ?_
        have hs:iZ f n x s.nm=x:=if_pos e
        rw[hs]
        have hnr:n ∉ r.map SE.nm:=by rw[← e];exact hn.1
        have eq:(r.map fun s=>iZ f n x s.nm)=r.map fun s=>f s.nm:=List.map_congr_left fun y hy=>if_neg fun z=>hnr (List.mem_map.mpr ⟨y,hy,z⟩)
        rw[eq] at p1 ⊢
        exact Int.mul_le_mul hd (lg hr') (by omega) (by decide)
      · have hs:iZ f n x s.nm=f s.nm:=if_neg e
        rw[hs]
        have d0:=h1.d0
        rcases ih hr' hn.2 (by omega) with q | ⟨q1,q2⟩
        · refine .inl ?_
          cases r with
          | nil=>
            show (f s.nm).2*1≤1000000000*1
            omega
          | cons s' r'=>
            rw[List.length_cons,Nat.add_sub_cancel] at q
            have:=Int.mul_le_mul h2 q (by omega) (by decide)
            rw[List.length_cons,Int.pow_succ]
            have e3:(96:Int)*(1000000000*96 ^ r'.length)=1000000000*(96 ^ r'.length*96):=by
              rw[Int.mul_left_comm,Int.mul_comm 96 (96 ^ r'.length)]
            rw[e3] at this
            exact this
        · refine .inr ⟨fun z=>?_,?_⟩
          · rcases List.mem_cons.mp z with z | z
            · exact e z.symm
            · exact q1 z
          · rw[Int.pow_succ,Int.mul_comm]
            exact Int.mul_le_mul q2 h2 (by omega) (by omega)
  refine ⟨fun s hs=>?_,?_⟩
  · show SOk (iZ f n x s.nm)
    unfold iZ
    split
    · exact hx
    · exact (h s hs).1
  · have e8:(96:Int) ^ 8≤100000000000000000000000:=by decide
    have e7:1000000000*(96:Int) ^ 7≤100000000000000000000000:=by decide
    rcases key ss h nd hl with q | ⟨_,q⟩
    · have:=EI (n:=ss.length - 1) (by omega)
      have:=Int.mul_le_mul_of_nonneg_left this (show (0:Int)≤1000000000 by decide)
      omega
    · by_cases e:ss.length=8
      · rw[e] at q;omega
      · have:=EI (n:=ss.length) (by omega)
        have:(96:Int) ^ 7≤96 ^ 8:=by decide
        omega
theorem oi (kvs:List (L2.Key×D))(k j:L2.Key)(d:D):cI (putD kvs k d) j=if j=k then some d else cI kvs j:=by
  unfold putD cI
  split
  · rename_i ha
    induction kvs with
    | nil=>cases ha
    | cons kv r ih=>
      rw[List.map_cons,List.find?_cons,List.find?_cons]
      by_cases e:kv.1=k
      · rw[if_pos e]
        by_cases f:j=k
        · rw[if_pos f,f,decide_eq_true e];rfl
        · rw[if_neg f,e,decide_eq_false (Ne.symm f)]
          by_cases hr:(r.any fun kv=>decide (kv.1=k))=true
          · have:=ih hr
            rw[if_neg f] at this
            exact this
          · have same:r.map (fun kv=>if kv.1=k then (kv.1,d) else kv)=r:=by
              refine (List.map_congr_left fun x hx=>?_).trans (List.map_id r)
              have:¬ x.1=k:=fun z=>hr (List.any_eq_true.mpr ⟨x,hx,decide_eq_true z⟩)
              rw[if_neg this];rfl
            rw[same]
      · rw[if_neg e]
        have hr:(r.any fun kv=>decide (kv.1=k))=true:=by
          rw[List.any_cons,decide_eq_false e] at ha
          exact ha
        by_cases f:kv.1=j
        · rw[decide_eq_true f]
          have:¬ j=k:=fun z=>e (f.trans z)
          rw[if_neg this]
        · rw[decide_eq_false f]
          exact ih hr
  · rename_i ha
    rw[List.find?_append]
    by_cases f:j=k
    · rw[if_pos f,f]
      have:kvs.find? (fun kv=>decide (kv.1=k))=none:=List.find?_eq_none.mpr fun x hx z=>ha (List.any_eq_true.mpr ⟨x,hx,z⟩)
      rw[this]
      simp
    · rw[if_neg f]
      have:([(k,d)]:List (L2.Key×D)).find? (fun kv=>decide (kv.1=j))=none:=by simp[Ne.symm f]
      rw[this]
      simp
theorem Ai (kvs:List (L2.Key×D))(k:L2.Key)(d:D):(putD kvs k d).length≤kvs.length+1:=by
  unfold putD
  split
  · rw[List.length_map];omega
  · rw[List.length_append];exact Nat.le_refl _
section
open PySem PySem.Spec PyProof.Rows L2
section
variable {X:Cx} {a b:Expr} {Ta Tb:ETr} {pos:Pos}
def Bv:DR2:=fun x y μ Q=>match x with
  | .str z=>oh (.str z) y μ Q
  | x=>L3.rIx x y μ Q
theorem Ec {K:PySem.W.Frag}:di K (L2.rIx K) Bv:=fun H μ x y dx dy Q Q' m px py h k=>by
  cases dx with
  | str z=>exact .inr (.inr (wR H μ x y (.str z) dy Q Q' m px py h k))
  | _=>exact A8 H μ x y _ dy Q Q' m px py h k
theorem Hz (ha:LE X a Ta)(hb:LE X b Tb)(hs:ko b:=by intro _ _;rfl):LE X (.Subscript a b pos) (ak Bv Ta Tb):=by
  obtain ⟨ta,pa,sa⟩:=ha.ex
  obtain ⟨tb,pb,sb⟩:=hb.ex
  exact ⟨_,zm BP pa pb hs,fZ Ec sa sb⟩
def Hb:DR2:=fun x y μ Q=>match x,y with
  | .int i,.int n=>(i=1∧0≤n∧n≤60)∧Q (.int (i*2 ^ n.toNat)) μ
  | _,_=>False
def Gd:DR2:=fun x y μ Q=>match x,y with
  | .int i,.int n=>0≤n∧Q (.int (i.fdiv (2 ^ n.toNat))) μ
  | _,_=>False
def Ae:DR2:=fun x y μ Q=>match x,y with
  | .int i,.int n=>Q (.int (Builtin.bitAnd i n)) μ
  | _,_=>False
theorem z8:OpR X (binaryOp .LShift) (rI (fun i n=>i=1∧0≤n∧n≤60) fun i n=>.int (i*2 ^ n.toNat)):=opI fun i n _ _ _ _ _ hc q=>by
  obtain ⟨e,h0,h1⟩:=hc
  refine lshift_int h0 ?_ q
  rw[e]
  have:Builtin.Int.intBits 1=1:=by decide
  rw[this]
  omega
theorem A0:OpR X (binaryOp .RShift) (rI (fun _ n=>0≤n) fun i n=>.int (i.fdiv (2 ^ n.toNat))):=opI fun _ _ _ _ _ _ _ hc q=>rshift_int hc q
theorem DP:OpR X (binaryOp .BitAnd) (rI0 fun i n=>.int (Builtin.bitAnd i n)):=IG fun _ _ _ _ _ _ _ q=>and_int q
theorem Io (ha:LE X a Ta)(hb:LE X b Tb):LE X (.BinOp a .LShift b pos) (ak Hb Ta Tb):=fE z8 (iY (fun i j=>.int (i*2 ^ j.toNat)) (fun _ _ _=>.int _) (fun _ _ _ _ h=>⟨h.1,h.2⟩) (fun dx dy μ Q h=>by cases dx<;>cases dy<;>first | exact ⟨⟨_,rfl⟩,_,rfl⟩ | exact False.elim h)) ha hb
theorem IB (ha:LE X a Ta)(hb:LE X b Tb):LE X (.BinOp a .RShift b pos) (ak Gd Ta Tb):=fE A0 (iY (fun i j=>.int (i.fdiv (2 ^ j.toNat))) (fun _ _ _=>.int _) (fun _ _ _ _ h=>⟨h.1,h.2⟩) (fun dx dy μ Q h=>by cases dx<;>cases dy<;>first | exact ⟨⟨_,rfl⟩,_,rfl⟩ | exact False.elim h)) ha hb
theorem Du (ha:LE X a Ta)(hb:LE X b Tb):LE X (.BinOp a .BitAnd b pos) (ak Ae Ta Tb):=fE DP (qM (fun i j=>.int (Builtin.bitAnd i j)) (fun _ _ _=>.int _) (fun _ _ _ _ h=>h) (fun dx dy μ Q h=>by cases dx<;>cases dy<;>first | exact ⟨⟨_,rfl⟩,_,rfl⟩ | exact False.elim h)) ha hb
end
theorem y6 {X:Cx}{tg elt iter:Expr}{Te:ETr}{Tt:TTr}{pos:Pos}{It':ATr}{G:GTr}{ifs:List Expr}{scope fsc:Scope}(XN Nc:List Str)(n:Nat)(caps:List Nat)(hxe:X.xe=fun _ _=>False)(hcalm:X.calm=true)(hi:LI X tg iter It')
    (hbody:∀ (cl:List (Str×Addr)) (C:Addr) (s₀:Shared) (H₀:Hp) (ex:List Addr),LGc (cf X scope Nc cl C s₀ H₀ ex) n tg G∧zG (cf X scope Nc cl C s₀ H₀ ex) ifs Tt∧LE (cf X scope Nc cl C s₀ H₀ ex) elt Te)
    (hsc:X.env.scope=fsc) (hXN:X.N=XN) (hok:pF fsc.names XN scope Nc n caps=true)
    (hs:∀ x,foldedSetIterable iter X.env x=pure x:=by intro _;rfl) :
    LE X (.ListComp elt [⟨tg,iter,ifs,0⟩] scope pos) (qj It' G Tt Te n caps):=by
  unfold pF at hok
  simp only[Bool.and_eq_true,List.all_eq_true] at hok
  obtain ⟨⟨⟨h1,h2⟩,h3⟩,h4⟩:=hok
  obtain ⟨wi,pi,si⟩:=hi.ex
  refine ⟨_,xj (g:=wx X.K n G) (tt:=liftT X.K Tt) (te:=xb X.K Te) hxe hcalm pi (fun cl C s₀ H₀ ex=>let ⟨h1,h2,h3⟩:=hbody cl C s₀ H₀ ex;⟨h1.pe,h2.pe,h3.pe⟩) (fun y hy hf=>?_) (fun y hy hf=>?_) (by simpa using h2) (fun y hy hf=>?_) (by simpa using h3) (fun j k hj=>?_) hs,yF si⟩
  · have:=(h1 y hy).1.1
    show X.env.scope.names.lookup y.1=_
    rw[hsc]
    simpa[hf] using this
  · have:=(h1 y hy).1.2
    simp[hf] at this
  · have:=(h1 y hy).2
    simpa[hf] using this
  · have hl:j < caps.length:=(List.getElem?_eq_some_iff.mp hj).1
    have:=h4 j (List.mem_range.mpr hl)
    rw[hj] at this
    dsimp only at this
    rw[hXN]
    cases e:XN[k]? with
    | none=>rw[e] at this;cases this
    | some x=>
      rw[e] at this
      dsimp only at this
      rw[Bool.and_eq_true] at this
      exact ⟨x,by simpa using this.1,rfl,by simpa using this.2⟩
end
structure Bp (μ:Mu) (b c:Addr):Prop where
  ne:b≠c
  ex:∃ (ns:List Int) (s:Int),μ b=some (.lst [.obj c,.int s])∧μ c=some (.lst (ns.map .int))
structure c8 (b c:Addr) (μ μ':Mu):Prop where
  p:Bp μ' b c
  o:∀ a,a≠b→a≠c→μ' a=μ a
theorem c8.trans {b c:Addr}{μ μ1 μ2:Mu}(h:c8 b c μ μ1)(k:c8 b c μ1 μ2):c8 b c μ μ2:=⟨k.p,fun a h1 h2=>(k.o a h1 h2).trans (h.o a h1 h2)⟩
theorem Bp.nb {μ:Mu}{b c a:Addr}(h:Bp μ b c)(e:μ a=none):a≠b∧a≠c:=by
  obtain ⟨_,ns,s,e1,e2⟩:=h
  exact ⟨(fun z=>by subst z;rw[e1] at e;cases e),(fun z=>by subst z;rw[e2] at e;cases e)⟩
theorem Bp.up {μ:Mu}{b c a:Addr}{o:MO}(h:Bp μ b c)(n:a≠b∧a≠c):Bp (up μ a o) b c:=by
  obtain ⟨ne,ns,s,e1,e2⟩:=h
  exact ⟨ne,ns,s,by rw[aY n.1.symm];exact e1,by rw[aY n.2.symm];exact e2⟩
theorem c8.old {b c a:Addr}{μ μ':Mu}{o:MO}(h:c8 b c μ μ')(hB:Bp μ b c)(n1:a≠b)(n2:a≠c)(e:μ a=some o):μ' a=some o:=(h.o a n1 n2).trans e
section
variable {G:GTr} {tt:TTr} {te:ETr} {ρc:ST} {ds:List D} {μ:Mu} {Q:DK} {b c:Addr}
theorem qE (hP:Bp μ b c)(I:List D→List D→Prop)(h0:I ds [])(hl:ds.length≤999999)
    (step:∀ d r zs μ',Bp μ' b c→(∀ a o,a≠b→a≠c→μ a=some o→μ' a=some o)→I (d::r) zs→∀ (N:Option D→Mu→Prop),(∀ oy μ2,I r (zs++oy.toList)→c8 b c μ' μ2→N oy μ2)→G d ρc μ' fun ρ1 μ1=>tt ρ1 μ1 fun c μ2=>kIf c (te ρ1 μ2 fun y μ3=>N (some y) μ3) (N none μ2))
    (k:∀ zs μ',I [] zs→c8 b c μ μ'→Q (.ls zs) μ'):BU G tt te ρc ds μ Q:=by
  intro p hp
  have pb:=hP.nb hp
  refine fU (fun r μ'=>∃ zs,I r zs∧zs.length+r.length≤ds.length∧μ' p=some (.lst zs)∧Bp μ' b c∧∀ a,a≠b→a≠c→a≠p→μ' a=μ a) ?_ ?_ _ _ ⟨[],h0,by simp,aJ,hP.up pb,fun a _ _ h=>aY h⟩
  · rintro μ' ⟨zs,hI,_,e,P,fr⟩
    refine cv e (k zs _ hI ⟨?_,fun a h1 h2=>?_⟩)
    · obtain ⟨ne,ns,s,e1,e2⟩:=P
      exact ⟨ne,ns,s,by unfold dn;rw[if_neg pb.1.symm];exact e1,by unfold dn;rw[if_neg pb.2.symm];exact e2⟩
    · unfold dn
      split
      · rename_i z;subst z;exact hp.symm
      · rename_i z;exact fr a h1 h2 z
  · rintro d r μ' N ⟨zs,hI,hz,e,P,fr⟩ hN
    rw[List.length_cons] at hz
    refine step d r zs μ' P (fun a o n1 n2 h=>?_) hI (fun oy μ3=>match oy with
      | some y=>kL μ3 p fun zs=>zs.length < 1000000∧N (up μ3 p (.lst (zs++[y])))
      | none=>N μ3) ?_
    · rw[fr a n1 n2 (fun z=>by subst z;rw[hp] at h;cases h)];exact h
    intro oy μ2 hoy P2
    have e2:μ2 p=some (.lst zs):=by rw[P2.o p pb.1 pb.2];exact e
    cases oy with
    | none=>exact hN _ ⟨zs,by simpa using hoy,by omega,e2,P2.p,fun a h1 h2 h3=>(P2.o a h1 h2).trans (fr a h1 h2 h3)⟩
    | some y=>
      refine cv e2 ⟨by omega,hN _ ⟨zs++[y],hoy,by rw[List.length_append];simp;omega,aJ,P2.p.up pb,fun a h1 h2 h3=>?_⟩⟩
      rw[aY h3,P2.o a h1 h2,fr a h1 h2 h3]
end
def soS (b:Bool):Str:=if b then Str.ofString "turns" else Str.ofString "line"
theorem Kz (b:Bool):PyData.strOk (soS b)=true:=by cases b<;>decide +kernel
theorem DB:PyData.strOk (Str.ofString "turns")=true:=by decide +kernel
theorem LK (b:Bool):decide (soS b=Str.ofString "turns")=b:=by cases b<;>decide +kernel
structure WB where
  nm:Str
  pc:Int
  rm:Int
  ma:D
  so:Bool
def WB.toD (w:WB):D:=.tup [.str w.nm,.int w.pc,.int w.rm,w.ma,.str (soS w.so)]
structure WB.Ok (w:WB):Prop where
  n:PyData.strOk w.nm=true
  p0:1≤w.pc
  p1:w.pc≤20
  r0:1≤w.rm
  r1:w.rm≤60
structure SB where
  nm:Str
  rd:List Str
  bt:Int
  bg:D
  mn:D
  ru:List D
  r:Int
  s:Int
def SB.rl (x:SB):D:=.tup (x.ru++[fr x.r x.s])
def SB.toD (x:SB):D:=.tup [.str x.nm,.tup (x.rd.map .str),.int x.bt,x.bg,x.mn,x.rl]
structure SB.Ok (x:SB):Prop where
  rd:∀ z∈x.rd,PyData.strOk z=true
  b0:1≤x.bt
  b1:x.bt≤8
  f:FrB 1 60 x.r x.s
  l:x.rd.length≤100
def SB.lim (x:SB):Int:=x.r / x.s
theorem SB.Ok.lim {x:SB}(h:x.Ok):1≤x.lim∧x.lim≤60:=by
  have q0:=h.f.q0
  have h1:=h.f.ge
  have h2:=h.f.le
  exact ⟨(Int.le_ediv_iff_mul_le q0).mpr h1,Int.ediv_le_of_le_mul q0 h2⟩
structure PB (ws:List WB) (ss:List SB):Prop where
  w:∀ x∈ws,x.Ok
  s:∀ x∈ss,x.Ok
  rd:∀ x∈ss,x.rd.Sublist (ws.map WB.nm)
  wn:(ws.map WB.nm).Nodup
  wl:ws.length≤6
  sl:ss.length≤8
def plB (g:D)(ws:List WB)(ss:List SB):D:=.tup [g,.tup (ws.map WB.toD),.tup (ss.map SB.toD)]
section
variable (w:WB) (x:SB) (g:D) (ws:List WB) (ss:List SB) (μ:Mu) (Q:DK)
theorem Ld:L3.rIx w.toD (.int 0) μ Q=Q (.str w.nm) μ:=propext Iff.rfl
theorem LQ:L3.rIx w.toD (.int 1) μ Q=Q (.int w.pc) μ:=propext Iff.rfl
theorem Lp:L3.rIx w.toD (.int 2) μ Q=Q (.int w.rm) μ:=propext Iff.rfl
theorem Lj:L3.rIx w.toD (.int 4) μ Q=Q (.str (soS w.so)) μ:=propext Iff.rfl
theorem LL:L3.rIx x.toD (.int 1) μ Q=Q (.tup (x.rd.map .str)) μ:=propext Iff.rfl
theorem Lc:L3.rIx x.toD (.int 2) μ Q=Q (.int x.bt) μ:=propext Iff.rfl
theorem Lv:L3.rIx x.toD (.int 5) μ Q=Q x.rl μ:=propext Iff.rfl
theorem Li:L3.rIx (plB g ws ss) (.int 1) μ Q=Q (.tup (ws.map WB.toD)) μ:=propext Iff.rfl
theorem Ln:L3.rIx (plB g ws ss) (.int 2) μ Q=Q (.tup (ss.map SB.toD)) μ:=propext Iff.rfl
theorem JU:L3.rIx x.rl (.int (-1)) μ Q=Q (fr x.r x.s) μ:=by
  show kO (atD (x.ru++[fr x.r x.s]) (-1)) (fun d=>Q d μ)=_
  rw[AM (d:=fr x.r x.s) (by simp) (by simp)]
  rfl
end
def onB (n:Str)(ss:List SB):List SB:=ss.filter fun x=>decide (n∈x.rd)
def frn (n:Str)(rd:List Str):List Str:=rd.take (rd.findIdx fun x=>decide (x=n))
theorem qG {n:Str}{rest:List Str}:∀ {dn rd:List Str},(dn++n::rest).Nodup→rd.Sublist (dn++n::rest)→n∈rd→∀ x∈frn n rd,x∈dn
  | [],rd,nd,sb,hn,x,hx=>by
    cases sb with
    | cons _ h=>exact absurd (h.subset hn) (List.nodup_cons.mp nd).1
    | cons_cons _ h=>simp[frn,List.findIdx_cons] at hx
  | d::dn,rd,nd,sb,hn,x,hx=>by
    obtain ⟨n1,n2⟩:=List.nodup_cons.mp nd
    cases sb with
    | cons _ h=>exact List.mem_cons_of_mem _ (qG n2 h hn x hx)
    | cons_cons _ h=>
      rename_i r
      have dn':d≠n:=fun z=>n1 (by rw[z];simp)
      have hr:n∈r:=(List.mem_cons.mp hn).resolve_left fun z=>dn' z.symm
      have e:frn n (d::r)=d::frn n r:=by
        unfold frn
        rw[List.findIdx_cons]
        simp[dn']
      rw[e] at hx
      rcases List.mem_cons.mp hx with rfl | z
      · exact List.mem_cons_self
      · exact List.mem_cons_of_mem _ (qG n2 h hr x z)
theorem Cc {n:Str}{rd:List Str}(h:n∈rd):yG (rd.map .str) (.str n)=some (rd.findIdx fun x=>decide (x=n)):=by
  have hl:rd.findIdx (fun x=>decide (x=n)) < rd.length:=List.findIdx_lt_length_of_exists ⟨n,h,by simp⟩
  unfold yG
  induction rd with
  | nil=>cases h
  | cons x r ih=>
    rw[List.map_cons,List.findIdx?_cons,List.findIdx_cons]
    by_cases e:x=n
    · simp[e,eqD]
    · have hr:n∈r:=(List.mem_cons.mp h).resolve_left fun z=>e z.symm
      have:=ih hr (List.findIdx_lt_length_of_exists ⟨n,hr,by simp⟩)
      have ne:eqD (.str x) (.str n)=false:=by simp[eqD,e]
      rw[ne,this]
      simp[e]
abbrev WF:=Str→Int
def qi (W:WF)(n:Str)(v:Int):WF:=fun x=>if x=n then v else W x
def ahd (W:WF)(n:Str)(x:SB):Int:=((frn n x.rd).map W).sum
def cmb (W:WF)(n:Str)(k:Int)(x:SB):Int:=x.lim*((k+ahd W n x+x.bt - 1) / x.bt)
def com (W:WF)(n:Str)(l:List SB)(k:Int):Int:=(l.map (cmb W n k)).sum
def W0 (W:WF):Prop:=∀ n,0≤W n
theorem W0.set {W:WF}(h:W0 W){n:Str}{v:Int}(hv:0≤v):W0 (qi W n v):=fun x=>by
  unfold qi
  split
  · exact hv
  · exact h x
theorem vQ:∀ {l:List Int},(∀ x∈l,0≤x)→0≤l.sum
  | [],_=>by simp
  | x::r,h=>by
    rw[List.sum_cons]
    have:=h x List.mem_cons_self
    have:=vQ fun y hy=>h y (List.mem_cons_of_mem x hy)
    omega
theorem zh {W:WF}(h:W0 W)(n:Str)(x:SB):0≤ahd W n x:=vQ fun v hv=>by
  obtain ⟨y,_,rfl⟩:=List.mem_map.mp hv
  exact h y
theorem zC {W:WF}(h:W0 W){n:Str}{l:List SB}(hl:∀ x∈l,x.Ok){k:Int}(k0:0≤k):0≤com W n l k:=vQ fun v hv=>by
  obtain ⟨x,hx,rfl⟩:=List.mem_map.mp hv
  have X:=hl x hx
  have b0:=X.b0
  have l0:=X.lim.1
  have a0:=zh h n x
  exact Int.mul_nonneg (by omega) (Int.ediv_nonneg (by omega) (by omega))
def ld (l:List SB):Int:=(l.map fun x=>x.lim*(840 / x.bt)).sum
theorem Ci {b:Int}(h0:1≤b)(h1:b≤8):840 / b*b=840∧b ∣ 840:=by
  have:b=1∨b=2∨b=3∨b=4∨b=5∨b=6∨b=7∨b=8:=by omega
  rcases this with rfl | rfl | rfl | rfl | rfl | rfl | rfl | rfl<;>exact ⟨by decide,by decide⟩
def rdN (R:Nat)(l:List SB):Nat:=l.foldl (fun r x=>Nat.lcm r x.bt.toNat) R
theorem xp:∀ {l:List SB} {R:Nat},(∀ x∈l,x.Ok)→R ∣ 840→0 < R→rdN R l ∣ 840∧0 < rdN R l∧R ∣ rdN R l∧(∀ x∈l,x.bt.toNat ∣ rdN R l)∧∀ m,R ∣ m→(∀ x∈l,x.bt.toNat ∣ m)→rdN R l ∣ m
  | [],R,_,h,h0=>⟨h,h0,Nat.dvd_refl _,(fun _ z=>nomatch z),fun m hm _=>hm⟩
  | x::r,R,hl,h,h0=>by
    have X:=hl x List.mem_cons_self
    have b0:=X.b0
    have d:x.bt.toNat ∣ 840:=by
      have:=(Ci X.b0 X.b1).2
      have e:((x.bt.toNat:Nat):Int)=x.bt:=by omega
      rw[← e] at this
      exact Int.natCast_dvd_natCast.mp this
    have p:0 < Nat.lcm R x.bt.toNat:=Nat.lcm_pos h0 (by omega)
    obtain ⟨i1,i2,i3,i4,i5⟩:=xp (l:=r) (R:=Nat.lcm R x.bt.toNat) (fun y hy=>hl y (List.mem_cons_of_mem _ hy)) (Nat.lcm_dvd h d) p
    refine ⟨i1,i2,Nat.dvd_trans (Nat.dvd_lcm_left _ _) i3,fun y hy=>?_,fun m hm hd=>i5 m (Nat.lcm_dvd hm (hd x List.mem_cons_self)) fun y hy=>hd y (List.mem_cons_of_mem _ hy)⟩
    rcases List.mem_cons.mp hy with rfl | z
    · exact Nat.dvd_trans (Nat.dvd_lcm_right _ _) i3
    · exact i4 y z
theorem z6 {R:Nat}{b:Int}(h0:0 < R)(hb:1≤b):(R:Int).fdiv (Int.gcd (R:Int) b)*b=((Nat.lcm R b.toNat:Nat):Int):=by
  have e:((b.toNat:Nat):Int)=b:=by omega
  have g:Int.gcd (R:Int) b=Nat.gcd R b.toNat:=by rw[← e];rfl
  have gp:0 < Nat.gcd R b.toNat:=Nat.gcd_pos_of_pos_left _ h0
  rw[g,fO (by omega),← Int.natCast_ediv]
  have e3:((R / Nat.gcd R b.toNat:Nat):Int)*b=((R / Nat.gcd R b.toNat*b.toNat:Nat):Int):=by rw[Int.natCast_mul,e]
  rw[e3]
  congr 1
  unfold Nat.lcm
  obtain ⟨q,hq⟩:=Nat.gcd_dvd_left R b.toNat
  clear g e3
  generalize Nat.gcd R b.toNat=G at *
  subst hq
  rw[Nat.mul_div_cancel_left q gp,Nat.mul_assoc,Nat.mul_div_cancel_left _ gp]
def mx (l:List Int):Int:=l.foldl max 0
theorem ix:∀ (l:List Int) (a:Int),(l.foldl max a=a∨l.foldl max a∈l)∧a≤l.foldl max a∧∀ x∈l,x≤l.foldl max a
  | [],a=>⟨.inl rfl,Int.le_refl _,fun _ h=>nomatch h⟩
  | x::r,a=>by
    obtain ⟨i1,i2,i3⟩:=ix r (max a x)
    rw[List.foldl_cons]
    refine ⟨?_,by omega,fun y hy=>?_⟩
    · rcases i1 with e | e
      · rw[e]
        rcases Int.le_total a x with z | z
        · right;rw[Int.max_eq_right z];exact List.mem_cons_self
        · left;exact Int.max_eq_left z
      · exact .inr (List.mem_cons_of_mem _ e)
    · rcases List.mem_cons.mp hy with rfl | z
      · omega
      · exact i3 y z
theorem JH {l:List Int}{M:Int}(h:M=0∨M∈l)(h0:0≤M)(hl:∀ a∈l,a≤M):M=mx l:=by
  obtain ⟨i1,i2,i3⟩:=ix l 0
  unfold mx
  refine Int.le_antisymm ?_ ?_
  · rcases h with rfl | h
    · exact i2
    · exact i3 M h
  · rcases i1 with e | e
    · rw[e];exact h0
    · exact hl _ e
def pkL (W:WF)(w:WB)(l:List SB):List Int:=(List.range (rdN 1 l)).map fun (i:Nat)=>com W w.nm l (1+(i:Int)) - w.pc*(1+(i:Int) - 1)
def pk (W:WF)(w:WB)(l:List SB):Int:=mx (pkL W w l)
theorem KI {W:WF}{w:WB}{l:List SB}:0≤pk W w l:=(ix _ 0).2.1
def inP (w:WB)(l:List SB):Bool:=decide (ld l≤840*w.pc)
def most (W:WF)(w:WB)(l:List SB):Int:=if inP w l then min w.rm (pk W w l) else w.rm
def fc (W:WF)(w:WB)(l:List SB):Bool:=inP w l&&decide (pk W w l≤w.rm)
def d9 (w:WB)(l:List SB)(m:Int):Int:=if w.so then min w.rm m*l.length else min w.rm m
def plc (w:WB)(l:List SB)(m:Int):Int:=max 0 ((d9 w l m+w.pc - 1) / w.pc - 1)
def j9 (W:WF)(w:WB)(l:List SB)(k:Int):Bool:=decide (com W w.nm l (k+1)≤w.pc*(k+1))
def isW (W:WF)(w:WB)(l:List SB)(m k:Int):Bool:=decide (l=[]) || (decide (plc w l m≤k) || j9 W w l k)
def CS (W:WF)(w:WB)(l:List SB)(n:Nat):List Int:=((List.range n).filter fun (k:Nat)=>j9 W w l k).map fun (k:Nat)=>(k:Int)
def wt (W:WF)(w:WB)(l:List SB)(m:Int):Int:=(CS W w l (plc w l m).toNat).headD (plc w l m)
theorem Bj (w:WB)(l:List SB)(m:Int):0≤plc w l m:=by unfold plc;omega
theorem yM {p:Nat→Bool}:∀ {n j:Nat},j < n→p j=true→(∀ i < j,p i=false)→∃ r,(List.range n).filter p=j::r:=by
  intro n j hj pj hi
  obtain ⟨k,rfl⟩:=Nat.exists_eq_add_of_le (show j+1≤n from hj)
  have e:List.range (j+1+k)=List.range j++j::(List.range k).map (fun i=>j+1+i):=by
    rw[List.range_add,List.range_succ,List.append_assoc];rfl
  have z:(List.range j).filter p=[]:=List.filter_eq_nil_iff.mpr fun i hi' q=>by
    rw[hi i (List.mem_range.mp hi')] at q;cases q
  rw[e,List.filter_append,z,List.filter_cons,if_pos pj]
  exact ⟨_,rfl⟩
theorem Ja {W:WF}{w:WB}{l:List SB}{m:Int}{j:Nat}(p0:1≤w.pc)(h:isW W w l m j=true)(hi:∀ i:Nat,i < j→isW W w l m i=false):wt W w l m=j:=by
  have pn:=Bj w l m
  have early:∀ i:Nat,i < j→l≠[]∧(i:Int) < plc w l m∧j9 W w l i=false:=fun i hij=>by
    have:=hi i hij
    unfold isW at this
    simp only[Bool.or_eq_false_iff,decide_eq_false_iff_not] at this
    exact ⟨this.1,by omega,this.2.2⟩
  have jle:(j:Int)≤plc w l m:=by
    cases j with
    | zero=>exact pn
    | succ j=>have:=(early j (by omega)).2.1;omega
  unfold wt CS
  by_cases e:(j:Int)=plc w l m
  · have z:(List.range (plc w l m).toNat).filter (fun (k:Nat)=>j9 W w l k)=[]:=List.filter_eq_nil_iff.mpr fun i hi' q=>by
      have:=List.mem_range.mp hi'
      rw[(early i (by omega)).2.2] at q;cases q
    rw[z,← e];rfl
  · have fj:j9 W w l j=true:=by
      unfold isW at h
      simp only[Bool.or_eq_true,decide_eq_true_eq] at h
      rcases h with h | h | h
      · subst h
        have j0:j=0:=by
          cases j with
          | zero=>rfl
          | succ j=>exact absurd rfl (early j (by omega)).1
        subst j0
        unfold j9 com
        exact decide_eq_true (by simp;omega)
      · omega
      · exact h
    obtain ⟨r,er⟩:=yM (p:=fun k:Nat=>j9 W w l k) (n:=(plc w l m).toNat) (j:=j) (by omega) fj fun i hij=>(early i hij).2.2
    rw[er];rfl
def Et (W:WF)(ss:List SB)(w:WB):D:=.tup [.str w.nm,.int (most W w (onB w.nm ss)),.int (wt W w (onB w.nm ss) (most W w (onB w.nm ss))),.bl (fc W w (onB w.nm ss))]
def nxW (W:WF)(ss:List SB)(w:WB):WF:=qi W w.nm (wt W w (onB w.nm ss) (most W w (onB w.nm ss)))
def gw (ss:List SB):WF→List WB→List D
  | _,[]=>[]
  | W,w::r=>Et W ss w::gw ss (nxW W ss w) r
theorem zS (W:WF)(w:WB)(l:List SB)(m:Int):0≤wt W w l m:=by
  unfold wt CS
  cases h:(List.range (plc w l m).toNat).filter fun (k:Nat)=>j9 W w l k with
  | nil=>exact Bj w l m
  | cons k r=>show (0:Int)≤(k:Int);omega
def rC (tab:List (L2.Key×D))(W:WF)(ns:List Str):Prop:=∀ n∈ns,cI tab (.inr n)=some (.int (W n))
theorem rC.put {tab:List (L2.Key×D)}{W:WF}{ns:List Str}(T:rC tab W ns)(n:Str)(v:Int):rC (putD tab (.inr n) (.int v)) (qi W n v) (ns++[n]):=fun x hx=>by
  rw[oi]
  unfold qi
  by_cases e:x=n
  · rw[if_pos (by rw[e]),if_pos e]
  · rw[if_neg (fun z=>e (by injection z)),if_neg e]
    rcases List.mem_append.mp hx with z | z
    · exact T x z
    · exact absurd (List.mem_singleton.mp z) e
structure LB (n:Str) (l:List SB) (W:WF) (tab:List (L2.Key×D)):Prop where
  o:∀ x∈l,x.Ok
  on:∀ x∈l,n∈x.rd
  t:∀ x∈l,rC tab W (frn n x.rd)
  len:l.length≤8
  n:PyData.strOk n=true
theorem jt {n:Str}{ss:List SB}{x:SB}:x∈onB n ss↔x∈ss∧n∈x.rd:=by unfold onB;rw[List.mem_filter,decide_eq_true_eq]
theorem CF (n:Str)(ss:List SB):(onB n ss).length≤ss.length:=List.length_filter_le _ _
theorem PB.lb {ws:List WB}{ss:List SB}{dn rs:List WB}{w:WB}{W:WF}{tab:List (L2.Key×D)}(P:PB ws ss)(e:dn++w::rs=ws)(T:rC tab W (dn.map WB.nm)):LB w.nm (onB w.nm ss) W tab:=by
  have hw:w∈ws:=by rw[← e];simp
  have nd:=P.wn
  rw[← e,List.map_append,List.map_cons] at nd
  refine ⟨fun x hx=>P.s x (jt.mp hx).1,fun x hx=>(jt.mp hx).2,fun x hx n hn=>T n ?_,Nat.le_trans (CF _ _) P.sl,(P.w w hw).n⟩
  have sb:=P.rd x (jt.mp hx).1
  rw[← e,List.map_append,List.map_cons] at sb
  exact qG nd sb (jt.mp hx).2 n hn
section
open PySem PySem.Spec PyProof.Rows L2
end
section
open PySem PySem.Spec PyProof.Rows L2
def k3 (ds:List D)(f:D→D→D→Prop):Prop:=match ds with
  | [u,v,w]=>f u v w
  | _=>False
end
def wz:WF:=fun _=>0
theorem wz0:W0 wz:=fun _=>Int.le_refl _
theorem E9 {W:WF}(h:W0 W)(ss:List SB)(w:WB):W0 (nxW W ss w):=h.set (zS _ _ _ _)
theorem wq (W:WF){w:WB}(K:w.Ok){l:List SB}:0≤most W w l:=by
  have:=K.r0
  have:=KI (W:=W) (w:=w) (l:=l)
  unfold most
  split<;>omega
structure RB where
  nm:Str
  mo:Int
  wa:Int
  no:Bool
def RB.toD (r:RB):D:=.tup [.str r.nm,.int r.mo,.int r.wa,.bl r.no]
section
variable (r:RB) (μ:Mu) (Q:DK)
theorem K2:L3.rIx r.toD (.int 0) μ Q=Q (.str r.nm) μ:=propext Iff.rfl
theorem K7:L3.rIx r.toD (.int 1) μ Q=Q (.int r.mo) μ:=propext Iff.rfl
theorem Ll:L3.rIx r.toD (.int 2) μ Q=Q (.int r.wa) μ:=propext Iff.rfl
theorem LD:L3.rIx r.toD (.int 3) μ Q=Q (.bl r.no) μ:=propext Iff.rfl
end
def rgt (W:WF)(ss:List SB)(w:WB)(r:RB):Bool:=!decide (r.mo < most W w (onB w.nm ss))&&(isW W w (onB w.nm ss) r.mo r.wa&&(!r.no || fc W w (onB w.nm ss)))
def yV (ss:List SB):WF→List (WB×RB)→Bool
  | _,[]=>true
  | W,p::ps=>rgt W ss p.1 p.2&&yV ss (qi W p.1.nm p.2.wa) ps
theorem GG {W V:WF}{n:Str}{l:List SB}(h:∀ x∈l,∀ m∈frn n x.rd,W m=V m)(k:Int):com W n l k=com V n l k:=by
  unfold com
  congr 1
  refine List.map_congr_left fun x hx=>?_
  unfold cmb
  have:ahd W n x=ahd V n x:=by
    unfold ahd
    congr 1
    exact List.map_congr_left (h x hx)
  rw[this]
theorem Ey {W V:WF}{w:WB}{l:List SB}(e:∀ k,com W w.nm l k=com V w.nm l k):most W w l=most V w l∧fc W w l=fc V w l∧(∀ m k,isW W w l m k=isW V w l m k)∧pk W w l=pk V w l:=by
  have e2:pk W w l=pk V w l:=by unfold pk pkL;simp only[e]
  refine ⟨by unfold most;rw[e2],by unfold fc;rw[e2],fun m k=>by unfold isW j9;rw[e],e2⟩
theorem HI {W V:WF}{ss:List SB}{w:WB}{r:RB}(h:∀ x∈onB w.nm ss,∀ m∈frn w.nm x.rd,W m=V m):rgt W ss w r=rgt V ss w r:=by
  obtain ⟨h1,h2,h3,_⟩:=Ey (w:=w) (GG h)
  unfold rgt
  rw[h1,h2,h3]
theorem vX {ws:List WB}{ss:List SB}(P:PB ws ss)(V:WF):∀ (qs ps:List (WB×RB)) (W:WF),(ps++qs).map (·.1)=ws→(∀ p∈ps++qs,V p.1.nm=p.2.wa)→(∀ p∈ps,W p.1.nm=p.2.wa)→yV ss W qs=qs.all fun p=>rgt V ss p.1 p.2
  | [],_,_,_,_,_=>rfl
  | q::qs,ps,W,e,hV,hW=>by
    have nd:=P.wn
    rw[← e] at nd
    simp only[List.map_append,List.map_cons,List.map_map] at nd
    have e1:rgt W ss q.1 q.2=rgt V ss q.1 q.2:=HI fun x hx m hm=>by
      have sb:=P.rd x (jt.mp hx).1
      rw[← e] at sb
      simp only[List.map_append,List.map_cons,List.map_map] at sb
      obtain ⟨p,hp,rfl⟩:=List.mem_map.mp (qG nd sb (jt.mp hx).2 m hm)
      exact (hW p hp).trans (hV p (List.mem_append_left _ hp)).symm
    show (rgt W ss q.1 q.2&&yV ss _ qs)=_
    rw[e1,vX P V qs (ps++[q]) _ (by rw[← e];simp) (fun p hp=>hV p (by simpa using hp)) fun p hp=>?_]
    · rfl
    · unfold qi
      rcases List.mem_append.mp hp with (h | h)
      · rw[if_neg (fun z=>?_)]
        · exact hW p h
        · have:=(List.nodup_append.mp nd).2.2 _ (List.mem_map.mpr ⟨p,h,rfl⟩) _ List.mem_cons_self
          exact this z
      · rw[List.mem_singleton.mp h,if_pos rfl]
def wOf (rs:List RB):WF:=fun n=>((rs.find? fun r=>decide (r.nm=n)).map RB.wa).getD 0
theorem zY:∀ {rs:List RB},(rs.map RB.nm).Nodup→∀ r∈rs,wOf rs r.nm=r.wa
  | [],_,r,h=>nomatch h
  | r0::rs,nd,r,h=>by
    rw[List.map_cons] at nd
    have ⟨n1,n2⟩:=List.nodup_cons.mp nd
    unfold wOf
    rw[List.find?_cons]
    rcases List.mem_cons.mp h with (rfl | h)
    · simp
    · have:r0.nm≠r.nm:=fun z=>n1 (by rw[z];exact List.mem_map.mpr ⟨r,h,rfl⟩)
      simp only[decide_eq_false this]
      exact zY n2 r h
theorem Iq {rs:List RB}(h:∀ r∈rs,0≤r.wa):W0 (wOf rs):=fun n=>by
  unfold wOf
  cases e:rs.find? fun r=>decide (r.nm=n) with
  | none=>exact Int.le_refl _
  | some r=>exact h r (List.mem_of_find?_eq_some e)
theorem Jk {α β:Type}(f:α→D)(g:β→D)(xs:List α)(ys:List β):List.zipWith (fun d e=>D.tup [d,e]) (xs.map f) (ys.map g)=(List.zip xs ys).map fun y=>.tup [f y.1,g y.2]:=by
  induction xs generalizing ys with
  | nil=>rfl
  | cons x xs ih=>cases ys with
    | nil=>rfl
    | cons y ys=>simp only[List.map_cons,List.zipWith_cons_cons,List.zip_cons_cons,ih]
def vT (rs:List RB):List (L2.Key×D):=rs.map fun r=>(.inr r.nm,.int r.wa)
theorem v8:∀ (rs:List RB) (kvs:List (L2.Key×D)) (n:Str),(rs.map RB.nm).Nodup→cI (fC kvs (vT rs)) (.inr n)=if n∈rs.map RB.nm then some (.int (wOf rs n)) else cI kvs (.inr n)
  | [],kvs,n,_=>by simp[vT,fC]
  | r::rs,kvs,n,nd=>by
    rw[List.map_cons] at nd
    have ⟨n1,n2⟩:=List.nodup_cons.mp nd
    show cI (fC (putD kvs (.inr r.nm) (.int r.wa)) (vT rs)) (.inr n)=_
    rw[v8 rs _ n n2,oi]
    unfold wOf
    rw[List.find?_cons,List.map_cons]
    by_cases e:n=r.nm
    · subst e
      rw[if_neg n1,if_pos rfl,if_pos List.mem_cons_self]
      simp
    · have e':¬ r.nm=n:=fun z=>e z.symm
      simp only[decide_eq_false e',List.mem_cons,e,false_or]
      split
      · rfl
      · rw[if_neg (fun z=>e (by injection z))]
theorem G1 (rs:List RB)(nd:(rs.map RB.nm).Nodup):rC (fC [] (vT rs)) (wOf rs) (rs.map RB.nm):=fun n hn=>by
  rw[v8 rs [] n nd,if_pos hn]
inductive F2 {α β:Type} (R:α→β→Prop):List α→List β→Prop
  | nil:F2 R [] []
  | cons {a b l m}:R a b→F2 R l m→F2 R (a::l) (b::m)
structure WB.Le (v w:WB):Prop where
  n:v.nm=w.nm
  p:w.pc≤v.pc
  r:v.rm=w.rm
  s:v.so=w.so
structure SB.Le (y x:SB):Prop where
  rd:y.rd=x.rd
  b:y.bt=x.bt
  l:y.lim≤x.lim
inductive LsS:List SB→List SB→Prop
  | nil:LsS [] []
  | skip {x l l'}:LsS l' l→LsS l' (x::l)
  | keep {x y l l'}:SB.Le y x→LsS l' l→LsS (y::l') (x::l)
theorem SB.Le.refl (x:SB):SB.Le x x:=⟨rfl,rfl,Int.le_refl _⟩
theorem LsS.refl:∀ l:List SB,LsS l l
  | []=>.nil
  | x::r=>.keep (.refl x) (LsS.refl r)
theorem LsS.on {n:Str}{l' l:List SB}(h:LsS l' l):LsS (onB n l') (onB n l):=by
  induction h with
  | nil=>exact .nil
  | @skip x l l' _ ih=>
    unfold onB at *
    rw[List.filter_cons]
    split
    · exact .skip ih
    · exact ih
  | @keep x y l l' e _ ih=>
    unfold onB at *
    rw[List.filter_cons,List.filter_cons,e.rd]
    split
    · exact .keep e ih
    · exact ih
theorem LsS.len {l' l:List SB}(h:LsS l' l):l'.length≤l.length:=by
  induction h with
  | nil=>exact Nat.le_refl _
  | skip _ ih=>rw[List.length_cons];omega
  | keep _ _ ih=>rw[List.length_cons,List.length_cons];omega
theorem LsS.trans {a b:List SB}(h:LsS a b):∀ {c:List SB},LsS b c→LsS a c:=by
  intro c k
  induction k generalizing a with
  | nil=>exact h
  | skip _ ih=>exact .skip (ih h)
  | keep e k' ih=>cases h with
    | skip h'=>exact .skip (ih h')
    | keep e' h'=>exact .keep ⟨e'.rd.trans e.rd,e'.b.trans e.b,Int.le_trans e'.l e.l⟩ (ih h')
theorem Ib {W' W:WF}(h:∀ n,W' n≤W n)(n:Str){y x:SB}(e:y.rd=x.rd):ahd W' n y≤ahd W n x:=by
  unfold ahd
  rw[e]
  induction frn n x.rd with
  | nil=>exact Int.le_refl _
  | cons a r ih=>
    rw[List.map_cons,List.map_cons,List.sum_cons,List.sum_cons]
    have:=h a
    omega
theorem GP {W' W:WF}(h0:W0 W')(h:∀ n,W' n≤W n)(n:Str){k:Int}(k0:0≤k){y x:SB}(Y:y.Ok)(e:SB.Le y x):cmb W' n k y≤cmb W n k x:=by
  unfold cmb
  have b0:=Y.b0
  have l0:=Y.lim.1
  have a0:=zh h0 n y
  have a1:=Ib h n e.rd
  rw[← e.b]
  have d1:(k+ahd W' n y+y.bt - 1) / y.bt≤(k+ahd W n x+y.bt - 1) / y.bt:=Int.ediv_le_ediv (by omega) (by omega)
  have d0:0≤(k+ahd W' n y+y.bt - 1) / y.bt:=Int.ediv_nonneg (by omega) (by omega)
  exact Int.mul_le_mul e.l d1 d0 (by have:=e.l;omega)
theorem y8 {W' W:WF}(h0:W0 W')(h:∀ n,W' n≤W n)(n:Str){k:Int}(k0:0≤k){l' l:List SB}(L:LsS l' l)(o':∀ x∈l',x.Ok)(o:∀ x∈l,x.Ok):com W' n l' k≤com W n l k:=by
  have cons:∀ (V:WF) (x:SB) (r:List SB),com V n (x::r) k=cmb V n k x+com V n r k:=fun V x r=>by unfold com;rw[List.map_cons,List.sum_cons]
  have w0:W0 W:=fun m=>Int.le_trans (h0 m) (h m)
  induction L with
  | nil=>exact Int.le_refl _
  | @skip x l l' _ ih=>
    rw[cons]
    have:=ih o' fun y hy=>o y (List.mem_cons_of_mem _ hy)
    have X:=o x List.mem_cons_self
    have:=zC w0 (n:=n) (l:=[x]) (fun y hy=>by rw[List.mem_singleton.mp hy];exact X) k0
    have e:com W n [x] k=cmb W n k x:=by unfold com;simp
    omega
  | @keep x y l l' e _ ih=>
    rw[cons,cons]
    have:=ih (fun y hy=>o' y (List.mem_cons_of_mem _ hy)) fun y hy=>o y (List.mem_cons_of_mem _ hy)
    have:=GP h0 h n k0 (o' y List.mem_cons_self) e
    omega
theorem Jc {l' l:List SB}(L:LsS l' l)(o':∀ x∈l',x.Ok)(o:∀ x∈l,x.Ok):ld l'≤ld l:=by
  have cons:∀ (x:SB) (r:List SB),ld (x::r)=x.lim*(840 / x.bt)+ld r:=fun x r=>by unfold ld;rw[List.map_cons,List.sum_cons]
  have nn:∀ x:SB,x.Ok→0≤840 / x.bt:=fun x X=>Int.ediv_nonneg (by decide) (by have:=X.b0;omega)
  induction L with
  | nil=>exact Int.le_refl _
  | @skip x l l' _ ih=>
    rw[cons]
    have:=ih o' fun y hy=>o y (List.mem_cons_of_mem _ hy)
    have X:=o x List.mem_cons_self
    have:=Int.mul_nonneg (show 0≤x.lim by have:=X.lim;omega) (nn x X)
    omega
  | @keep x y l l' e _ ih=>
    rw[cons,cons,e.b]
    have:=ih (fun y hy=>o' y (List.mem_cons_of_mem _ hy)) fun y hy=>o y (List.mem_cons_of_mem _ hy)
    have:=Int.mul_le_mul_of_nonneg_right e.l (nn x (o x List.mem_cons_self))
    omega
theorem LsS.mem {l' l:List SB}(L:LsS l' l):∀ y∈l',∃ x∈l,SB.Le y x:=by
  induction L with
  | nil=>intro y hy;cases hy
  | skip _ ih=>intro y hy;obtain ⟨x,hx,e⟩:=ih y hy;exact ⟨x,List.mem_cons_of_mem _ hx,e⟩
  | keep e _ ih=>
    intro y hy
    rcases List.mem_cons.mp hy with (rfl | z)
    · exact ⟨_,List.mem_cons_self,e⟩
    · obtain ⟨x,hx,e⟩:=ih y z;exact ⟨x,List.mem_cons_of_mem _ hx,e⟩
theorem Jx {l' l:List SB}(L:LsS l' l)(o':∀ x∈l',x.Ok)(o:∀ x∈l,x.Ok):rdN 1 l'≤rdN 1 l:=by
  obtain ⟨_,a2,_,a4,_⟩:=xp (l:=l) (R:=1) o (Nat.one_dvd _) (by decide)
  obtain ⟨_,_,_,_,b5⟩:=xp (l:=l') (R:=1) o' (Nat.one_dvd _) (by decide)
  refine Nat.le_of_dvd a2 (b5 _ (Nat.one_dvd _) fun y hy=>?_)
  obtain ⟨x,hx,e⟩:=L.mem y hy
  rw[e.b];exact a4 x hx
section
variable {W' W:WF} {v w:WB} {l' l:List SB} (h0:W0 W') (h:∀ n,W' n≤W n) (V:WB.Le v w) (Kv:v.Ok) (K:w.Ok) (L:LsS l' l) (o':∀ x∈l',x.Ok) (o:∀ x∈l,x.Ok)
include h0 h V L o' o
theorem EM:pk W' v l'≤pk W w l:=by
  obtain ⟨i1,i2,i3⟩:=ix (pkL W w l) 0
  obtain ⟨j1,j2,j3⟩:=ix (pkL W' v l') 0
  unfold pk mx
  rcases j1 with e | e
  · rw[e];exact i2
  · unfold pkL at e
    obtain ⟨i,hi,e⟩:=List.mem_map.mp e
    have hi:=List.mem_range.mp hi
    have hr:=Jx L o' o
    have c:=y8 h0 h v.nm (k:=1+(i:Int)) (by omega) L o' o
    have m:=i3 (com W w.nm l (1+(i:Int)) - w.pc*(1+(i:Int) - 1)) (List.mem_map.mpr ⟨i,List.mem_range.mpr (by omega),rfl⟩)
    have q:w.pc*(1+(i:Int) - 1)≤v.pc*(1+(i:Int) - 1):=Int.mul_le_mul_of_nonneg_right V.p (by omega)
    unfold pkL at *
    rw[← e]
    rw[V.n] at c ⊢
    omega
theorem AJ (e:inP w l=true):inP v l'=true:=by
  unfold inP at *
  have:=Jc L o' o
  have:=V.p
  have:=of_decide_eq_true e
  exact decide_eq_true (by omega)
theorem D1:most W' v l'≤most W w l:=by
  have p:=EM h0 h V L o' o
  have r:=V.r
  unfold most
  cases e:inP w l with
  | true=>
    rw[AJ h0 h V L o' o e]
    simp only[if_true]
    omega
  | false=>
    simp only[Bool.false_eq_true,if_false]
    split<;>omega
theorem none_le (e:fc W w l=true):fc W' v l'=true:=by
  have p:=EM h0 h V L o' o
  have r:=V.r
  unfold fc at *
  rw[Bool.and_eq_true] at *
  have:=of_decide_eq_true e.2
  exact ⟨AJ h0 h V L o' o e.1,decide_eq_true (by omega)⟩
include Kv K in
theorem GJ {m' m k:Int}(m0:0≤m')(hm:m'≤m)(k0:0≤k)(e:isW W w l m k=true):isW W' v l' m' k=true:=by
  have ll:=L.len
  unfold isW at *
  simp only[Bool.or_eq_true,decide_eq_true_eq] at *
  rcases e with e | e | e
  · left
    rw[e] at ll
    exact List.length_eq_zero_iff.mp (by simpa using ll)
  · right;left
    have p0:=K.p0
    have r0:=K.r0
    have vp:=V.p
    have s0:0≤d9 v l' m':=by
      unfold d9
      have:=V.r
      have a:0≤min v.rm m':=by omega
      split
      · exact Int.mul_nonneg a (by omega)
      · exact a
    have s1:d9 v l' m'≤d9 w l m:=by
      unfold d9
      rw[V.s,V.r]
      split
      · exact Int.mul_le_mul (by omega) (by omega) (by omega) (by omega)
      · omega
    have:(d9 v l' m'+v.pc - 1) / v.pc≤(d9 w l m+w.pc - 1) / w.pc:=by
      have nn:0≤(d9 w l m+w.pc - 1) / w.pc:=Int.ediv_nonneg (by omega) (by omega)
      have up:d9 w l m≤(d9 w l m+w.pc - 1) / w.pc*w.pc:=by
        have:=Int.emod_add_mul_ediv (d9 w l m+w.pc - 1) w.pc
        have:=Int.emod_lt_of_pos (d9 w l m+w.pc - 1) (show 0 < w.pc by omega)
        rw[Int.mul_comm]
        omega
      have q:=Int.mul_le_mul_of_nonneg_left vp nn
      refine Int.le_of_lt_add_one (Int.ediv_lt_of_lt_mul (by omega) ?_)
      rw[Int.add_mul]
      omega
    unfold plc at *
    omega
  · right;right
    unfold j9 at *
    have c:=y8 h0 h v.nm (k:=k+1) (by omega) L o' o
    have:=of_decide_eq_true e
    rw[V.n] at c ⊢
    have q:w.pc*(k+1)≤v.pc*(k+1):=Int.mul_le_mul_of_nonneg_right V.p (by omega)
    exact decide_eq_true (by omega)
end
theorem G6 {W:WF}{w:WB}{l:List SB}{m:Int}:isW W w l m (wt W w l m)=true:=by
  unfold isW wt CS
  cases h:(List.range (plc w l m).toNat).filter fun (k:Nat)=>j9 W w l k with
  | nil=>simp
  | cons k r=>
    have:k∈(List.range (plc w l m).toNat).filter fun (k:Nat)=>j9 W w l k:=by rw[h];exact List.mem_cons_self
    have f:=(List.mem_filter.mp this).2
    simp only[List.map_cons,List.headD_cons,f,Bool.or_true]
def rwB (W:WF)(ss:List SB)(w:WB):RB:=⟨w.nm,most W w (onB w.nm ss),wt W w (onB w.nm ss) (most W w (onB w.nm ss)),fc W w (onB w.nm ss)⟩
def jh (ss:List SB):WF→List WB→List RB
  | _,[]=>[]
  | W,w::r=>rwB W ss w::jh ss (nxW W ss w) r
theorem z7 (ss:List SB):∀ (ws:List WB) (W:WF),gw ss W ws=(jh ss W ws).map RB.toD
  | [],_=>rfl
  | w::r,W=>by
    show Et W ss w::gw ss (nxW W ss w) r=_
    rw[z7 ss r];rfl
theorem wO (ss:List SB):∀ (ws:List WB) (W:WF),(jh ss W ws).map RB.nm=ws.map WB.nm
  | [],_=>rfl
  | w::r,W=>by
    show (rwB W ss w).nm::(jh ss (nxW W ss w) r).map RB.nm=_
    rw[wO ss r];rfl
theorem w6 (ss:List SB):∀ (ws:List WB) (W:WF),(∀ w∈ws,w.Ok)→∀ r∈jh ss W ws,0≤r.mo∧0≤r.wa
  | [],_,_,r,h=>nomatch h
  | w::ws,W,o,r,h=>by
    rcases List.mem_cons.mp h with (rfl | h)
    · exact ⟨wq W (o w List.mem_cons_self),zS _ _ _ _⟩
    · exact w6 ss ws _ (fun y hy=>o y (List.mem_cons_of_mem _ hy)) r h
theorem Cp {ss' ss:List SB}(L:LsS ss' ss)(o':∀ x∈ss',x.Ok)(o:∀ x∈ss,x.Ok):∀ {vs ws:List WB} {W:WF},F2 WB.Le vs ws→(∀ v∈vs,v.Ok)→(∀ w∈ws,w.Ok)→W0 W→yV ss' W (vs.zip (jh ss W ws))=true:=by
  intro vs ws W F
  induction F generalizing W with
  | nil=>intros;rfl
  | @cons v w vs ws V F ih=>
    intro kv kw w0
    have Kv:=kv v List.mem_cons_self
    have K:=kw w List.mem_cons_self
    have L':LsS (onB v.nm ss') (onB w.nm ss):=by rw[V.n];exact L.on
    have p':∀ x∈onB v.nm ss',x.Ok:=fun x hx=>o' x (jt.mp hx).1
    have p:∀ x∈onB w.nm ss,x.Ok:=fun x hx=>o x (jt.mp hx).1
    show (rgt W ss' v (rwB W ss w)&&yV ss' (qi W v.nm (rwB W ss w).wa) (vs.zip (jh ss (nxW W ss w) ws)))=true
    have en:qi W v.nm (rwB W ss w).wa=nxW W ss w:=by rw[V.n];rfl
    rw[en,ih (fun y hy=>kv y (List.mem_cons_of_mem _ hy)) (fun y hy=>kw y (List.mem_cons_of_mem _ hy)) (E9 w0 ss w),Bool.and_true]
    have m1:=D1 w0 (fun n=>Int.le_refl (W n)) V L' p' p
    have m0:=wq W K (l:=onB w.nm ss)
    unfold rgt
    rw[decide_eq_false (show ¬ (rwB W ss w).mo < most W v (onB v.nm ss') by show ¬ most W w (onB w.nm ss) < _;omega)]
    have i1:isW W v (onB v.nm ss') (rwB W ss w).mo (rwB W ss w).wa=true:=GJ w0 (fun n=>Int.le_refl (W n)) V Kv K L' p' p m0 (Int.le_refl _) (zS _ _ _ _) G6
    rw[i1]
    cases hn:(rwB W ss w).no with
    | false=>rfl
    | true=>
      have hn:fc W w (onB w.nm ss)=true:=hn
      rw[none_le w0 (fun n=>Int.le_refl (W n)) V L' p' p hn];rfl
def RB.Le (r' r:RB):Prop:=r'.nm=r.nm∧r'.mo≤r.mo∧r'.wa≤r.wa∧(r.no=true→r'.no=true)
theorem WB.Le.refl (w:WB):WB.Le w w:=⟨rfl,Int.le_refl _,rfl,rfl⟩
theorem vW:∀ ws:List WB,F2 WB.Le ws ws
  | []=>.nil
  | w::r=>.cons (.refl w) (vW r)
section
open PySem PySem.Spec PyProof.Rows L2
theorem rep1 (n:Nat)(u:Value):(List.replicate n #[u]).foldl (· ++ ·) #[]=(List.replicate n u).toArray:=by
  have gen:∀ (n:Nat) (a:Array Value),(List.replicate n #[u]).foldl (· ++ ·) a=a++(List.replicate n u).toArray:=by
    intro n
    induction n with
    | zero=>intro a;simp
    | succ n ih=>intro a;rw[List.replicate_succ,List.foldl_cons,ih,List.replicate_succ];apply Array.ext';simp
  rw[gen];simp
theorem zy (l:Addr)(u:Value)(k:Nat)(dd:Option Addr)(sl:Array (Option Value))(n:Int)(t:Tok)(h1:1≤n)(h2:n≤1000) :
    Meets (Builtin.«tuple.__mul__» ⟨[.ref l,.int n t],[]⟩) (fun _ R s=>s.heap.get? l=some { cls:=.type "tuple", dict:=dd,data:=.seq #[u] k,slots:=sl }∧(n=1→R (.ok (.ret (.ref l))) s)∧
      (n≠1→R (.ok (.ret (.ref s.heap.objs.size))) { s with heap:=s.heap.push { cls:=.type "tuple", data:=.seq (List.replicate n.toNat u).toArray } })):=
  .of_wp fun prog w A R s h=>by
    obtain ⟨hp,gg,dd',tk,oo⟩:=s
    obtain ⟨hl,hA,hB⟩:=h
    have z1:=PySem.AutoSeq1.idx_int
    have z2:=PySem.AutoSeq1.sub_tuple_tuple
    have a1:¬ (decide (n < -(2 ^ 63)) || decide (n ≥ 2 ^ 63))=true:=by simp;omega
    have a2:¬ (((#[u]:Array Value).size:Int)*n > (2 ^ 63 - 1) / 8):=by simp;omega
    wp_walk using (wpAny_loadPart' hl)
    rw[if_neg a1]
    wp_walk using (wpAny_loadPart' hl)
    by_cases e:n=1
    · have b1:((#[u]:Array Value).isEmpty || n == 1)=true:=by rw[e];rfl
      rw[if_pos b1]
      wp_walk using (wpAny_loadPart' hl)
      exact ⟨_,rfl,hA e⟩
    · have b1:¬ ((#[u]:Array Value).isEmpty || n == 1)=true:=by simp[e]
      have b2:¬ (decide (n≤0) || (#[u]:Array Value).isEmpty)=true:=by simp;omega
      rw[if_neg b1]
      wp_walk
      rw[if_neg b2]
      wp_walk
      rw[if_neg a2]
      wp_walk
      have b3:¬ Builtin.Tuple.tupleTooMany (((#[u]:Array Value).size:Int)*n)=true:=by unfold Builtin.Tuple.tupleTooMany sizeLine;simp;omega
      rw[if_neg b3,rep1]
      have hz:¬ (List.replicate n.toNat u).toArray.size > sizeLine:=by unfold sizeLine;simp;omega
      wp_walk
      refine wpAny_ite_false (decide_eq_false hz) ?_
      wp_walk
      exact ⟨_,rfl,hB e⟩
theorem uu:fillsNumberSlot (.type "tuple") "mul" = pure false:=
  PySem.fillsNumberSlot_seq (r:=some (.builtin "tuple.__rmul__")) (id := "tuple.__mul__") F.slot_tuple_mul.lookup (by decide +kernel) F.slot_tuple_rmul.lookup (by decide +kernel)
theorem vL:seqRepeat? (.type "tuple")=pure (some (.builtin "tuple.__mul__")):=by
  unfold seqRepeat?
  rw[PySem.seqSlot_of (name := "__mul__") (T := "tuple") (id := "tuple.__mul__") F.slot_tuple_mul.lookup (by decide +kernel),PySem.seqSlot_of (name := "__rmul__") (T := "tuple") (id := "tuple.__rmul__") F.slot_tuple_rmul.lookup (by decide +kernel)]
  rfl
theorem qA (a:Int)(t:Tok)(l:Addr)(its:Array Value)(n:Nat)(dd:Option Addr)(sl:Array (Option Value)) :
    Meets (Builtin.«int.__rmul__» ⟨[.int a t,.ref l],[]⟩) (fun _ R s=>s.heap.get? l=some { cls:=.type "tuple", dict:=dd,data:=.seq its n,slots:=sl }∧R (.ok (.ret Value.notImplemented)) s):=
  .of_wp fun prog w A R s h=>by
    obtain ⟨hp,gg,dd',tk,oo⟩:=s
    obtain ⟨hl,h⟩:=h
    wp_walk
    exact ⟨_,rfl,h⟩
def GW (K:PySem.W.Frag):R2:=fun x y H Q=>∃ p v n,x=.ref p∧y=.int n∧SqT K H p [v]∧(1≤n∧n≤1000)∧(n=1→Q (.ref p) H)∧(n≠1→∀ z,H z=none→Q (.ref z) (L2.upd H z (.tup (List.replicate n.toNat v))))
theorem DT {X:Cx}:OpR X (binaryOp .Mult) (GW X.K):=fun pins s σ H x y v u Q I rx ry ⟨p,a,n,e1,e2,hp,⟨h1,h2⟩,q1,q2⟩=>by
  subst e1 e2
  cases rx
  obtain ⟨its,r1,p1,_⟩:=I.tuple hp
  obtain ⟨b,rfl,rb⟩:=vals1 r1
  obtain ⟨⟨c1,d1,t1,l1⟩,ho,hc,m,hd⟩:=id p1
  simp only at hc hd
  subst hc hd
  obtain ⟨t,rfl⟩:∃ t,u=Value.int n t:=ry
  refine wpAny_binaryOp_repeat_ref (T := "tuple") (U := "int") (by decide +kernel) ⟨_,ho,rfl⟩ (fun s'=>typeIs_int s' n t) uu F.fills_int_mul F.slot_int_rmul vL F.slot_int_index.lookup
    (call_meets F.slot_int_rmul (typeIs_int s n t) F.entry_int_rmul (F.args_int_rmul_2 _ _) (qA n t p #[b] m d1 l1)
      ⟨ho,rfl,⟨_,ho,rfl⟩,call_meets F.slot_tuple_mul ⟨_,ho,rfl⟩ F.entry_tuple_mul (F.args_tuple_mul_2 _ _) (zy p b m d1 l1 n t h1 h2) ⟨ho,fun e=>?_,fun e=>?_⟩⟩)
  · exact ⟨.ref p,H,I,rfl,q1 e⟩
  · refine ⟨.ref s.heap.objs.size,_,I.laid (t':=s.toks) (o:=.tup (List.replicate n.toNat a)) (fun b ob q=>Heap.get?_push_of_some _ q) (Nat.le_refl _) ?_,rfl,q2 e _ (I.hok.fresh (Nat.le_refl _))⟩
    refine ⟨by rw[List.length_replicate];unfold sizeLine;omega,_,?_,qD.new _ _⟩
    have gen:∀ k:Nat,Vals (List.replicate k a) (List.replicate k b):=by
      intro k
      induction k with
      | zero=>exact .nil
      | succ k ih=>exact .cons rb ih
    exact gen _
def sA:DR2:=fun x y μ Q=>match x,y with
  | .tup [d],.int n=>(1≤n∧n≤1000)∧Q (.tup (List.replicate n.toNat d)) μ
  | _,_=>False
theorem wo {K:PySem.W.Frag}{H:Hp}{v:V}{d:D}(h:Dp K H v d):∀ n:Nat,DpL K H (List.replicate n v) (List.replicate n d)
  | 0=>.nil
  | n+1=>.cons h (wo h n)
section
variable {X:Cx} {a b:Expr} {Ta Tb:ETr} {pos:Pos}
theorem wF (ha:LE X a Ta)(hb:LE X b Tb):LE X (.BinOp a .Mult b pos) (ak sA Ta Tb):=by
  obtain ⟨ta,pa,sa⟩:=ha.ex
  obtain ⟨tb,pb,sb⟩:=hb.ex
  refine ⟨_,A7 DT pa pb,fun σ H ρ μ Q Q' rl h k=>sa σ H ρ μ _ _ rl h fun x H1 dx μ1 t1 m1 p1 h1=>sb σ H1 ρ μ1 _ _ (rl.go t1 m1) h1 fun y H2 dy μ2 t2 m2 p2 h2=>?_⟩
  have p1:=p1.mono t2
  have k:=k.go (t1.trans t2)
  unfold sA at h2
  split at h2
  · rename_i d n _
    cases p1 with | @tup q xs ds sq l=>
    cases l with | cons pv l'=>
    cases l'
    cases p2
    obtain ⟨hn,h3⟩:=h2
    refine ⟨q,_,n,rfl,rfl,sq,hn,fun e=>?_,fun _ z hz=>?_⟩
    · subst e
      exact k _ H2 _ μ2 (.refl H2) m2 (.tup sq (.cons pv .nil)) h3
    · exact k _ _ _ μ2 (.new hz) (cg m2 hz) (.tup (SqT.of aG) ((wo pv _).mono (.new hz))) h3
  · exact False.elim h2
end
theorem DD (d:D)(n:Int)(μ:Mu)(Q:DK):sA (.tup [d]) (.int n) μ Q=((1≤n∧n≤1000)∧Q (.tup (List.replicate n.toNat d)) μ):=propext Iff.rfl
end
end L3
namespace Kk
local macro_rules | `(tactic| walk_at "ln")=>`(tactic| (intro ds μ Q h;split at h;rfl;exact h.elim))
open PySem L3
theorem ze:aZ "NoneType" "int" = false:=by decide +kernel
theorem nZ:aZ "NoneType" "bool" = false:=by decide +kernel
theorem AA:aZ "NoneType" "str" = false:=by decide +kernel
theorem uS:aZ "NoneType" "tuple" = false:=by decide +kernel
theorem BB:aZ "bool" "int" = true:=by decide +kernel
theorem oT:aZ "bool" "bool" = true:=by decide +kernel
theorem Am:aZ "bool" "str" = false:=by decide +kernel
theorem tU:aZ "bool" "tuple" = false:=by decide +kernel
theorem zF:aZ "int" "int" = true:=by decide +kernel
theorem o6:aZ "int" "bool" = false:=by decide +kernel
theorem Cm:aZ "int" "str" = false:=by decide +kernel
theorem uM:aZ "int" "tuple" = false:=by decide +kernel
theorem BN:aZ "str" "int" = false:=by decide +kernel
theorem oz:aZ "str" "bool" = false:=by decide +kernel
theorem AG:aZ "str" "str" = true:=by decide +kernel
theorem ud:aZ "str" "tuple" = false:=by decide +kernel
theorem BS:aZ "tuple" "int" = false:=by decide +kernel
theorem oq:aZ "tuple" "bool" = false:=by decide +kernel
theorem yY:aZ "tuple" "str" = false:=by decide +kernel
theorem tO:aZ "tuple" "tuple" = true:=by decide +kernel
theorem Ck:aZ "list" "int" = false:=by decide +kernel
theorem oB:aZ "list" "bool" = false:=by decide +kernel
theorem Ao:aZ "list" "str" = false:=by decide +kernel
theorem vN:aZ "list" "tuple" = false:=by decide +kernel
theorem AY:aZ "dict" "int" = false:=by decide +kernel
theorem nW:aZ "dict" "bool" = false:=by decide +kernel
theorem BJ:aZ "dict" "str" = false:=by decide +kernel
theorem uP:aZ "dict" "tuple" = false:=by decide +kernel
def kTx (x:D)(f:Str→Prop):Prop:=match x with
  | .str z=>f z
  | _=>False
section
variable (c:String) (μ:Mu) (Q:DK)
theorem EW:dh c .non μ Q=Q (.bl (aZ "NoneType" c)) μ:=propext Iff.rfl
theorem ER (b:Bool):dh c (.bl b) μ Q=Q (.bl (aZ "bool" c)) μ:=propext Iff.rfl
theorem Fi (b:Int):dh c (.int b) μ Q=Q (.bl (aZ "int" c)) μ:=propext Iff.rfl
theorem ET (b:Str):dh c (.str b) μ Q=Q (.bl (aZ "str" c)) μ:=propext Iff.rfl
theorem EN (b:List D):dh c (.tup b) μ Q=Q (.bl (aZ "tuple" c)) μ:=propext Iff.rfl
theorem Fs (b:List D):dh c (.ls b) μ Q=Q (.bl (aZ "list" c)) μ:=propext Iff.rfl
theorem vY {c μ Q}{a:Addr}{k:List (L2.Key×D)}(e:μ a=some (.dct k)):dh c (.obj a) μ Q=Q (.bl (aZ "dict" c)) μ:=by unfold dh;simp only[tyO,e]
theorem Ea (x:Str)(i:Int):oh (.str x) (.int i) μ Q=(x.length≤1000000∧kN (L2.atI x.cps.toList i) fun c=>Q (.str ⟨#[c]⟩) μ):=propext Iff.rfl
theorem Gy (a:ETr)(ρ:ST)(Q:List D→Mu→Prop):IL a ρ μ Q=a ρ μ fun x μ1=>kTx x fun z=>z.cps.all (· < 128)=true∧Q (JJ z) μ1:=by
  unfold IL kTx;rfl
theorem IC (a:ETr)(lo hi:OTr)(ρ:ST):zp a lo hi ρ μ Q=a ρ μ fun x μ1=>lo ρ μ1 fun i μ2=>hi ρ μ2 fun j μ3=>kTx x fun z=>z.length≤1000000∧Q (.str (Txt.slice z i j)) μ3:=by
  unfold zp kTx;rfl
theorem JE (z:Str)(f:Str→Prop):kTx (.str z) f=f z:=propext Iff.rfl
theorem Cr (ρ:ST):pB ρ μ Q = ∀ p,μ p=none→Q (.obj p) (up μ p (.dct [])):=propext Iff.rfl
end
def kLz (x:D)(f:List D→Prop):Prop:=match x with
  | .ls z=>f z
  | _=>False
theorem Kn (z:List D)(f:List D→Prop):kLz (.ls z) f=f z:=propext Iff.rfl
theorem C5 (a i:ETr)(ρ:ST)(μ:Mu)(Q:DK):wb a i ρ μ Q=a ρ μ fun x μ1=>kTx x fun sep=>i ρ μ1 fun y μ2=>kLz y fun ds=>∃ zs,gT ds=some zs∧JoinOk sep zs=true∧Q (.str (Txt.join sep zs)) μ2:=by
  unfold wb kTx kLz;rfl
theorem xx (a b:ETr)(ρ:ST)(μ:Mu)(Q:DK):qz a b ρ μ Q=a ρ μ fun x μ1=>kTp x fun ds=>b ρ μ1 fun y μ2=>(bN 38 ds=true∧okD 38 y=true)∧kN (yG ds y) fun j=>Q (.int j) μ2:=propext Iff.rfl
theorem Jr (ds:List D)(f:List D→Prop):kTp (.tup ds) f=f ds:=propext Iff.rfl
theorem D0 (a:ETr)(ρ:ST)(μ:Mu)(Q:List D→Mu→Prop):AZ (af a aq) ρ μ Q=a ρ μ fun x μ1=>kS x fun ds=>Q (ik ds) μ1:=propext Iff.rfl
theorem IA (x:List D)(y:D)(μ:Mu)(Q:DK):Bv (.ls x) y μ Q=L3.rIx (.ls x) y μ Q:=propext Iff.rfl
theorem HS (x:Str)(y:D)(μ:Mu)(Q:DK):Bv (.str x) y μ Q=oh (.str x) y μ Q:=propext Iff.rfl
theorem GZ (i n:Int)(μ:Mu)(Q:DK):Hb (.int i) (.int n) μ Q=((i=1∧0≤n∧n≤60)∧Q (.int (i*2 ^ n.toNat)) μ):=propext Iff.rfl
theorem FA (i n:Int)(μ:Mu)(Q:DK):Gd (.int i) (.int n) μ Q=(0≤n∧Q (.int (i.fdiv (2 ^ n.toNat))) μ):=propext Iff.rfl
theorem CQ (i n:Int)(μ:Mu)(Q:DK):Ae (.int i) (.int n) μ Q=Q (.int (Builtin.bitAnd i n)) μ:=propext Iff.rfl
def Fw (G:GTr)(tt:TTr)(te:ETr)(ρc:ST)(ds:List D)(μ:Mu)(Q:DK):Prop:=∀ p,μ p=none→eE p G tt te ρc (fun μ'=>Q (.obj p) μ') ds (up μ p (.lst []))
theorem xU (it:ATr)(G:GTr)(tt:TTr)(te:ETr)(n:Nat)(caps:List Nat)(ρ:ST)(μ:Mu)(Q:DK):qj it G tt te n caps ρ μ Q=it ρ μ fun ds μ1=>Fw G tt te (gM ρ n caps) ds μ1 Q:=propext Iff.rfl
theorem FL (xs:List D)(μ:Mu)(Q:DK):cB wQ [.ls xs] μ Q = ∃ ns:List Int,xs=ns.map .int∧Q (.int ns.sum) μ:=propext Iff.rfl
theorem Ct (xs:List D)(μ:Mu)(Q:DK):cB wA [.ls xs] μ Q = ∃ ns:List Int,(xs=ns.map .int∧ns≠[])∧∀ M,M∈ns→(∀ a∈ns,a≤M)→Q (.int M) μ:=propext Iff.rfl
def LM:=Jn @DD <| Jn @K2 <| Jn @K7 <| Jn @Ll <| Jn @LD <| Jn @Kn <| Jn @xx <| Jn @Jr <| Jn @D0 <| Jn @IA <| Jn @HS <| Jn @GZ <| Jn @FA <| Jn @CQ <| Jn @xU <| Jn @FL <| Jn @Ct <| Jn @Ld <| Jn @LQ <| Jn @Lp <| Jn @Lj <| Jn @LL <| Jn @Lc <| Jn @Lv <| Jn @Li <| Jn @Ln <| Jn @EW <| Jn @ER <| Jn @Fi <| Jn @ET <| Jn @EN <| Jn @Fs <| Jn @Ea <| Jn @JE <| Jn @Cr <| Jn @Ex <| Jn @Gp <| Jn @Gh <| Jn @GC <| Jn @CN <| Jn @DU <| Jn @Im <| Jn @HY <| Jn @G2 <| Jn @DA <| Jn @F6 <| Jn @Hr <| Jn @Eb <| @IP
local macro_rules | `(tactic| walk_at "go")=>`(tactic| try simp only[↓LM,Kb,↓C5,↓JU,↓Gy,↓IC,↓JC,↓J6,↓Jh,↓IW,↓JB,↓JG,↓vV,↓mM,dN,dm,dI,dH,dQ,dW,e5,eP,da,dO,dG,dX,dP,eT,dS,eM,dR,eL,dM,eW,pL,ze,nZ,AA,uS,BB,oT,Am,tU,zF,o6,Cm,uM,BN,oz,AG,ud,BS,oq,yY,tO,Ck,oB,Ao,vN,AY,nW,BJ,uP,gM,List.map_cons,List.map_nil,List.replicate,List.cons_append,List.nil_append,lk,Jo,Ke,Kt,IU,JW,Kr,E3,EF,Aa,z3,wJ,wB,wj,vZ,true_and,and_true,and_self,Bool.not_true,Bool.not_false,decide_true,decide_false,Bool.or_true,Bool.or_false,Bool.true_or,Bool.false_or,Bool.and_false,Bool.false_and,Bool.and_true,Bool.true_and,Int.reduceToNat,Int.reducePow,Int.reduceNeg,Int.reduceSub,Int.reduceAdd,Int.reduceMul,Int.reduceEq,Int.reduceLT,Int.reduceLE,Int.reduceBEq,rL,iD,iQ,ij,iL,gZ,iR,gU,if_true,if_false,Bool.false_eq_true,reduceCtorEq,decide_eq_true_eq])
local macro_rules | `(tactic| walk_at "ok")=>`(tactic| (simp only[L3.fh,L3.MulOk,L3.S64,L3.cu,L3.sf] at *;omega))
local macro_rules | `(tactic| walk_at "ini")=>`(tactic| simp only[ini,List.map,List.length,List.replicate,Nat.reduceSub,Nat.reduceAdd,Nat.sub_self,List.cons_append,List.nil_append,List.append_nil])
def isI:D→Bool
  | .int _=>true
  | _=>false
def isC:D→Bool
  | .int i=>decide (0≤i)
  | _=>false
def isB:D→Bool
  | .bl _=>true
  | _=>false
def isT (n:Int):D→Bool
  | .tup xs=>decide ((xs.length:Int)=n)
  | _=>false
inductive Thg (μ:Mu):D→Prop
  | non:Thg μ .non
  | bl (b:Bool):Thg μ (.bl b)
  | int (i:Int):Thg μ (.int i)
  | str {z:Str}:PyData.strOk z=true→Thg μ (.str z)
  | tup (xs:List D):Thg μ (.tup xs)
  | ls (xs:List D):Thg μ (.ls xs)
  | obj {a:Addr} {k:List (L2.Key×D)}:μ a=some (.dct k)→Thg μ (.obj a)
theorem Thg.sub {μ μ':Mu}{d:D}(h:Thg μ d)(s:Sub μ μ'):Thg μ' d:=by
  cases h with
  | non=>exact .non
  | bl b=>exact .bl b
  | int i=>exact .int i
  | str o=>exact .str o
  | tup xs=>exact .tup xs
  | ls xs=>exact .ls xs
  | obj e=>exact .obj (s _ _ e)
theorem Thg.bp {μ μ':Mu}{d:D}{b c:Addr}(h:Thg μ d)(hB:Bp μ b c)(B:c8 b c μ μ'):Thg μ' d:=by
  cases h with
  | non=>exact .non
  | bl b=>exact .bl b
  | int i=>exact .int i
  | str o=>exact .str o
  | tup xs=>exact .tup xs
  | ls xs=>exact .ls xs
  | @obj a k e=>
    obtain ⟨_,ns,s,e1,e2⟩:=hB
    refine .obj (k:=k) ?_
    rw[B.o a (fun z=>by subst z;rw[e] at e1;cases e1) (fun z=>by subst z;rw[e] at e2;cases e2)]
    exact e
def cp:FSp:=fun ds μ Q=>match ds with
  | [d]=>Thg μ d∧Q (.bl (isI d)) μ
  | _=>False
theorem qP:∀ ds μ Q,cp ds μ Q→ds.length=1:=by
  unfold cp
  walk_at "ln"
def kq:STr:=aP (fR (TUn (dh "int") (ah 0)) (jB (TUn (dh "bool") (ah 0))))
theorem rR:∀ ds μ Q,cp ds μ Q→kq { nx:=fun _ μ'=>RT Q .non μ',rt:=RT Q } (ini 1 ds) μ:=by
  intro ds μ Q h
  unfold cp at h
  split at h
  case h_2=>exact h.elim
  rename_i d
  walk_at "ini"
  unfold kq
  walk_at "go"
  obtain ⟨T,k⟩:=h
  cases T with
  | obj e=>
    rw[vY e]
    walk_at "go"
    exact ⟨_,.refl _,k⟩
  | _=>
    walk_at "go"
    exact ⟨_,.refl _,k⟩
def a8:FSp:=fun ds μ Q=>match ds with
  | [d,.int n]=>Thg μ d∧Q (.bl (isT n d)) μ
  | _=>False
theorem j6:∀ ds μ Q,a8 ds μ Q→ds.length=2:=by
  unfold a8
  walk_at "ln"
def gd:STr:=aP (fR (TUn (dh "tuple") (ah 0)) (ak rEq (ao df (af (ah 0) (aq))) (ah 1)))
theorem lH:∀ ds μ Q,a8 ds μ Q→gd { nx:=fun _ μ'=>RT Q .non μ',rt:=RT Q } (ini 2 ds) μ:=by
  intro ds μ Q h
  unfold a8 at h
  split at h
  case h_2=>exact h.elim
  rename_i d n
  walk_at "ini"
  unfold gd
  walk_at "go"
  obtain ⟨T,k⟩:=h
  cases T with
  | obj e=>
    rw[vY e]
    walk_at "go"
    exact ⟨_,.refl _,k⟩
  | _=>
    walk_at "go"
    exact ⟨_,.refl _,k⟩
def a6:FSp:=fun ds μ Q=>match ds with
  | [.int a,.int b]=>∃ R:Nat,(a=(R:Int)∧0 < R∧1≤b∧b≤8)∧Q (.int (Nat.lcm R b.toNat)) μ
  | _=>False
theorem f6:∀ ds μ Q,a6 ds μ Q→ds.length=2:=by
  unfold a6
  walk_at "ln"
def dq:STr:=aP (ak eC (ak je (ah 0) (ao L3.bH (af (ah 0) (af (ah 1) (aq))))) (ah 1))
theorem gF:∀ ds μ Q,a6 ds μ Q→dq { nx:=fun _ μ'=>RT Q .non μ',rt:=RT Q } (ini 2 ds) μ:=by
  intro ds μ Q h
  unfold a6 at h
  split at h
  case h_2=>exact h.elim
  rename_i a b
  walk_at "ini"
  unfold dq
  walk_at "go"
  obtain ⟨R,⟨rfl,R0,b0,b1⟩,k⟩:=h
  refine (show L3.je (.int R) (.int (Int.gcd (R:Int) b)) μ (fun x μ1=>eC x (.int b) μ1 fun y μ2=>RT Q y μ2) from ?_)
  have g0:0 < Int.gcd (R:Int) b:=Int.gcd_pos_of_ne_zero_right _ (by omega)
  have g1:(Int.gcd (R:Int) b:Int)≤b:=Int.gcd_le_right _ (by omega)
  walk_at "go"
  refine ⟨⟨by omega,by unfold cu;omega⟩,.inl (.inr (by unfold S64;omega)),?_⟩
  rw[z6 R0 b0]
  exact ⟨_,.refl _,k⟩
def bD:FSp:=fun ds μ Q=>match ds with
  | [d]=>∃ x:SB,d=x.rl∧Q (fr x.r x.s) μ
  | _=>False
theorem kF:∀ ds μ Q,bD ds μ Q→ds.length=1:=by
  unfold bD
  walk_at "ln"
def fu:STr:=aP (ak L3.rIx (ah 0) (ak ka (ao df (af (ah 0) (aq))) (TC (.int 1))))
theorem o7:∀ ds μ Q,bD ds μ Q→fu { nx:=fun _ μ'=>RT Q .non μ',rt:=RT Q } (ini 1 ds) μ:=by
  intro ds μ Q h
  unfold bD at h
  split at h
  case h_2=>exact h.elim
  rename_i d
  walk_at "ini"
  unfold fu
  walk_at "go"
  obtain ⟨x,rfl,k⟩:=h
  unfold SB.rl
  walk_at "go"
  refine wZ (sI (d:=fr x.r x.s) (by simp) (by simp)) ?_
  exact ⟨_,.refl _,k⟩
def bR:FSp:=fun ds μ Q=>match ds with
  | [d]=>∃ x:SB,(d=x.rl∧x.Ok)∧Q (.int x.lim) μ
  | _=>False
theorem pT:∀ ds μ Q,bR ds μ Q→ds.length=1:=by
  unfold bR
  walk_at "ln"
def lj:STr:=aP (ao L3.cm (af (ao bD (af (ah 0) (aq))) (aq)))
theorem rQ:∀ ds μ Q,bR ds μ Q→lj { nx:=fun _ μ'=>RT Q .non μ',rt:=RT Q } (ini 1 ds) μ:=by
  intro ds μ Q h
  unfold bR at h
  split at h
  case h_2=>exact h.elim
  rename_i d
  walk_at "ini"
  unfold lj
  walk_at "go"
  obtain ⟨x,⟨rfl,X⟩,k⟩:=h
  refine ⟨x,rfl,?_⟩
  walk_at "go"
  refine ⟨x.r,x.s,⟨HU X.f,Le.of (by have:=X.f.q0;omega) (by have:=X.f.q1;omega)⟩,?_⟩
  exact ⟨_,.refl _,k⟩
def bB:FSp:=fun ds μ Q=>match ds with
  | [d]=>∃ x:SB,(d=x.toD∧x.Ok)∧∀ z,Vl z x.lim x.bt→Q z μ
  | _=>False
theorem jW:∀ ds μ Q,bB ds μ Q→ds.length=1:=by
  unfold bB
  walk_at "ln"
def gj:STr:=aP (ao L3.cD (af (ao bR (af (ak L3.rIx (ah 0) (TC (.int 5))) (aq))) (af (ak L3.rIx (ah 0) (TC (.int 2))) (aq))))
theorem lC:∀ ds μ Q,bB ds μ Q→gj { nx:=fun _ μ'=>RT Q .non μ',rt:=RT Q } (ini 1 ds) μ:=by
  intro ds μ Q h
  unfold bB at h
  split at h
  case h_2=>exact h.elim
  rename_i d
  walk_at "ini"
  unfold gj
  walk_at "go"
  obtain ⟨x,⟨rfl,X⟩,k⟩:=h
  walk_at "go"
  refine ⟨x,⟨rfl,X⟩,?_⟩
  walk_at "go"
  have b0:=X.b0
  have b1:=X.b1
  refine ⟨⟨by omega,by unfold cu;omega⟩,fun p q hp=>?_⟩
  exact ⟨_,.refl _,k _ (qf hp (by omega))⟩
theorem EJ {α:Type}(xs:List α)(P:α→Bool)(t:α→D):(xs.filterMap fun x=>if P x then some (t x) else none)=(xs.filter P).map t:=by
  rw[← List.filterMap_eq_map,List.filterMap_filter]
  rfl
def bw:FSp:=fun ds μ Q=>match ds with
  | [d,.str n]=>∃ (g:D) (ws:List WB) (ss:List SB),(d=plB g ws ss∧PyData.strOk n=true∧PB ws ss)∧Q (.ls ((onB n ss).map SB.toD)) μ
  | _=>False
theorem lT:∀ ds μ Q,bw ds μ Q→ds.length=2:=by
  unfold bw
  walk_at "ln"
def iG:STr:=aP (dk (f7 (ak L3.rIx (ah 0) (TC (.int 2)))) (ax 0) (TB (ak (Cw false) (ah 1) (ak L3.rIx (ah 0) (TC (.int 1))))) (ah 0) 1 [1])
theorem nH:∀ ds μ Q,bw ds μ Q→iG { nx:=fun _ μ'=>RT Q .non μ',rt:=RT Q } (ini 2 ds) μ:=by
  intro ds μ Q h
  unfold bw at h
  split at h
  case h_2=>exact h.elim
  rename_i d n
  walk_at "ini"
  unfold iG
  walk_at "go"
  obtain ⟨g,ws,ss,⟨rfl,on,P⟩,k⟩:=h
  have sl:=P.sl
  walk_at "go"
  refine kK ss SB.toD (fun y=>if decide (n∈y.rd) then some y.toD else none) rfl (by omega) (fun y hy μ' _ N m=>?_) ?_
  · walk_at "go"
    rw[D4]
    refine ⟨⟨wI (P.s y hy).rd,on⟩,?_⟩
    refine kif (fun h=>?_) fun h=>?_
    · rw[decide_eq_true h] at m;exact m
    · rw[decide_eq_false h] at m;exact m
  rw[EJ]
  exact ⟨_,.refl _,k⟩
theorem xi (x:SB)(r:List SB):ld (x::r)=x.lim*(840 / x.bt)+ld r:=by unfold ld;rw[List.map_cons,List.sum_cons]
theorem zU {x:SB}(X:x.Ok):0≤x.lim*(840 / x.bt)∧x.lim*(840 / x.bt)≤60*840:=by
  have l:=X.lim
  have b0:=X.b0
  have q0:0≤840 / x.bt:=Int.ediv_nonneg (by decide) (by omega)
  have q1:840 / x.bt≤840:=Int.ediv_le_self _ (by decide)
  exact ⟨Int.mul_nonneg (by omega) q0,Int.mul_le_mul l.2 q1 q0 (by decide)⟩
theorem zX {l:List SB}(h:∀ x∈l,x.Ok):0≤ld l∧ld l≤60*840*l.length:=by
  induction l with
  | nil=>exact ⟨by simp[ld],by simp[ld]⟩
  | cons x r ih=>
    have i:=ih fun y z=>h y (List.mem_cons_of_mem _ z)
    have o:=zU (h x List.mem_cons_self)
    rw[xi,List.length_cons]
    omega
def cz:FSp:=fun ds μ Q=>match ds with
  | [.ls xs]=>∃ l:List SB,(xs=l.map SB.toD∧(∀ x∈l,x.Ok)∧l.length≤8)∧∀ z,Vl z (ld l) 840→Q z μ
  | _=>False
theorem tG:∀ ds μ Q,cz ds μ Q→ds.length=1:=by
  unfold cz
  walk_at "ln"
def og:STr:=aH (aV (TC (.tup [.int 0,.int 1])) (ax 1)) (aH (j7 (f7 (ah 0)) (ax 2) (aV (ao L3.fY (af (ah 1) (af (ao bB (af (ah 2) (aq))) (aq)))) (ax 1))) (aP (ah 1)))
theorem tK:∀ ds μ Q,cz ds μ Q→og { nx:=fun _ μ'=>RT Q .non μ',rt:=RT Q } (ini 3 ds) μ:=by
  intro ds μ Q h
  unfold cz at h
  split at h
  case h_2=>exact h.elim
  rename_i xs
  walk_at "ini"
  unfold og
  walk_at "go"
  obtain ⟨l,⟨rfl,ho,hl⟩,k⟩:=h
  have top:=(zX ho).2
  refine cK (fun r ρ μ'=>∃ (rs:List SB) (a:Int) (z:D) (v2:Option D),r=rs.map SB.toD∧(∀ x∈rs,x.Ok)∧ρ=[some (.ls (l.map SB.toD)),some z,v2]∧μ'=μ∧Vl z a 840∧0≤a∧a+ld rs=ld l) ?_ ?_ _ _ _ ⟨l,0,_,_,rfl,ho,rfl,rfl,⟨⟨0,1,rfl,⟨by decide,by decide,by decide,by decide,by decide⟩⟩,by decide⟩,by decide,by omega⟩
  · rintro ρ μ' ⟨rs,a,z,v2,er,_,rfl,rfl,V,_,e⟩
    cases rs with
    | cons _ _=>cases er
    | nil=>
    have e:a=ld l:=by simpa[ld] using e
    rw[e] at V
    walk_at "go"
    exact ⟨_,.refl _,k _ V⟩
  · rintro d r ρ μ' N ⟨rs,a,z,v2,er,hr,rfl,rfl,V,a0,e⟩ hN
    cases rs with
    | nil=>cases er
    | cons x rs=>
    cases er
    have X:=hr x List.mem_cons_self
    have o:=zU X
    have b0:=X.b0
    have b1:=X.b1
    have lm:=X.lim
    have rn:=(zX fun y hy=>hr y (List.mem_cons_of_mem x hy)).1
    rw[xi] at e
    walk_at "go"
    refine ⟨x,⟨rfl,X⟩,fun z1 V1=>?_⟩
    walk_at "go"
    refine ⟨a,840,x.lim,x.bt,⟨⟨V,V1⟩,Le.of a0 (by omega),Le.of (by decide) (by decide),Le.of (by omega) (by omega),Le.of (by omega) (by omega)⟩,fun z2 V2=>?_⟩
    refine hN _ _ ⟨rs,a+x.lim*(840 / x.bt),z2,_,rfl,(fun y hy=>hr y (List.mem_cons_of_mem x hy)),rfl,rfl,V2.of_eq (by decide) ?_,by omega,by omega⟩
    have q:=(Ci b0 b1).1
    generalize 840 / x.bt=Z at q
    have e1:(a+x.lim*Z)*(840*x.bt)=a*x.bt*840+x.lim*(Z*x.bt)*840:=by
      rw[Int.add_mul]
      congr 1
      · ac_rfl
      · ac_rfl
    rw[e1,q,Int.add_mul]
def aX:FSp:=fun ds μ Q=>match ds with
  | [d,.ls xs]=>∃ (w:WB) (l:List SB),((d=w.toD∧w.Ok)∧xs=l.map SB.toD∧(∀ x∈l,x.Ok)∧l.length≤8)∧Q (.bl (inP w l)) μ
  | _=>False
theorem gK:∀ ds μ Q,aX ds μ Q→ds.length=2:=by
  unfold aX
  walk_at "ln"
def eB:STr:=aP (jB (ao L3.fT (af (bM (af (ak L3.rIx (ah 0) (TC (.int 1))) (af (TC (.int 1)) (aq)))) (af (ao cz (af (ah 1) (aq))) (aq)))))
theorem hU:∀ ds μ Q,aX ds μ Q→eB { nx:=fun _ μ'=>RT Q .non μ',rt:=RT Q } (ini 2 ds) μ:=by
  intro ds μ Q h
  unfold aX at h
  split at h
  case h_2=>exact h.elim
  rename_i d xs
  walk_at "ini"
  unfold eB
  walk_at "go"
  obtain ⟨w,l,⟨⟨rfl,K⟩,rfl,ho,hl⟩,k⟩:=h
  have p0:=K.p0
  have p1:=K.p1
  have ln:=zX ho
  refine ⟨l,⟨rfl,ho,hl⟩,fun z V=>?_⟩
  walk_at "go"
  refine ⟨w.pc,1,ld l,840,⟨⟨⟨⟨w.pc,1,rfl,by decide,by simp,rfl,Nat.le_refl _,Nat.le_refl _⟩,by decide⟩,V⟩,Le.of (by omega) (by omega),Le.of (by decide) (by decide),Le.of (by omega) (by omega),Le.of (by decide) (by decide)⟩,?_⟩
  walk_at "go"
  have e:(!decide (w.pc*840 < ld l*1))=inP w l:=by
    unfold inP
    rw[← decide_not]
    exact decide_eq_decide.mpr (by omega)
  rw[e]
  exact ⟨_,.refl _,k⟩
def bC:FSp:=fun ds μ Q=>match ds with
  | [d,.str n,.obj q]=>∃ (x:SB) (W:WF) (tab:List (L2.Key×D)),((d=x.toD∧x.Ok∧n∈x.rd∧PyData.strOk n=true)∧μ q=some (.dct tab)∧rC tab W (frn n x.rd))∧Q (.int (ahd W n x)) μ
  | _=>False
theorem Dy (n:Str)(rd:List Str):(frn n rd).length≤rd.length:=by unfold frn;rw[List.length_take];omega
theorem BY {n:Str}(rd:List Str):cutD (rd.map D.str) none (some ((rd.findIdx fun x=>decide (x=n):Nat):Int))=(frn n rd).map D.str:=by
  rw[ki,← List.map_take];rfl
theorem jR:∀ ds μ Q,bC ds μ Q→ds.length=3:=by
  unfold bC
  walk_at "ln"
def gA:STr:=aH (aV (ak L3.rIx (ah 0) (TC (.int 1))) (ax 3)) (aP (ao wQ (af (dk (f7 (TSl (ah 3) (ONo) (eA (qz (ah 3) (ah 1))))) (ax 0) (iW) (zZ (ah 1) (ah 0)) 1 [2]) (aq))))
theorem lX:∀ ds μ Q,bC ds μ Q→gA { nx:=fun _ μ'=>RT Q .non μ',rt:=RT Q } (ini 4 ds) μ:=by
  intro ds μ Q h
  unfold bC at h
  split at h
  case h_2=>exact h.elim
  rename_i d n q
  walk_at "ini"
  unfold gA
  walk_at "go"
  obtain ⟨x,W,tab,⟨⟨rfl,X,hn,on⟩,eq,T⟩,k⟩:=h
  walk_at "go"
  refine ⟨⟨wI X.rd,on⟩,?_⟩
  rw[Cc hn]
  walk_at "go"
  rw[BY]
  have fl:=Dy n x.rd
  have xl:=X.l
  refine cW (frn n x.rd) D.str (fun m=>.int (W m)) rfl (by omega) (fun m hm μ' s' N nn=>?_) ?_
  · walk_at "go"
    refine EZ (s' q _ eq) ?_
    rw[T m hm]
    exact nn
  walk_at "go"
  exact ⟨(frn n x.rd).map W,by rw[List.map_map];rfl,_,.refl _,k⟩
theorem Ab (W:WF)(n:Str)(x:SB)(r:List SB)(j:Int):com W n (x::r) j=cmb W n j x+com W n r j:=by unfold com;rw[List.map_cons,List.sum_cons]
def a7:FSp:=fun ds μ Q=>match ds with
  | [.str n,.ls xs,.obj q,.int j]=>∃ (l:List SB) (W:WF) (tab:List (L2.Key×D)),(xs=l.map SB.toD∧LB n l W tab∧μ q=some (.dct tab))∧Q (.int (com W n l j)) μ
  | _=>False
theorem jQ:∀ ds μ Q,a7 ds μ Q→ds.length=4:=by
  unfold a7
  walk_at "ln"
def gf:STr:=aH (aV (TC (.int 0)) (ax 4)) (aH (j7 (f7 (ah 1)) (ax 5) (aH (aV (ao L3.bQ (af (ao L3.cD (af (ak aK (ah 3) (ao bC (af (ah 5) (af (ah 0) (af (ah 2) (aq)))))) (af (ak L3.rIx (ah 5) (TC (.int 2))) (aq)))) (aq))) (ax 6)) (zx (fun m n=>m+n) 4 (ak eC (ao bR (af (ak L3.rIx (ah 5) (TC (.int 5))) (aq))) (ah 6))))) (aP (ah 4)))
theorem lI:∀ ds μ Q,a7 ds μ Q→gf { nx:=fun _ μ'=>RT Q .non μ',rt:=RT Q } (ini 7 ds) μ:=by
  intro ds μ Q h
  unfold a7 at h
  split at h
  case h_2=>exact h.elim
  rename_i n xs q j
  walk_at "ini"
  unfold gf
  walk_at "go"
  obtain ⟨l,W,tab,⟨rfl,L,eq⟩,k⟩:=h
  refine cK (fun r ρ μ'=>∃ (rs:List SB) (a:Int) (v5 v6:Option D),r=rs.map SB.toD∧(∀ x∈rs,x∈l)∧ρ=[some (.str n),some (.ls (l.map SB.toD)),some (.obj q),some (.int j),some (.int a),v5,v6]∧μ'=μ∧a+com W n rs j=com W n l j) ?_ ?_ _ _ _ ⟨l,0,_,_,rfl,(fun _ h=>h),rfl,rfl,by omega⟩
  · rintro ρ μ' ⟨rs,a,v5,v6,er,_,rfl,rfl,e⟩
    cases rs with
    | cons _ _=>cases er
    | nil=>
    have e:a=com W n l j:=by simpa[com] using e
    rw[← e] at k
    walk_at "go"
    exact ⟨_,.refl _,k⟩
  · rintro d r ρ μ' N ⟨rs,a,v5,v6,er,hr,rfl,rfl,e⟩ hN
    cases rs with
    | nil=>cases er
    | cons x rs=>
    cases er
    have hx:=hr x List.mem_cons_self
    have X:=L.o x hx
    have b0:=X.b0
    have b1:=X.b1
    have lm:=X.lim
    rw[Ab] at e
    walk_at "go"
    refine ⟨x,W,tab,⟨⟨rfl,X,L.on x hx,L.n⟩,eq,L.t x hx⟩,?_⟩
    walk_at "go"
    refine ⟨⟨by omega,by unfold cu;omega⟩,fun p z hp=>?_⟩
    refine ⟨j+ahd W n x,x.bt,⟨qf hp (by omega),Le.of (by omega) (by omega)⟩,?_⟩
    walk_at "go"
    refine ⟨x,⟨rfl,X⟩,?_⟩
    walk_at "go"
    refine ⟨.inl (.inl (by unfold S64;omega)),?_⟩
    have ec:a+x.lim * -(-(j+ahd W n x) / x.bt)=a+cmb W n j x:=by
      unfold cmb
      rw[v7 (show 0 < x.bt by omega)]
    rw[ec]
    exact hN _ _ ⟨rs,a+cmb W n j x,_,_,rfl,(fun y hy=>hr y (List.mem_cons_of_mem x hy)),rfl,rfl,by omega⟩
def b9:FSp:=fun ds μ Q=>match ds with
  | [d,.ls xs,.obj q]=>∃ (w:WB) (l:List SB) (W:WF) (tab:List (L2.Key×D)),((d=w.toD∧w.Ok)∧xs=l.map SB.toD∧LB w.nm l W tab∧μ q=some (.dct tab)∧W0 W)∧Q (.int (pk W w l)) μ
  | _=>False
theorem sT:∀ ds μ Q,b9 ds μ Q→ds.length=3:=by
  unfold b9
  walk_at "ln"
def nV:STr:=aH (aV (TC (.int 1)) (ax 3)) (aH (j7 (f7 (ah 1)) (ax 4) (aV (ao a6 (af (ah 3) (af (ak L3.rIx (ah 4) (TC (.int 2))) (aq)))) (ax 3))) (aH (aV (rB (aq)) (ax 5)) (aH (j7 (qR (TC (.int 1)) (ak aK (ah 3) (TC (.int 1)))) (ax 6) (jK (vo (ah 5) (ak ka (ao a7 (af (ak L3.rIx (ah 0) (TC (.int 0))) (af (ah 1) (af (ah 2) (af (ah 6) (aq)))))) (ak eC (ak L3.rIx (ah 0) (TC (.int 1))) (ak ka (ah 6) (TC (.int 1)))))))) (aP (ao wA (af (xC (ah 5)) (aq)))))))
theorem uN:∀ ds μ Q,b9 ds μ Q→nV { nx:=fun _ μ'=>RT Q .non μ',rt:=RT Q } (ini 7 ds) μ:=by
  intro ds μ Q h
  unfold b9 at h
  split at h
  case h_2=>exact h.elim
  rename_i d xs q
  walk_at "ini"
  unfold nV
  walk_at "go"
  obtain ⟨w,l,W,tab,⟨⟨rfl,K⟩,rfl,L,eq,w0⟩,k⟩:=h
  have p0:=K.p0
  have p1:=K.p1
  obtain ⟨d1,d2,_,_,_⟩:=xp (l:=l) (R:=1) L.o (Nat.one_dvd _) (by decide)
  have d3:=Nat.le_of_dvd (by decide) d1
  refine cK (fun r ρ μ'=>∃ (rs:List SB) (R:Nat) (v4 v5 v6:Option D),r=rs.map SB.toD∧(∀ x∈rs,x∈l)∧ρ=[some w.toD,some (.ls (l.map SB.toD)),some (.obj q),some (.int R),v4,v5,v6]∧μ'=μ∧0 < R∧rdN R rs=rdN 1 l) ?_ ?_ _ _ _ ⟨l,1,_,_,_,rfl,(fun _ h=>h),rfl,rfl,by decide,rfl⟩
  rotate_left
  · rintro d r ρ μ' N ⟨rs,R,v4,v5,v6,er,hr,rfl,rfl,R0,e⟩ hN
    cases rs with
    | nil=>cases er
    | cons x rs=>
    cases er
    have X:=L.o x (hr x List.mem_cons_self)
    have b0:=X.b0
    walk_at "go"
    refine ⟨R,⟨rfl,R0,X.b0,X.b1⟩,?_⟩
    exact hN _ _ ⟨rs,Nat.lcm R x.bt.toNat,_,_,_,rfl,(fun y hy=>hr y (List.mem_cons_of_mem x hy)),rfl,rfl,Nat.lcm_pos R0 (by omega),e⟩
  · rintro ρ μ' ⟨rs,R,v4,v5,v6,er,_,rfl,rfl,R0,e⟩
    cases rs with
    | cons _ _=>cases er
    | nil=>
    have e:R=rdN 1 l:=e
    subst e
    walk_at "go"
    intro p hp
    have pq:p≠q:=fun z=>by subst z;rw[eq] at hp;cases hp
    walk_at "go"
    have er:((rdN 1 l:Nat):Int)+1 - 1=(rdN 1 l:Nat):=by omega
    rw[er,Int.toNat_natCast]
    refine ⟨⟨by omega,by omega⟩,?_⟩
    refine cK (fun r ρ μ2=>∃ (dn rs:List Nat) (v6:Option D),r=rs.map (fun i:Nat=>D.int (1+(i:Int)))∧dn++rs=List.range (rdN 1 l)∧ρ=[some w.toD,some (.ls (l.map SB.toD)),some (.obj q),some (.int (rdN 1 l:Nat)),v4,some (.obj p),v6]∧μ2=up μ' p (.lst ((dn.map fun i:Nat=>com W w.nm l (1+(i:Int)) - w.pc*(1+(i:Int) - 1)).map D.int))) ?_ ?_ _ _ _ ⟨[],List.range (rdN 1 l),_,rfl,rfl,rfl,rfl⟩
    · rintro ρ μ2 ⟨dn,rs,v6,er,es,rfl,rfl⟩
      cases rs with
      | cons _ _=>cases er
      | nil=>
      rw[List.append_nil] at es
      subst es
      walk_at "go"
      have hk:pkL W w l=(List.range (rdN 1 l)).map fun i:Nat=>com W w.nm l (1+(i:Int)) - w.pc*(1+(i:Int) - 1):=rfl
      rw[← hk]
      have m0:com W w.nm l 1∈pkL W w l:=by
        rw[hk]
        exact List.mem_map.mpr ⟨0,List.mem_range.mpr d2,by simp⟩
      refine ⟨pkL W w l,⟨rfl,fun z=>by rw[z] at m0;cases m0⟩,fun M h1 h2=>?_⟩
      have c0:=zC w0 (n:=w.nm) L.o (k:=1) (by decide)
      have:=h2 _ m0
      have e:=JH (.inr h1) (by omega) h2
      rw[e,EU hp]
      exact ⟨_,.refl _,k⟩
    · rintro d r ρ μ2 N ⟨dn,rs,v6,er,es,rfl,rfl⟩ hN
      cases rs with
      | nil=>cases er
      | cons i rs=>
      cases er
      have dl:dn.length+(rs.length+1)=rdN 1 l:=by
        have:=congrArg List.length es
        simpa using this
      walk_at "go"
      refine ⟨l,W,tab,⟨rfl,L,by rw[aY (Ne.symm pq)];exact eq⟩,?_⟩
      walk_at "go"
      refine ⟨.inl (.inl (by unfold S64;omega)),by simp;omega,hN _ _ ⟨dn++[i],rs,_,rfl,by rw[← es];simp,rfl,?_⟩⟩
      simp
def bx:FSp:=fun ds μ Q=>match ds with
  | [d,.ls xs,.obj q]=>∃ (w:WB) (l:List SB) (W:WF) (tab:List (L2.Key×D)),((d=w.toD∧w.Ok)∧xs=l.map SB.toD∧LB w.nm l W tab∧μ q=some (.dct tab)∧W0 W)∧Q (.int (most W w l)) μ
  | _=>False
theorem kX:∀ ds μ Q,bx ds μ Q→ds.length=3:=by
  unfold bx
  walk_at "ln"
def iK:STr:=aH (bV (kf (TB (ao aX (af (ah 0) (af (ah 1) (aq)))))) (aP (ak L3.rIx (ah 0) (TC (.int 2)))) (a9)) (aP (ao oE (af (ak L3.rIx (ah 0) (TC (.int 2))) (af (ao b9 (af (ah 0) (af (ah 1) (af (ah 2) (aq))))) (aq)))))
theorem mS:∀ ds μ Q,bx ds μ Q→iK { nx:=fun _ μ'=>RT Q .non μ',rt:=RT Q } (ini 3 ds) μ:=by
  intro ds μ Q h
  unfold bx at h
  split at h
  case h_2=>exact h.elim
  rename_i d xs q
  walk_at "ini"
  unfold iK
  walk_at "go"
  obtain ⟨w,l,W,tab,⟨⟨rfl,K⟩,rfl,L,eq,w0⟩,k⟩:=h
  refine ⟨w,l,⟨⟨rfl,K⟩,rfl,L.o,L.len⟩,?_⟩
  walk_at "go"
  unfold most at k
  cases h:inP w l with
  | false=>
    rw[h] at k
    walk_at "go"
    exact ⟨_,.refl _,k⟩
  | true=>
    rw[h] at k
    walk_at "go"
    refine ⟨w,l,W,tab,⟨⟨rfl,K⟩,rfl,L,eq,w0⟩,?_⟩
    walk_at "go"
    exact ⟨_,.refl _,k⟩
def a5:FSp:=fun ds μ Q=>match ds with
  | [d,.ls xs,.obj q]=>∃ (w:WB) (l:List SB) (W:WF) (tab:List (L2.Key×D)),((d=w.toD∧w.Ok)∧xs=l.map SB.toD∧LB w.nm l W tab∧μ q=some (.dct tab)∧W0 W)∧Q (.bl (fc W w l)) μ
  | _=>False
theorem hZ:∀ ds μ Q,a5 ds μ Q→ds.length=3:=by
  unfold a5
  walk_at "ln"
def fi:STr:=aP (fR (ao aX (af (ah 0) (af (ah 1) (aq)))) (ak rLe (ao b9 (af (ah 0) (af (ah 1) (af (ah 2) (aq))))) (ak L3.rIx (ah 0) (TC (.int 2)))))
theorem iU:∀ ds μ Q,a5 ds μ Q→fi { nx:=fun _ μ'=>RT Q .non μ',rt:=RT Q } (ini 3 ds) μ:=by
  intro ds μ Q h
  unfold a5 at h
  split at h
  case h_2=>exact h.elim
  rename_i d xs q
  walk_at "ini"
  unfold fi
  walk_at "go"
  obtain ⟨w,l,W,tab,⟨⟨rfl,K⟩,rfl,L,eq,w0⟩,k⟩:=h
  refine ⟨w,l,⟨⟨rfl,K⟩,rfl,L.o,L.len⟩,?_⟩
  walk_at "go"
  unfold fc at k
  cases h:inP w l with
  | false=>
    rw[h] at k
    walk_at "go"
    exact ⟨_,.refl _,k⟩
  | true=>
    rw[h] at k
    walk_at "go"
    refine ⟨w,l,W,tab,⟨⟨rfl,K⟩,rfl,L,eq,w0⟩,?_⟩
    walk_at "go"
    exact ⟨_,.refl _,k⟩
def cj:FSp:=fun ds μ Q=>match ds with
  | [d,.ls xs,.obj q,.int m,.int j]=>∃ (w:WB) (l:List SB) (W:WF) (tab:List (L2.Key×D)),((d=w.toD∧w.Ok)∧xs=l.map SB.toD∧LB w.nm l W tab∧μ q=some (.dct tab)∧0≤j)∧Q (.bl (isW W w l m j)) μ
  | _=>False
theorem sQ:∀ ds μ Q,cj ds μ Q→ds.length=5:=by
  unfold cj
  walk_at "ln"
def ow:STr:=aH (bV (TB (ak rEq (ao df (af (ah 1) (aq))) (TC (.int 0)))) (aP (TC (.bl true))) (a9)) (aH (aV (ao oE (af (ak L3.rIx (ah 0) (TC (.int 2))) (af (ah 3) (aq)))) (ax 5)) (aH (bV (TB (ak rEq (ak L3.rIx (ah 0) (TC (.int 4))) (TC (.str "turns")))) (aV (ak eC (ah 5) (ao df (af (ah 1) (aq)))) (ax 5)) (a9)) (aH (bV (TB (ak rGe (ah 4) (ak ka (ao L3.bQ (af (ao L3.cD (af (ah 5) (af (ak L3.rIx (ah 0) (TC (.int 1))) (aq)))) (aq))) (TC (.int 1))))) (aP (TC (.bl true))) (a9)) (aP (ak rLe (ao a7 (af (ak L3.rIx (ah 0) (TC (.int 0))) (af (ah 1) (af (ah 2) (af (ak aK (ah 4) (TC (.int 1))) (aq)))))) (ak eC (ak L3.rIx (ah 0) (TC (.int 1))) (ak aK (ah 4) (TC (.int 1)))))))))
theorem uZ:∀ ds μ Q,cj ds μ Q→ow { nx:=fun _ μ'=>RT Q .non μ',rt:=RT Q } (ini 6 ds) μ:=by
  intro ds μ Q h
  unfold cj at h
  split at h
  case h_2=>exact h.elim
  rename_i d xs q m j
  walk_at "ini"
  unfold ow
  walk_at "go"
  obtain ⟨w,l,W,tab,⟨⟨rfl,K⟩,rfl,L,eq,j0⟩,k⟩:=h
  have p0:=K.p0
  have p1:=K.p1
  have r0:=K.r0
  have r1:=K.r1
  have ll:=L.len
  rw[List.length_map]
  cases hl:l with
  | nil=>
    subst hl
    have k:Q (.bl true) μ:=k
    walk_at "go"
    exact ⟨_,.refl _,k⟩
  | cons x0 r0'=>
  rw[← hl]
  have l0:0 < l.length:=by rw[hl];simp
  have e0:decide ((l.length:Int)=0)=false:=decide_eq_false (by omega)
  rw[e0]
  walk_at "go"
  refine ⟨⟨Kz _,DB⟩,?_⟩
  rw[LK]
  have fin:∀ s:Int,s=d9 w l m→cB L3.cD [.int s,.int w.pc] μ fun x μ1=>cB L3.bQ [x] μ1 fun y μ2=>L3.ka y (.int 1) μ2 fun z μ3=>L3.rGe (.int j) z μ3 fun t μ4=>kB t fun c=>kIf c (RT Q (.bl true) μ4) (L3.aK (.int j) (.int 1) μ4 fun n1 μ5=>cB a7 [.str w.nm,.ls (l.map SB.toD),.obj q,n1] μ5 fun c1 μ6=>L3.aK (.int j) (.int 1) μ6 fun n2 μ7=>eC (.int w.pc) n2 μ7 fun c2 μ8=>L3.rLe c1 c2 μ8 fun y μ9=>RT Q y μ9):=by
    rintro s rfl
    refine ⟨⟨by omega,by unfold cu;omega⟩,fun p z hp=>?_⟩
    refine ⟨d9 w l m,w.pc,⟨qf hp (by omega),Le.of (by omega) (by omega)⟩,?_⟩
    rw[v7 (show 0 < w.pc by omega)]
    walk_at "go"
    have ne:decide (l=[])=false:=decide_eq_false fun z=>by rw[z] at l0;simp at l0
    unfold isW at k
    rw[ne,Bool.false_or] at k
    have ep:decide (plc w l m≤j)=decide ((d9 w l m+w.pc - 1) / w.pc - 1≤j):=decide_eq_decide.mpr (by unfold plc;omega)
    rw[ep] at k
    refine kif (fun h=>?_) fun h=>?_
    · rw[decide_eq_true h,Bool.true_or] at k
      exact ⟨_,.refl _,k⟩
    · rw[decide_eq_false h,Bool.false_or] at k
      walk_at "go"
      refine ⟨l,W,tab,⟨rfl,L,eq⟩,?_⟩
      walk_at "go"
      refine ⟨.inl (.inl (by unfold S64;omega)),?_⟩
      exact ⟨_,.refl _,k⟩
  cases hs:w.so with
  | true=>
    have e:min w.rm m*(l.length:Int)=d9 w l m:=by unfold d9;rw[hs];rfl
    walk_at "go"
    refine ⟨.inl (.inr (by unfold S64;omega)),?_⟩
    have f:=fin _ e
    walk_at "go"
    exact f
  | false=>
    have e:min w.rm m=d9 w l m:=by unfold d9;rw[hs];rfl
    have f:=fin _ e
    walk_at "go"
    exact f
def bE:FSp:=fun ds μ Q=>match ds with
  | [d]=>Thg μ d∧Q (.bl (isC d)) μ
  | _=>False
theorem qF:∀ ds μ Q,bE ds μ Q→ds.length=1:=by
  unfold bE
  walk_at "ln"
def l4:STr:=aP (fR (ao cp (af (ah 0) (aq))) (ak rGe (ah 0) (TC (.int 0))))
theorem rY:∀ ds μ Q,bE ds μ Q→l4 { nx:=fun _ μ'=>RT Q .non μ',rt:=RT Q } (ini 1 ds) μ:=by
  intro ds μ Q h
  unfold bE at h
  split at h
  case h_2=>exact h.elim
  rename_i d
  walk_at "ini"
  unfold l4
  walk_at "go"
  obtain ⟨T,k⟩:=h
  refine ⟨T,?_⟩
  cases T with
  | int i=>
    simp only[isI]
    walk_at "go"
    exact ⟨_,.refl _,k⟩
  | _=>
    simp only[isI]
    walk_at "go"
    exact ⟨_,.refl _,k⟩
theorem Jb {ws:List WB}{rs:List RB}(h:rs.map RB.nm=ws.map WB.nm):∀ p∈ws.zip rs,p.2.nm=p.1.nm:=by
  induction ws generalizing rs with
  | nil=>intro p hp;simp at hp
  | cons w ws ih=>
    cases rs with
    | nil=>intro p hp;simp at hp
    | cons r rs=>
      simp only[List.cons.injEq,List.map_cons] at h
      intro p hp
      rw[List.zip_cons_cons] at hp
      rcases List.mem_cons.mp hp with (rfl | hp)
      · exact h.1
      · exact ih h.2 p hp
def fb (n:Str):D→Bool
  | .tup [.str a,b,c,x]=>decide (a=n)&&(isC b&&(isC c&&isB x))
  | _=>false
structure RwT (μ:Mu) (x:D):Prop where
  t:Thg μ x
  e:∀ ys,x=.tup ys→∀ y∈ys,Thg μ y
theorem RwT.sub {μ μ':Mu}{d:D}(h:RwT μ d)(s:Sub μ μ'):RwT μ' d:=⟨h.t.sub s,fun ys e y hy=>(h.e ys e y hy).sub s⟩
theorem RwT.bp {μ μ':Mu}{d:D}{b c:Addr}(h:RwT μ d)(hB:Bp μ b c)(B:c8 b c μ μ'):RwT μ' d:=⟨h.t.bp hB B,fun ys e y hy=>(h.e ys e y hy).bp hB B⟩
theorem Ft {d:D}{n:Int}{μ:Mu}{Q:DK}:cB a8 [d,.int n] μ Q=(Thg μ d∧Q (.bl (isT n d)) μ):=propext Iff.rfl
theorem EK {d:D}{μ:Mu}{Q:DK}:cB bE [d] μ Q=(Thg μ d∧Q (.bl (isC d)) μ):=propext Iff.rfl
theorem Hm {μ:Mu}{x:D}{Q:DK}(T:Thg μ x)(h:Q (.bl (isB x)) μ):dh "bool" x μ Q:=by
  cases T with
  | obj e=>
    rw[vY e,nW]
    exact h
  | _=>
    simp only[EW,ER,Fi,ET,EN,Fs,nZ,oT,o6,oz,oq,oB]
    exact h
def bY:FSp:=fun ds μ Q=>match ds with
  | [d,e]=>∃ w:WB,((d=w.toD∧w.Ok)∧RwT μ e)∧Q (.bl (fb w.nm e)) μ
  | _=>False
theorem nK:∀ ds μ Q,bY ds μ Q→ds.length=2:=by
  unfold bY
  walk_at "ln"
def jC:STr:=aH (bV (TOr (kf (TB (ao a8 (af (ah 1) (af (TC (.int 4)) (aq)))))) (TOr (kf (TB (TUn (dh "str") (ak L3.rIx (ah 1) (TC (.int 0)))))) (TB (ak rNe (ak L3.rIx (ah 1) (TC (.int 0))) (ak L3.rIx (ah 0) (TC (.int 0))))))) (aP (TC (.bl false))) (a9)) (aP (fR (ao bE (af (ak L3.rIx (ah 1) (TC (.int 1))) (aq))) (fR (ao bE (af (ak L3.rIx (ah 1) (TC (.int 2))) (aq))) (TUn (dh "bool") (ak L3.rIx (ah 1) (TC (.int 3)))))))
theorem qd:∀ ds μ Q,bY ds μ Q→jC { nx:=fun _ μ'=>RT Q .non μ',rt:=RT Q } (ini 2 ds) μ:=by
  intro ds μ Q h
  unfold bY at h
  split at h
  case h_2=>exact h.elim
  rename_i d e
  walk_at "ini"
  unfold jC
  walk_at "go"
  obtain ⟨w,⟨⟨rfl,K⟩,R⟩,k⟩:=h
  have on:=K.n
  rw[Ft]
  refine ⟨R.t,?_⟩
  have no:isT 4 e=false→fb w.nm e=false:=fun h=>by
    unfold fb
    split
    · cases h
    · rfl
  cases h4:isT 4 e with
  | false=>
    rw[no h4] at k
    walk_at "go"
    exact ⟨_,.refl _,k⟩
  | true=>
    obtain ⟨x0,x1,x2,x3,rfl⟩:∃ x0 x1 x2 x3,e=.tup [x0,x1,x2,x3]:=by
      unfold isT at h4
      split at h4
      · rename_i xs
        have hl:xs.length=4:=by have:=of_decide_eq_true h4;omega
        match xs,hl with
        | [x0,x1,x2,x3],_=>exact ⟨x0,x1,x2,x3,rfl⟩
      · cases h4
    have T0:=R.e _ rfl x0 (by simp)
    have T1:=R.e _ rfl x1 (by simp)
    have T2:=R.e _ rfl x2 (by simp)
    have T3:=R.e _ rfl x3 (by simp)
    walk_at "go"
    cases T0 with
    | str o=>
      rename_i a
      walk_at "go"
      refine ⟨⟨o,on⟩,?_⟩
      have k:Q (.bl (decide (a=w.nm)&&(isC x1&&(isC x2&&isB x3)))) μ:=k
      refine Kx (fun h=>?_) fun h=>?_
      · rw[decide_eq_false h] at k
        exact ⟨_,.refl _,k⟩
      · rw[decide_eq_true h] at k
        rw[EK]
        refine ⟨T1,?_⟩
        cases h1:isC x1 with
        | false=>
          rw[h1] at k
          exact ⟨_,.refl _,k⟩
        | true=>
          rw[h1] at k
          walk_at "go"
          rw[EK]
          refine ⟨T2,?_⟩
          cases h2:isC x2 with
          | false=>
            rw[h2] at k
            exact ⟨_,.refl _,k⟩
          | true=>
            rw[h2] at k
            exact Hm T3 ⟨_,.refl _,k⟩
    | obj e=>
      rw[vY e]
      walk_at "go"
      exact ⟨_,.refl _,k⟩
    | _=>
      walk_at "go"
      exact ⟨_,.refl _,k⟩
def bb:FSp:=fun ds μ Q=>match ds with
  | [d,e,.obj q,f]=>∃ (g:D) (ws:List WB) (ss:List SB) (w:WB) (r:RB) (W:WF) (tab:List (L2.Key×D)),((d=plB g ws ss∧PB ws ss)∧(e=w.toD∧w.Ok)∧(f=r.toD∧0≤r.wa)∧LB w.nm (onB w.nm ss) W tab∧μ q=some (.dct tab)∧W0 W)∧Q (.bl (rgt W ss w r)) μ
  | _=>False
theorem jm:∀ ds μ Q,bb ds μ Q→ds.length=4:=by
  unfold bb
  walk_at "ln"
def fv:STr:=aH (aV (ao bw (af (ah 0) (af (ak L3.rIx (ah 1) (TC (.int 0))) (aq)))) (ax 4)) (aH (bV (TB (ak rLt (ak L3.rIx (ah 3) (TC (.int 1))) (ao bx (af (ah 1) (af (ah 4) (af (ah 2) (aq))))))) (aP (TC (.bl false))) (a9)) (aH (bV (kf (TB (ao cj (af (ah 1) (af (ah 4) (af (ah 2) (af (ak L3.rIx (ah 3) (TC (.int 1))) (af (ak L3.rIx (ah 3) (TC (.int 2))) (aq))))))))) (aP (TC (.bl false))) (a9)) (aP (ym (jB (ak L3.rIx (ah 3) (TC (.int 3)))) (ao a5 (af (ah 1) (af (ah 4) (af (ah 2) (aq)))))))))
theorem kc:∀ ds μ Q,bb ds μ Q→fv { nx:=fun _ μ'=>RT Q .non μ',rt:=RT Q } (ini 5 ds) μ:=by
  intro ds μ Q h
  unfold bb at h
  split at h
  case h_2=>exact h.elim
  rename_i d e q f
  walk_at "ini"
  unfold fv
  walk_at "go"
  obtain ⟨g,ws,ss,w,r,W,tab,⟨⟨rfl,P⟩,⟨rfl,K⟩,⟨rfl,r0⟩,L,eq,w0⟩,k⟩:=h
  walk_at "go"
  refine ⟨g,ws,ss,⟨rfl,K.n,P⟩,?_⟩
  walk_at "go"
  refine ⟨w,onB w.nm ss,W,tab,⟨⟨rfl,K⟩,rfl,L,eq,w0⟩,?_⟩
  walk_at "go"
  unfold rgt at k
  refine kif (fun h=>?_) fun h=>?_
  · rw[decide_eq_true h] at k
    exact ⟨_,.refl _,k⟩
  rw[decide_eq_false h] at k
  refine ⟨w,onB w.nm ss,W,tab,⟨⟨rfl,K⟩,rfl,L,eq,r0⟩,?_⟩
  walk_at "go"
  cases hi:isW W w (onB w.nm ss) r.mo r.wa with
  | false=>
    rw[hi] at k
    walk_at "go"
    exact ⟨_,.refl _,k⟩
  | true=>
    rw[hi] at k
    walk_at "go"
    cases hn:r.no with
    | false=>
      rw[hn] at k
      walk_at "go"
      exact ⟨_,.refl _,k⟩
    | true=>
      rw[hn] at k
      walk_at "go"
      refine ⟨w,onB w.nm ss,W,tab,⟨⟨rfl,K⟩,rfl,L,eq,w0⟩,?_⟩
      walk_at "go"
      exact ⟨_,.refl _,k⟩
theorem iV {α:Type}(xs:List α)(P:α→Bool):(xs.map P).all id=xs.all P:=by
  rw[List.all_map];rfl
structure Odd (μ:Mu) (ws:List WB) (e:D):Prop where
  t:Thg μ e
  o:∀ xs,e=.tup xs→xs.length=ws.length→(∀ x∈xs,RwT μ x)∧∃ (i:Nat) (w:WB) (x:D),ws[i]? = some w∧xs[i]? = some x∧fb w.nm x=false
theorem ug {r:RB}(h:0≤r.mo∧0≤r.wa):fb r.nm r.toD=true:=by
  show (decide (r.nm=r.nm)&&(decide (0≤r.mo)&&(decide (0≤r.wa)&&true)))=true
  rw[decide_eq_true rfl,decide_eq_true h.1,decide_eq_true h.2];rfl
theorem zw {μ:Mu}{r:RB}(h:PyData.strOk r.nm=true):RwT μ r.toD:=⟨.tup _,fun ys e y hy=>by
  injection e with e
  subst e
  simp only[List.mem_cons,List.not_mem_nil,or_false] at hy
  rcases hy with rfl | rfl | rfl | rfl
  · exact .str h
  · exact .int _
  · exact .int _
  · exact .bl _⟩
def aU:FSp:=fun ds μ Q=>match ds with
  | [d,e]=>∃ (g:D) (ws:List WB) (ss:List SB),(d=plB g ws ss∧PB ws ss)∧((∃ rs:List RB,(e=.tup (rs.map RB.toD)∧rs.map RB.nm=ws.map WB.nm∧∀ r∈rs,0≤r.mo∧0≤r.wa)∧Q (.bl (yV ss wz (ws.zip rs))) μ)∨(Odd μ ws e∧Q (.bl false) μ))
  | _=>False
theorem ja:∀ ds μ Q,aU ds μ Q→ds.length=2:=by
  unfold aU
  walk_at "ln"
def fA:STr:=aH (bV (kf (TB (ao a8 (af (ah 1) (af (ao df (af (ak L3.rIx (ah 0) (TC (.int 1))) (aq))) (aq)))))) (aP (TC (.bl false))) (a9)) (aH (bV (kf (TB (ao CJ (af (dk (wL (af (ak L3.rIx (ah 0) (TC (.int 1))) (af (ah 1) (aq)))) (ve [0,1]) (iW) (ao bY (af (ah 0) (af (ah 1) (aq)))) 2 []) (aq))))) (aP (TC (.bl false))) (a9)) (aH (aV (ao xf (af (dk (f7 (ah 1)) (ax 0) (iW) (bM (af (ak L3.rIx (ah 0) (TC (.int 0))) (af (ak L3.rIx (ah 0) (TC (.int 2))) (aq)))) 1 []) (aq))) (ax 2)) (aP (ao CJ (af (dk (wL (af (ak L3.rIx (ah 0) (TC (.int 1))) (af (ah 1) (aq)))) (ve [0,1]) (iW) (ao bb (af (ah 2) (af (ah 0) (af (ah 3) (af (ah 1) (aq)))))) 2 [0,2]) (aq))))))
theorem ke:∀ ds μ Q,aU ds μ Q→fA { nx:=fun _ μ'=>RT Q .non μ',rt:=RT Q } (ini 3 ds) μ:=by
  intro ds μ Q h
  unfold aU at h
  split at h
  case h_2=>exact h.elim
  rename_i d e
  walk_at "ini"
  unfold fA
  walk_at "go"
  obtain ⟨g,ws,ss,⟨rfl,P⟩,h⟩:=h
  have wl:=P.wl
  walk_at "go"
  rw[Ft,List.length_map]
  rcases h with ⟨rs,⟨rfl,en,h0⟩,k⟩ | ⟨O,k⟩
  · have el:rs.length=ws.length:=by
      have:=congrArg List.length en
      simpa using this
    have nd:(rs.map RB.nm).Nodup:=by rw[en];exact P.wn
    have zl:(ws.zip rs).length≤6:=by rw[List.length_zip];omega
    have hz:∀ p∈ws.zip rs,p.1∈ws∧p.2∈rs:=fun p hp=>List.of_mem_zip hp
    refine ⟨.tup _,?_⟩
    have e4:isT (ws.length:Nat) (.tup (rs.map RB.toD))=true:=by
      show decide ((((rs.map RB.toD).length:Nat):Int)=(ws.length:Nat))=true
      rw[List.length_map,el];exact decide_eq_true rfl
    rw[e4]
    walk_at "go"
    rw[Jk]
    refine cW (ws.zip rs) (fun p:WB×RB=>D.tup [p.1.toD,p.2.toD]) (fun _=>D.bl true) rfl (by omega) (fun p hp μ' _ N m=>?_) ?_
    · walk_at "go"
      have en':=Jb en p hp
      have kw:=P.w _ (hz p hp).1
      refine ⟨p.1,⟨⟨rfl,kw⟩,zw (by rw[en'];exact kw.n)⟩,?_⟩
      rw[← en',ug (h0 p.2 (hz p hp).2)]
      exact m
    refine ⟨(ws.zip rs).map fun _=>true,by rw[List.map_map];rfl,?_⟩
    have et:((ws.zip rs).map fun _=>true).all id=true:=by
      rw[iV]
      exact List.all_eq_true.mpr fun _ _=>rfl
    rw[et]
    walk_at "go"
    refine cW rs RB.toD (fun r=>.tup [.str r.nm,.int r.wa]) rfl (by omega) (fun r hr μ' _ N m=>?_) ?_
    · walk_at "go"
      exact m
    walk_at "go"
    refine ⟨vT rs,by unfold vT;rw[List.map_map];rfl,by unfold vT;rw[List.length_map];omega,fun q hq=>?_⟩
    walk_at "go"
    have M:=G1 rs nd
    rw[en] at M
    have W0':W0 (wOf rs):=Iq fun r hr=>(h0 r hr).2
    refine cW (ws.zip rs) (fun p:WB×RB=>D.tup [p.1.toD,p.2.toD]) (fun p=>D.bl (rgt (wOf rs) ss p.1 p.2)) rfl (by omega) (fun p hp μ' sb N m=>?_) ?_
    · walk_at "go"
      have hw:=(hz p hp).1
      obtain ⟨a,b,e⟩:=List.append_of_mem hw
      refine ⟨g,ws,ss,p.1,p.2,wOf rs,_,⟨⟨rfl,P⟩,⟨rfl,P.w _ hw⟩,⟨rfl,(h0 p.2 (hz p hp).2).2⟩,P.lb (dn:=a) (rs:=b) e.symm (fun n hn=>M n ?_),sb _ _ aJ,W0'⟩,m⟩
      rw[e,List.map_append]
      exact List.mem_append_left _ hn
    refine ⟨(ws.zip rs).map fun p=>rgt (wOf rs) ss p.1 p.2,by rw[List.map_map];rfl,?_⟩
    rw[iV]
    have e:=vX P (wOf rs) (ws.zip rs) [] wz (by rw[List.nil_append,List.map_fst_zip];omega) (fun p hp=>by
      have:=zY nd p.2 (hz p hp).2
      rw[Jb en p hp] at this
      exact this) (fun _ h=>nomatch h)
    rw[← e]
    refine ⟨μ,fun a o h=>?_,k⟩
    rw[aY (fun z=>by subst z;rw[hq] at h;cases h)]
    exact h
  · refine ⟨O.t,?_⟩
    cases h4:isT (ws.length:Nat) e with
    | false=>
      walk_at "go"
      exact ⟨_,.refl _,k⟩
    | true=>
      obtain ⟨xs,rfl,xl⟩:∃ xs,e=.tup xs∧xs.length=ws.length:=by
        unfold isT at h4
        split at h4
        · rename_i xs
          exact ⟨xs,rfl,by have:=of_decide_eq_true h4;omega⟩
        · cases h4
      obtain ⟨ra,i,w,x,ew,ex,hr⟩:=O.o xs rfl xl
      walk_at "go"
      have ez:List.zipWith (fun d e=>D.tup [d,e]) (ws.map WB.toD) xs=(ws.zip xs).map fun p=>.tup [p.1.toD,p.2]:=by
        have:=Jk WB.toD id ws xs
        rw[List.map_id] at this
        exact this
      rw[ez]
      refine cW (ws.zip xs) (fun p:WB×D=>D.tup [p.1.toD,p.2]) (fun p=>D.bl (fb p.1.nm p.2)) rfl (by rw[List.length_zip];omega) (fun p hp μ' sb N m=>?_) ?_
      · walk_at "go"
        have hm:=List.of_mem_zip hp
        exact ⟨p.1,⟨⟨rfl,P.w _ hm.1⟩,(ra _ hm.2).sub sb⟩,m⟩
      refine ⟨(ws.zip xs).map fun p=>fb p.1.nm p.2,by rw[List.map_map];rfl,?_⟩
      have et:((ws.zip xs).map fun p=>fb p.1.nm p.2).all id=false:=by
        rw[iV]
        have hm:(w,x)∈ws.zip xs:=List.mem_of_getElem? (i:=i) (by rw[List.getElem?_zip_eq_some];exact ⟨ew,ex⟩)
        cases ha:(ws.zip xs).all fun p=>fb p.1.nm p.2 with
        | false=>rfl
        | true=>
          have:=List.all_eq_true.mp ha _ hm
          rw[hr] at this
          cases this
      rw[et]
      walk_at "go"
      exact ⟨_,.refl _,k⟩
def bK:FSp:=fun ds μ Q=>match ds with
  | [d,.ls xs,.obj q,.int m]=>∃ (w:WB) (l:List SB) (W:WF) (tab:List (L2.Key×D)),((d=w.toD∧w.Ok)∧xs=l.map SB.toD∧LB w.nm l W tab∧μ q=some (.dct tab))∧Q (.int (wt W w l m)) μ
  | _=>False
theorem kH:∀ ds μ Q,bK ds μ Q→ds.length=4:=by
  unfold bK
  walk_at "ln"
def iM:STr:=aH (aV (TC (.int 0)) (ax 4)) (aH (qW (kf (TB (ao cj (af (ah 0) (af (ah 1) (af (ah 2) (af (ah 3) (af (ah 4) (aq))))))))) (zx (fun m n=>m+n) 4 (TC (.int 1)))) (aP (ah 4)))
theorem m9:∀ ds μ Q,bK ds μ Q→iM { nx:=fun _ μ'=>RT Q .non μ',rt:=RT Q } (ini 5 ds) μ:=by
  intro ds μ Q h
  unfold bK at h
  split at h
  case h_2=>exact h.elim
  rename_i d xs q m
  walk_at "ini"
  unfold iM
  walk_at "go"
  obtain ⟨w,l,W,tab,⟨⟨rfl,K⟩,rfl,L,eq⟩,k⟩:=h
  refine ⟨fun ρ μ'=>μ'=μ∧∃ j:Nat,ρ=[some w.toD,some (.ls (l.map SB.toD)),some (.obj q),some (.int m),some (.int j)]∧∀ i:Nat,i < j→isW W w l m i=false,fun ρ _=>match lk ρ 4 with
    | some (.int z)=>(plc w l m - z).toNat
    | _=>0,⟨rfl,0,rfl,fun i hi=>absurd hi (Nat.not_lt_zero _)⟩,?_⟩
  rintro ρ _ ⟨rfl,j,rfl,hi⟩
  walk_at "go"
  refine ⟨w,l,W,tab,⟨⟨rfl,K⟩,rfl,L,eq,by omega⟩,?_⟩
  walk_at "go"
  cases h:isW W w l m j with
  | true=>
    have e:=Ja K.p0 h hi
    rw[e] at k
    walk_at "go"
    exact ⟨_,.refl _,k⟩
  | false=>
    walk_at "go"
    have jl:(j:Int) < plc w l m:=by
      unfold isW at h
      simp only[Bool.or_eq_false_iff,decide_eq_false_iff_not] at h
      omega
    refine ⟨⟨j+1,rfl,fun i hij=>?_⟩,?_⟩
    · by_cases z:i=j
      · rw[z];exact h
      · exact hi i (by omega)
    · show (plc w l m - ((j:Int)+1)).toNat < (plc w l m - (j:Int)).toNat
      omega
def cX:FSp:=fun ds μ Q=>match ds with
  | [d]=>∃ (g:D) (ws:List WB) (ss:List SB),(d=plB g ws ss∧PB ws ss)∧Q (.tup (gw ss wz ws)) μ
  | _=>False
theorem uY:∀ ds μ Q,cX ds μ Q→ds.length=1:=by
  unfold cX
  walk_at "ln"
def rS:STr:=aH (aV (pB) (ax 1)) (aH (aV (rB (aq)) (ax 2)) (aH (j7 (f7 (ak L3.rIx (ah 0) (TC (.int 1)))) (ax 3) (aH (aV (ao bw (af (ah 0) (af (ak L3.rIx (ah 3) (TC (.int 0))) (aq)))) (ax 4)) (aH (aV (ao bx (af (ah 3) (af (ah 4) (af (ah 1) (aq))))) (ax 5)) (aH (aV (ao bK (af (ah 3) (af (ah 4) (af (ah 1) (af (ah 5) (aq)))))) (ax 6)) (aH (jK (vo (ah 2) (bM (af (ak L3.rIx (ah 3) (TC (.int 0))) (af (ah 5) (af (ah 6) (af (ao a5 (af (ah 3) (af (ah 4) (af (ah 1) (aq))))) (aq)))))))) (Ak (ah 1) (ak L3.rIx (ah 3) (TC (.int 0))) (ah 6))))))) (aP (ao dg (af (ah 2) (aq))))))
theorem xE:∀ ds μ Q,cX ds μ Q→rS { nx:=fun _ μ'=>RT Q .non μ',rt:=RT Q } (ini 7 ds) μ:=by
  intro ds μ Q h
  unfold cX at h
  split at h
  case h_2=>exact h.elim
  rename_i d
  walk_at "ini"
  unfold rS
  walk_at "go"
  obtain ⟨g,ws,ss,⟨rfl,P⟩,k⟩:=h
  have wl:=P.wl
  intro q hq
  walk_at "go"
  intro p hp
  have pq:p≠q:=fun z=>by subst z;rw[aJ] at hp;cases hp
  walk_at "go"
  refine cK (fun r ρ μ'=>∃ (dn rs:List WB) (W:WF) (tab:List (L2.Key×D)) (rows:List D) (v3 v4 v5 v6:Option D),r=rs.map WB.toD∧dn++rs=ws∧ρ=[some (plB g ws ss),some (.obj q),some (.obj p),v3,v4,v5,v6]∧μ' q=some (.dct tab)∧μ' p=some (.lst rows)∧(∀ a o,μ a=some o→μ' a=some o)∧W0 W∧rC tab W (dn.map WB.nm)∧tab.length≤dn.length∧rows.length=dn.length∧rows++gw ss W rs=gw ss wz ws) ?_ ?_ _ _ _ ⟨[],ws,wz,[],[],_,_,_,_,rfl,rfl,rfl,by rw[aY (Ne.symm pq),aJ],aJ,fun a o e=>?_,wz0,(fun _ h=>nomatch h),Nat.le_refl _,rfl,rfl⟩
  · rintro ρ μ' ⟨dn,rs,W,tab,rows,v3,v4,v5,v6,er,es,rfl,eq,ep,kp,w0,T,tl,rl,e⟩
    cases rs with
    | cons _ _=>cases er
    | nil=>
    have e:rows=gw ss wz ws:=by simpa[gw] using e
    subst e
    walk_at "go"
    refine cv ep ⟨μ,kp,k⟩
  · rintro d r ρ μ' N ⟨dn,rs,W,tab,rows,v3,v4,v5,v6,er,es,rfl,eq,ep,kp,w0,T,tl,rl,e⟩ hN
    cases rs with
    | nil=>cases er
    | cons w rs=>
    cases er
    have hw:w∈ws:=by rw[← es];simp
    have K:=P.w w hw
    have L:=P.lb es T
    have dl:dn.length+(rs.length+1)=ws.length:=by rw[← es];simp
    have e:rows++Et W ss w::gw ss (nxW W ss w) rs=gw ss wz ws:=e
    walk_at "go"
    refine ⟨g,ws,ss,⟨rfl,K.n,P⟩,?_⟩
    walk_at "go"
    refine ⟨w,onB w.nm ss,W,tab,⟨⟨rfl,K⟩,rfl,L,eq,w0⟩,?_⟩
    walk_at "go"
    refine ⟨w,onB w.nm ss,W,tab,⟨⟨rfl,K⟩,rfl,L,eq⟩,?_⟩
    walk_at "go"
    refine cv ep ?_
    refine ⟨w,onB w.nm ss,W,tab,⟨⟨rfl,K⟩,rfl,L,eq,w0⟩,?_⟩
    walk_at "go"
    refine cv ep ⟨by omega,?_⟩
    walk_at "go"
    refine EZ (by rw[aY (Ne.symm pq)];exact eq) ⟨by omega,?_⟩
    have tl':=Ai tab (.inr w.nm) (.int (wt W w (onB w.nm ss) (most W w (onB w.nm ss))))
    refine hN _ _ ⟨dn++[w],rs,nxW W ss w,_,rows++[Et W ss w],_,_,_,_,rfl,by rw[← es];simp,rfl,aJ,by rw[aY pq];exact aJ,fun a o ea=>?_,E9 w0 ss w,?_,by rw[List.length_append];simp;omega,by rw[List.length_append,List.length_append,rl];rfl,by rw[← e];simp⟩
    · have h1:a≠q:=fun z=>by subst z;rw[hq] at ea;cases ea
      have h2:a≠p:=fun z=>by subst z;rw[aY h1,ea] at hp;cases hp
      rw[aY h1,aY h2]
      exact kp a o ea
    · have:=T.put w.nm (wt W w (onB w.nm ss) (most W w (onB w.nm ss)))
      rw[List.map_append]
      exact this
  · have h1:a≠q:=fun z=>by subst z;rw[hq] at e;cases e
    have h2:a≠p:=fun z=>by subst z;rw[aY h1,e] at hp;cases hp
    rw[aY h2,aY h1]
    exact e
theorem Fl (ns:List Int):cutD (ns.map D.int) none (some 63)=(ns.take 63).map D.int:=by
  rw[show (63:Int)=((63:Nat):Int) from rfl,ki,List.map_take]
def cq:FSp:=fun ds μ Q=>match ds with
  | [.ls xs]=>(∃ ns:List Int,xs=ns.map .int)∧∀ b c μ',Bp μ' b c→(∀ a o,μ a=some o→a≠b∧a≠c∧μ' a=some o)→Q (.obj b) μ'
  | _=>False
theorem pW:∀ ds μ Q,cq ds μ Q→ds.length=1:=by
  unfold cq
  walk_at "ln"
def lR:STr:=aH (aV (TC (.int 11)) (ax 1)) (aH (j7 (f7 (TSl (ah 0) (ONo) (eA (TC (.int 63))))) (ax 2) (aV (ak ly (ak aK (ak aK (ak eC (ah 1) (TC (.int 6364136223846793005))) (ak ly (ah 2) (ak xA (TC (.int 10)) (TC (.int 40))))) (TC (.int 7))) (TC (.int 2305843009213693951))) (ax 1))) (aP (rB (af (qj (f7 (TSl (ah 0) (ONo) (eA (TC (.int 63))))) (ax 0) (TB (ak rGe (ao sv (af (ah 0) (aq))) (ak xA (TC (.int 10)) (TC (.int 18))))) (ao sv (af (ah 0) (aq))) 1 []) (af (ah 1) (aq))))))
theorem tq:∀ ds μ Q,cq ds μ Q→lR { nx:=fun _ μ'=>RT Q .non μ',rt:=RT Q } (ini 3 ds) μ:=by
  intro ds μ Q h
  unfold cq at h
  split at h
  case h_2=>exact h.elim
  rename_i xs
  walk_at "ini"
  unfold lR
  walk_at "go"
  obtain ⟨⟨ns,rfl⟩,k⟩:=h
  rw[Fl]
  refine cK (fun r ρ μ'=>∃ (rs:List Int) (s:Int) (v2:Option D),r=rs.map .int∧ρ=[some (.ls (ns.map .int)),some (.int s),v2]∧μ'=μ) ?_ ?_ _ _ _ ⟨ns.take 63,11,_,rfl,rfl,rfl⟩
  · rintro ρ μ' ⟨rs,s,v2,er,rfl,rfl⟩
    walk_at "go"
    rw[Fl]
    intro c hc
    refine fU (fun r μ2=>∃ (rs zs:List Int),r=rs.map .int∧μ2=up μ' c (.lst (zs.map .int))∧zs.length+rs.length≤63) ?_ ?_ _ _ ⟨ns.take 63,[],rfl,rfl,by rw[List.length_take];simp;omega⟩
    · rintro μ2 ⟨rs,zs,er,rfl,_⟩
      intro b hb
      have cb:c≠b:=fun z=>by subst z;rw[aJ] at hb;cases hb
      refine ⟨_,.refl _,k b c _ ⟨Ne.symm cb,zs,s,aJ,by rw[aY cb];exact aJ⟩ fun a o e=>?_⟩
      have h1:a≠c:=fun z=>by subst z;rw[hc] at e;cases e
      have h2:a≠b:=fun z=>by subst z;rw[aY h1,e] at hb;cases hb
      exact ⟨h2,h1,by rw[aY h2,aY h1];exact e⟩
    · rintro d r μ2 N ⟨rs,zs,er,rfl,hz⟩ hN
      cases rs with
      | nil=>cases er
      | cons n rs=>
      cases er
      rw[List.length_cons] at hz
      walk_at "go"
      refine ⟨⟨by decide,by decide,by decide⟩,?_⟩
      refine kif (fun h=>?_) fun h=>?_
      · refine ⟨by rw[List.length_map];omega,hN _ ⟨rs,zs++[if n < 0 then -n else n],rfl,by rw[List.map_append];rfl,by rw[List.length_append];simp;omega⟩⟩
      · exact hN _ ⟨rs,zs,rfl,rfl,by omega⟩
  · rintro d r ρ μ' N ⟨rs,s,v2,er,rfl,rfl⟩ hN
    cases rs with
    | nil=>cases er
    | cons n rs=>
    cases er
    walk_at "go"
    refine ⟨.inl (.inr (by unfold S64;decide)),⟨by decide,by decide,by decide⟩,by decide,?_⟩
    exact ⟨by decide,hN _ _ ⟨rs,_,_,rfl,rfl,rfl⟩⟩
def ar:FSp:=fun ds μ Q=>match ds with
  | [.obj b,.int n]=>∃ c,(Bp μ b c∧0 < n∧cu n)∧∀ k μ',0≤k→k < n→c8 b c μ μ'→Q (.int k) μ'
  | _=>False
theorem tkB {μ:Mu}{b c:Addr}{n:Int}{Q:DK}(hB:Bp μ b c)(h0:0 < n)(h1:n < 1000000000000000000000000000000000000000000000000)(h:∀ k μ',0≤k→k < n→c8 b c μ μ'→Q (.int k) μ'):cB ar [.obj b,.int n] μ Q:=⟨c,⟨hB,h0,by unfold cu;omega⟩,h⟩
theorem mU:∀ ds μ Q,ar ds μ Q→ds.length=2:=by
  unfold ar
  walk_at "ln"
def fw:STr:=aP (ak ly (ak je (ak L3.rIx (ah 0) (TC (.int 1))) (TC (.int 131071))) (ah 1))
def jw:STr:=aH (bV (TB (ak rGt (ao df (af (ak L3.rIx (ah 0) (TC (.int 0))) (aq))) (TC (.int 0)))) (aH (aV (ak ly (ak L3.rIx (ak L3.rIx (ah 0) (TC (.int 0))) (TC (.int 0))) (ah 1)) (ax 2)) (aH (gH (ak L3.rIx (ah 0) (TC (.int 0))) (TC (.int 0)) (ak je (ak L3.rIx (ak L3.rIx (ah 0) (TC (.int 0))) (TC (.int 0))) (ah 1))) (aH (bV (TB (ak rEq (ak L3.rIx (ak L3.rIx (ah 0) (TC (.int 0))) (TC (.int 0))) (TC (.int 0)))) (jK (HH (ak L3.rIx (ah 0) (TC (.int 0))) (TC (.int 0)))) (a9)) (aP (ah 2))))) (a9)) (aH (gH (ah 0) (TC (.int 1)) (ak ly (ak aK (ak eC (ak L3.rIx (ah 0) (TC (.int 1))) (TC (.int 3935559000370003845))) (TC (.int 2691343689449507681))) (TC (.int 2305843009213693951)))) (fw))
theorem qT:∀ ds μ Q,ar ds μ Q→jw { nx:=fun _ μ'=>RT Q .non μ',rt:=RT Q } (ini 3 ds) μ:=by
  intro ds μ Q h
  unfold ar at h
  split at h
  case h_2=>exact h.elim
  rename_i b n
  walk_at "ini"
  unfold jw
  walk_at "go"
  obtain ⟨c,⟨hB,n0,n1⟩,k⟩:=h
  obtain ⟨ne,ns,s,e1,e2⟩:=hB
  have dv:fh n:=⟨by omega,n1⟩
  refine cv e1 ?_
  walk_at "go"
  refine cv e2 ?_
  rw[List.length_map]
  cases ns with
  | nil=>
    walk_at "go"
    refine (show kIf (decide ((0:Int) < 0)) _ _ from ?_)
    unfold fw
    walk_at "go"
    refine cv e1 ?_
    walk_at "go"
    refine ⟨.inl (.inr (by unfold S64;decide)),by decide,cv e1 ?_⟩
    refine (show kN (some 1) _ from ?_)
    walk_at "go"
    refine ⟨⟨by decide,by unfold cu;decide⟩,by omega,?_⟩
    exact ⟨_,.refl _,k _ _ (fm0 n0) (fm1 n0) ⟨⟨ne,[],_,aJ,by rw[aY (Ne.symm ne)];exact e2⟩,fun a h1 _=>aY h1⟩⟩
  | cons m ns=>
    rw[decide_eq_true (show (0:Int) < ((m::ns).length:Nat) by simp)]
    have ix0:∀ x y:D,L2.ixN (x::ns.map D.int).length 0=some 0:=fun x y=>by
      rw[show (0:Int)=((0:Nat):Int) from rfl,qw,if_pos (by simp)]
    rw[List.map_cons] at e2
    walk_at "go"
    refine cv e1 ?_
    walk_at "go"
    refine cv e2 ?_
    walk_at "go"
    refine ⟨by omega,cv e1 ?_⟩
    walk_at "go"
    refine cv e2 ?_
    walk_at "go"
    refine ⟨dv,cv e1 ?_⟩
    walk_at "go"
    refine cv e2 ?_
    rw[ix0 _ .non]
    refine (show kL (up μ c (.lst (D.int (m.fdiv n)::ns.map D.int))) b _ from ?_)
    refine cv (by rw[aY ne];exact e1) ?_
    simp only[List.set_cons_zero]
    walk_at "go"
    refine kif (fun h=>?_) fun h=>?_
    · refine cv (by rw[aY ne];exact e1) ?_
      walk_at "go"
      rw[ix0 _ .non]
      refine ⟨_,.refl _,k _ _ (fm0 n0) (fm1 n0) ⟨⟨ne,ns,s,by rw[aY ne];exact e1,aJ⟩,fun a _ h2=>by rw[aY h2]⟩⟩
    · exact ⟨_,.refl _,k _ _ (fm0 n0) (fm1 n0) ⟨⟨ne,m.fdiv n::ns,s,by rw[aY ne];exact e1,aJ⟩,fun a _ h2=>by rw[aY h2]⟩⟩
def aF:FSp:=fun ds μ Q=>match ds with
  | [.obj b,x]=>∃ c,Bp μ b c∧((∃ xs,(x=.ls xs∧xs≠[]∧xs.length≤1000000)∧∀ d∈xs,∀ μ',c8 b c μ μ'→Q d μ')∨∃ z:Str,(x=.str z∧0 < z.length∧z.length≤1000)∧∀ x∈z.cps.toList,∀ μ',c8 b c μ μ'→Q (.str ⟨#[x]⟩) μ')
  | _=>False
theorem ofL {μ:Mu}{b c:Addr}{xs:List D}{Q:DK}(P:D→Prop)(hB:Bp μ b c)(h0:xs≠[])(h1:xs.length≤1000000)(al:∀ d∈xs,P d)(h:∀ d μ',P d→c8 b c μ μ'→Q d μ'):cB aF [.obj b,.ls xs] μ Q:=⟨c,hB,.inl ⟨xs,⟨rfl,h0,h1⟩,fun d hd μ' B=>h d μ' (al d hd) B⟩⟩
theorem r6:∀ ds μ Q,aF ds μ Q→ds.length=2:=by
  unfold aF
  walk_at "ln"
def oO:STr:=aP (ak Bv (ah 1) (ao ar (af (ah 0) (af (ao df (af (ah 1) (aq))) (aq)))))
theorem uT:∀ ds μ Q,aF ds μ Q→oO { nx:=fun _ μ'=>RT Q .non μ',rt:=RT Q } (ini 2 ds) μ:=by
  intro ds μ Q h
  unfold aF at h
  split at h
  case h_2=>exact h.elim
  rename_i b x
  walk_at "ini"
  unfold oO
  walk_at "go"
  obtain ⟨c,hB,⟨xs,⟨rfl,h0,h1⟩,k⟩ | ⟨z,⟨rfl,h0,h1⟩,k⟩⟩:=h
  · walk_at "go"
    have hl:0 < xs.length:=List.length_pos_iff.mpr h0
    refine tkB hB (by omega) (by omega) fun j μ' j0 j1 B=>?_
    walk_at "go"
    obtain ⟨d,ed,hd⟩:=G4 (P:=fun d=>d∈xs) (xs:=xs) (fun d hd=>hd) j0 j1
    refine wZ ed ?_
    exact ⟨_,.refl _,k d hd μ' B⟩
  · walk_at "go"
    refine ⟨by omega,?_⟩
    refine tkB hB (by omega) (by omega) fun j μ' j0 j1 B=>?_
    walk_at "go"
    refine ⟨by omega,?_⟩
    obtain ⟨n,rfl⟩:∃ n:Nat,j=(n:Int):=⟨j.toNat,by omega⟩
    have jl:n < z.cps.toList.length:=by
      have:z.length=z.cps.toList.length:=by simp[Str.length]
      omega
    have e:L2.atI z.cps.toList (n:Int)=some z.cps.toList[n]:=by
      unfold L2.atI
      rw[qw,if_pos jl]
      simp
    rw[e]
    refine (show RT Q _ μ' from ?_)
    exact ⟨_,.refl _,k _ (List.getElem_mem jl) μ' B⟩
def aO:FSp:=fun ds μ Q=>match ds with
  | [.int a,.int b]=>(0≤a∧0 < b∧cu b)∧Q (fr (a.fdiv (Int.gcd a b)) (b.fdiv (Int.gcd a b))) μ
  | _=>False
theorem wD {a b:Int}(b0:0 < b)(b1:b≤10000002){lo hi:Int}(h0:lo*b≤a)(h1:a≤hi*b):FrB lo hi (a.fdiv (Int.gcd a b)) (b.fdiv (Int.gcd a b)):=by
  obtain ⟨g,p,q,g0,ea,eb,e1,e2,q0,qb,gg⟩:=yD (a:=a) b0
  rw[e1,e2]
  rw[ea,eb] at h0 h1
  refine ⟨q0,by omega,gg,?_,?_⟩
  · rw[Int.mul_left_comm] at h0
    exact Int.le_of_mul_le_mul_left h0 g0
  · rw[Int.mul_left_comm] at h1
    exact Int.le_of_mul_le_mul_left h1 g0
theorem j8:∀ ds μ Q,aO ds μ Q→ds.length=2:=by
  unfold aO
  walk_at "ln"
def gk:STr:=aH (uR 2 3 (af (ah 0) (af (ah 1) (aq)))) (aH (qW (TB (ak rNe (ah 3) (TC (.int 0)))) (uR 2 3 (af (ah 3) (af (ak ly (ah 2) (ah 3)) (aq))))) (aP (bM (af (ak je (ah 0) (ah 2)) (af (ak je (ah 1) (ah 2)) (aq))))))
theorem kC:∀ ds μ Q,aO ds μ Q→gk { nx:=fun _ μ'=>RT Q .non μ',rt:=RT Q } (ini 4 ds) μ:=by
  intro ds μ Q h
  unfold aO at h
  split at h
  case h_2=>exact h.elim
  rename_i a b
  walk_at "ini"
  unfold gk
  walk_at "go"
  obtain ⟨⟨a0,b0,b1⟩,k⟩:=h
  refine ⟨fun ρ μ'=>μ'=μ∧∃ x y:Int,ρ=[some (.int a),some (.int b),some (.int x),some (.int y)]∧0≤x∧0≤y∧Int.gcd x y=Int.gcd a b,mz 3,⟨rfl,a,b,rfl,a0,by omega,rfl⟩,?_⟩
  rintro ρ _ ⟨rfl,x,y,rfl,x0,y0,e⟩
  walk_at "go"
  refine Kx (fun hy=>?_) fun hy=>?_
  · walk_at "go"
    have hy':0 < y:=by omega
    refine ⟨by omega,⟨_,_,rfl,y0,fm0 hy',?_⟩,?_⟩
    · rw[sP];exact e
    · have:=fm1 (a:=x) hy'
      have:=fm0 (a:=x) hy'
      simp only[mz,lk]
      omega
  · have hy0:y=0:=hy
    subst hy0
    rw[Int.gcd_zero_right] at e
    have hx:x=(Int.gcd a b:Int):=by omega
    subst hx
    have gp:0 < Int.gcd a b:=Int.gcd_pos_of_ne_zero_right a (by omega)
    have gl:(Int.gcd a b:Int)≤b:=Int.gcd_le_right a b0
    have dv:fh (Int.gcd a b:Int):=⟨by omega,by unfold cu at *;omega⟩
    walk_at "go"
    exact ⟨dv,dv,_,.refl _,k⟩
def ltr:Str:=Str.ofString "abcdefghijklmnopqrstuvwxyz"
theorem Hj {j:Nat}(h:j < 26):L2.atI ltr.cps.toList (j:Int)=some (97+j):=by
  have:∀ i:Fin 26,L2.atI ltr.cps.toList ((i:Nat):Int)=some (97+(i:Nat)):=by decide +kernel
  exact this ⟨j,h⟩
theorem CL:ltr.cps.toList.all (fun c=>decide (c < 128))=true:=by decide +kernel
theorem y3 {z:Str}{l u:Option Int}{c:Nat}(h:c∈(Txt.slice z l u).cps.toList):c∈z.cps.toList:=by
  unfold Txt.slice at h
  split at h
  · exact h
  · simp only[List.mem_filterMap] at h
    obtain ⟨i,_,e⟩:=h
    exact Array.mem_toList_iff.mpr (Array.mem_of_getElem? e)
theorem tu:∀ cs:List Nat,gT (cs.map fun x=>D.str ⟨#[x]⟩)=some (cs.map fun x=>⟨#[x]⟩)
  | []=>rfl
  | c::r=>by
    show (gT (r.map fun x=>D.str ⟨#[x]⟩)).map _=_
    rw[tu r];rfl
def nR (A B:Str)(f s k:Int):Str:=A ++ ⟨#[97+((f+s*k).fmod 26).toNat]⟩ ++ B
theorem jj (x y:Str):(x++y).cps.toList=x.cps.toList++y.cps.toList:=by
  show (x.cps++y.cps).toList=_
  simp
theorem kj (x y:Str):(x++y).length=x.length+y.length:=by
  show (x.cps++y.cps).size=_
  rw[Array.size_append];rfl
theorem xa {α β:Type}{g:α→β}:∀ {l:List α},(∀ x∈l,∀ y∈l,g x=g y→x=y)→l.Nodup→(l.map g).Nodup
  | [],_,_=>List.nodup_nil
  | x::r,h,nd=>by
    obtain ⟨h1,h2⟩:=List.nodup_cons.mp nd
    rw[List.map_cons]
    refine List.nodup_cons.mpr ⟨fun z=>?_,xa (fun a ha b hb=>h a (List.mem_cons_of_mem _ ha) b (List.mem_cons_of_mem _ hb)) h2⟩
    obtain ⟨y,hy,e⟩:=List.mem_map.mp z
    exact h1 (h y (List.mem_cons_of_mem _ hy) x List.mem_cons_self e ▸ hy)
theorem CC {A B:Str}{f s k j:Int}(hs:s=1∨s=3∨s=5∨s=7∨s=9∨s=11)(k0:0≤k)(k1:k < 26)(j0:0≤j)(j1:j < 26)(e:nR A B f s k=nR A B f s j):k=j:=by
  have h:=congrArg (fun z:Str=>z.cps.toList) e
  unfold nR at h
  simp only[jj] at h
  have h2:=List.append_cancel_right h
  have h3:=List.append_cancel_left h2
  have h4:((f+s*k).fmod 26).toNat=((f+s*j).fmod 26).toNat:=by
    have:97+((f+s*k).fmod 26).toNat=97+((f+s*j).fmod 26).toNat:=by simpa using h3
    omega
  have a0:=fm0 (a:=f+s*k) (n:=26) (by decide)
  have b0:=fm0 (a:=f+s*j) (n:=26) (by decide)
  have h5:(f+s*k).fmod 26=(f+s*j).fmod 26:=by omega
  rw[Int.fmod_eq_emod_of_nonneg _ (by decide),Int.fmod_eq_emod_of_nonneg _ (by decide)] at h5
  rcases hs with rfl | rfl | rfl | rfl | rfl | rfl<;>omega
def NmP (z:Str):Prop:=∃ x∈z.cps.toList,97≤x
def br:FSp:=fun ds μ Q=>match ds with
  | [.obj b,.int n]=>∃ c,(Bp μ b c∧0≤n∧n≤20)∧∀ (ns:List Str) μ',(ns.length:Int)=n→ns.Nodup→(∀ z∈ns,PyData.strOk z=true∧NmP z∧z.length≤100)→c8 b c μ μ'→Q (.ls (ns.map .str)) μ'
  | _=>False
theorem kT:∀ ds μ Q,br ds μ Q→ds.length=2:=by
  unfold br
  walk_at "ln"
def iN:STr:=aH (aV (TC (.str "abcdefghijklmnopqrstuvwxyz")) (ax 2)) (aH (aV (wb (TC (.str "")) (dk (dA (ao ar (af (ah 0) (af (TC (.int 8)) (aq))))) (ax 0) (iW) (ao aF (af (ah 1) (af (ah 2) (aq)))) 1 [0,2])) (ax 3)) (aH (aV (ao ar (af (ah 0) (af (ak aK (ao df (af (ah 3) (aq))) (TC (.int 1))) (aq)))) (ax 4)) (aH (aV (ao ar (af (ah 0) (af (TC (.int 26)) (aq)))) (ax 5)) (aH (aV (ao aF (af (ah 0) (af (cG (af (TC (.int 1)) (af (TC (.int 3)) (af (TC (.int 5)) (af (TC (.int 7)) (af (TC (.int 9)) (af (TC (.int 11)) (aq)))))))) (aq)))) (ax 6)) (aP (dk (dA (ah 1)) (ax 0) (iW) (ak aK (ak aK (zp (ah 1) (ONo) (eA (ah 3))) (ak oh (ah 2) (ak ly (ak aK (ah 4) (ak eC (ah 5) (ah 0))) (TC (.int 26))))) (zp (ah 1) (eA (ah 3)) (ONo))) 1 [3,2,4,5,6]))))))
theorem nu:∀ ds μ Q,br ds μ Q→iN { nx:=fun _ μ'=>RT Q .non μ',rt:=RT Q } (ini 7 ds) μ:=by
  intro ds μ Q h
  unfold br at h
  split at h
  case h_2=>exact h.elim
  rename_i b n
  walk_at "ini"
  unfold iN
  walk_at "go"
  obtain ⟨c,⟨hB,n0,n1⟩,k⟩:=h
  refine tkB hB (by decide) (by decide) fun j0 μ1 j00 j01 B1=>?_
  walk_at "go"
  refine ⟨⟨by omega,by omega⟩,?_⟩
  have rl:(dJ 0 j0.toNat).length≤8:=by unfold dJ;rw[List.length_map,List.length_range];omega
  refine qE B1.p (fun r zs=>∃ cs:List Nat,zs=cs.map (fun x=>D.str ⟨#[x]⟩)∧(∀ x∈cs,x < 128)∧cs.length+r.length≤8) ⟨[],rfl,(fun _ h=>nomatch h),by simpa using rl⟩ (by omega) ?_ ?_
  · rintro d r zs μ2 hB2 _ ⟨cs,rfl,hc,hl⟩ N hN
    walk_at "go"
    rw[List.length_cons] at hl
    refine ⟨c,hB2,.inr ⟨_,⟨rfl,by decide +kernel,by decide +kernel⟩,fun x hx μ3 B3=>hN (some _) μ3 ⟨cs++[x],by rw[List.map_append];rfl,fun y hy=>?_,by rw[List.length_append];simp;omega⟩ B3⟩⟩
    rcases List.mem_append.mp hy with z | z
    · exact hc y z
    · rw[List.mem_singleton.mp z]
      exact of_decide_eq_true (List.all_eq_true.mp CL x hx)
  · rintro zs μ2 ⟨cs,rfl,hc,hl⟩ B2
    have hl:cs.length≤8:=by simpa using hl
    walk_at "go"
    refine ⟨_,tu cs,Dh _ (fun z hz=>?_) (by rw[List.length_map];omega),?_⟩
    · obtain ⟨x,_,rfl⟩:=List.mem_map.mp hz
      rfl
    have el:=join_list cs
    generalize Txt.join (Str.ofString "") (cs.map fun x=>⟨#[x]⟩)=st at el
    have sl:st.length≤8:=by
      have:st.length=st.cps.toList.length:=by simp[Str.length]
      rw[this,el];exact hl
    have sa:∀ x∈st.cps.toList,x < 128:=by rw[el];exact hc
    refine ⟨by omega,?_⟩
    refine tkB B2.p (by omega) (by omega) fun at' μ3 a0 a1 B3=>?_
    walk_at "go"
    refine tkB B3.p (by decide) (by decide) fun f μ4 f0 f1 B4=>?_
    walk_at "go"
    refine ofL (fun d=>∃ s:Int,d=.int s∧(s=1∨s=3∨s=5∨s=7∨s=9∨s=11)) B4.p (by simp) (by simp) ?_ ?_
    · repeat' (first | exact bU | refine aw ⟨_,rfl,by decide⟩ ?_)
    rintro _ μ5 ⟨s,rfl,hs⟩ B5
    walk_at "go"
    refine ⟨⟨by omega,by omega⟩,?_⟩
    refine cW (List.range n.toNat) (fun i:Nat=>D.int (0+(i:Int))) (fun i:Nat=>D.str (nR (Txt.slice st none (some at')) (Txt.slice st (some at') none) f s i)) rfl (by simp;omega) (fun i hi μ' _ N m=>?_) ?_
    · have hi:=List.mem_range.mp hi
      walk_at "go"
      have g0:=fm0 (a:=f+s*(i:Int)) (n:=26) (by decide)
      have g1:=fm1 (a:=f+s*(i:Int)) (n:=26) (by decide)
      have s1:=Txt.slice_le st none (some at')
      have s2:=Txt.slice_le st (some at') none
      have ea:=Hj (j:=((f+s*(i:Int)).fmod 26).toNat) (by omega)
      rw[Int.toNat_of_nonneg g0] at ea
      rw[Int.zero_add]
      refine ⟨by omega,.inl (.inr (by unfold S64;omega)),by decide,by decide +kernel,?_⟩
      refine (show kN (L2.atI ltr.cps.toList ((f+s*(i:Int)).fmod 26)) _ from ?_)
      rw[ea]
      have al:=kj (Txt.slice st none (some at')) ⟨#[97+((f+s*(i:Int)).fmod 26).toNat]⟩
      have l1:(⟨#[97+((f+s*(i:Int)).fmod 26).toNat]⟩:Str).length=1:=rfl
      exact ⟨by omega,by omega,by omega,m⟩
    · have en:((List.range n.toNat).map fun i:Nat=>D.str (nR (Txt.slice st none (some at')) (Txt.slice st (some at') none) f s i))=((List.range n.toNat).map fun i:Nat=>nR (Txt.slice st none (some at')) (Txt.slice st (some at') none) f s i).map D.str:=by rw[List.map_map];rfl
      rw[en]
      refine ⟨_,.refl _,k _ _ (by simp;omega) ?_ (fun z hz=>?_) (B1.trans (B2.trans (B3.trans (B4.trans B5))))⟩
      · refine xa ?_ List.nodup_range
        intro i hi j hj e
        have hi:=List.mem_range.mp hi
        have hj:=List.mem_range.mp hj
        have:=CC hs (Int.natCast_nonneg i) (by omega) (Int.natCast_nonneg j) (by omega) e
        omega
      · obtain ⟨i,_,rfl⟩:=List.mem_map.mp hz
        have g0:=fm0 (a:=f+s*(i:Int)) (n:=26) (by decide)
        have g1:=fm1 (a:=f+s*(i:Int)) (n:=26) (by decide)
        refine ⟨?_,⟨97+((f+s*(i:Int)).fmod 26).toNat,by unfold nR;rw[jj,jj];simp,by omega⟩,?_⟩
        rotate_left
        · have s1:=Txt.slice_le st none (some at')
          have s2:=Txt.slice_le st (some at') none
          unfold nR
          rw[kj,kj]
          have l1:(⟨#[97+((f+s*(i:Int)).fmod 26).toNat]⟩:Str).length=1:=rfl
          omega
        unfold PyData.strOk
        rw[Array.all_eq_true_iff_forall_mem]
        intro x hx
        have hx:x∈(nR (Txt.slice st none (some at')) (Txt.slice st (some at') none) f s i).cps.toList:=by simpa using hx
        unfold nR at hx
        rw[jj,jj] at hx
        refine decide_eq_true ?_
        rcases List.mem_append.mp hx with z | z
        · rcases List.mem_append.mp z with z | z
          · have:=sa x (y3 z);omega
          · have:x=97+((f+s*(i:Int)).fmod 26).toNat:=by simpa using z
            omega
        · have:=sa x (y3 z);omega
def bF:FSp:=fun ds μ Q=>match ds with
  | [.obj b,.int m]=>∃ c,(Bp μ b c∧0 < m∧m≤50)∧∀ (ru:List D) (r s:Int) μ',FrB 1 60 r s→c8 b c μ μ'→Q (.tup (ru++[fr r s])) μ'
  | _=>False
theorem K5:∀ d∈([.str "still", .str "step", .str "swell", .str "heed", .str "calm"]:List D),d=.str "still" ∨ d=.str "step" ∨ d=.str "swell" ∨ d=.str "heed" ∨ d=.str "calm" := by
  intro d hd
  simpa using hd
theorem m4:∀ ds μ Q,bF ds μ Q→ds.length=2:=by
  unfold bF
  walk_at "ln"
def fB:STr:=aH (bV (TB (ak rEq (ah 2) (TC (.str "still")))) (aP (bM (af (ah 2) (af (ah 4) (aq))))) (a9)) (aH (aV (ao aO (af (ak aK (ak eC (TC (.int 12)) (ah 3)) (ao ar (af (ah 0) (af (TC (.int 12)) (aq))))) (af (TC (.int 12)) (aq)))) (ax 5)) (aH (aV (ak aK (TC (.int 1)) (ao ar (af (ah 0) (af (TC (.int 6)) (aq))))) (ax 6)) (aH (bV (TB (ak rEq (ah 2) (TC (.str "swell")))) (aP (bM (af (ah 2) (af (ah 4) (af (ao aO (af (ak aK (ak aK (ah 6) (TC (.int 1))) (ao ar (af (ah 0) (af (TC (.int 12)) (aq))))) (af (ah 6) (aq)))) (af (bM (af (TC (.int 1)) (af (ak aK (ak aK (TC (.int 1)) (TC (.int 1))) (ao ar (af (ah 0) (af (TC (.int 6)) (aq))))) (aq)))) (af (ah 5) (aq)))))))) (a9)) (aH (aV (ao aO (af (ak aK (TC (.int 1)) (ao ar (af (ah 0) (af (TC (.int 24)) (aq))))) (af (ah 6) (aq)))) (ax 7)) (aH (bV (TB (ak rEq (ah 2) (TC (.str "step")))) (aP (bM (af (ah 2) (af (ah 4) (af (ah 7) (af (ao aO (af (ak aK (TC (.int 1)) (ao ar (af (ah 0) (af (TC (.int 7)) (aq))))) (af (TC (.int 8)) (aq)))) (af (ah 5) (aq)))))))) (a9)) (aH (bV (TB (ak rEq (ah 2) (TC (.str "heed")))) (aP (bM (af (ah 2) (af (ah 4) (af (ah 7) (af (ao aO (af (ak aK (TC (.int 1)) (ao ar (af (ah 0) (af (TC (.int 8)) (aq))))) (af (TC (.int 8)) (aq)))) (af (ah 5) (aq)))))))) (a9)) (aH (aV (ao ar (af (ah 0) (af (TC (.int 5)) (aq)))) (ax 8)) (aP (bM (af (ah 2) (af (ah 4) (af (ah 7) (af (ah 8) (af (ak aK (ah 8) (ao ar (af (ah 0) (af (TC (.int 9)) (aq))))) (af (ah 5) (aq))))))))))))))))
def ju:STr:=aH (aV (ao aF (af (ah 0) (af (cG (af (TC (.str "still")) (af (TC (.str "step")) (af (TC (.str "swell")) (af (TC (.str "heed")) (af (TC (.str "calm")) (aq))))))) (aq)))) (ax 2)) (aH (aV (ak aK (TC (.int 1)) (ao ar (af (ah 0) (af (ah 1) (aq))))) (ax 3)) (aH (aV (ao aO (af (ak aK (TC (.int 6)) (ao ar (af (ah 0) (af (ak ka (ak eC (TC (.int 6)) (ah 3)) (TC (.int 5))) (aq))))) (af (TC (.int 6)) (aq)))) (ax 4)) (fB)))
theorem qI:∀ ds μ Q,bF ds μ Q→ju { nx:=fun _ μ'=>RT Q .non μ',rt:=RT Q } (ini 9 ds) μ:=by
  intro ds μ Q h
  unfold bF at h
  split at h
  case h_2=>exact h.elim
  rename_i b m
  walk_at "ini"
  unfold ju
  walk_at "go"
  obtain ⟨c,⟨hB,m0,m1⟩,k⟩:=h
  refine ofL _ hB (by simp) (by simp) K5 fun d μ1 hd B1=>?_
  walk_at "go"
  refine tkB B1.p (by omega) (by omega) fun j μ2 j0 j1 B2=>?_
  walk_at "go"
  refine ⟨.inl (.inr (by unfold S64;omega)),?_⟩
  refine tkB B2.p (by omega) (by omega) fun i μ3 i0 i1 B3=>?_
  walk_at "go"
  refine ⟨⟨by omega,by decide,by unfold cu;decide⟩,?_⟩
  have F0:=wD (a:=6+i) (b:=6) (by decide) (by decide) (lo:=1) (hi:=60) (by omega) (by omega)
  generalize (6+i).fdiv (Int.gcd (6+i) 6)=w1 at F0
  generalize (6:Int).fdiv (Int.gcd (6+i) 6)=w2 at F0
  walk_at "go"
  unfold fB
  have BE:=B1.trans (B2.trans B3)
  rcases hd with rfl | hd
  · walk_at "go"
    exact ⟨_,.refl _,k [_] w1 w2 _ F0 BE⟩
  rcases hd with rfl | rfl | rfl | rfl
  all_goals
    walk_at "go"
    refine ⟨.inl (.inr (by unfold S64;omega)),?_⟩
    refine tkB B3.p (by decide) (by decide) fun e μ4 e0 e1 B4=>?_
    walk_at "go"
    refine ⟨⟨by omega,by decide,by unfold cu;decide⟩,?_⟩
    have F1:=wD (a:=12*(1+j)+e) (b:=12) (by decide) (by decide) (lo:=1) (hi:=60) (by omega) (by omega)
    generalize (12*(1+j)+e).fdiv (Int.gcd (12*(1+j)+e) 12)=t1 at F1
    generalize (12:Int).fdiv (Int.gcd (12*(1+j)+e) 12)=t2 at F1
    walk_at "go"
    refine tkB B4.p (by decide) (by decide) fun u μ5 u0 u1 B5=>?_
    walk_at "go"
  · refine tkB B5.p (by decide) (by decide) fun v μ6 v0 v1 B6=>?_
    walk_at "go"
    refine ⟨⟨by omega,by omega,by unfold cu;omega⟩,?_⟩
    walk_at "go"
    refine tkB B6.p (by decide) (by decide) fun x μ7 x0 x1 B7=>?_
    walk_at "go"
    refine ⟨⟨by omega,by omega,by unfold cu;omega⟩,?_⟩
    exact ⟨_,.refl _,k [_,_,_,_] t1 t2 _ F1 (BE.trans (B4.trans (B5.trans (B6.trans B7))))⟩
  · refine tkB B5.p (by decide) (by decide) fun v μ6 v0 v1 B6=>?_
    walk_at "go"
    refine ⟨⟨by omega,by omega,by unfold cu;omega⟩,?_⟩
    walk_at "go"
    refine tkB B6.p (by decide) (by decide) fun x μ7 x0 x1 B7=>?_
    walk_at "go"
    exact ⟨_,.refl _,k [_,_,_,_] t1 t2 _ F1 (BE.trans (B4.trans (B5.trans (B6.trans B7))))⟩
  · refine tkB B5.p (by decide) (by decide) fun v μ6 v0 v1 B6=>?_
    walk_at "go"
    refine ⟨⟨by omega,by omega,by unfold cu;omega⟩,?_⟩
    walk_at "go"
    refine tkB B6.p (by decide) (by decide) fun x μ7 x0 x1 B7=>?_
    walk_at "go"
    refine ⟨⟨by omega,by omega,by unfold cu;omega⟩,?_⟩
    exact ⟨_,.refl _,k [_,_,_,_] t1 t2 _ F1 (BE.trans (B4.trans (B5.trans (B6.trans B7))))⟩
  · refine tkB B5.p (by decide) (by decide) fun v μ6 v0 v1 B6=>?_
    walk_at "go"
    refine ⟨⟨by omega,by omega,by unfold cu;omega⟩,?_⟩
    walk_at "go"
    refine tkB B6.p (by decide) (by decide) fun x μ7 x0 x1 B7=>?_
    walk_at "go"
    refine tkB B7.p (by decide) (by decide) fun y μ8 y0 y1 B8=>?_
    walk_at "go"
    exact ⟨_,.refl _,k [_,_,_,_,_] t1 t2 _ F1 (BE.trans (B4.trans (B5.trans (B6.trans (B7.trans B8)))))⟩
def cn:FSp:=fun ds μ Q=>match ds with
  | [.obj b,.str n]=>∃ c,(Bp μ b c∧PyData.strOk n=true)∧∀ (w:WB) μ',w.nm=n→w.Ok→c8 b c μ μ'→Q w.toD μ'
  | _=>False
theorem qB:∀ ds μ Q,cn ds μ Q→ds.length=2:=by
  unfold cn
  walk_at "ln"
def kz:STr:=aH (aV (ak aK (TC (.int 1)) (ao ar (af (ah 0) (af (ao aF (af (ah 0) (af (cG (af (TC (.int 2)) (af (TC (.int 4)) (af (TC (.int 20)) (aq))))) (aq)))) (aq))))) (ax 2)) (aH (aV (ak aK (TC (.int 1)) (ao ar (af (ah 0) (af (ao aF (af (ah 0) (af (cG (af (TC (.int 6)) (af (TC (.int 20)) (af (TC (.int 60)) (aq))))) (aq)))) (aq))))) (ax 3)) (aH (aV (TC .non) (ax 4)) (aH (bV (TB (ak rGt (ao ar (af (ah 0) (af (TC (.int 3)) (aq)))) (TC (.int 0)))) (aV (ao ar (af (ah 0) (af (ak aK (ah 3) (TC (.int 1))) (aq)))) (ax 4)) (a9)) (aP (bM (af (ah 1) (af (ah 2) (af (ah 3) (af (ah 4) (af (ao aF (af (ah 0) (af (cG (af (TC (.str "line")) (af (TC (.str "turns")) (aq)))) (aq)))) (aq)))))))))))
theorem sU:∀ ds μ Q,cn ds μ Q→kz { nx:=fun _ μ'=>RT Q .non μ',rt:=RT Q } (ini 5 ds) μ:=by
  intro ds μ Q h
  unfold cn at h
  split at h
  case h_2=>exact h.elim
  rename_i b n
  walk_at "ini"
  unfold kz
  walk_at "go"
  obtain ⟨c,⟨hB,on⟩,k⟩:=h
  refine ofL (IsI 1 20) hB (by simp) (by simp) (by repeat' (first | exact bU | refine aw ⟨_,rfl,by decide,by decide⟩ ?_)) ?_
  rintro _ μ1 ⟨p,rfl,p0,p1⟩ B1
  walk_at "go"
  refine tkB B1.p (by omega) (by omega) fun pc μ2 pc0 pc1 B2=>?_
  walk_at "go"
  refine ofL (IsI 1 60) B2.p (by simp) (by simp) (by repeat' (first | exact bU | refine aw ⟨_,rfl,by decide,by decide⟩ ?_)) ?_
  rintro _ μ3 ⟨p',rfl,q0,q1⟩ B3
  walk_at "go"
  refine tkB B3.p (by omega) (by omega) fun rm μ4 r0 r1 B4=>?_
  walk_at "go"
  refine tkB B4.p (by omega) (by omega) fun x μ5 x0 x1 B5=>?_
  have T5:=B1.trans (B2.trans (B3.trans (B4.trans B5)))
  have fin:∀ (ma:D) (μ6:Mu),c8 b c μ μ6→cB aF [.obj b,.ls [.str "line", .str "turns"]] μ6 fun y μ7=>RT Q (.tup [.str n,.int (1+pc),.int (1+rm),ma,y]) μ7:=fun ma μ6 T6=>by
    refine ofL (fun d=>∃ s:Bool,d=.str (soS s)) T6.p (by simp) (by simp) ?_ ?_
    · exact aw ⟨false,rfl⟩ (aw ⟨true,rfl⟩ bU)
    rintro _ μ7 ⟨s,rfl⟩ B7
    exact ⟨_,.refl _,k ⟨n,1+pc,1+rm,ma,s⟩ _ rfl ⟨on,by show 1≤1+pc;omega,by show 1+pc≤20;omega,by show 1≤1+rm;omega,by show 1+rm≤60;omega⟩ (T6.trans B7)⟩
  walk_at "go"
  refine kif (fun h=>?_) fun h=>?_
  · walk_at "go"
    refine tkB B5.p (by omega) (by omega) fun y μ6 y0 y1 B6=>?_
    have f:=fin (.int y) μ6 (T5.trans B6)
    walk_at "go"
    exact f
  · have f:=fin .non μ5 T5
    walk_at "go"
    exact f
theorem DJ (ws:List WB):ik (ws.map WB.toD)=ws.zipIdx.map fun p=>.tup [.int (p.2:Nat),p.1.toD]:=by
  refine List.ext_getElem? fun i=>?_
  rw[ou,List.getElem?_map,List.getElem?_map,List.getElem?_zipIdx]
  cases ws[i]? <;> simp
def bA:FSp:=fun ds μ Q=>match ds with
  | [.obj b,.str n,.tup xs,.int m,.ls ys]=>∃ (c:Addr) (ws:List WB),(Bp μ b c∧xs=ws.map WB.toD∧(∀ w∈ws,w.Ok)∧(1≤ws.length∧ws.length≤6)∧(0 < m∧m≤50)∧ys≠[]∧ys.length≤10∧∀ d∈ys,IsI 1 10000000 d)∧∀ (x:SB) μ',x.nm=n→x.Ok→x.rd.Sublist (ws.map WB.nm)→c8 b c μ μ'→Q x.toD μ'
  | _=>False
theorem jZ:∀ ds μ Q,bA ds μ Q→ds.length=5:=by
  unfold bA
  walk_at "ln"
def eG:STr:=aH (aV (TC .non) (ax 7)) (aH (bV (TB (ak rEq (ao ar (af (ah 0) (af (TC (.int 2)) (aq)))) (TC (.int 0)))) (aV (ao ar (af (ah 0) (af (ao aF (af (ah 0) (af (cG (af (TC (.int 4)) (af (TC (.int 40)) (af (TC (.int 1000001)) (aq))))) (aq)))) (aq)))) (ax 7)) (a9)) (aP (bM (af (ah 1) (af (ah 6) (af (ak aK (TC (.int 1)) (ao ar (af (ah 0) (af (TC (.int 8)) (aq))))) (af (ao ar (af (ah 0) (af (ao aF (af (ah 0) (af (ah 4) (aq)))) (aq)))) (af (ah 7) (af (ao bF (af (ah 0) (af (ah 3) (aq)))) (aq))))))))))
def gu:STr:=aH (aV (ak aK (TC (.int 1)) (ao ar (af (ah 0) (af (ak ka (ak Hb (TC (.int 1)) (ao df (af (ah 2) (aq)))) (TC (.int 1))) (aq))))) (ax 5)) (aH (aV (ao dg (af (dk (AZ (af (ah 2) (aq))) (ve [0,1]) (TB (ak rEq (ak Ae (ak Gd (ah 2) (ah 0)) (TC (.int 1))) (TC (.int 1)))) (ak L3.rIx (ah 1) (TC (.int 0))) 2 [5]) (aq))) (ax 6)) (eG))
theorem lK:∀ ds μ Q,bA ds μ Q→gu { nx:=fun _ μ'=>RT Q .non μ',rt:=RT Q } (ini 8 ds) μ:=by
  intro ds μ Q h
  unfold bA at h
  split at h
  case h_2=>exact h.elim
  rename_i b n xs m ys
  walk_at "ini"
  unfold gu
  walk_at "go"
  obtain ⟨c,ws,⟨hB,rfl,hw,⟨wl0,wl⟩,⟨m0,m1⟩,yn,yl,hy⟩,k⟩:=h
  rw[List.length_map]
  refine ⟨⟨by omega,by omega⟩,?_⟩
  have hp:0 < (1*2 ^ ((ws.length:Int)).toNat - 1:Int)∧(1*2 ^ ((ws.length:Int)).toNat - 1:Int)≤63:=by
    rw[Int.toNat_natCast]
    rcases (show ws.length=1∨ws.length=2∨ws.length=3∨ws.length=4∨ws.length=5∨ws.length=6 by omega) with e | e | e | e | e | e<;>rw[e]<;>decide
  refine tkB hB hp.1 (by omega) fun i μ1 i0 i1 B1=>?_
  walk_at "go"
  refine kK ws.zipIdx (fun p:WB×Nat=>D.tup [.int (p.2:Nat),p.1.toD]) (fun p:WB×Nat=>if decide (Builtin.bitAnd ((1+i).fdiv (2 ^ ((p.2:Nat):Int).toNat)) 1=1) then some (.str p.1.nm) else none) (DJ ws) (by rw[List.length_zipIdx];omega) (fun p hp μ' _ N m=>?_) ?_
  · walk_at "go"
    refine ⟨by omega,?_⟩
    refine kif (fun h=>?_) fun h=>?_
    · rw[decide_eq_true h] at m;exact m
    · rw[decide_eq_false h] at m;exact m
  rw[EJ]
  generalize hrd:(ws.zipIdx.filter fun p:WB×Nat=>decide (Builtin.bitAnd ((1+i).fdiv (2 ^ ((p.2:Nat):Int).toNat)) 1=1)).map (fun p=>p.1.nm)=rd
  have erd:(ws.zipIdx.filter fun p:WB×Nat=>decide (Builtin.bitAnd ((1+i).fdiv (2 ^ ((p.2:Nat):Int).toNat)) 1=1)).map (fun p=>D.str p.1.nm)=rd.map D.str:=by rw[← hrd,List.map_map];rfl
  have sb:rd.Sublist (ws.map WB.nm):=by
    rw[← hrd]
    have h1:=(List.filter_sublist (l:=ws.zipIdx) (p:=fun p:WB×Nat=>decide (Builtin.bitAnd ((1+i).fdiv (2 ^ ((p.2:Nat):Int).toNat)) 1=1))).map (fun p:WB×Nat=>p.1.nm)
    have h2:ws.zipIdx.map (fun p:WB×Nat=>p.1.nm)=ws.map WB.nm:=by
      rw[show (fun p:WB×Nat=>p.1.nm)=WB.nm ∘ Prod.fst from rfl,← List.map_map,List.zipIdx_map_fst]
    rw[h2] at h1
    exact h1
  rw[erd]
  have rl:rd.length≤6:=by have:=sb.length_le;rw[List.length_map] at this;omega
  have ro:∀ z∈rd,PyData.strOk z=true:=fun z hz=>by
    obtain ⟨w,hw',rfl⟩:=List.mem_map.mp (sb.subset hz)
    exact (hw w hw').n
  walk_at "go"
  unfold eG
  walk_at "go"
  refine tkB B1.p (by decide) (by decide) fun j μ2 j0 j1 B2=>?_
  have T2:=B1.trans B2
  have fin:∀ (mn:D) (μ3:Mu),c8 b c μ μ3→cB ar [.obj b,.int 8] μ3 fun x μ4=>L3.aK (.int 1) x μ4 fun bt μ5=>cB aF [.obj b,.ls ys] μ5 fun y μ6=>cB ar [.obj b,y] μ6 fun bg μ7=>cB bF [.obj b,.int m] μ7 fun ru μ8=>RT Q (.tup [.str n,.tup (rd.map .str),bt,bg,mn,ru]) μ8:=fun mn μ3 T3=>by
    refine tkB T3.p (by decide) (by decide) fun bt μ4 b0 b1 B4=>?_
    walk_at "go"
    refine ofL (IsI 1 10000000) B4.p yn (by omega) hy ?_
    rintro _ μ5 ⟨e,rfl,e0,e1⟩ B5
    refine tkB B5.p (by omega) (by omega) fun bg μ6 g0 g1 B6=>?_
    refine ⟨c,⟨B6.p,m0,m1⟩,fun ru r s μ7 F B7=>?_⟩
    exact ⟨_,.refl _,k ⟨n,rd,1+bt,.int bg,mn,ru,r,s⟩ _ rfl ⟨ro,by show 1≤1+bt;omega,by show 1+bt≤8;omega,F,by show rd.length≤100;omega⟩ sb (T3.trans (B4.trans (B5.trans (B6.trans B7))))⟩
  walk_at "go"
  refine kif (fun h=>?_) fun h=>?_
  · walk_at "go"
    refine ofL (IsI 1 10000000) B2.p (by simp) (by simp) (by repeat' (first | exact bU | refine aw ⟨_,rfl,by decide,by decide⟩ ?_)) ?_
    rintro _ μ3 ⟨e,rfl,e0,e1⟩ B3
    walk_at "go"
    refine tkB B3.p (by omega) (by omega) fun y μ4 y0 y1 B4=>?_
    have f:=fin (.int y) μ4 (T2.trans (B3.trans B4))
    walk_at "go"
    exact f
  · have f:=fin .non μ2 T2
    walk_at "go"
    exact f
def bX:FSp:=fun ds μ Q=>match ds with
  | [.obj b,.int m,.ls ys]=>∃ c,(Bp μ b c∧(0 < m∧m≤50)∧ys≠[]∧ys.length≤10∧∀ d∈ys,IsI 1 10000000 d)∧∀ (g:D) (ws:List WB) (ss:List SB) μ',PB ws ss→0 < ws.length→(∀ w∈ws,NmP w.nm∧w.nm.length≤100)→c8 b c μ μ'→Q (plB g ws ss) μ'
  | _=>False
theorem nN:∀ ds μ Q,bX ds μ Q→ds.length=3:=by
  unfold bX
  walk_at "ln"
def jN:STr:=aH (aV (ak aK (TC (.int 1)) (ao ar (af (ah 0) (af (ao aF (af (ah 0) (af (cG (af (TC (.int 1)) (af (TC (.int 3)) (af (TC (.int 12)) (af (TC (.int 60)) (aq)))))) (aq)))) (aq))))) (ax 3)) (aH (aV (ao dg (af (dk (f7 (ao br (af (ah 0) (af (ak aK (TC (.int 1)) (ao ar (af (ah 0) (af (ao aF (af (ah 0) (af (cG (af (TC (.int 2)) (af (TC (.int 3)) (af (TC (.int 6)) (aq))))) (aq)))) (aq))))) (aq))))) (ax 0) (iW) (ao cn (af (ah 1) (af (ah 0) (aq)))) 1 [0]) (aq))) (ax 4)) (aH (aV (ao ui (af (ao br (af (ah 0) (af (ao ar (af (ah 0) (af (ao aF (af (ah 0) (af (cG (af (TC (.int 3)) (af (TC (.int 5)) (af (TC (.int 9)) (aq))))) (aq)))) (aq)))) (aq)))) (aq))) (ax 5)) (aP (bM (af (ah 3) (af (ah 4) (af (ao dg (af (dk (f7 (ah 5)) (ax 0) (iW) (ao bA (af (ah 1) (af (ah 0) (af (ah 2) (af (ah 3) (af (ah 4) (aq))))))) 1 [0,4,1,2]) (aq))) (aq))))))))
theorem pK:∀ ds μ Q,bX ds μ Q→jN { nx:=fun _ μ'=>RT Q .non μ',rt:=RT Q } (ini 6 ds) μ:=by
  intro ds μ Q h
  unfold bX at h
  split at h
  case h_2=>exact h.elim
  rename_i b m ys
  walk_at "ini"
  unfold jN
  walk_at "go"
  obtain ⟨c,⟨hB,hm,yn,yl,hy⟩,k⟩:=h
  refine ofL (IsI 1 60) hB (by simp) (by simp) (by repeat' (first | exact bU | refine aw ⟨_,rfl,by decide,by decide⟩ ?_)) ?_
  rintro _ μ1 ⟨e,rfl,e0,e1⟩ B1
  walk_at "go"
  refine tkB B1.p (by omega) (by omega) fun g μ2 g0 g1 B2=>?_
  walk_at "go"
  refine ofL (IsI 1 6) B2.p (by simp) (by simp) (by repeat' (first | exact bU | refine aw ⟨_,rfl,by decide,by decide⟩ ?_)) ?_
  rintro _ μ3 ⟨e',rfl,q0,q1⟩ B3
  walk_at "go"
  refine tkB B3.p (by omega) (by omega) fun n1 μ4 n10 n11 B4=>?_
  walk_at "go"
  refine ⟨c,⟨B4.p,by omega,by omega⟩,fun ns μ5 nl nd no B5=>?_⟩
  walk_at "go"
  refine qE B5.p (fun r zs=>∃ (ws:List WB) (rs:List Str),zs=ws.map WB.toD∧r=rs.map .str∧ws.map WB.nm++rs=ns∧∀ w∈ws,w.Ok) ⟨[],ns,rfl,rfl,rfl,fun _ h=>nomatch h⟩ (by rw[List.length_map];omega) ?_ ?_
  · rintro d r zs μ6 hB6 _ ⟨ws,rs,rfl,er,en,hw⟩ N hN
    cases rs with
    | nil=>cases er
    | cons z rs=>
    cases er
    have hz:z∈ns:=by rw[← en];simp
    walk_at "go"
    refine ⟨c,⟨hB6,(no z hz).1⟩,fun w μ7 wn W B7=>hN (some _) μ7 ⟨ws++[w],rs,by rw[List.map_append];rfl,rfl,by rw[← en,List.map_append,← wn];simp,fun y hy=>?_⟩ B7⟩
    rcases List.mem_append.mp hy with h | h
    · exact hw y h
    · rw[List.mem_singleton.mp h];exact W
  rintro zs μ6 ⟨ws,rs,rfl,er,en,hw⟩ B6
  have:rs=[]:=by cases rs with | nil=>rfl | cons=>cases er
  subst this
  rw[List.append_nil] at en
  have wl:ws.length=ns.length:=by rw[← en,List.length_map]
  walk_at "go"
  refine ofL (IsI 1 9) B6.p (by simp) (by simp) (by repeat' (first | exact bU | refine aw ⟨_,rfl,by decide,by decide⟩ ?_)) ?_
  rintro _ μ7 ⟨e2,rfl,r0,r1⟩ B7
  walk_at "go"
  refine tkB B7.p (by omega) (by omega) fun n2 μ8 n20 n21 B8=>?_
  walk_at "go"
  refine ⟨c,⟨B8.p,by omega,by omega⟩,fun ms μ9 ml _ mo B9=>?_⟩
  refine ⟨ms,⟨rfl,by omega⟩,fun ss' hp _=>?_⟩
  have sl:ss'.length=ms.length:=hp.length_eq
  walk_at "go"
  have T9:=B1.trans (B2.trans (B3.trans (B4.trans (B5.trans (B6.trans (B7.trans (B8.trans B9)))))))
  refine qE B9.p (fun r zs=>∃ (xs:List SB) (rs:List Str),zs=xs.map SB.toD∧r=rs.map .str∧xs.map SB.nm++rs=ss'∧∀ x∈xs,x.Ok∧x.rd.Sublist (ws.map WB.nm)) ⟨[],ss',rfl,rfl,rfl,fun _ h=>nomatch h⟩ (by rw[List.length_map];omega) ?_ ?_
  · rintro d r zs μ10 hB10 _ ⟨xs,rs,rfl,er,es,hx⟩ N hN
    cases rs with
    | nil=>cases er
    | cons z rs=>
    cases er
    walk_at "go"
    refine ⟨c,ws,⟨hB10,rfl,hw,⟨by omega,by omega⟩,hm,yn,yl,hy⟩,fun x μ11 xn X sb B11=>hN (some _) μ11 ⟨xs++[x],rs,by rw[List.map_append];rfl,rfl,by rw[← es,List.map_append,← xn];simp,fun y hy=>?_⟩ B11⟩
    rcases List.mem_append.mp hy with h | h
    · exact hx y h
    · rw[List.mem_singleton.mp h];exact ⟨X,sb⟩
  rintro zs μ10 ⟨xs,rs,rfl,er,es,hx⟩ B10
  have:rs=[]:=by cases rs with | nil=>rfl | cons=>cases er
  subst this
  rw[List.append_nil] at es
  have xl:xs.length=ss'.length:=by rw[← es,List.length_map]
  walk_at "go"
  exact ⟨_,.refl _,k (.int (1+g)) ws xs _ ⟨hw,fun x h=>(hx x h).1,fun x h=>(hx x h).2,by rw[en];exact nd,by omega,by omega⟩ (by omega) (fun w h=>(no w.nm (by rw[← en];exact List.mem_map.mpr ⟨w,h,rfl⟩)).2) (T9.trans B10)⟩
theorem Rw0 {μ:Mu}{d:D}(h:Thg μ d)(n:∀ ys,d≠.tup ys):RwT μ d:=⟨h,fun ys e=>absurd e (n ys)⟩
def CG (μ:Mu)(n:Str)(x:D):Prop:=RwT μ x∧fb n x=false
def ba:FSp:=fun ds μ Q=>match ds with
  | [.obj b,d]=>∃ (c:Addr) (r:RB),(Bp μ b c∧d=r.toD∧PyData.strOk r.nm=true∧NmP r.nm∧r.nm.length≤100)∧∀ x μ',CG μ' r.nm x→Bp μ' b c→Q x μ'
  | _=>False
theorem jc:∀ ds μ Q,ba ds μ Q→ds.length=2:=by
  unfold ba
  walk_at "ln"
def fI:STr:=aH (aV (ao ar (af (ah 0) (af (TC (.int 7)) (aq)))) (ax 2)) (aH (bV (TB (ak rEq (ah 2) (TC (.int 0)))) (aP (ao aF (af (ah 0) (af (cG (af (ao dY (af (ah 1) (aq))) (af (TC .non) (af (TC (.int 5)) (af (ak L3.rIx (ah 1) (TC (.int 0))) (af (pB) (af (bM (aq)) (aq)))))))) (aq))))) (a9)) (aH (bV (TB (ak rEq (ah 2) (TC (.int 1)))) (aP (TSl (ah 1) (ONo) (eA (ak aK (TC (.int 1)) (ao ar (af (ah 0) (af (TC (.int 3)) (aq)))))))) (a9)) (aH (bV (TB (ak rEq (ah 2) (TC (.int 2)))) (aP (ak aK (ah 1) (ao aF (af (ah 0) (af (cG (af (bM (af (TC (.int 1)) (aq))) (af (bM (af (TC (.bl true)) (aq))) (af (bM (af (TC .non) (af (TC .non) (aq)))) (aq))))) (aq)))))) (a9)) (aH (bV (TB (ak rEq (ah 2) (TC (.int 3)))) (aP (ak aK (bM (af (ao aF (af (ah 0) (af (cG (af (ak aK (ak L3.rIx (ah 1) (TC (.int 0))) (TC (.str "a"))) (af (TC (.str "")) (af (TC .non) (af (TC (.int 0)) (af (bM (af (ak L3.rIx (ah 1) (TC (.int 0))) (aq))) (af (TC (.str "A")) (af (cG (af (ak L3.rIx (ah 1) (TC (.int 0))) (aq))) (aq))))))))) (aq)))) (aq))) (TSl (ah 1) (eA (TC (.int 1))) (ONo)))) (a9)) (aH (bV (TB (ak rEq (ah 2) (TC (.int 6)))) (aP (ak aK (TSl (ah 1) (ONo) (eA (TC (.int 3)))) (bM (af (ao aF (af (ah 0) (af (cG (af (TC (.int 0)) (af (TC (.int 1)) (af (TC .non) (af (TC (.str "none")) (af (TC (.str "")) (af (bM (aq)) (af (cG (aq)) (aq))))))))) (aq)))) (aq))))) (a9)) (aH (aV (ao aF (af (ah 0) (af (cG (af (TC (.bl true)) (af (TC (.bl false)) (af (TUn mh (TC (.int 1))) (af (TUn mh (ak xA (TC (.int 10)) (TC (.int 30)))) (af (TC .non) (af (TC (.str "1")) (af (bM (af (TC (.int 1)) (af (TC (.int 1)) (aq)))) (af (cG (af (TC (.int 1)) (aq))) (af (pB) (aq))))))))))) (aq)))) (ax 3)) (aH (bV (TB (ak rEq (ah 2) (TC (.int 4)))) (aP (ak aK (bM (af (ak L3.rIx (ah 1) (TC (.int 0))) (af (ah 3) (aq)))) (TSl (ah 1) (eA (TC (.int 2))) (ONo)))) (a9)) (aP (ak aK (TSl (ah 1) (ONo) (eA (TC (.int 2)))) (bM (af (ah 3) (af (ak L3.rIx (ah 1) (TC (.int 3))) (aq)))))))))))))
theorem j5:∀ ds μ Q,ba ds μ Q→fI { nx:=fun _ μ'=>RT Q .non μ',rt:=RT Q } (ini 4 ds) μ:=by
  intro ds μ Q h
  unfold ba at h
  split at h
  case h_2=>exact h.elim
  rename_i b d
  walk_at "ini"
  unfold fI
  walk_at "go"
  obtain ⟨c,r,⟨hB,rfl,on,np,nl⟩,k⟩:=h
  refine tkB hB (by decide) (by decide) fun t μ1 t0 t1 B1=>?_
  walk_at "go"
  have fin:∀ (x:D) (μ':Mu),CG μ' r.nm x→Bp μ' b c→RT Q x μ':=fun x μ' h1 h2=>⟨_,.refl _,k x μ' h1 h2⟩
  have vf:∀ (μ':Mu) (ys:List D),(∀ y∈ys,Thg μ' y)→(∀ a b c d,ys=[.str a,b,c,d]→(decide (a=r.nm)&&(isC b&&(isC c&&isB d)))=false)→CG μ' r.nm (.tup ys):=fun μ' ys h1 h2=>by
    refine ⟨⟨.tup _,fun zs e y hy=>?_⟩,?_⟩
    · injection e with e
      subst e
      exact h1 y hy
    · unfold fb
      split
      · rename_i a b c d e
        injection e with e
        exact h2 a b c d e
      · rfl
  have Tr:∀ (μ':Mu),∀ y∈[D.str r.nm,.int r.mo,.int r.wa,.bl r.no],Thg μ' y:=fun μ' y hy=>(zw (r:=r) on).e _ rfl y hy
  refine kif (fun h=>?_) fun h=>kif (fun h=>?_) fun h=>kif (fun h=>?_) fun h=>kif (fun h=>?_) fun h=>kif (fun h=>?_) fun h=>?_
  · refine (show cB dY [.tup [.str r.nm,.int r.mo,.int r.wa,.bl r.no]] μ1 _ from ?_)
    walk_at "go"
    intro p hp
    have np':=B1.p.nb hp
    have B2:=B1.p.up (o:=.dct []) np'
    refine ofL (fun d=>CG (up μ1 p (.dct [])) r.nm d) B2 (by simp) (by simp) ?_ fun d μ2 hd B3=>fin d μ2 ⟨hd.1.bp B2 B3,hd.2⟩ B3.p
    refine aw ⟨Rw0 (.ls _) (fun _ z=>nomatch z),rfl⟩ (aw ⟨Rw0 .non (fun _ z=>nomatch z),rfl⟩ (aw ⟨Rw0 (.int _) (fun _ z=>nomatch z),rfl⟩ (aw ⟨Rw0 (.str on) (fun _ z=>nomatch z),rfl⟩ (aw ⟨Rw0 (.obj aJ) (fun _ z=>nomatch z),rfl⟩ (aw (vf _ [] (fun _ z=>nomatch z) fun _ _ _ _ z=>nomatch z) bU)))))
  · refine tkB B1.p (by decide) (by decide) fun u μ2 u0 u1 B2=>?_
    walk_at "go"
    refine (show L3.rSl (.tup [.str r.nm,.int r.mo,.int r.wa,.bl r.no]) none (some (1+u)) μ2 (RT Q) from ?_)
    walk_at "go"
    obtain ⟨j,rfl⟩:∃ j:Nat,u=(j:Int):=⟨u.toNat,by omega⟩
    rw[show (1+(j:Int))=((1+j:Nat):Int) by omega,ki]
    refine fin _ μ2 (vf _ _ (fun y hy=>Tr μ2 y (List.mem_of_mem_take hy)) fun a b c d e=>?_) B2.p
    have:=congrArg List.length e
    rw[List.length_take] at this
    simp at this
    omega
  · refine ofL (fun d=>∃ ys,d=.tup ys∧ys≠[]∧ys.length≤2∧∀ μ' y,y∈ys→Thg μ' y) B1.p (by simp) (by simp) ?_ ?_
    · refine aw ⟨_,rfl,by simp,by simp,fun μ' y hy=>?_⟩ (aw ⟨_,rfl,by simp,by simp,fun μ' y hy=>?_⟩ (aw ⟨_,rfl,by simp,by simp,fun μ' y hy=>?_⟩ bU))
      · rw[List.mem_singleton.mp hy];exact .int _
      · rw[List.mem_singleton.mp hy];exact .bl _
      · have:y=.non:=by simpa using hy
        rw[this];exact .non
    rintro _ μ2 ⟨ys,rfl,yn,yl,hy⟩ B2
    refine (show L3.aK (.tup [.str r.nm,.int r.mo,.int r.wa,.bl r.no]) (.tup ys) μ2 (RT Q) from ?_)
    walk_at "go"
    refine ⟨by simp;omega,fin _ μ2 (vf _ _ (fun y h=>?_) fun a b c d e=>?_) B2.p⟩
    · rcases List.mem_append.mp (show y∈[D.str r.nm,.int r.mo,.int r.wa,.bl r.no]++ys from h) with z | z
      · exact Tr μ2 y z
      · exact hy μ2 y z
    · have l1:=congrArg List.length e
      have l2:=List.length_pos_iff.mpr yn
      simp only[List.length_cons,List.length_nil] at l1
      omega
  · refine ⟨by have:(Str.ofString "a").length=1:=by decide +kernel
               omega,?_⟩
    refine ofL (fun d=>(∀ μ',Thg μ' d)∧d≠.str r.nm) B1.p (by simp) (by simp) ?_ ?_
    · have na:∀ z:Str,(∀ x∈z.cps.toList,x < 97)→D.str z≠.str r.nm:=fun z hz e=>by
        injection e with e
        obtain ⟨x,hx,h9⟩:=np
        rw[← e] at hx
        have:=hz x hx
        omega
      refine aw ⟨fun μ'=>.str ?_,fun e=>?_⟩ (aw ⟨fun μ'=>.str (by decide +kernel),na _ (by decide +kernel)⟩ (aw ⟨fun _=>.non,fun e=>nomatch e⟩ (aw ⟨fun _=>.int _,fun e=>nomatch e⟩ (aw ⟨fun _=>.tup _,fun e=>nomatch e⟩ (aw ⟨fun μ'=>.str (by decide +kernel),na _ (by decide +kernel)⟩ (aw ⟨fun _=>.ls _,fun e=>nomatch e⟩ bU))))))
      · unfold PyData.strOk at *
        rw[Array.all_eq_true_iff_forall_mem] at *
        intro x hx
        have hx:x∈(r.nm++Str.ofString "a").cps.toList:=by simpa using hx
        rw[jj] at hx
        rcases List.mem_append.mp hx with z | z
        · exact on x (by simpa using z)
        · have:∀ y∈(Str.ofString "a").cps.toList,decide (y < 1114112)=true:=by decide +kernel
          exact this x z
      · injection e with e
        have:=congrArg Str.length e
        rw[kj] at this
        have e1:(Str.ofString "a").length=1:=by decide +kernel
        omega
    rintro d μ2 ⟨Td,nd⟩ B2
    refine (show L3.rSl (.tup [.str r.nm,.int r.mo,.int r.wa,.bl r.no]) (some 1) none μ2 _ from ?_)
    walk_at "go"
    refine (show 1+3≤1000000∧RT Q (.tup [d,.int r.mo,.int r.wa,.bl r.no]) μ2 from ⟨by decide,?_⟩)
    refine fin _ μ2 (vf _ _ (fun y h=>?_) fun a b c x e=>?_) B2.p
    · rcases List.mem_cons.mp h with rfl | z
      · exact Td μ2
      · exact Tr μ2 y (List.mem_cons_of_mem _ z)
    · injection e with e _
      have:¬ a=r.nm:=fun z=>nd (by rw[e,z])
      rw[decide_eq_false this];rfl
  · refine (show L3.rSl (.tup [.str r.nm,.int r.mo,.int r.wa,.bl r.no]) none (some 3) μ1 _ from ?_)
    walk_at "go"
    refine ofL (fun d=>(∀ μ',Thg μ' d)∧isB d=false) B1.p (by simp) (by simp) ?_ ?_
    · exact aw ⟨fun _=>.int _,rfl⟩ (aw ⟨fun _=>.int _,rfl⟩ (aw ⟨fun _=>.non,rfl⟩ (aw ⟨fun _=>.str (by decide +kernel),rfl⟩ (aw ⟨fun _=>.str (by decide +kernel),rfl⟩ (aw ⟨fun _=>.tup _,rfl⟩ (aw ⟨fun _=>.ls _,rfl⟩ bU))))))
    rintro d μ2 ⟨Td,nd⟩ B2
    walk_at "go"
    refine (show 3+1≤1000000∧RT Q (.tup [.str r.nm,.int r.mo,.int r.wa,d]) μ2 from ⟨by decide,?_⟩)
    refine fin _ μ2 (vf _ _ (fun y h=>?_) fun a b c x e=>?_) B2.p
    · simp only[List.mem_cons,List.not_mem_nil,or_false] at h
      rcases h with rfl | rfl | rfl | rfl
      · exact .str on
      · exact .int _
      · exact .int _
      · exact Td μ2
    · injection e with _ e
      injection e with _ e
      injection e with _ e
      injection e with e _
      rw[← e,nd];simp
  · refine ⟨⟨by decide,by decide,by decide⟩,fun p hp=>?_⟩
    have np':=B1.p.nb hp
    have B2:=B1.p.up (o:=.dct []) np'
    refine ofL (fun d=>Thg (up μ1 p (.dct [])) d∧isC d=false) B2 (by simp) (by simp) ?_ ?_
    · exact aw ⟨.bl _,rfl⟩ (aw ⟨.bl _,rfl⟩ (aw ⟨.int _,by decide⟩ (aw ⟨.int _,by decide⟩ (aw ⟨.non,rfl⟩ (aw ⟨.str (by decide +kernel),rfl⟩ (aw ⟨.tup _,rfl⟩ (aw ⟨.ls _,rfl⟩ (aw ⟨.obj aJ,rfl⟩ bU))))))))
    rintro d μ2 ⟨Td,nd⟩ B3
    have Td:=Td.bp B2 B3
    walk_at "go"
    refine kif (fun h=>?_) fun h=>?_
    · refine (show L3.rSl (.tup [.str r.nm,.int r.mo,.int r.wa,.bl r.no]) (some 2) none μ2 _ from ?_)
      walk_at "go"
      refine (show 2+2≤1000000∧RT Q (.tup [.str r.nm,d,.int r.wa,.bl r.no]) μ2 from ⟨by decide,?_⟩)
      refine fin _ μ2 (vf _ _ (fun y h=>?_) fun a b c x e=>?_) B3.p
      · simp only[List.mem_cons,List.not_mem_nil,or_false] at h
        rcases h with rfl | rfl | rfl | rfl
        · exact .str on
        · exact Td
        · exact .int _
        · exact .bl _
      · injection e with _ e
        injection e with e _
        rw[← e,nd];simp
    · refine (show L3.rSl (.tup [.str r.nm,.int r.mo,.int r.wa,.bl r.no]) none (some 2) μ2 _ from ?_)
      walk_at "go"
      refine (show 2+2≤1000000∧RT Q (.tup [.str r.nm,.int r.mo,d,.bl r.no]) μ2 from ⟨by decide,?_⟩)
      refine fin _ μ2 (vf _ _ (fun y h=>?_) fun a b c x e=>?_) B3.p
      · simp only[List.mem_cons,List.not_mem_nil,or_false] at h
        rcases h with rfl | rfl | rfl | rfl
        · exact .str on
        · exact .int _
        · exact Td
        · exact .bl _
      · injection e with _ e
        injection e with _ e
        injection e with e _
        rw[← e,nd];simp
theorem Aq {α:Type}(f:α→D){xs:List α}{k:Int}(k0:0≤k)(k1:k < xs.length):∃ (i:Nat) (x:α),k=(i:Int)∧xs[i]? = some x∧atD (xs.map f) k=some (f x):=by
  obtain ⟨i,rfl⟩:∃ i:Nat,k=(i:Int):=⟨k.toNat,by omega⟩
  have hi:i < xs.length:=by omega
  refine ⟨i,xs[i],rfl,by simp[hi],?_⟩
  unfold atD L2.atI
  rw[qw,if_pos (by rw[List.length_map];exact hi)]
  simp[hi]
theorem IF {α:Type}(f:α→D)(xs:List α)(i:Nat):cutD (xs.map f) none (some (i:Int))=(xs.take i).map f∧cutD (xs.map f) (some ((i:Int)+1)) none=(xs.drop (i+1)).map f:=by
  refine ⟨by rw[ki,List.map_take],?_⟩
  rw[show ((i:Int)+1)=((i+1:Nat):Int) by omega,oC,List.map_drop]
theorem Il (xs:List D)(h:0 < xs.length):(cutD xs none (some (-1))).length+1=xs.length∧(cutD xs (some (-1)) none).length=1:=by
  have gen:∀ d:Nat,HT.sIx xs.length d (some (-1))=xs.length - 1:=fun d=>by
    unfold HT.sIx
    simp only[]
    rw[if_pos (by decide)];omega
  have e:=gen xs.length
  have e':=gen 0
  unfold cutD
  rw[e,e',HT.iS,HT.iS,List.length_take,List.length_take,List.length_drop,List.length_drop]
  omega
theorem Odd.bp {μ μ':Mu}{ws:List WB}{d:D}{b c:Addr}(h:Odd μ ws d)(hB:Bp μ b c)(B:c8 b c μ μ'):Odd μ' ws d:=⟨h.t.bp hB B,fun xs e l=>let ⟨h1,h2⟩:=h.o xs e l;⟨fun x hx=>(h1 x hx).bp hB B,h2⟩⟩
theorem jU {μ:Mu}{ws:List WB}{d:D}(h:Thg μ d)(n:∀ xs,d=.tup xs→xs.length≠ws.length):Odd μ ws d:=⟨h,fun xs e l=>absurd l (n xs e)⟩
theorem ji {μ:Mu}{ws:List WB}{xs:List D}{x:D}(w0:0 < ws.length)(h:∀ y∈xs,RwT μ y)(e:xs[0]? = some x)(hx:∀ n,fb n x=false):Odd μ ws (.tup xs):=⟨.tup _,fun ys ey l=>by
  injection ey with ey
  subst ey
  exact ⟨h,0,ws[0],x,by simp[w0],e,hx _⟩⟩
def ck:FSp:=fun ds μ Q=>match ds with
  | [.obj b,d]=>∃ (c:Addr) (ws:List WB) (rs:List RB),(Bp μ b c∧d=.tup (rs.map RB.toD)∧rs.map RB.nm=ws.map WB.nm∧(0 < ws.length∧ws.length≤6)∧∀ r∈rs,PyData.strOk r.nm=true∧NmP r.nm∧r.nm.length≤100)∧∀ x μ',Odd μ' ws x→Bp μ' b c→Q x μ'
  | _=>False
theorem qY:∀ ds μ Q,ck ds μ Q→ds.length=2:=by
  unfold ck
  walk_at "ln"
def kW:STr:=aH (aV (ao ar (af (ah 0) (af (TC (.int 8)) (aq)))) (ax 2)) (aH (bV (TB (ak rEq (ah 2) (TC (.int 0)))) (aP (ao aF (af (ah 0) (af (cG (af (TC .non) (af (TC (.int 0)) (af (TC (.bl true)) (af (TC (.str "")) (af (bM (aq)) (af (cG (aq)) (af (pB) (af (ak sA (bM (af (TC .non) (aq))) (ao df (af (ah 1) (aq)))) (af (ak sA (bM (af (bM (aq)) (aq))) (ao df (af (ah 1) (aq)))) (af (ak L3.rIx (ah 1) (TC (.int 0))) (aq)))))))))))) (aq))))) (a9)) (aH (bV (TB (ak rEq (ah 2) (TC (.int 1)))) (aP (ao dY (af (ah 1) (aq)))) (a9)) (aH (bV (TB (ak rEq (ah 2) (TC (.int 2)))) (aP (ao aF (af (ah 0) (af (cG (af (TSl (ah 1) (eA (TC (.int 1))) (ONo)) (af (TSl (ah 1) (ONo) (eA (TUn mh (TC (.int 1))))) (af (ak aK (ah 1) (TSl (ah 1) (eA (TUn mh (TC (.int 1)))) (ONo))) (af (ak aK (ah 1) (bM (af (TC .non) (aq)))) (af (bM (af (ah 1) (aq))) (aq))))))) (aq))))) (a9)) (aH (aV (ao ar (af (ah 0) (af (ao df (af (ah 1) (aq))) (aq)))) (ax 3)) (aP (ak aK (ak aK (TSl (ah 1) (ONo) (eA (ah 3))) (bM (af (ao ba (af (ah 0) (af (ak L3.rIx (ah 1) (ah 3)) (aq)))) (aq)))) (TSl (ah 1) (eA (ak aK (ah 3) (TC (.int 1)))) (ONo))))))))
theorem sF:∀ ds μ Q,ck ds μ Q→kW { nx:=fun _ μ'=>RT Q .non μ',rt:=RT Q } (ini 4 ds) μ:=by
  intro ds μ Q h
  unfold ck at h
  split at h
  case h_2=>exact h.elim
  rename_i b d
  walk_at "ini"
  unfold kW
  walk_at "go"
  obtain ⟨c,ws,rs,⟨hB,rfl,en,⟨w0,w1⟩,hr⟩,k⟩:=h
  have el:rs.length=ws.length:=by
    have:=congrArg List.length en
    simpa using this
  have fin:∀ (x:D) (μ':Mu),Odd μ' ws x→Bp μ' b c→RT Q x μ':=fun x μ' h1 h2=>⟨_,.refl _,k x μ' h1 h2⟩
  have rT:∀ μ',∀ x∈rs.map RB.toD,RwT μ' x:=fun μ' x hx=>by
    obtain ⟨r,h,rfl⟩:=List.mem_map.mp hx
    exact zw (hr r h).1
  refine tkB hB (by decide) (by decide) fun t μ1 t0 t1 B1=>?_
  walk_at "go"
  refine kif (fun h=>?_) fun h=>kif (fun h=>?_) fun h=>kif (fun h=>?_) fun h=>?_
  · intro p hp
    have np':=B1.p.nb hp
    have B2:=B1.p.up (o:=.dct []) np'
    walk_at "go"
    rw[List.length_map]
    obtain ⟨i,r,_,er,ea⟩:=Aq RB.toD (xs:=rs) (k:=0) (by decide) (by omega)
    refine ⟨⟨by omega,by omega⟩,⟨by omega,by omega⟩,wZ ea ?_⟩
    have rn:(List.replicate (rs.length:Int).toNat D.non)[0]? = some .non:=by rw[List.getElem?_replicate,if_pos (by omega)]
    have rt:(List.replicate (rs.length:Int).toNat (D.tup []))[0]? = some (.tup []):=by rw[List.getElem?_replicate,if_pos (by omega)]
    refine ofL (fun d=>Odd (up μ1 p (.dct [])) ws d) B2 (by simp) (by simp) ?_ fun d μ2 hd B3=>fin d μ2 (hd.bp B2 B3) B3.p
    refine aw (jU .non (fun _ z=>nomatch z)) (aw (jU (.int _) (fun _ z=>nomatch z)) (aw (jU (.bl _) (fun _ z=>nomatch z)) (aw (jU (.str (by decide +kernel)) (fun _ z=>nomatch z)) (aw (jU (.tup _) (fun xs z=>by injection z with z;subst z;simp;omega)) (aw (jU (.ls _) (fun _ z=>nomatch z)) (aw (jU (.obj aJ) (fun _ z=>nomatch z)) (aw (ji w0 (fun y hy=>?_) rn fun n=>rfl) (aw (ji w0 (fun y hy=>?_) rt fun n=>rfl) (aw (ji (x:=.str r.nm) w0 (fun y hy=>?_) rfl fun n=>rfl) bU)))))))))
    · rw[List.eq_of_mem_replicate hy];exact Rw0 .non (fun _ z=>nomatch z)
    · rw[List.eq_of_mem_replicate hy];exact ⟨.tup _,fun ys e y h=>by injection e with e;subst e;cases h⟩
    · have on:=(hr r (List.mem_of_getElem? er)).1
      simp only[List.mem_cons,List.not_mem_nil,or_false] at hy
      rcases hy with rfl | rfl | rfl | rfl
      · exact Rw0 (.str on) (fun _ z=>nomatch z)
      · exact Rw0 (.int _) (fun _ z=>nomatch z)
      · exact Rw0 (.int _) (fun _ z=>nomatch z)
      · exact Rw0 (.bl _) (fun _ z=>nomatch z)
  · exact fin _ _ (jU (.ls _) (fun _ z=>nomatch z)) B1.p
  · obtain ⟨c1,c2⟩:=Il (rs.map RB.toD) (by rw[List.length_map];omega)
    have c3:(cutD (rs.map RB.toD) (some 1) none).length+1=rs.length:=by
      rw[show (1:Int)=((1:Nat):Int) from rfl,oC,List.length_drop,List.length_map]
      omega
    rw[List.length_map] at c1
    refine ⟨by rw[List.length_map];omega,by rw[List.length_map];simp;omega,?_⟩
    refine ofL (fun d=>Odd μ1 ws d) B1.p (by simp) (by simp) ?_ fun d μ2 hd B3=>fin d μ2 (hd.bp B1.p B3) B3.p
    refine aw (jU (.tup _) (fun xs z=>by injection z with z;subst z;omega)) (aw (jU (.tup _) (fun xs z=>by injection z with z;subst z;omega)) (aw (jU (.tup _) (fun xs z=>by injection z with z;subst z;rw[List.length_append,List.length_map];omega)) (aw (jU (.tup _) (fun xs z=>by injection z with z;subst z;rw[List.length_append,List.length_map];simp;omega)) (aw ⟨.tup _,fun xs z l=>?_⟩ bU))))
    injection z with z
    subst z
    refine ⟨fun y hy=>?_,0,ws[0],.tup (rs.map RB.toD),by simp[w0],rfl,?_⟩
    · rw[List.mem_singleton.mp hy]
      refine ⟨.tup _,fun ys e y h=>?_⟩
      injection e with e
      subst e
      exact (rT μ1 y h).t
    · cases rs with
      | nil=>simp at el;omega
      | cons r rs=>rfl
  · rw[List.length_map]
    refine tkB B1.p (by omega) (by omega) fun j μ2 j0 j1 B2=>?_
    obtain ⟨i,r,rfl,er,ea⟩:=Aq RB.toD j0 j1
    obtain ⟨c1,c2⟩:=IF RB.toD rs i
    have h:=hr r (List.mem_of_getElem? er)
    have hi:i < rs.length:=by omega
    walk_at "go"
    refine wZ ea ?_
    refine ⟨c,r,⟨B2.p,rfl,h.1,h.2.1,h.2.2⟩,fun x μ3 ox B3=>?_⟩
    walk_at "go"
    rw[c1,c2]
    refine ⟨by rw[List.length_map,List.length_take];simp;omega,by rw[List.length_append,List.length_map,List.length_map,List.length_take,List.length_drop];simp;omega,?_⟩
    refine fin _ μ3 ⟨.tup _,fun xs e l=>?_⟩ B3
    injection e with e
    subst e
    have hw:i < ws.length:=by omega
    refine ⟨fun y hy=>?_,i,ws[i],x,by simp[hw],?_,?_⟩
    · rcases List.mem_append.mp hy with z | z
      · rcases List.mem_append.mp z with z | z
        · exact rT μ3 y (by obtain ⟨q,hq,e⟩:=List.mem_map.mp z;exact List.mem_map.mpr ⟨q,List.mem_of_mem_take hq,e⟩)
        · rw[List.mem_singleton.mp z];exact ox.1
      · exact rT μ3 y (by obtain ⟨q,hq,e⟩:=List.mem_map.mp z;exact List.mem_map.mpr ⟨q,List.mem_of_mem_drop hq,e⟩)
    · have l1:((rs.take i).map RB.toD).length=i:=by rw[List.length_map,List.length_take];omega
      rw[List.append_assoc,List.getElem?_append_right (by omega),l1]
      simp
    · have e1:ws[i].nm=r.nm:=by
        have:=congrArg (fun l=>l[i]?) en
        simp only[List.getElem?_map,er,Option.map_some] at this
        rw[List.getElem?_eq_getElem hw] at this
        simpa using this.symm
      rw[e1]
      exact ox.2
abbrev cx:FSp:=L3.cx
theorem qX:∀ ds μ Q,cx ds μ Q→ds.length=1:=L3.qX
def Bl:STr:=aH (aV (ao cq (af (ah 0) (aq))) (ax 1)) (aH (aV (ao bX (af (ah 1) (af (TC (.int 40)) (af (cG (af (TC (.int 1)) (af (TC (.int 30)) (af (TC (.int 1000001)) (aq))))) (aq))))) (ax 2)) (aH (aV (ao cX (af (ah 2) (aq))) (ax 3)) (aH (bV (TB (ak (pY true) (ao aU (af (ah 2) (af (ah 3) (aq)))) (TC (.bl true)))) (aP (TC (.bl false))) (a9)) (aH (j7 (dA (TC (.int 12))) (ax 4) (bV (TB (ak (pY true) (ao aU (af (ah 2) (af (ao ck (af (ah 1) (af (ah 3) (aq)))) (aq)))) (TC (.bl false)))) (aP (TC (.bl false))) (a9))) (aP (ak (pY false) (ao aU (af (ah 2) (af (ah 3) (aq)))) (TC (.bl true))))))))
theorem FC:∀ ds μ Q,cx ds μ Q→Bl { nx:=fun _ μ'=>RT Q .non μ',rt:=RT Q } (ini 5 ds) μ:=by
  intro ds μ Q h
  unfold cx L3.cx at h
  split at h
  case h_2=>exact h.elim
  obtain ⟨⟨ns,rfl,hn⟩,k⟩:=h
  walk_at "ini"
  unfold Bl
  walk_at "go"
  refine ⟨⟨ns,rfl⟩,fun b c μ1 hB _=>?_⟩
  walk_at "go"
  refine ⟨c,⟨hB,⟨by decide,by decide⟩,by simp,by simp,(by repeat' (first | exact bU | refine aw ⟨_,rfl,by decide,by decide⟩ ?_))⟩,fun g ws ss μ2 P wn hn B2=>?_⟩
  walk_at "go"
  refine ⟨g,ws,ss,⟨rfl,P⟩,?_⟩
  walk_at "go"
  rw[z7]
  have R:=Cp (.refl ss) P.s P.s (vW ws) P.w P.w wz0
  have nm:=wO ss ws wz
  have nn:=w6 ss ws wz P.w
  have wl:=P.wl
  have hr:∀ r∈jh ss wz ws,PyData.strOk r.nm=true∧NmP r.nm∧r.nm.length≤100:=fun r hr=>by
    have:r.nm∈(jh ss wz ws).map RB.nm:=List.mem_map.mpr ⟨r,hr,rfl⟩
    rw[nm] at this
    obtain ⟨w,hw,e⟩:=List.mem_map.mp this
    rw[← e];exact ⟨(P.w w hw).n,hn w hw⟩
  have good:∀ (μ':Mu) (K:DK),K (.bl true) μ'→cB aU [plB g ws ss,.tup ((jh ss wz ws).map RB.toD)] μ' K:=fun μ' K h=>⟨g,ws,ss,⟨rfl,P⟩,.inl ⟨jh ss wz ws,⟨rfl,nm,nn⟩,by rw[R];exact h⟩⟩
  refine good _ _ ?_
  walk_at "go"
  refine cK (fun r ρ μ'=>∃ (v4:Option D),ρ=[some (.ls (ns.map .int)),some (.obj b),some (plB g ws ss),some (.tup ((jh ss wz ws).map RB.toD)),v4]∧Bp μ' b c) ?_ ?_ _ _ _ ⟨_,rfl,B2.p⟩
  · rintro ρ μ' ⟨v4,rfl,B'⟩
    walk_at "go"
    refine good _ _ ?_
    walk_at "go"
    exact ⟨_,.refl _,k _⟩
  · rintro d r ρ μ' N ⟨v4,rfl,B'⟩ hN
    walk_at "go"
    refine ⟨c,ws,jh ss wz ws,⟨B',rfl,nm,⟨wn,wl⟩,hr⟩,fun x μ3 ox B3=>?_⟩
    refine ⟨g,ws,ss,⟨rfl,P⟩,.inr ⟨ox,?_⟩⟩
    walk_at "go"
    exact hN _ _ ⟨_,rfl,B3⟩
theorem jd (ns:List Int)(h:ns.length≤63)(μ:Mu):cx [.ls (ns.map .int)] μ (fun d _=>d=.bl true):=L3.jd ns h μ
end Kk
namespace Kk
open PySem L2 L3
theorem JS {α:Type}{us:List α}(h:us.length=1):∃ x0,us=[x0]:=match us,h with | [x0],_=>⟨x0,rfl⟩
theorem IQ {α:Type}{us:List α}(h:us.length=2):∃ x0 x1,us=[x0,x1]:=match us,h with | [x0,x1],_=>⟨x0,x1,rfl⟩
theorem Kg {α:Type}{us:List α}(h:us.length=3):∃ x0 x1 x2,us=[x0,x1,x2]:=match us,h with | [x0,x1,x2],_=>⟨x0,x1,x2,rfl⟩
theorem IT {α:Type}{us:List α}(h:us.length=4):∃ x0 x1 x2 x3,us=[x0,x1,x2,x3]:=match us,h with | [x0,x1,x2,x3],_=>⟨x0,x1,x2,x3,rfl⟩
theorem JP {α:Type}{us:List α}(h:us.length=5):∃ x0 x1 x2 x3 x4,us=[x0,x1,x2,x3,x4]:=match us,h with | [x0,x1,x2,x3,x4],_=>⟨x0,x1,x2,x3,x4,rfl⟩
def top (i:Nat):Stmt:=PySem.Challenge.pw_swellways_k52_no_tables.main.body.getD i (.Pass ⟨0,0,0,0⟩)
abbrev mI:Stmt:=top 1
abbrev gs:Stmt:=top 2
abbrev jM:Stmt:=top 3
abbrev dD:Stmt:=top 4
abbrev BM:Stmt:=top 5
abbrev Ag:Stmt:=top 6
abbrev zN:Stmt:=top 7
abbrev lQ:Stmt:=top 8
abbrev pA:Stmt:=top 9
abbrev sN:Stmt:=top 21
abbrev lP:Stmt:=top 22
abbrev gx:Stmt:=top 27
abbrev eZ:Stmt:=top 28
abbrev oj:Stmt:=top 29
abbrev eI:Stmt:=top 30
abbrev dE:Stmt:=top 31
abbrev gv:Stmt:=top 32
abbrev pf:Stmt:=top 33
abbrev ir:Stmt:=top 34
abbrev fe:Stmt:=top 35
abbrev oI:Stmt:=top 36
abbrev lV:Stmt:=top 37
abbrev jy:Stmt:=top 38
abbrev fK:Stmt:=top 39
abbrev bT:Stmt:=top 40
abbrev iP:Stmt:=top 42
abbrev rO:Stmt:=top 43
abbrev gL:Stmt:=top 45
abbrev jI:Stmt:=top 46
abbrev oQ:Stmt:=top 47
abbrev gr:Stmt:=top 48
abbrev cU:Stmt:=top 49
abbrev jz:Stmt:=top 50
abbrev lL:Stmt:=top 51
abbrev d8:Stmt:=top 52
abbrev dC:Stmt:=top 53
abbrev fL:Stmt:=top 54
abbrev mH:Stmt:=top 55
abbrev Fn:Stmt:=top 56
set_option genInjectivity false in
set_option genSizeOfSpec false in
structure Adr where
  l3:Addr
  vd:FuncData
  gn:Addr
  nT:FuncData
  jv:Addr
  tI:FuncData
  dB:Addr
  gX:FuncData
  zR:Addr
  HP:FuncData
  AN:Addr
  Ip:FuncData
  BQ:Addr
  Ie:FuncData
  mF:Addr
  vK:FuncData
  oD:Addr
  xV:FuncData
  sm:Addr
  AU:FuncData
  mj:Addr
  vS:FuncData
  gq:Addr
  nO:FuncData
  ig:Addr
  qu:FuncData
  oZ:Addr
  yf:FuncData
  ef:Addr
  i6:FuncData
  gm:Addr
  mR:FuncData
  gh:Addr
  nv:FuncData
  oG:Addr
  yB:FuncData
  iI:Addr
  pH:FuncData
  e6:Addr
  kg:FuncData
  oP:Addr
  xG:FuncData
  lu:Addr
  uw:FuncData
  jH:Addr
  r8:FuncData
  fH:Addr
  lA:FuncData
  fP:Addr
  lW:FuncData
  iA:Addr
  pD:FuncData
  sx:Addr
  By:FuncData
  mv:Addr
  vC:FuncData
  jx:Addr
  rX:FuncData
  oA:Addr
  yJ:FuncData
  gc:Addr
  nM:FuncData
  gW:Addr
  qN:FuncData
  jJ:Addr
  rZ:FuncData
  lU:Addr
  vR:FuncData
  gB:Addr
  ng:FuncData
  jA:Addr
  rq:FuncData
  fM:Addr
  lF:FuncData
  mE:Addr
  vw:FuncData
  Ah:Addr
  EE:FuncData
structure Txt (Pm:Params) (K:PySem.W.Frag) (mg:Str→Option Value) (t:Adr):Prop where
  u9:mg "is_whole" = some (.ref t.l3)
  uo:Fun K "is_whole" "is_whole" mI t.l3 t.vd
  nh:mg "is_tuple_of" = some (.ref t.gn)
  nS:Fun K "is_tuple_of" "is_tuple_of" gs t.gn t.nT
  sJ:mg "common_of" = some (.ref t.jv)
  sy:Fun K "common_of" "common_of" jM t.jv t.tI
  gS:mg "common_multiple" = some (.ref t.dB)
  iJ:Fun K "common_multiple" "common_multiple" dD t.dB t.gX
  Iz:mg "part" = some (.ref t.zR)
  HF:Fun K "part" "part" BM t.zR t.HP
  F4:mg "plus" = some (.ref t.AN)
  Iy:Fun K "plus" "plus" Ag t.AN t.Ip
  Ih:mg "less" = some (.ref t.BQ)
  GO:Fun K "less" "less" zN t.BQ t.Ie
  va:mg "floor_of" = some (.ref t.mF)
  uW:Fun K "floor_of" "floor_of" lQ t.mF t.vK
  yI:mg "ceil_of" = some (.ref t.oD)
  yH:Fun K "ceil_of" "ceil_of" pA t.oD t.xV
  zr:mg "top_of" = some (.ref t.sm)
  zL:Fun K "top_of" "top_of" sN t.sm t.AU
  uL:mg "limit_of" = some (.ref t.mj)
  vA:Fun K "limit_of" "limit_of" lP t.mj t.vS
  nL:mg "limit_share" = some (.ref t.gq)
  nz:Fun K "limit_share" "limit_share" gx t.gq t.nO
  qk:mg "senders_on" = some (.ref t.ig)
  p7:Fun K "senders_on" "senders_on" eZ t.ig t.qu
  yh:mg "load_on" = some (.ref t.oZ)
  yj:Fun K "load_on" "load_on" oj t.oZ t.yf
  i8:mg "is_within_pace" = some (.ref t.ef)
  jq:Fun K "is_within_pace" "is_within_pace" eI t.ef t.i6
  nQ:mg "waits_ahead" = some (.ref t.gm)
  mQ:Fun K "waits_ahead" "waits_ahead" dE t.gm t.mR
  nG:mg "most_coming" = some (.ref t.gh)
  ni:Fun K "most_coming" "most_coming" gv t.gh t.nv
  xJ:mg "peak_of" = some (.ref t.oG)
  ya:Fun K "peak_of" "peak_of" pf t.oG t.yB
  qK:mg "least_most" = some (.ref t.iI)
  qC:Fun K "least_most" "least_most" ir t.iI t.pH
  jV:mg "may_lose_none" = some (.ref t.e6)
  jP:Fun K "may_lose_none" "may_lose_none" fe t.e6 t.kg
  yy:mg "is_wait" = some (.ref t.oP)
  yq:Fun K "is_wait" "is_wait" oI t.oP t.xG
  tT:mg "is_count" = some (.ref t.lu)
  vG:Fun K "is_count" "is_count" lV t.lu t.uw
  rD:mg "is_row_of" = some (.ref t.jH)
  sR:Fun K "is_row_of" "is_row_of" jy t.jH t.r8
  lE:mg "is_right_row" = some (.ref t.fH)
  mi:Fun K "is_right_row" "is_right_row" fK t.fH t.lA
  lM:mg "shows_bounds" = some (.ref t.fP)
  l6:Fun K "shows_bounds" "shows_bounds" bT t.fP t.lW
  qh:mg "least_wait" = some (.ref t.iA)
  pE:Fun K "least_wait" "least_wait" iP t.iA t.pD
  Bu:mg "bounds" = some (.ref t.sx)
  AL:Fun K "bounds" "bounds" rO t.sx t.By
  u7:mg "_law_pot" = some (.ref t.mv)
  vy:Fun K "_law_pot" "_law_pot" gL t.mv t.vC
  tj:mg "_law_take" = some (.ref t.jx)
  rM:Fun K "_law_take" "_law_take" jI t.jx t.rX
  xT:mg "_law_of" = some (.ref t.oA)
  yC:Fun K "_law_of" "_law_of" oQ t.oA t.yJ
  mO:mg "_law_lowest" = some (.ref t.gc)
  nJ:Fun K "_law_lowest" "_law_lowest" gr t.gc t.nM
  qx:mg "_law_names" = some (.ref t.gW)
  qJ:Fun K "_law_names" "_law_names" cU t.gW t.qN
  rf:mg "_law_rule" = some (.ref t.jJ)
  sM:Fun K "_law_rule" "_law_rule" jz t.jJ t.rZ
  uU:mg "_law_way" = some (.ref t.lU)
  uz:Fun K "_law_way" "_law_way" lL t.lU t.vR
  mN:mg "_law_sender" = some (.ref t.gB)
  mT:Fun K "_law_sender" "_law_sender" d8 t.gB t.ng
  tm:mg "_law_plan" = some (.ref t.jA)
  sV:Fun K "_law_plan" "_law_plan" dC t.jA t.rq
  lr:mg "_law_odd_row" = some (.ref t.fM)
  kZ:Fun K "_law_odd_row" "_law_odd_row" fL t.fM t.lF
  t8:mg "_law_odd" = some (.ref t.mE)
  vg:Fun K "_law_odd" "_law_odd" mH t.mE t.vw
  J4:mg "law" = some (.ref t.Ah)
  we:Fun K "law" "law" Fn t.Ah t.EE
  wy:mg "abs" = none
  E2:mg "all" = none
  A5:mg "bool" = none
  Hy:mg "dict" = none
  tf:mg "enumerate" = none
  IY:mg "int" = none
  cw:mg "isinstance" = none
  e9:mg "len" = none
  zB:mg "list" = none
  KD:mg "max" = none
  EG:mg "min" = none
  kh:mg "range" = none
  Bh:mg "sorted" = none
  J7:mg "str" = none
  J8:mg "sum" = none
  ip:mg "tuple" = none
  Fd:mg "zip" = none
  tY:GV K mg "BEAT" (.int 2)
  c6:GV K mg "LONGEST_WAIT" (.int 2)
  eN:GV K mg "MOST_STAND" (.int 1)
  dZ:GV K mg "NAME" (.int 0)
  js:GV K mg "NONE_LOST" (.int 3)
  A1:GV K mg "NOUGHT" (.tup [.int 0,.int 1])
  pG:GV K mg "PACE" (.int 1)
  BL:GV K mg "ROAD" (.int 1)
  pO:GV K mg "ROOM" (.int 2)
  y9:GV K mg "RULE" (.int 5)
  yr:GV K mg "SENDERS" (.int 2)
  F5:GV K mg "SORT" (.int 4)
  pN:GV K mg "WAYS" (.int 1)
local macro_rules | `(tactic| walk_at "sc")=>`(tactic| exact ⟨rfl,rfl,rfl,by decide +kernel,rfl,by decide +kernel,by decide +kernel⟩)
local macro_rules | `(tactic| walk_at "b1")=>`(tactic| (rename_i hl;obtain ⟨x0,e⟩:=JS hl;subst e;rfl))
local macro_rules | `(tactic| walk_at "b2")=>`(tactic| (rename_i hl;obtain ⟨x0,x1,e⟩:=IQ hl;subst e;rfl))
local macro_rules | `(tactic| walk_at "b3")=>`(tactic| (rename_i hl;obtain ⟨x0,x1,x2,e⟩:=Kg hl;subst e;rfl))
local macro_rules | `(tactic| walk_at "b4")=>`(tactic| (rename_i hl;obtain ⟨x0,x1,x2,x3,e⟩:=IT hl;subst e;rfl))
local macro_rules | `(tactic| walk_at "b5")=>`(tactic| (rename_i hl;obtain ⟨x0,x1,x2,x3,x4,e⟩:=JP hl;subst e;rfl))
section
variable {P:Program} {w:World} {K:PySem.W.Frag} {mg:Str→Option Value} {base:Heap} {t:Adr}
theorem rG:aD ["thing"] ["thing"] (au mI):=by walk_at "sc"
theorem tV (T:Txt w.params K mg t):aL P w K mg base 1 "is_whole" ["thing"] cp:=aI T.u9 T.uo rG qP rR (fun _ _ _ _ _ _ _ _=>by walk_at "b1") fun _ _ _ _ _ _ hr hu=>
  av (az (i7 (iu rfl T.cw rfl (ae 0) rfl T.IY rfl) (jr (tW (iu rfl T.cw rfl (ae 0) rfl T.A5 rfl)))))
theorem kM:aD ["thing", "many"] ["thing", "many"] (au gs):=by walk_at "sc"
theorem gy (T:Txt w.params K mg t):aL P w K mg base 1 "is_tuple_of" ["thing", "many"] a8:=aI T.nh T.nS kM j6 lH (fun _ _ _ _ _ _ _ _=>by walk_at "b2") fun _ _ _ _ _ _ hr hu=>
  av (az (i7 (iu rfl T.cw rfl (ae 0) rfl T.ip rfl) (jr (le_eq hu (aQ bc b7 rfl T.e9 rfl (aa (ae 0) (ag))) (ae 1)))))
theorem bW:aD ["one", "other", "divisor", "rest", "behind"] ["one", "other"] (au jM):=by walk_at "sc"
theorem jD (T:Txt w.params K mg t):aL P w K mg base 1 "common_of" ["one", "other"] L3.bH:=aI T.sJ T.sy bW L3.nj L3.pS (fun _ _ _ _ _ _ _ _=>by walk_at "b2") fun _ _ _ _ _ _ hr hu=>
  aj (aA 2 bW.nd (aQ iw kl rfl T.wy rfl (aa (ae 0) (ag)))) (aj (aA 3 bW.nd (aQ iw kl rfl T.wy rfl (aa (ae 1) (ag)))) (aj (my PassesOwn.never (BR (ae 3) (le_int)) (aj (aA 4 bW.nd (fG (ae 2) (ae 3))) (aj (aA 2 bW.nd (ae 3)) (av (aA 3 bW.nd (ae 4)))))) (av (az (ae 2)))))
theorem gI:aD ["one", "other"] ["one", "other"] (au dD):=by walk_at "sc"
theorem g9 (T:Txt w.params K mg t):aL P w K mg base 2 "common_multiple" ["one", "other"] a6:=aI T.gS T.iJ gI f6 gF (fun _ _ _ _ _ _ _ _=>by walk_at "b2") fun _ _ _ _ _ _ hr hu=>
  av (az (le_mul (eQ (ae 0) (ai (jD T) hr rfl (aa (ae 0) (aa (ae 1) (ag))))) (ae 1)))
theorem pZ:aD ["top", "bottom", "divisor"] ["top", "bottom"] (au BM):=by walk_at "sc"
theorem qL (T:Txt w.params K mg t):aL P w K mg base 2 "part" ["top", "bottom"] L3.cD:=aI T.Iz T.HF pZ L3.Bz L3.Em (fun _ _ _ _ _ _ _ _=>by walk_at "b2") fun _ _ _ _ _ _ hr hu=>
  aj (aA 2 pZ.nd (ai (jD T) hr rfl (aa (ae 0) (aa (ae 1) (ag))))) (aj (bh (EL (ae 1) (le_int)) (av (aA 2 pZ.nd (le_neg (ae 2)))) (aN)) (av (az (aT (aa (eQ (ae 0) (ae 2)) (aa (eQ (ae 1) (ae 2)) (ag)))))))
theorem CY:aD ["one", "other"] ["one", "other"] (au Ag):=by walk_at "sc"
theorem Hs (T:Txt w.params K mg t):aL P w K mg base 3 "plus" ["one", "other"] L3.fY:=aI T.F4 T.Iy CY L3.A3 L3.Ek (fun _ _ _ _ _ _ _ _=>by walk_at "b2") fun _ _ _ _ _ _ hr hu=>
  av (az (ai (qL T) hr rfl (aa (aE (le_mul (aC (ae 0) (le_int)) (aC (ae 1) (le_int))) (le_mul (aC (ae 1) (le_int)) (aC (ae 0) (le_int)))) (aa (le_mul (aC (ae 0) (le_int)) (aC (ae 1) (le_int))) (ag)))))
theorem DW:aD ["one", "other"] ["one", "other"] (au zN):=by walk_at "sc"
theorem HJ (T:Txt w.params K mg t):aL P w K mg base 1 "less" ["one", "other"] L3.fT:=aI T.Ih T.GO DW L3.Bw L3.DL (fun _ _ _ _ _ _ _ _=>by walk_at "b2") fun _ _ _ _ _ _ hr hu=>
  av (az (JA (le_mul (aC (ae 0) (le_int)) (aC (ae 1) (le_int))) (le_mul (aC (ae 1) (le_int)) (aC (ae 0) (le_int)))))
theorem rK:aD ["one"] ["one"] (au lQ):=by walk_at "sc"
theorem vh (T:Txt w.params K mg t):aL P w K mg base 1 "floor_of" ["one"] L3.cm:=aI T.va T.uW rK L3.qe L3.sE (fun _ _ _ _ _ _ _ _=>by walk_at "b1") fun _ _ _ _ _ _ hr hu=>
  av (az (eQ (aC (ae 0) (le_int)) (aC (ae 0) (le_int))))
theorem um:aD ["one"] ["one"] (au pA):=by walk_at "sc"
theorem nX (T:Txt w.params K mg t):aL P w K mg base 1 "ceil_of" ["one"] L3.bQ:=aI T.yI T.yH um L3.rH L3.uX (fun _ _ _ _ _ _ _ _=>by walk_at "b1") fun _ _ _ _ _ _ hr hu=>
  av (az (le_neg (eQ (le_neg (aC (ae 0) (le_int))) (aC (ae 0) (le_int)))))
theorem yQ:aD ["rule"] ["rule"] (au sN):=by walk_at "sc"
theorem zk (T:Txt w.params K mg t):aL P w K mg base 1 "top_of" ["rule"] bD:=aI T.zr T.zL yQ kF o7 (fun _ _ _ _ _ _ _ _=>by walk_at "b1") fun _ _ _ _ _ _ hr hu=>
  av (az (aC (ae 0) (jn (aQ bc b7 rfl T.e9 rfl (aa (ae 0) (ag))) (le_int))))
theorem rj:aD ["rule"] ["rule"] (au lP):=by walk_at "sc"
theorem kR (T:Txt w.params K mg t):aL P w K mg base 2 "limit_of" ["rule"] bR:=aI T.uL T.vA rj pT rQ (fun _ _ _ _ _ _ _ _=>by walk_at "b1") fun _ _ _ _ _ _ hr hu=>
  av (az (ai (vh T) hr rfl (aa (ai (zk T) hr rfl (aa (ae 0) (ag))) (ag))))
theorem mr:aD ["sender"] ["sender"] (au gx):=by walk_at "sc"
theorem nB (T:Txt w.params K mg t):aL P w K mg base 3 "limit_share" ["sender"] bB:=aI T.nL T.nz mr jW lC (fun _ _ _ _ _ _ _ _=>by walk_at "b1") fun _ _ _ _ _ _ hr hu=>
  av (az (ai (qL T) hr rfl (aa (ai (kR T) hr rfl (aa (aC (ae 0) (aW rfl T.y9)) (ag))) (aa (aC (ae 0) (aW rfl T.tY)) (ag)))))
theorem m8:aD ["plan", "name"] ["plan", "name"] (au eZ):=by walk_at "sc"
theorem iy (T:Txt w.params K mg t):aL P w K mg base 1 "senders_on" ["plan", "name"] bw:=aI T.qk T.p7 m8 lT nH (fun _ _ _ _ _ _ _ _=>by walk_at "b2") fun _ _ _ _ _ _ hr hu=>
  av (az (bZ (fsc:=au eZ) ["plan", "name"] ["sender", "name"] 1 [1] rfl rfl (c7 (aC (ae 0) (aW rfl T.yr))) (fun cl C s₀ H₀ ex=>⟨cJ 0 (show (["sender", "name"]:List Str).Nodup from by decide +kernel),qU (II hu (ae 1) (aC (ae 0) (aW rfl T.BL))),ae 0⟩) rfl rfl (by decide +kernel)))
theorem eO:aD ["senders", "load", "sender"] ["senders"] (au oj):=by walk_at "sc"
theorem xI (T:Txt w.params K mg t):aL P w K mg base 4 "load_on" ["senders"] cz:=aI T.yh T.yj eO tG tK (fun _ _ _ _ _ _ _ _=>by walk_at "b1") fun _ _ _ _ _ _ hr hu=>
  aj (aA 1 eO.nd (aW rfl T.A1)) (aj (gG PassesOwn.never rfl (c7 (ae 0)) (eV 2 eO.nd) (av (aA 1 eO.nd (ai (Hs T) hr rfl (aa (ae 1) (aa (ai (nB T) hr rfl (aa (ae 2) (ag))) (ag))))))) (av (az (ae 1))))
theorem hX:aD ["way", "senders"] ["way", "senders"] (au eI):=by walk_at "sc"
theorem eF (T:Txt w.params K mg t):aL P w K mg base 5 "is_within_pace" ["way", "senders"] aX:=aI T.i8 T.jq hX gK hU (fun _ _ _ _ _ _ _ _=>by walk_at "b2") fun _ _ _ _ _ _ hr hu=>
  av (az (tW (ai (HJ T) hr rfl (aa (aT (aa (aC (ae 0) (aW rfl T.pG)) (aa (le_int) (ag)))) (aa (ai (xI T) hr rfl (aa (ae 1) (ag))) (ag))))))
theorem fQ:aD ["sender", "name", "waits", "road"] ["sender", "name", "waits"] (au dE):=by walk_at "sc"
theorem nA (T:Txt w.params K mg t):aL P w K mg base 1 "waits_ahead" ["sender", "name", "waits"] bC:=aI T.nQ T.mQ fQ jR lX (fun _ _ _ _ _ _ _ _=>by walk_at "b3") fun _ _ _ _ _ _ hr hu=>
  aj (aA 3 fQ.nd (aC (ae 0) (aW rfl T.BL))) (av (az (aQ (yO rfl) Al rfl T.J8 rfl (aa (bZ (fsc:=au dE) ["sender", "name", "waits", "road"] ["earlier", "waits"] 1 [2] rfl rfl (c7 (eh (ae 3) (de) (cc (xB hu (ae 3) (ae 1))))) (fun cl C s₀ H₀ ex=>⟨cJ 0 (show (["earlier", "waits"]:List Str).Nodup from by decide +kernel),du,DX hu (ae 1) (ae 0)⟩) rfl rfl (by decide +kernel)) (ag)))))
theorem bS:aD ["name", "senders", "waits", "n", "count", "sender", "beats"] ["name", "senders", "waits", "n"] (au gv):=by walk_at "sc"
theorem gi (T:Txt w.params K mg t):aL P w K mg base 3 "most_coming" ["name", "senders", "waits", "n"] a7:=aI T.nG T.ni bS jQ lI (fun _ _ _ _ _ _ _ _=>by walk_at "b4") fun _ _ _ _ _ _ hr hu=>
  aj (aA 4 bS.nd (le_int)) (aj (gG PassesOwn.never rfl (c7 (ae 1)) (eV 5 bS.nd) (aj (aA 6 bS.nd (ai (nX T) hr rfl (aa (ai (qL T) hr rfl (aa (aE (ae 3) (ai (nA T) hr rfl (aa (ae 5) (aa (ae 0) (aa (ae 2) (ag)))))) (aa (aC (ae 5) (aW rfl T.tY)) (ag)))) (ag)))) (av (o8 4 bS.nd (le_mul (ai (kR T) hr rfl (aa (aC (ae 5) (aW rfl T.y9)) (ag))) (ae 6)))))) (av (az (ae 4))))
theorem cA:aD ["way", "senders", "waits", "rounds", "sender", "peaks", "n"] ["way", "senders", "waits"] (au pf):=by walk_at "sc"
theorem oK (T:Txt w.params K mg t):aL P w K mg base 4 "peak_of" ["way", "senders", "waits"] b9:=aI T.xJ T.ya cA sT uN (fun _ _ _ _ _ _ _ _=>by walk_at "b3") fun _ _ _ _ _ _ hr hu=>
  aj (aA 3 cA.nd (le_int)) (aj (gG PassesOwn.never rfl (c7 (ae 1)) (eV 4 cA.nd) (av (aA 3 cA.nd (ai (g9 T) hr rfl (aa (ae 3) (aa (aC (ae 4) (aW rfl T.tY)) (ag))))))) (aj (aA 5 cA.nd (vj (ag))) (aj (gG PassesOwn.never rfl (yd rfl T.kh (le_int) (aE (ae 3) (le_int))) (eV 6 cA.nd) (av (qg (le_app (ae 5) (jn (ai (gi T) hr rfl (aa (aC (ae 0) (aW rfl T.dZ)) (aa (ae 1) (aa (ae 2) (aa (ae 6) (ag)))))) (le_mul (aC (ae 0) (aW rfl T.pG)) (jn (ae 6) (le_int)))))))) (av (az (aQ (yg rfl) Ac rfl T.KD rfl (aa (HN (ae 5)) (ag))))))))
theorem m7:aD ["way", "senders", "waits"] ["way", "senders", "waits"] (au ir):=by walk_at "sc"
theorem ie (T:Txt w.params K mg t):aL P w K mg base 6 "least_most" ["way", "senders", "waits"] bx:=aI T.qK T.qC m7 kX mS (fun _ _ _ _ _ _ _ _=>by walk_at "b3") fun _ _ _ _ _ _ hr hu=>
  aj (bh (gO (gD (ai (eF T) hr rfl (aa (ae 0) (aa (ae 1) (ag)))))) (av (az (aC (ae 0) (aW rfl T.pO)))) (aN)) (av (az (aQ (oX rfl) rV rfl T.EG rfl (aa (aC (ae 0) (aW rfl T.pO)) (aa (ai (oK T) hr rfl (aa (ae 0) (aa (ae 1) (aa (ae 2) (ag))))) (ag))))))
theorem iT:aD ["way", "senders", "waits"] ["way", "senders", "waits"] (au fe):=by walk_at "sc"
theorem ff (T:Txt w.params K mg t):aL P w K mg base 6 "may_lose_none" ["way", "senders", "waits"] a5:=aI T.jV T.jP iT hZ iU (fun _ _ _ _ _ _ _ _=>by walk_at "b3") fun _ _ _ _ _ _ hr hu=>
  av (az (i7 (ai (eF T) hr rfl (aa (ae 0) (aa (ae 1) (ag)))) (jr (E8 (ai (oK T) hr rfl (aa (ae 0) (aa (ae 1) (aa (ae 2) (ag))))) (aC (ae 0) (aW rfl T.pO))))))
theorem gE:aD ["way", "senders", "waits", "most", "wait", "stand"] ["way", "senders", "waits", "most", "wait"] (au oI):=by walk_at "sc"
theorem oM (T:Txt w.params K mg t):aL P w K mg base 4 "is_wait" ["way", "senders", "waits", "most", "wait"] cj:=aI T.yy T.yq gE sQ uZ (fun _ _ _ _ _ _ _ _=>by walk_at "b5") fun _ _ _ _ _ _ hr hu=>
  aj (bh (lt_eq hu (aQ bc b7 rfl T.e9 rfl (aa (ae 1) (ag))) (le_int)) (av (az (cQ))) (aN)) (aj (aA 5 gE.nd (aQ (oX rfl) rV rfl T.EG rfl (aa (aC (ae 0) (aW rfl T.pO)) (aa (ae 3) (ag))))) (aj (bh (lt_eq hu (aC (ae 0) (aW rfl T.F5)) (le_str)) (av (aA 5 gE.nd (le_mul (ae 5) (aQ bc b7 rfl T.e9 rfl (aa (ae 1) (ag)))))) (aN)) (aj (bh (Fp (ae 4) (jn (ai (nX T) hr rfl (aa (ai (qL T) hr rfl (aa (ae 5) (aa (aC (ae 0) (aW rfl T.pG)) (ag)))) (ag))) (le_int))) (av (az (cQ))) (aN)) (av (az (E8 (ai (gi T) hr rfl (aa (aC (ae 0) (aW rfl T.dZ)) (aa (ae 1) (aa (ae 2) (aa (aE (ae 4) (le_int)) (ag)))))) (le_mul (aC (ae 0) (aW rfl T.pG)) (aE (ae 4) (le_int)))))))))
theorem tE:aD ["thing"] ["thing"] (au lV):=by walk_at "sc"
theorem ky (T:Txt w.params K mg t):aL P w K mg base 2 "is_count" ["thing"] bE:=aI T.tT T.vG tE qF rY (fun _ _ _ _ _ _ _ _=>by walk_at "b1") fun _ _ _ _ _ _ hr hu=>
  av (az (i7 (ai (tV T) hr rfl (aa (ae 0) (ag))) (jr (JZ (ae 0) (le_int)))))
theorem qv:aD ["way", "thing"] ["way", "thing"] (au jy):=by walk_at "sc"
theorem sO (T:Txt w.params K mg t):aL P w K mg base 3 "is_row_of" ["way", "thing"] bY:=aI T.rD T.sR qv nK qd (fun _ _ _ _ _ _ _ _=>by walk_at "b2") fun _ _ _ _ _ _ hr hu=>
  aj (bh (LW.lt (Fq (gO (gD (ai (gy T) hr rfl (aa (ae 1) (aa (le_int) (ag)))))) (Fq (gO (gD (iu rfl T.cw rfl (aC (ae 1) (aW rfl T.dZ)) rfl T.J7 rfl))) (FN (Fm hu (aC (ae 1) (aW rfl T.dZ)) (aC (ae 0) (aW rfl T.dZ))))))) (av (az (cQ))) (aN)) (av (az (i7 (ai (ky T) hr rfl (aa (aC (ae 1) (aW rfl T.eN)) (ag))) (i7 (ai (ky T) hr rfl (aa (aC (ae 1) (aW rfl T.c6)) (ag))) (jr (iu rfl T.cw rfl (aC (ae 1) (aW rfl T.js)) rfl T.A5 rfl))))))
theorem fk:aD ["plan", "way", "waits", "row", "senders"] ["plan", "way", "waits", "row"] (au fK):=by walk_at "sc"
theorem lO (T:Txt w.params K mg t):aL P w K mg base 7 "is_right_row" ["plan", "way", "waits", "row"] bb:=aI T.lE T.mi fk jm kc (fun _ _ _ _ _ _ _ _=>by walk_at "b4") fun _ _ _ _ _ _ hr hu=>
  aj (aA 4 fk.nd (ai (iy T) hr rfl (aa (ae 0) (aa (aC (ae 1) (aW rfl T.dZ)) (ag))))) (aj (bh (EL (aC (ae 3) (aW rfl T.eN)) (ai (ie T) hr rfl (aa (ae 1) (aa (ae 4) (aa (ae 2) (ag)))))) (av (az (cQ))) (aN)) (aj (bh (gO (gD (ai (oM T) hr rfl (aa (ae 1) (aa (ae 4) (aa (ae 2) (aa (aC (ae 3) (aW rfl T.eN)) (aa (aC (ae 3) (aW rfl T.c6)) (ag))))))))) (av (az (cQ))) (aN)) (av (az (JK (tW (aC (ae 3) (aW rfl T.js))) (jr (ai (ff T) hr rfl (aa (ae 1) (aa (ae 4) (aa (ae 2) (ag)))))))))))
theorem fm:aD ["plan", "table", "waits"] ["plan", "table"] (au bT):=by walk_at "sc"
theorem c5 (T:Txt w.params K mg t):aL P w K mg base 8 "shows_bounds" ["plan", "table"] aU:=aI T.lM T.l6 fm ja ke (fun _ _ _ _ _ _ _ _=>by walk_at "b2") fun _ _ _ _ _ _ hr hu=>
  aj (bh (gO (gD (ai (gy T) hr rfl (aa (ae 1) (aa (aQ bc b7 rfl T.e9 rfl (aa (aC (ae 0) (aW rfl T.pN)) (ag))) (ag)))))) (av (az (cQ))) (aN)) (aj (bh (gO (gD (aQ (pw rfl) wU rfl T.E2 rfl (aa (bZ (fsc:=au bT) ["plan", "table", "waits"] ["way", "row"] 2 [] rfl rfl (wM rfl T.Fd (aa (aC (ae 0) (aW rfl T.pN)) (aa (ae 1) (ag)))) (fun cl C s₀ H₀ ex=>⟨pC rfl (cY 0 (show (["way", "row"]:List Str).Nodup from by decide +kernel) (cY 1 (show (["way", "row"]:List Str).Nodup from by decide +kernel) (lJ))),du,ai (sO T) hr rfl (aa (ae 0) (aa (ae 1) (ag)))⟩) rfl rfl (by decide +kernel)) (ag))))) (av (az (cQ))) (aN)) (aj (aA 2 fm.nd (eg (uI rfl) Cn rfl T.Hy rfl (aa (bZ (fsc:=au bT) ["plan", "table", "waits"] ["row"] 1 [] rfl rfl (c7 (ae 1)) (fun cl C s₀ H₀ ex=>⟨cJ 0 (show (["row"]:List Str).Nodup from by decide +kernel),du,aT (aa (aC (ae 0) (aW rfl T.dZ)) (aa (aC (ae 0) (aW rfl T.c6)) (ag)))⟩) rfl rfl (by decide +kernel)) (ag)))) (av (az (aQ (pw rfl) wU rfl T.E2 rfl (aa (bZ (fsc:=au bT) ["plan", "table", "waits"] ["way", "row", "plan", "waits"] 2 [0,2] rfl rfl (wM rfl T.Fd (aa (aC (ae 0) (aW rfl T.pN)) (aa (ae 1) (ag)))) (fun cl C s₀ H₀ ex=>⟨pC rfl (cY 0 (show (["way", "row", "plan", "waits"]:List Str).Nodup from by decide +kernel) (cY 1 (show (["way", "row", "plan", "waits"]:List Str).Nodup from by decide +kernel) (lJ))),du,ai (lO T) hr rfl (aa (ae 2) (aa (ae 0) (aa (ae 3) (aa (ae 1) (ag)))))⟩) rfl rfl (by decide +kernel)) (ag)))))))
theorem dU:aD ["way", "senders", "waits", "most", "wait"] ["way", "senders", "waits", "most"] (au iP):=by walk_at "sc"
theorem qt (T:Txt w.params K mg t):aL P w K mg base 5 "least_wait" ["way", "senders", "waits", "most"] bK:=aI T.qh T.pE dU kH m9 (fun _ _ _ _ _ _ _ _=>by walk_at "b4") fun _ _ _ _ _ _ hr hu=>
  aj (aA 4 dU.nd (le_int)) (aj (my PassesOwn.never (gO (gD (ai (oM T) hr rfl (aa (ae 0) (aa (ae 1) (aa (ae 2) (aa (ae 3) (aa (ae 4) (ag))))))))) (av (o8 4 dU.nd (le_int)))) (av (az (ae 4))))
theorem cy:aD ["plan", "waits", "rows", "way", "senders", "most", "wait"] ["plan"] (au rO):=by walk_at "sc"
theorem A9 (T:Txt w.params K mg t):aL P w K mg base 7 "bounds" ["plan"] cX:=aI T.Bu T.AL cy uY xE (fun _ _ _ _ _ _ _ _=>by walk_at "b1") fun _ _ _ _ _ _ hr hu=>
  aj (aA 1 cy.nd (pQ)) (aj (aA 2 cy.nd (vj (ag))) (aj (gG PassesOwn.never rfl (c7 (aC (ae 0) (aW rfl T.pN))) (eV 3 cy.nd) (aj (aA 4 cy.nd (ai (iy T) hr rfl (aa (ae 0) (aa (aC (ae 3) (aW rfl T.dZ)) (ag))))) (aj (aA 5 cy.nd (ai (ie T) hr rfl (aa (ae 3) (aa (ae 4) (aa (ae 1) (ag)))))) (aj (aA 6 cy.nd (ai (qt T) hr rfl (aa (ae 3) (aa (ae 4) (aa (ae 1) (aa (ae 5) (ag))))))) (aj (qg (le_app (ae 2) (aT (aa (aC (ae 3) (aW rfl T.dZ)) (aa (ae 5) (aa (ae 6) (aa (ai (ff T) hr rfl (aa (ae 3) (aa (ae 4) (aa (ae 1) (ag))))) (ag)))))))) (av (Dv hu (ae 1) (aC (ae 3) (aW rfl T.dZ)) (ae 6)))))))) (av (az (eg cC fX rfl T.ip rfl (aa (ae 2) (ag)))))))
theorem dr:aD ["_law_script", "_law_seed", "_law_cell"] ["_law_script"] (au gL):=by walk_at "sc"
theorem u4 (T:Txt w.params K mg t):aL P w K mg base 1 "_law_pot" ["_law_script"] cq:=aI T.u7 T.vy dr pW tq (fun _ _ _ _ _ _ _ _=>by walk_at "b1") fun _ _ _ _ _ _ hr hu=>
  aj (aA 1 dr.nd (le_int)) (aj (gG PassesOwn.never rfl (c7 (eh (ae 0) (de) (cc (le_int)))) (eV 2 dr.nd) (av (aA 1 dr.nd (fG (aE (aE (le_mul (ae 1) (le_int)) (fG (ae 2) (le_pow (le_int) (le_int)))) (le_int)) (le_int))))) (av (az (vj (aa (y6 (fsc:=au gL) ["_law_script", "_law_seed", "_law_cell"] ["_law_cell"] 1 [] rfl rfl (c7 (eh (ae 0) (de) (cc (le_int)))) (fun cl C s₀ H₀ ex=>⟨cJ 0 (show (["_law_cell"]:List Str).Nodup from by decide +kernel),qU (Fp (aQ iw kl rfl T.wy rfl (aa (ae 0) (ag))) (le_pow (le_int) (le_int))),aQ iw kl rfl T.wy rfl (aa (ae 0) (ag))⟩) rfl rfl (by decide +kernel)) (aa (ae 1) (ag)))))))
theorem iq:aD ["_law_pot_here", "_law_many", "_law_digit"] ["_law_pot_here", "_law_many"] (au jI):=by walk_at "sc"
theorem ay (T:Txt w.params K mg t):aL P w K mg base 1 "_law_take" ["_law_pot_here", "_law_many"] ar:=aI T.tj T.rM iq mU qT (fun _ _ _ _ _ _ _ _=>by walk_at "b2") fun _ _ _ _ _ _ hr hu=>
  aj (bh (BR (aQ bc b7 rfl T.e9 rfl (aa (aC (ae 0) (le_int)) (ag))) (le_int)) (aj (aA 2 iq.nd (fG (aC (aC (ae 0) (le_int)) (le_int)) (ae 1))) (aj (sk (aC (ae 0) (le_int)) (le_int) (eQ (aC (aC (ae 0) (le_int)) (le_int)) (ae 1))) (aj (bh (lt_eq hu (aC (aC (ae 0) (le_int)) (le_int)) (le_int)) (av (qg (Ig (aC (ae 0) (le_int)) (le_int)))) (aN)) (av (az (ae 2)))))) (aN)) (aj (sk (ae 0) (le_int) (fG (aE (le_mul (aC (ae 0) (le_int)) (le_int)) (le_int)) (le_int))) (av (az (fG (eQ (aC (ae 0) (le_int)) (le_int)) (ae 1)))))
theorem uE:aD ["_law_pot_here", "_law_some"] ["_law_pot_here", "_law_some"] (au oQ):=by walk_at "sc"
theorem aS (T:Txt w.params K mg t):aL P w K mg base 2 "_law_of" ["_law_pot_here", "_law_some"] aF:=aI T.xT T.yC uE r6 uT (fun _ _ _ _ _ _ _ _=>by walk_at "b2") fun _ _ _ _ _ _ hr hu=>
  av (az (Hz (ae 1) (ai (ay T) hr rfl (aa (ae 0) (aa (aQ bc b7 rfl T.e9 rfl (aa (ae 1) (ag))) (ag))))))
theorem c9:aD ["_law_top", "_law_bottom", "_law_one", "_law_other"] ["_law_top", "_law_bottom"] (au gr):=by walk_at "sc"
theorem bL (T:Txt w.params K mg t):aL P w K mg base 1 "_law_lowest" ["_law_top", "_law_bottom"] aO:=aI T.mO T.nJ c9 j8 kC (fun _ _ _ _ _ _ _ _=>by walk_at "b2") fun _ _ _ _ _ _ hr hu=>
  aj (Ar 2 3 rfl c9.nd (aa (ae 0) (aa (ae 1) (ag)))) (aj (my PassesOwn.never (Fm hu (ae 3) (le_int)) (av (Ar 2 3 rfl c9.nd (aa (ae 3) (aa (fG (ae 2) (ae 3)) (ag)))))) (av (az (aT (aa (eQ (ae 0) (ae 2)) (aa (eQ (ae 1) (ae 2)) (ag)))))))
theorem bJ:aD ["_law_pot_here", "_law_many", "_law_letters", "_law_stem", "_law_at", "_law_first", "_law_step"] ["_law_pot_here", "_law_many"] (au cU):=by walk_at "sc"
theorem iO (T:Txt w.params K mg t):aL P w K mg base 3 "_law_names" ["_law_pot_here", "_law_many"] br:=aI T.qx T.qJ bJ kT nu (fun _ _ _ _ _ _ _ _=>by walk_at "b2") fun _ _ _ _ _ _ hr hu=>
  aj (aA 2 bJ.nd (le_str)) (aj (aA 3 bJ.nd (Ef (le_str) (bZ (fsc:=au cU) ["_law_pot_here", "_law_many", "_law_letters", "_law_stem", "_law_at", "_law_first", "_law_step"] ["_law_k", "_law_pot_here", "_law_letters"] 1 [0,2] rfl rfl (jk rfl T.kh (ai (ay T) hr rfl (aa (ae 0) (aa (le_int) (ag))))) (fun cl C s₀ H₀ ex=>⟨cJ 0 (show (["_law_k", "_law_pot_here", "_law_letters"]:List Str).Nodup from by decide +kernel),du,ai (aS T) hr rfl (aa (ae 1) (aa (ae 2) (ag)))⟩) rfl rfl (by decide +kernel)))) (aj (aA 4 bJ.nd (ai (ay T) hr rfl (aa (ae 0) (aa (aE (aQ bc b7 rfl T.e9 rfl (aa (ae 3) (ag))) (le_int)) (ag))))) (aj (aA 5 bJ.nd (ai (ay T) hr rfl (aa (ae 0) (aa (le_int) (ag))))) (aj (aA 6 bJ.nd (ai (aS T) hr rfl (aa (ae 0) (aa (bu (aa (le_int) (aa (le_int) (aa (le_int) (aa (le_int) (aa (le_int) (aa (le_int) (ag)))))))) (ag))))) (av (az (bZ (fsc:=au cU) ["_law_pot_here", "_law_many", "_law_letters", "_law_stem", "_law_at", "_law_first", "_law_step"] ["_law_k", "_law_stem", "_law_letters", "_law_at", "_law_first", "_law_step"] 1 [3,2,4,5,6] rfl rfl (jk rfl T.kh (ae 1)) (fun cl C s₀ H₀ ex=>⟨cJ 0 (show (["_law_k", "_law_stem", "_law_letters", "_law_at", "_law_first", "_law_step"]:List Str).Nodup from by decide +kernel),du,aE (aE (zc (ae 1) (de) (cc (ae 3))) (Hn (ae 2) (fG (aE (ae 4) (le_mul (ae 5) (ae 0))) (le_int)))) (zc (ae 1) (cc (ae 3)) (de))⟩) rfl rfl (by decide +kernel))))))))
theorem bf:aD ["_law_pot_here", "_law_most", "_law_word", "_law_whole", "_law_w", "_law_top", "_law_bottom", "_law_up", "_law_low"] ["_law_pot_here", "_law_most"] (au jz):=by walk_at "sc"
theorem rE (T:Txt w.params K mg t):aL P w K mg base 3 "_law_rule" ["_law_pot_here", "_law_most"] bF:=aI T.rf T.sM bf m4 qI (fun _ _ _ _ _ _ _ _=>by walk_at "b2") fun _ _ _ _ _ _ hr hu=>
  aj (aA 2 bf.nd (ai (aS T) hr rfl (aa (ae 0) (aa (bu (aa (le_str) (aa (le_str) (aa (le_str) (aa (le_str) (aa (le_str) (ag))))))) (ag))))) (aj (aA 3 bf.nd (aE (le_int) (ai (ay T) hr rfl (aa (ae 0) (aa (ae 1) (ag)))))) (aj (aA 4 bf.nd (ai (bL T) hr rfl (aa (aE (le_int) (ai (ay T) hr rfl (aa (ae 0) (aa (jn (le_mul (le_int) (ae 3)) (le_int)) (ag))))) (aa (le_int) (ag))))) (aj (bh (lt_eq hu (ae 2) (le_str)) (av (az (aT (aa (ae 2) (aa (ae 4) (ag)))))) (aN)) (aj (aA 5 bf.nd (ai (bL T) hr rfl (aa (aE (le_mul (le_int) (ae 3)) (ai (ay T) hr rfl (aa (ae 0) (aa (le_int) (ag))))) (aa (le_int) (ag))))) (aj (aA 6 bf.nd (aE (le_int) (ai (ay T) hr rfl (aa (ae 0) (aa (le_int) (ag)))))) (aj (bh (lt_eq hu (ae 2) (le_str)) (av (az (aT (aa (ae 2) (aa (ae 4) (aa (ai (bL T) hr rfl (aa (aE (aE (ae 6) (le_int)) (ai (ay T) hr rfl (aa (ae 0) (aa (le_int) (ag))))) (aa (ae 6) (ag)))) (aa (aT (aa (le_int) (aa (aE (aE (le_int) (le_int)) (ai (ay T) hr rfl (aa (ae 0) (aa (le_int) (ag))))) (ag)))) (aa (ae 5) (ag))))))))) (aN)) (aj (aA 7 bf.nd (ai (bL T) hr rfl (aa (aE (le_int) (ai (ay T) hr rfl (aa (ae 0) (aa (le_int) (ag))))) (aa (ae 6) (ag))))) (aj (bh (lt_eq hu (ae 2) (le_str)) (av (az (aT (aa (ae 2) (aa (ae 4) (aa (ae 7) (aa (ai (bL T) hr rfl (aa (aE (le_int) (ai (ay T) hr rfl (aa (ae 0) (aa (le_int) (ag))))) (aa (le_int) (ag)))) (aa (ae 5) (ag))))))))) (aN)) (aj (bh (lt_eq hu (ae 2) (le_str)) (av (az (aT (aa (ae 2) (aa (ae 4) (aa (ae 7) (aa (ai (bL T) hr rfl (aa (aE (le_int) (ai (ay T) hr rfl (aa (ae 0) (aa (le_int) (ag))))) (aa (le_int) (ag)))) (aa (ae 5) (ag))))))))) (aN)) (aj (aA 8 bf.nd (ai (ay T) hr rfl (aa (ae 0) (aa (le_int) (ag))))) (av (az (aT (aa (ae 2) (aa (ae 4) (aa (ae 7) (aa (ae 8) (aa (aE (ae 8) (ai (ay T) hr rfl (aa (ae 0) (aa (le_int) (ag))))) (aa (ae 5) (ag))))))))))))))))))))
theorem cL:aD ["_law_pot_here", "_law_name", "_law_pace", "_law_room", "_law_mark"] ["_law_pot_here", "_law_name"] (au lL):=by walk_at "sc"
theorem vi (T:Txt w.params K mg t):aL P w K mg base 3 "_law_way" ["_law_pot_here", "_law_name"] cn:=aI T.uU T.uz cL qB sU (fun _ _ _ _ _ _ _ _=>by walk_at "b2") fun _ _ _ _ _ _ hr hu=>
  aj (aA 2 cL.nd (aE (le_int) (ai (ay T) hr rfl (aa (ae 0) (aa (ai (aS T) hr rfl (aa (ae 0) (aa (bu (aa (le_int) (aa (le_int) (aa (le_int) (ag))))) (ag)))) (ag)))))) (aj (aA 3 cL.nd (aE (le_int) (ai (ay T) hr rfl (aa (ae 0) (aa (ai (aS T) hr rfl (aa (ae 0) (aa (bu (aa (le_int) (aa (le_int) (aa (le_int) (ag))))) (ag)))) (ag)))))) (aj (aA 4 cL.nd (cZ)) (aj (bh (BR (ai (ay T) hr rfl (aa (ae 0) (aa (le_int) (ag)))) (le_int)) (av (aA 4 cL.nd (ai (ay T) hr rfl (aa (ae 0) (aa (aE (ae 3) (le_int)) (ag)))))) (aN)) (av (az (aT (aa (ae 1) (aa (ae 2) (aa (ae 3) (aa (ae 4) (aa (ai (aS T) hr rfl (aa (ae 0) (aa (bu (aa (le_str) (aa (le_str) (ag)))) (ag)))) (ag))))))))))))
theorem bP:aD ["_law_pot_here", "_law_name", "_law_ways", "_law_most", "_law_begins", "_law_mask", "_law_road", "_law_many"] ["_law_pot_here", "_law_name", "_law_ways", "_law_most", "_law_begins"] (au d8):=by walk_at "sc"
theorem nF (T:Txt w.params K mg t):aL P w K mg base 4 "_law_sender" ["_law_pot_here", "_law_name", "_law_ways", "_law_most", "_law_begins"] bA:=aI T.mN T.mT bP jZ lK (fun _ _ _ _ _ _ _ _=>by walk_at "b5") fun _ _ _ _ _ _ hr hu=>
  aj (aA 5 bP.nd (aE (le_int) (ai (ay T) hr rfl (aa (ae 0) (aa (jn (Io (le_int) (aQ bc b7 rfl T.e9 rfl (aa (ae 2) (ag)))) (le_int)) (ag)))))) (aj (aA 6 bP.nd (eg cC fX rfl T.ip rfl (aa (bZ (fsc:=au d8) ["_law_pot_here", "_law_name", "_law_ways", "_law_most", "_law_begins", "_law_mask", "_law_road", "_law_many"] ["_law_k", "_law_way_here", "_law_mask"] 2 [5] rfl rfl (DG rfl T.tf (aa (ae 2) (ag))) (fun cl C s₀ H₀ ex=>⟨pC rfl (cY 0 (show (["_law_k", "_law_way_here", "_law_mask"]:List Str).Nodup from by decide +kernel) (cY 1 (show (["_law_k", "_law_way_here", "_law_mask"]:List Str).Nodup from by decide +kernel) (lJ))),qU (lt_eq hu (Du (IB (ae 2) (ae 0)) (le_int)) (le_int)),aC (ae 1) (le_int)⟩) rfl rfl (by decide +kernel)) (ag)))) (aj (aA 7 bP.nd (cZ)) (aj (bh (lt_eq hu (ai (ay T) hr rfl (aa (ae 0) (aa (le_int) (ag)))) (le_int)) (av (aA 7 bP.nd (ai (ay T) hr rfl (aa (ae 0) (aa (ai (aS T) hr rfl (aa (ae 0) (aa (bu (aa (le_int) (aa (le_int) (aa (le_int) (ag))))) (ag)))) (ag)))))) (aN)) (av (az (aT (aa (ae 1) (aa (ae 6) (aa (aE (le_int) (ai (ay T) hr rfl (aa (ae 0) (aa (le_int) (ag))))) (aa (ai (ay T) hr rfl (aa (ae 0) (aa (ai (aS T) hr rfl (aa (ae 0) (aa (ae 4) (ag)))) (ag)))) (aa (ae 7) (aa (ai (rE T) hr rfl (aa (ae 0) (aa (ae 3) (ag)))) (ag)))))))))))))
theorem cV:aD ["_law_pot_here", "_law_most", "_law_begins", "_law_grid", "_law_ways", "_law_names_here"] ["_law_pot_here", "_law_most", "_law_begins"] (au dC):=by walk_at "sc"
theorem sY (T:Txt w.params K mg t):aL P w K mg base 5 "_law_plan" ["_law_pot_here", "_law_most", "_law_begins"] bX:=aI T.tm T.sV cV nN pK (fun _ _ _ _ _ _ _ _=>by walk_at "b3") fun _ _ _ _ _ _ hr hu=>
  aj (aA 3 cV.nd (aE (le_int) (ai (ay T) hr rfl (aa (ae 0) (aa (ai (aS T) hr rfl (aa (ae 0) (aa (bu (aa (le_int) (aa (le_int) (aa (le_int) (aa (le_int) (ag)))))) (ag)))) (ag)))))) (aj (aA 4 cV.nd (eg cC fX rfl T.ip rfl (aa (bZ (fsc:=au dC) ["_law_pot_here", "_law_most", "_law_begins", "_law_grid", "_law_ways", "_law_names_here"] ["_law_name", "_law_pot_here"] 1 [0] rfl rfl (c7 (ai (iO T) hr rfl (aa (ae 0) (aa (aE (le_int) (ai (ay T) hr rfl (aa (ae 0) (aa (ai (aS T) hr rfl (aa (ae 0) (aa (bu (aa (le_int) (aa (le_int) (aa (le_int) (ag))))) (ag)))) (ag))))) (ag))))) (fun cl C s₀ H₀ ex=>⟨cJ 0 (show (["_law_name", "_law_pot_here"]:List Str).Nodup from by decide +kernel),du,ai (vi T) hr rfl (aa (ae 1) (aa (ae 0) (ag)))⟩) rfl rfl (by decide +kernel)) (ag)))) (aj (aA 5 cV.nd (Aw rfl T.Bh rfl (aa (ai (iO T) hr rfl (aa (ae 0) (aa (ai (ay T) hr rfl (aa (ae 0) (aa (ai (aS T) hr rfl (aa (ae 0) (aa (bu (aa (le_int) (aa (le_int) (aa (le_int) (ag))))) (ag)))) (ag)))) (ag)))) (ag)))) (av (az (aT (aa (ae 3) (aa (ae 4) (aa (eg cC fX rfl T.ip rfl (aa (bZ (fsc:=au dC) ["_law_pot_here", "_law_most", "_law_begins", "_law_grid", "_law_ways", "_law_names_here"] ["_law_name", "_law_pot_here", "_law_ways", "_law_most", "_law_begins"] 1 [0,4,1,2] rfl rfl (c7 (ae 5)) (fun cl C s₀ H₀ ex=>⟨cJ 0 (show (["_law_name", "_law_pot_here", "_law_ways", "_law_most", "_law_begins"]:List Str).Nodup from by decide +kernel),du,ai (nF T) hr rfl (aa (ae 1) (aa (ae 0) (aa (ae 2) (aa (ae 3) (aa (ae 4) (ag))))))⟩) rfl rfl (by decide +kernel)) (ag))) (ag)))))))))
theorem cN:aD ["_law_pot_here", "_law_row", "_law_way_here", "_law_number"] ["_law_pot_here", "_law_row"] (au fL):=by walk_at "sc"
theorem mf (T:Txt w.params K mg t):aL P w K mg base 3 "_law_odd_row" ["_law_pot_here", "_law_row"] ba:=aI T.lr T.kZ cN jc j5 (fun _ _ _ _ _ _ _ _=>by walk_at "b2") fun _ _ _ _ _ _ hr hu=>
  aj (aA 2 cN.nd (ai (ay T) hr rfl (aa (ae 0) (aa (le_int) (ag))))) (aj (bh (lt_eq hu (ae 2) (le_int)) (av (az (ai (aS T) hr rfl (aa (ae 0) (aa (bu (aa (sd rfl rfl T.zB rfl (aa (ae 1) (ag))) (aa (cZ) (aa (le_int) (aa (aC (ae 1) (le_int)) (aa (pQ) (aa (aT (ag)) (ag)))))))) (ag)))))) (aN)) (aj (bh (lt_eq hu (ae 2) (le_int)) (av (az (eh (ae 1) (de) (cc (aE (le_int) (ai (ay T) hr rfl (aa (ae 0) (aa (le_int) (ag))))))))) (aN)) (aj (bh (lt_eq hu (ae 2) (le_int)) (av (az (aE (ae 1) (ai (aS T) hr rfl (aa (ae 0) (aa (bu (aa (aT (aa (le_int) (ag))) (aa (aT (aa (cQ) (ag))) (aa (aT (aa (cZ) (aa (cZ) (ag)))) (ag))))) (ag))))))) (aN)) (aj (bh (lt_eq hu (ae 2) (le_int)) (av (az (aE (aT (aa (ai (aS T) hr rfl (aa (ae 0) (aa (bu (aa (aE (aC (ae 1) (le_int)) (le_str)) (aa (le_str) (aa (cZ) (aa (le_int) (aa (aT (aa (aC (ae 1) (le_int)) (ag))) (aa (le_str) (aa (bu (aa (aC (ae 1) (le_int)) (ag))) (ag))))))))) (ag)))) (ag))) (eh (ae 1) (cc (le_int)) (de))))) (aN)) (aj (bh (lt_eq hu (ae 2) (le_int)) (av (az (aE (eh (ae 1) (de) (cc (le_int))) (aT (aa (ai (aS T) hr rfl (aa (ae 0) (aa (bu (aa (le_int) (aa (le_int) (aa (cZ) (aa (le_str) (aa (le_str) (aa (aT (ag)) (aa (bu (ag)) (ag))))))))) (ag)))) (ag)))))) (aN)) (aj (aA 3 cN.nd (ai (aS T) hr rfl (aa (ae 0) (aa (bu (aa (cQ) (aa (cQ) (aa (le_neg (le_int)) (aa (le_neg (le_pow (le_int) (le_int))) (aa (cZ) (aa (le_str) (aa (aT (aa (le_int) (aa (le_int) (ag)))) (aa (bu (aa (le_int) (ag))) (aa (pQ) (ag))))))))))) (ag))))) (aj (bh (lt_eq hu (ae 2) (le_int)) (av (az (aE (aT (aa (aC (ae 1) (le_int)) (aa (ae 3) (ag)))) (eh (ae 1) (cc (le_int)) (de))))) (aN)) (av (az (aE (eh (ae 1) (de) (cc (le_int))) (aT (aa (ae 3) (aa (aC (ae 1) (le_int)) (ag))))))))))))))
theorem fF:aD ["_law_pot_here", "_law_table", "_law_way_here", "_law_at"] ["_law_pot_here", "_law_table"] (au mH):=by walk_at "sc"
theorem uF (T:Txt w.params K mg t):aL P w K mg base 4 "_law_odd" ["_law_pot_here", "_law_table"] ck:=aI T.t8 T.vg fF qY sF (fun _ _ _ _ _ _ _ _=>by walk_at "b2") fun _ _ _ _ _ _ hr hu=>
  aj (aA 2 fF.nd (ai (ay T) hr rfl (aa (ae 0) (aa (le_int) (ag))))) (aj (bh (lt_eq hu (ae 2) (le_int)) (av (az (ai (aS T) hr rfl (aa (ae 0) (aa (bu (aa (cZ) (aa (le_int) (aa (cQ) (aa (le_str) (aa (aT (ag)) (aa (bu (ag)) (aa (pQ) (aa (wF (aT (aa (cZ) (ag))) (aQ bc b7 rfl T.e9 rfl (aa (ae 1) (ag)))) (aa (wF (aT (aa (aT (ag)) (ag))) (aQ bc b7 rfl T.e9 rfl (aa (ae 1) (ag)))) (aa (aC (ae 1) (le_int)) (ag)))))))))))) (ag)))))) (aN)) (aj (bh (lt_eq hu (ae 2) (le_int)) (av (az (sd rfl rfl T.zB rfl (aa (ae 1) (ag))))) (aN)) (aj (bh (lt_eq hu (ae 2) (le_int)) (av (az (ai (aS T) hr rfl (aa (ae 0) (aa (bu (aa (eh (ae 1) (cc (le_int)) (de)) (aa (eh (ae 1) (de) (cc (le_neg (le_int)))) (aa (aE (ae 1) (eh (ae 1) (cc (le_neg (le_int))) (de))) (aa (aE (ae 1) (aT (aa (cZ) (ag)))) (aa (aT (aa (ae 1) (ag))) (ag))))))) (ag)))))) (aN)) (aj (aA 3 fF.nd (ai (ay T) hr rfl (aa (ae 0) (aa (aQ bc b7 rfl T.e9 rfl (aa (ae 1) (ag))) (ag))))) (av (az (aE (aE (eh (ae 1) (de) (cc (ae 3))) (aT (aa (ai (mf T) hr rfl (aa (ae 0) (aa (aC (ae 1) (ae 3)) (ag)))) (ag)))) (eh (ae 1) (cc (aE (ae 3) (le_int))) (de)))))))))
theorem lG:aD ["_law_script", "_law_pot_here", "_law_plan_here", "_law_table", "_law_turn"] ["_law_script"] (au Fn):=by walk_at "sc"
theorem we (T:Txt w.params K mg t):fo P w K mg base CX0 9 t.Ah t.EE ["_law_script"] (lift K cx):=by
  refine EY (T:=Bl) T.we lG qX (fun cdv A outer s H E hr=>?_) FC
  have hu:=hr.units
  exact aj (aA 1 lG.nd (ai (u4 T) hr rfl (aa (ae 0) (ag)))) (aj (aA 2 lG.nd (ai (sY T) hr rfl (aa (ae 1) (aa (le_int) (aa (bu (aa (le_int) (aa (le_int) (aa (le_int) (ag))))) (ag)))))) (aj (aA 3 lG.nd (ai (A9 T) hr rfl (aa (ae 2) (ag)))) (aj (bh (wW (ai (c5 T) hr rfl (aa (ae 2) (aa (ae 3) (ag)))) (cQ)) (av (az (cQ))) (aN)) (aj (gG PassesOwn.never rfl (jk rfl T.kh (le_int)) (eV 4 lG.nd) (av (bh (wW (ai (c5 T) hr rfl (aa (ae 2) (aa (ai (uF T) hr rfl (aa (ae 1) (aa (ae 3) (ag)))) (ag)))) (cQ)) (av (az (cQ))) (aN)))) (av (az (F8 (ai (c5 T) hr rfl (aa (ae 2) (aa (ae 3) (ag)))) (cQ))))))))
end
theorem all_mk {l:PySem.W.OpenLaw}{w:World}{K:PySem.W.Frag}{mg:Str→Option Value}{fa:Addr}{t:Adr}(hfa:mg "law" = some (.ref fa))(T:Txt w.params K mg t):∃ fd:FuncData,(∀ (s:Shared) (v:Value),BindsTo s fd ⟨[v],[]⟩ [("_law_script", v)])∧∀ base:Heap,K.In base→base.Ns mainGlobals mg→fo l.prog w K mg base CX0 9 fa fd ["_law_script"] (lift K cx):=by
  have e:=hfa.symm.trans T.J4
  injection e with e
  injection e with e
  subst e
  obtain ⟨oc,od,kV,dc,pm,an,cd,ct,sl,ed,_,_⟩:=T.we.ex
  exact ⟨_,fun s v=>.of_eq (by rw[ed];rfl),fun base _ _=>we T⟩
end Kk
namespace PySem.W.Fast
def tw15722826492083700140:=0
def tw4757141354781589504:=0
def tw5021571014208223936:=0
def tw12874845797912994177:=0
def tw4903733673825855041:=0
def tw489217685757574881:=0
def tw12673919019958485953:=0
def tw17057177520552772770:=0
def tw13315033730106105346:=0
def tw3403380713177602243:=0
def tw2543272360045399427:=0
def tw229417554996412899:=0
def tw9748972340003156835:=0
def tw8236853030946933635:=0
def tw843622969724638179:=0
def tw13737619662276474948:=0
def tw1371609432623394052:=0
def tw8292219348647482980:=0
def tw10826598440392129284:=0
def tw555179271362571204:=0
def tw10362441099649633477:=0
def tw8882958576796122437:=0
def tw13786458212806205861:=0
def tw2624405080729857158:=0
def tw1027989384366570630:=0
def tw266644454977992006:=0
def tw7081669607199406438:=0
def tw10041266973392261191:=0
def tw3129665793775770759:=0
def tw10914541985990748007:=0
def tw10148837094443404392:=0
def tw377432195350607272:=0
def tw10814054854219472712:=0
def tw7043227107675232457:=0
def tw5329613440293258442:=0
def tw13441470668275039210:=0
def tw17158161422629002891:=0
def tw6827324976345533676:=0
def tw13271162616309172461:=0
def tw17376358111738753453:=0
def tw8685040204955307022:=0
def tw11439822087121424462:=0
def tw11978114871356833934:=0
def tw4652151913624189358:=0
def tw9744714261185851054:=0
def tw15298311837114290479:=0
def tw10422440463807009295:=0
def tw1847755526783696048:=0
def tw18086617438527595696:=0
def tw13337410564200875312:=0
def tw15113343388556148048:=0
def tw7215604829079551440:=0
def tw16155819715584108208:=0
def tw16990653270150064912:=0
def tw15159253514881629233:=0
def tw12314762225852420177:=0
def tw17516883590122754513:=0
def tw16341522340378740305:=0
def tw1229030218924436433:=0
def tw6305251063194117490:=0
def tw481991279906021970:=0
def tw16690343276603039987:=0
def tw15150706633787664915:=0
def tw12131928414659025587:=0
def tw1498009253973437267:=0
def tw12734491933324097204:=0
def tw11000841348998366132:=0
def tw15120292948750218421:=0
def tw717405197977622805:=0
def tw7559849930753445237:=0
def tw4184802884852389461:=0
def tw11113430921846694517:=0
def tw15787794630864247445:=0
def tw15541140941597678293:=0
def tw5463163054617217749:=0
def tw16406741182143569877:=0
def tw5498543165934676566:=0
def tw5575449287013671638:=0
def tw2139706073506783990:=0
def tw9552951050647841750:=0
def tw18026649400733402423:=0
def tw3190007875907964471:=0
def tw7421258037218073303:=0
def tw1818092644441117816:=0
def tw4154023801875889400:=0
def tw14449056082054856696:=0
def tw17980004099635202169:=0
def tw4512046735972940185:=0
def tw14860650803075147321:=0
def tw11965726902549705529:=0
def tw8236913245823281049:=0
def tw15096875254455507290:=0
def tw4068757928185499354:=0
def tw875819897014748154:=0
def tw2888496390532334715:=0
def tw9641192960385789243:=0
def tw16008141766329171419:=0
def tw6157374999196248412:=0
def tw9112229334286274268:=0
def tw4799404574248814364:=0
def tw5803846010210754909:=0
def tw1280083066802728317:=0
def tw11483724774131451357:=0
def tw11030623324822177918:=0
def tw12065304169923305758:=0
def tw7387799340535576062:=0
def tw2270246772597670622:=0
def tw1999800898303229375:=0
def tw8850578156654194655:=0
end PySem.W.Fast
open PySem PySem.W PyProof.Rows L2 L3
set_option maxRecDepth 100000 in
set_option maxHeartbeats 0 in
theorem PySem.Challenge.cw_swellways_k52_no_tables_holds : PySem.Challenge.rw_swellways_k52_no_tables.Holds := by
  w_on;o_law;k_head;(case hw=>w_witness2)
  k_fill
  refine L3.KQ (l:=PySem.Challenge.rw_swellways_k52_no_tables) (k:=9) (sp:=Kk.cx) (x := "_law_script") rfl rfl ⟨rfl,by decide,by decide⟩ (fun w h Y=>PySem.W.kIn_of Y) Kk.jd ?F
  case F=>
    intro w mg fa h KX G hmg
    refine' Kk.all_mk (t:=⟨_,_,_,_,_,_,_,_,_,_,_,_,_,_,_,_,_,_,_,_,_,_,_,_,_,_,_,_,_,_,_,_,_,_,_,_,_,_,_,_,_,_,_,_,_,_,_,_,_,_,_,_,_,_,_,_,_,_,_,_,_,_,_,_,_,_,_,_,_,_,_,_,_,_,_,_,_,_⟩) hmg ⟨mg_of KX G ?_,aM ?_ ?_ ?_,mg_of KX G ?_,aM ?_ ?_ ?_,mg_of KX G ?_,aM ?_ ?_ ?_,mg_of KX G ?_,aM ?_ ?_ ?_,mg_of KX G ?_,aM ?_ ?_ ?_,mg_of KX G ?_,aM ?_ ?_ ?_,mg_of KX G ?_,aM ?_ ?_ ?_,mg_of KX G ?_,aM ?_ ?_ ?_,mg_of KX G ?_,aM ?_ ?_ ?_,mg_of KX G ?_,aM ?_ ?_ ?_,mg_of KX G ?_,aM ?_ ?_ ?_,mg_of KX G ?_,aM ?_ ?_ ?_,mg_of KX G ?_,aM ?_ ?_ ?_,mg_of KX G ?_,aM ?_ ?_ ?_,mg_of KX G ?_,aM ?_ ?_ ?_,mg_of KX G ?_,aM ?_ ?_ ?_,mg_of KX G ?_,aM ?_ ?_ ?_,mg_of KX G ?_,aM ?_ ?_ ?_,mg_of KX G ?_,aM ?_ ?_ ?_,mg_of KX G ?_,aM ?_ ?_ ?_,mg_of KX G ?_,aM ?_ ?_ ?_,mg_of KX G ?_,aM ?_ ?_ ?_,mg_of KX G ?_,aM ?_ ?_ ?_,mg_of KX G ?_,aM ?_ ?_ ?_,mg_of KX G ?_,aM ?_ ?_ ?_,mg_of KX G ?_,aM ?_ ?_ ?_,mg_of KX G ?_,aM ?_ ?_ ?_,mg_of KX G ?_,aM ?_ ?_ ?_,mg_of KX G ?_,aM ?_ ?_ ?_,mg_of KX G ?_,aM ?_ ?_ ?_,mg_of KX G ?_,aM ?_ ?_ ?_,mg_of KX G ?_,aM ?_ ?_ ?_,mg_of KX G ?_,aM ?_ ?_ ?_,mg_of KX G ?_,aM ?_ ?_ ?_,mg_of KX G ?_,aM ?_ ?_ ?_,mg_of KX G ?_,aM ?_ ?_ ?_,mg_of KX G ?_,aM ?_ ?_ ?_,mg_of KX G ?_,aM ?_ ?_ ?_,mg_of KX G ?_,aM ?_ ?_ ?_,mg_none_of KX G ?_,mg_none_of KX G ?_,mg_none_of KX G ?_,mg_none_of KX G ?_,mg_none_of KX G ?_,mg_none_of KX G ?_,mg_none_of KX G ?_,mg_none_of KX G ?_,mg_none_of KX G ?_,mg_none_of KX G ?_,mg_none_of KX G ?_,mg_none_of KX G ?_,mg_none_of KX G ?_,mg_none_of KX G ?_,mg_none_of KX G ?_,mg_none_of KX G ?_,mg_none_of KX G ?_,cP KX G ?_,cP KX G ?_,cP KX G ?_,cP KX G ?_,cP KX G ?_,He (its:=#[.int 0 _,.int 1 _]) (xs:=[V.int 0,V.int 1]) KX G ?_ ?_ ?_ ?_ ?_ (show 2≤sizeLine by decide) (.cons ⟨_,rfl⟩ (.cons ⟨_,rfl⟩ (.nil))) (fun _=>.cons (.int _) (.cons (.int _) (.nil))),cP KX G ?_,cP KX G ?_,cP KX G ?_,cP KX G ?_,cP KX G ?_,cP KX G ?_,cP KX G ?_⟩
    all_goals try first | k_is | rfl
